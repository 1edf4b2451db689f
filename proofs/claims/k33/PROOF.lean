import PyProof.Rows.All
import Wide.All
import OpenK.AllK
import Wide.FinOn
import Lean
import PyProof.EqAt
import PyProof.EqKinds
import PyProof.TupleCall
import PyProof.ReprRoads
import KE.KSortTup
import KE.KDictList
import PySem.Challenge.RW_panethread_k33_whole_no_two_cross_twice
noncomputable section
set_option compiler.extract_closed false
set_option Elab.async false
set_option linter.all false
set_option maxRecDepth 100000
namespace L2
@[elab_as_elim] theorem Ah {p:List PySem.Value→Prop} (h:∀ a0:PySem.Value,p [a0]) (us:List PySem.Value) (hl:us.length=1):p us:=by
 rcases us with _ | ⟨a0,us0⟩
 ·cases hl
 rcases us0 with _ | ⟨b,us⟩
 ·exact h a0
 ·cases hl
@[elab_as_elim] theorem mL {p:List PySem.Value→Prop} (h:∀ a0 a1:PySem.Value,p [a0,a1]) (us:List PySem.Value) (hl:us.length=2):p us:=by
 rcases us with _ | ⟨a0,us0⟩
 ·cases hl
 rcases us0 with _ | ⟨a1,us1⟩
 ·cases hl
 rcases us1 with _ | ⟨b,us⟩
 ·exact h a0 a1
 ·cases hl
@[elab_as_elim] theorem vA {p:List PySem.Value→Prop} (h:∀ a0 a1 a2:PySem.Value,p [a0,a1,a2]) (us:List PySem.Value) (hl:us.length=3):p us:=by
 rcases us with _ | ⟨a0,us0⟩
 ·cases hl
 rcases us0 with _ | ⟨a1,us1⟩
 ·cases hl
 rcases us1 with _ | ⟨a2,us2⟩
 ·cases hl
 rcases us2 with _ | ⟨b,us⟩
 ·exact h a0 a1 a2
 ·cases hl
@[elab_as_elim] theorem LR {p:List PySem.Value→Prop} (h:∀ a0 a1 a2 a3:PySem.Value,p [a0,a1,a2,a3]) (us:List PySem.Value) (hl:us.length=4):p us:=by
 rcases us with _ | ⟨a0,us0⟩
 ·cases hl
 rcases us0 with _ | ⟨a1,us1⟩
 ·cases hl
 rcases us1 with _ | ⟨a2,us2⟩
 ·cases hl
 rcases us2 with _ | ⟨a3,us3⟩
 ·cases hl
 rcases us3 with _ | ⟨b,us⟩
 ·exact h a0 a1 a2 a3
 ·cases hl
@[elab_as_elim] theorem usN5 {p:List PySem.Value→Prop} (h:∀ a0 a1 a2 a3 a4:PySem.Value,p [a0,a1,a2,a3,a4]) (us:List PySem.Value) (hl:us.length=5):p us:=by
 rcases us with _ | ⟨a0,us0⟩
 ·cases hl
 rcases us0 with _ | ⟨a1,us1⟩
 ·cases hl
 rcases us1 with _ | ⟨a2,us2⟩
 ·cases hl
 rcases us2 with _ | ⟨a3,us3⟩
 ·cases hl
 rcases us3 with _ | ⟨a4,us4⟩
 ·cases hl
 rcases us4 with _ | ⟨b,us⟩
 ·exact h a0 a1 a2 a3 a4
 ·cases hl
@[elab_as_elim] theorem usN8 {p:List PySem.Value→Prop} (h:∀ a0 a1 a2 a3 a4 a5 a6 a7:PySem.Value,p [a0,a1,a2,a3,a4,a5,a6,a7]) (us:List PySem.Value) (hl:us.length=8):p us:=by
 rcases us with _ | ⟨a0,us0⟩
 ·cases hl
 rcases us0 with _ | ⟨a1,us1⟩
 ·cases hl
 rcases us1 with _ | ⟨a2,us2⟩
 ·cases hl
 rcases us2 with _ | ⟨a3,us3⟩
 ·cases hl
 rcases us3 with _ | ⟨a4,us4⟩
 ·cases hl
 rcases us4 with _ | ⟨a5,us5⟩
 ·cases hl
 rcases us5 with _ | ⟨a6,us6⟩
 ·cases hl
 rcases us6 with _ | ⟨a7,us7⟩
 ·cases hl
 rcases us7 with _ | ⟨b,us⟩
 ·exact h a0 a1 a2 a3 a4 a5 a6 a7
 ·cases hl
theorem auto1 (h:True:=by first | exact .inl rfl | exact .inr rfl | assumption):True:=h
theorem auto2 (h:True:=by decide):True:=h
theorem auto3 (h:True:=by intro _;rfl):True:=h
theorem auto4 (h:True:=by rfl):True:=h
theorem auto5 (h:True:=by with_unfolding_all rfl):True:=h
theorem auto6 (h:True:=by decide+kernel):True:=h
open PySem PySem.Spec PyProof.Rows
abbrev Key:=Sum Int Str
def sE:Key→Value→Bool
 | .inl k,v=>Value.isInt k v
 | .inr x,v=>Value.isStrOf x v
def keyH (w:World):Key→Int
 | .inl k=>hashInt k
 | .inr x=>hashStr w x
theorem cN:∀ {k:Key} {v:Value},sE k v=true→(∃ i t,k=Sum.inl i∧v=Value.int i t)∨(∃ x t,k=Sum.inr x∧v=Value.str x t)
 | .inl i,v,h=>by
  obtain ⟨t,e⟩:=Value.isInt_shape (k:=i) (v:=v) h
  exact .inl ⟨i,t,rfl,e⟩
 | .inr x,v,h=>by
  obtain ⟨t,e⟩:=Value.isStrOf_shape (x:=x) (v:=v) h
  exact .inr ⟨x,t,rfl,e⟩
theorem Ai (i:Int) (t:Tok):sE (.inl i) (.int i t)=true:=by simp [sE,Value.isInt]
theorem Aj (x:Str) (t:Tok):sE (.inr x) (.str x t)=true:=by simp [sE,Value.isStrOf]
theorem Ma (a b:Int):decide ((Sum.inl a:Key)=Sum.inl b)=(a == b):=by
 by_cases e:a=b
 ·subst e;simp
 ·have h:¬ (Sum.inl a:Key)=Sum.inl b:=fun q=>e (Sum.inl.inj q)
  rw [decide_eq_false h]
  exact (beq_eq_false_iff_ne.mpr e).symm
theorem Mf (a b:Str):decide ((Sum.inr a:Key)=Sum.inr b)=decide (a=b):=by
 by_cases e:a=b
 ·subst e;simp
 ·have h:¬ (Sum.inr a:Key)=Sum.inr b:=fun q=>e (Sum.inr.inj q)
  rw [decide_eq_false h,decide_eq_false e]
theorem Mg (a:Int) (b:Str):decide ((Sum.inl a:Key)=Sum.inr b)=false:=decide_eq_false (fun q=>nomatch q)
theorem Mh (a:Str) (b:Int):decide ((Sum.inr a:Key)=Sum.inl b)=false:=decide_eq_false (fun q=>nomatch q)
def bK (prog:Program) (w:World):PySem.KeyKind prog w Key where
 is:=sE
 hash:=keyH w
 inj:=fun v a b ha hb=>by
  rcases cN ha with ⟨i,t,rfl,rfl⟩ | ⟨x,t,rfl,rfl⟩
  ·rcases cN hb with ⟨j,u,rfl,e⟩ | ⟨y,u,rfl,e⟩
   ·injection e with e1 _;rw [e1]
   ·exact nomatch e
  ·rcases cN hb with ⟨j,u,rfl,e⟩ | ⟨y,u,rfl,e⟩
   ·exact nomatch e
   ·injection e with e1 _;rw [e1]
 byValue:=fun k v h=>by
  rcases cN h with ⟨i,t,rfl,rfl⟩ | ⟨x,t,rfl,rfl⟩ <;> rfl
 pyHash:=fun hv h=>by
  rcases cN hv with ⟨i,t,rfl,rfl⟩ | ⟨x,t,rfl,rfl⟩
  ·exact wpAny_pyHash_int h
  ·exact wpAny_pyHash_str h
 eqBool:=fun hu hv h=>by
  rcases cN hu with ⟨i,t,rfl,rfl⟩ | ⟨x,t,rfl,rfl⟩
  ·rcases cN hv with ⟨j,u,rfl,rfl⟩ | ⟨y,u,rfl,rfl⟩
   ·rw [Ma] at h;exact wpAny_eqBool_int h
   ·rw [Mg] at h;exact SeqAt.EqAt.int_str i t y u _ _ _ _ h
  ·rcases cN hv with ⟨j,u,rfl,rfl⟩ | ⟨y,u,rfl,rfl⟩
   ·rw [Mh] at h;exact SeqAt.EqAt.str_int x t j u _ _ _ _ h
   ·rw [Mf] at h;exact wpAny_eqBool_str h
 «strs»:=fun k x t v h=>by
  rcases cN h with ⟨i,u,rfl,e⟩ | ⟨y,u,rfl,e⟩
  ·exact nomatch e
  ·injection e with e1 _
   subst e1
   cases v <;> rfl
theorem vB (prog:Program) (w:World) (i:Int) (t:Tok):(bK prog w).is (.inl i) (.int i t)=true:=Ai i t
theorem vC (prog:Program) (w:World) (x:Str) (t:Tok):(bK prog w).is (.inr x) (.str x t)=true:=Aj x t
end L2
namespace L2
open PySem PySem.Spec PyProof.Rows
inductive V where
 | non | bl (b:Bool) | int (i:Int) | str (x:Str) | byt (b:Array UInt8) | flt (b:UInt64) | ref (a:Addr) | ty (n:String)
 deriving DecidableEq
def RelV:V→Value→Prop
 | .non,u=>u=Value.none
 | .bl b,u=>u=Value.bool b
 | .int i,u=>∃ t,u=Value.int i t
 | .str x,u=>∃ t,u=Value.str x t
 | .byt b,u=>∃ t,u=Value.bytes b t
 | .flt b,u=>∃ t,u=Value.float b t
 | .ref a,u=>u=Value.ref a
 | .ty n,u=>u=Value.type n
abbrev Vals:List V→List Value→Prop:=Paired RelV
theorem Vals.length {xs:List V} {us:List Value} (r:Vals xs us):xs.length=us.length:=Paired.length r
theorem Vals.get:∀ {xs:List V} {us:List Value} {i:Nat} {x:V},Vals xs us→xs[i]?=some x→∃ u,us[i]?=some u∧RelV x u
 | _,_,_,_,.nil,e=>by simp at e
 | _,_,0,_,.cons r _,e=>by simp at e;subst e;exact ⟨_,rfl,r⟩
 | _,_,i+1,x,.cons _ t,e=>by
  obtain ⟨u,h1,h2⟩:=Vals.get (i:=i) (x:=x) t (by simpa using e)
  exact ⟨u,by simpa using h1,h2⟩
theorem Vals.set {x:V} {u:Value} (r:RelV x u):∀ {xs:List V} {us:List Value} (i:Nat),Vals xs us→Vals (xs.set i x) (us.set i u)
 | _,_,_,.nil=>.nil
 | _,_,0,.cons _ t=>.cons r t
 | _,_,i+1,.cons q t=>.cons q (Vals.set r i t)
theorem Vals.append:∀ {xs ys:List V} {us ws:List Value},Vals xs us→Vals ys ws→Vals (xs ++ ys) (us ++ ws)
 | _,_,_,_,.nil,s=>s
 | _,_,_,_,.cons r t,s=>.cons r (Vals.append t s)
theorem Vals.take:∀ {xs:List V} {us:List Value} (n:Nat),Vals xs us→Vals (xs.take n) (us.take n)
 | _,_,0,_=>.nil
 | _,_,_+1,.nil=>.nil
 | _,_,n+1,.cons r t=>.cons r (Vals.take n t)
theorem Vals.drop:∀ {xs:List V} {us:List Value} (n:Nat),Vals xs us→Vals (xs.drop n) (us.drop n)
 | _,_,0,r=>r
 | _,_,_+1,.nil=>.nil
 | _,_,n+1,.cons _ t=>Vals.drop n t
def RelO:Option V→Option Value→Prop
 | some v,some u=>RelV v u
 | none,none=>True
 | _,_=>False
def KV {κ:Type}:List (κ×V)→List (κ×Value)→Prop:=Paired fun (p:κ×V) (q:κ×Value)=>p.1=q.1∧RelV p.2 q.2
def kV:Key→V
 | .inl i=>.int i
 | .inr x=>.str x
inductive HO where
 /-- a list -/
 | lst (xs:List V)
 /-- a tuple (never changes) -/
 | tup (xs:List V)
 /-- a dict whose keys are ints and texts;one whose keys are tuples of ints and texts (the empty one is both) -/
 | dK (kvs:List (Key×V)) | dT (kvs:List (List Key×V))
 /-- a set of ints:its members,its size -/
 | set (S:Int→Bool) (n:Nat)
 /-- an instance of the class at C,its dict at dx,its attributes -/
 | ins (C dx:Addr) (fs:List (Str×V))
 /-- the dict of the instance at x -/
 | own (x:Addr)
 /-- the dict of an exception -/
 | xd (fs:List (Str×V))
 /-- a bound method,f of x -/
 | met (f x:Addr)
 /-- a range object lo,lo+1,.. below hi -/
 | rng (lo hi:Int)
 /-- a thing that is known to the object (the script;a dict while a loop walks it):read,never written while it is so -/
 | frz (o:Obj) (u:HO)
 /-- a code object's table -/
 | tbl (ps:Array Value)
 /-- any other thing,by what is true of its one object (a def of one's own:SetO a S n:=HO.ext fun h=>..) -/
 | ext (φ:Heap→Prop)
abbrev Hp:=Addr→Option HO
def upd (H:Hp) (a:Addr) (o:HO):Hp:=fun b=>if b=a then some o else H b
theorem ak {H:Hp} {a:Addr} {o:HO}:upd H a o a=some o:=by unfold upd;rw [if_pos rfl]
theorem az {H:Hp} {a b:Addr} {o:HO} (h:b≠a):upd H a o b=H b:=by unfold upd;rw [if_neg h]
theorem Ro {H:Hp} {a b:Addr} {o u:HO} (h:H a=some o) (h':H b=some u) (d:o≠u):a≠b:=by
 intro e;subst e;rw [h] at h';exact d (Option.some.inj h')
theorem gF {H:Hp} {a b:Addr} {o:HO} (h:H a=some o) (h':H b=none):a≠b:=by
 intro e;subst e;rw [h] at h';cases h'
section
variable (P:Program) (w:World)
def ObjOk (H:Hp) (h:Heap) (a:Addr):HO→Prop
 | .lst xs=>xs.length≤sizeLine∧∃ (its:List Value) (n:Nat),Vals xs its∧h.get? a=some {cls:=.type "list",data:=.seq its.toArray n}
 | .tup xs=>xs.length≤sizeLine∧∃ its:List Value,Vals xs its∧IsTup h a its.toArray
 | .dK kvs=>kvs.length≤sizeLine∧(a == sysModules)=false∧∃ vs,KV kvs vs∧h.DictOf (bK P w) a vs
 | .dT kvs=>kvs.length≤sizeLine∧(a == sysModules)=false∧∃ xs:List (List Key×Addr×Value),
   Paired (fun (p:List Key×V) (q:List Key×Addr×Value)=>p.1=q.1∧H q.2.1=some (.tup (p.1.map kV))∧RelV p.2 q.2.2) kvs xs∧
   ∃ o es ep,h.get? a=some o∧o.ExactDict∧o.data= .dict es ep∧es.toList=xs.map (entryOfKey (tupleKind (bK P w)))∧(xs.map (·.1)).Nodup
 | .set S n=>h.SetOf (intKind P w) a S n
 | .ins C dx fs=>H dx=some (.own a)∧fs.length≤1000∧dx≠a∧h.get? a=some (PySem.W.instObj C dx)∧
   ∃ mA,h.Ns1 dx mA∧(∀ f,RelO (fs.lookup f) (mA f))∧PySem.Within mA (fs.map (·.1))
 | .own _=>∃ o,h.get? a=some o
 | .xd fs=>∃ mA,h.Ns1 a mA∧∀ f,RelO (fs.lookup f) (mA f)
 | .rng lo hi=>∃ t u v,h.get? a=some {cls:=.type "range",data:=.fields #[.int lo t,.int hi u,.int 1 v]}
 | .frz o u=>h.get? a=some o∧ObjOk H h a u
 | .tbl ps=>h.get? a=some {cls:=.none,data:=.fields ps}
 | .met f x=>h.get? a=some (PySem.W.methodObj (.ref f) (.ref x))
 | .ext φ=>φ h∧(∃ o,h.get? a=some o)∧∀ h1 h2:Heap,φ h1→(∀ o,h1.get? a=some o→h2.get? a=some o)→φ h2
def HOk (H:Hp) (h:Heap):Prop:=∀ a o,H a=some o→ObjOk P w H h a o
end
section
variable {P:Program} {w:World} {H H':Hp} {h h':Heap} {a:Addr} {o:HO}
theorem ObjOk.lt (x:ObjOk P w H h a o):a < h.objs.size:=by
 cases o with
 | lst xs=>obtain ⟨_,_,_,_,e⟩:=x;exact Heap.lt_size e
 | tup xs=>obtain ⟨_,_,_,p⟩:=x;exact p.lt
 | dK kvs=>obtain ⟨_,_,_,_,o,_,_,e,_⟩:=x;exact Heap.lt_size e
 | dT kvs=>obtain ⟨_,_,_,_,o,_,_,e,_⟩:=x;exact Heap.lt_size e
 | set S n=>obtain ⟨o,_,_,_,e,_⟩:=x;exact Heap.lt_size e
 | ins C dx fs=>obtain ⟨_,_,_,e,_⟩:=x;exact Heap.lt_size e
 | own y=>obtain ⟨_,e⟩:=x;exact Heap.lt_size e
 | xd fs=>obtain ⟨_,⟨_,_,_,e,_⟩,_⟩:=x;exact Heap.lt_size e
 | rng lo hi=>obtain ⟨_,_,_,e⟩:=x;exact Heap.lt_size e
 | frz ob u=>obtain ⟨e,_⟩:=x;exact Heap.lt_size e
 | tbl ps=>exact Heap.lt_size (show h.get? a=some _ from x)
 | met f y=>exact Heap.lt_size (show h.get? a=some _ from x)
 | ext φ=>obtain ⟨_,⟨_,e⟩,_⟩:=x;exact Heap.lt_size e
theorem Paired.mapP {α β:Type} {F G:α→β→Prop}:∀ {l₁:List α} {l₂:List β},Paired F l₁ l₂→(∀ a b,F a b→G a b)→Paired G l₁ l₂
 | _,_,.nil,_=>.nil
 | _,_,.cons r t,f=>.cons (f _ _ r) (Paired.mapP t f)
theorem ObjOk.stay (x:ObjOk P w H h a o) (k:∀ b u,(b=a∨H b=some (.own a))→h.get? b=some u→h'.get? b=some u)
  (ho:∀ b,H b=some (.own a)→H' b=some (.own a)) (ht:∀ b xs,H b=some (.tup xs)→H' b=some (.tup xs)):ObjOk P w H' h' a o:=by
 induction o with
 | lst xs=>obtain ⟨z,its,n,r,e⟩:=x;exact ⟨z,its,n,r,k _ _ (.inl rfl) e⟩
 | tup xs=>obtain ⟨z,its,r,ob,e,c⟩:=x;exact ⟨z,its,r,ob,k _ _ (.inl rfl) e,c⟩
 | dK kvs=>obtain ⟨z,y,vs,r,ob,es,ep,e,c⟩:=x;exact ⟨z,y,vs,r,ob,es,ep,k _ _ (.inl rfl) e,c⟩
 | dT kvs=>
  obtain ⟨z,y,xs,r,ob,es,ep,e,c⟩:=x
  exact ⟨z,y,xs,Paired.mapP r fun p q z=>⟨z.1,ht _ _ z.2.1,z.2.2⟩,ob,es,ep,k _ _ (.inl rfl) e,c⟩
 | set S n=>obtain ⟨ob,es,ep,t,e,c⟩:=x;exact ⟨ob,es,ep,t,k _ _ (.inl rfl) e,c⟩
 | ins C dx fs=>
  obtain ⟨d,z,ne,e,mA,⟨od,es,ep,e2,c⟩,r⟩:=x
  exact ⟨ho _ d,z,ne,k _ _ (.inl rfl) e,mA,⟨od,es,ep,k _ _ (.inr d) e2,c⟩,r⟩
 | own y=>obtain ⟨ob,e⟩:=x;exact ⟨ob,k _ _ (.inl rfl) e⟩
 | xd fs=>obtain ⟨mA,⟨od,es,ep,e,c⟩,r⟩:=x;exact ⟨mA,⟨od,es,ep,k _ _ (.inl rfl) e,c⟩,r⟩
 | rng lo hi=>obtain ⟨t,u,v,e⟩:=x;exact ⟨t,u,v,k _ _ (.inl rfl) e⟩
 | frz ob u ih=>obtain ⟨e,q⟩:=x;exact ⟨k _ _ (.inl rfl) e,ih q⟩
 | tbl ps=>
  have e:h.get? a=some {cls:=.none,data:=.fields ps}:=x
  show h'.get? a=some {cls:=.none,data:=.fields ps}
  exact k a _ (.inl rfl) e
 | met f y=>
  have e:h.get? a=some (PySem.W.methodObj (.ref f) (.ref y)):=x
  show h'.get? a=some (PySem.W.methodObj (.ref f) (.ref y))
  exact k a _ (.inl rfl) e
 | ext φ=>obtain ⟨p,⟨o,e⟩,st⟩:=x;exact ⟨st _ _ p fun o q=>k _ _ (.inl rfl) q,⟨o,k _ _ (.inl rfl) e⟩,st⟩
theorem HOk.lt (x:HOk P w H h) (e:H a=some o):a < h.objs.size:=(x a o e).lt
theorem HOk.fresh (x:HOk P w H h) (e:h.objs.size≤a):H a=none:=by
 cases q:H a with
 | none=>rfl
 | some u=>exact absurd (Nat.lt_of_lt_of_le (x.lt q) e) (Nat.lt_irrefl _)
theorem HOk.kept (x:HOk P w H h) (k:∀ b u,h.get? b=some u→h'.get? b=some u):HOk P w H h':=fun a o e=>
 (x a o e).stay (fun b u _ q=>k b u q) (fun _ q=>q) fun _ _ q=>q
theorem HOk.laid (x:HOk P w H h) (k:∀ b u,h.get? b=some u→h'.get? b=some u) (hp:h.objs.size≤a) (new:ObjOk P w (upd H a o) h' a o):HOk P w (upd H a o) h':=fun b u e=>by
 have hn:=x.fresh hp
 by_cases hb:b=a
 ·subst hb;rw [ak] at e;cases e;exact new
 ·rw [az hb] at e
  exact (x b u e).stay (fun c v _ q=>k c v q) (fun c q=>by rw [az (gF q hn)];exact q) fun c xs q=>by rw [az (gF q hn)];exact q
end
def Rd (H:Hp) (a:Addr) (u:HO):Prop:=H a=some u∨∃ o,H a=some (.frz o u)
theorem Rd.ok {P:Program} {w:World} {H:Hp} {h:Heap} {a:Addr} {u:HO} (r:Rd H a u) (x:HOk P w H h):ObjOk P w H h a u:=by
 rcases r with r | ⟨o,r⟩
 ·exact x a u r
 ·obtain ⟨_,q⟩:=x a _ r
  exact q
def Rp:Option HO→Prop
 | some (.lst _)=>True
 | some (.dK _)=>True
 | some (.dT _)=>True
 | some (.set _ _)=>True
 | some (.ins _ _ _)=>True
 | some (.ext _)=>True
 | _=>False
section
variable {P:Program} {w:World} {H:Hp} {h h':Heap} {x e:Addr} {o':HO}
theorem HOk.write (ok:HOk P w H h) (mu:Rp (H x)) (he:e=x∨H e=some (.own x)) (k:∀ b u,b≠e→h.get? b=some u→h'.get? b=some u) (heo:∃ u,h'.get? e=some u)
  (new:ObjOk P w (upd H x o') h' x o'):HOk P w (upd H x o') h':=fun b u q=>by
 have nown:∀ c y,H c=some (.own y)→c≠x:=fun c y r z=>by subst z;rw [r] at mu;exact mu
 have ntup:∀ c xs,H c=some (.tup xs)→c≠x:=fun c xs r z=>by subst z;rw [r] at mu;exact mu
 by_cases hb:b=x
 ·subst hb;rw [ak] at q;cases q;exact new
 ·rw [az hb] at q
  by_cases hbe:b=e
  ·have q':H b=some (.own x):=by
    rcases he with z | z
    ·exact absurd (hbe.trans z) hb
    ·rw [hbe];exact z
   rw [q] at q';cases q'
   obtain ⟨v,hv⟩:=heo
   exact ⟨v,by rw [hbe];exact hv⟩
  ·refine (ok b u q).stay (fun c v hc r=>k c v ?_ r) (fun c r=>by rw [az (nown c b r)];exact r) fun c xs r=>by rw [az (ntup c xs r)];exact r
   rcases hc with rfl | hc
   ·exact hbe
   ·rintro rfl
    rcases he with z | z
    ·exact nown c b hc z
    ·rw [hc] at z;cases z;exact hb rfl
end
structure Un (fs ex:List Addr) (H H':Hp) (h h':Heap):Prop where
 keep:∀ b o,h.get? b=some o→H b=none→b ∉ fs→b ∉ ex→h'.get? b=some o
 slot:∀ b o,h.get? b=some o→H b=none→b∈fs→b ∉ ex→∃ sl,h'.get? b=some {o with slots:=sl}
 free:∀ b o,h.get? b=some o→H b=none→b ∉ ex→H' b=none
 there:∀ b o,h.get? b=some o→b ∉ ex→∃ o',h'.get? b=some o'
 tups:∀ b xs,H b=some (.tup xs)→H' b=some (.tup xs)
 frzs:∀ b o u,H b=some (.frz o u)→H' b=some (.frz o u)
 tbls:∀ b ps,H b=some (.tbl ps)→∃ more,H' b=some (.tbl (ps ++ more))
section
variable {fs fs' ex ex':List Addr} {H H1 H2:Hp} {h h1 h2 h':Heap} {a x e:Addr} {o:HO}
theorem Un.any (u:Un fs ex H H1 h h1) {b:Addr} {ob:Obj} (q:h.get? b=some ob) (n:H b=none) (hx:b ∉ ex):∃ sl,h1.get? b=some {ob with slots:=sl}:=by
 by_cases hb:b∈fs
 ·exact u.slot b ob q n hb hx
 ·exact ⟨ob.slots,u.keep b ob q n hb hx⟩
theorem Un.kept (k:∀ b u,h.get? b=some u→h'.get? b=some u):Un fs ex H H h h':=
 ⟨fun b ob q _ _ _=>k b ob q,fun b ob q _ _ _=>⟨ob.slots,k b ob q⟩,fun _ _ _ n _=>n,fun b ob q _=>⟨ob,k b ob q⟩,fun _ _ q=>q,fun _ _ _ q=>q,fun _ ps q=>⟨#[],by rw [q];simp⟩⟩
theorem Un.refl:Un fs ex H H h h:=Un.kept fun _ _ q=>q
theorem Un.laid (k:∀ b u,h.get? b=some u→h'.get? b=some u) (hp:h.objs.size≤a) (hn:H a=none):Un fs ex H (upd H a o) h h' where
 keep:=fun b u q _ _ _=>k b u q
 slot:=fun b u q _ _ _=>⟨u.slots,k b u q⟩
 free:=fun b u q n _=>by rw [az (Nat.ne_of_lt (Nat.lt_of_lt_of_le (Heap.lt_size q) hp))];exact n
 there:=fun b u q _=>⟨u,k b u q⟩
 tups:=fun b xs q=>by rw [az (gF q hn)];exact q
 frzs:=fun b u xs q=>by rw [az (gF q hn)];exact q
 tbls:=fun b ps q=>⟨#[],by rw [az (gF q hn),q];simp⟩
theorem Un.write (mu:Rp (H x)) (he:e=x∨H e=some (.own x)) (k:∀ b u,b≠e→h.get? b=some u→h'.get? b=some u) (heo:∃ u,h'.get? e=some u):Un fs ex H (upd H x o) h h':=by
 have hx:∀ b,H b=none→b≠x:=fun b n z=>by subst z;rw [n] at mu;exact mu
 have hb:∀ b,H b=none→b≠e:=fun b n z=>by
  subst z
  rcases he with r | r
  ·exact hx b n r
  ·rw [n] at r;cases r
 have hm:∀ b u,H b=some u→¬ Rp (some u)→b≠x:=fun b u q nm z=>by subst z;rw [q] at mu;exact nm mu
 refine ⟨fun b u q n _ _=>k b u (hb b n) q,fun b u q n _ _=>⟨u.slots,k b u (hb b n) q⟩,fun b u q n _=>by rw [az (hx b n)];exact n,fun b u q _=>?_,
  fun b xs q=>by rw [az (hm b _ q fun z=>z)];exact q,fun b u xs q=>by rw [az (hm b _ q fun z=>z)];exact q,fun b ps q=>⟨#[],by rw [az (hm b _ q fun z=>z),q];simp⟩⟩
 by_cases hbe:b=e
 ·subst hbe;exact heo
 ·exact ⟨u,k b u hbe q⟩
end
def Hj (h:Heap) (H:Hp):List Addr:=(List.range h.objs.size).filter fun a=>(H a).isSome
def ud (h:Heap) (H:Hp):Heap:=PySem.W.hideAll h (Hj h H)
theorem Ak (h:Heap) (H:Hp):(ud h H).objs.size=h.objs.size:=PySem.W.hideAll_size _ _
theorem Cz {h:Heap} {H:Hp} {b:Addr} {o:Obj} (e:h.get? b=some o) (n:H b=none):(ud h H).get? b=some o:=
 PySem.W.hideAll_get _ e fun hm=>by
  have q:(H b).isSome=true:=(List.mem_filter.mp hm).2
  rw [n] at q;simp at q
theorem Hq {h:Heap} {H:Hp} {b:Addr} {o:Obj} (e:(ud h H).get? b=some o):h.get? b=some o∧H b=none:=by
 have e':h.get? b=some o:=PySem.W.of_hideAll (Hj h H) e
 refine ⟨e',?_⟩
 cases q:H b with
 | none=>rfl
 | some x=>
  have hm:b∈Hj h H:=List.mem_filter.mpr ⟨List.mem_range.mpr (Heap.lt_size e'),by simp [q]⟩
  have z:(ud h H).get? b=none:=PySem.W.hideAll_none (Hj h H) hm
  rw [z] at e;cases e
end L2
namespace L2
open PySem PySem.Spec PyProof.Rows
structure Mod (K:PySem.W.Frag) (mg:Str→Option Value) (base:Heap):Prop where
 kin:K.In base
 glob:base.Ns mainGlobals mg
 blt:∃ mb,base.Ns builtinsNs mb∧∀ x:Str,x≠"__name__"→mb x=bootBuiltins x
 nolimit:base.NoLimit
 sysm:∃ mm,base.Ns sysModules mm
structure Cx where
 prog:Program
 w:World
 K:PySem.W.Frag
 mg:Str→Option Value
 base:Heap
 A:Around
 N:List Str
 s₀:Shared
 H₀:Hp
 env:Env
 outer:List Env
 stack:List Env
 ex:List Addr
 fn:Str→Bool
 calm:Bool
 pn:List (Addr×Obj)
 xe:Value→Shared→Prop
def frs (l:List Env):List Addr:=l.filterMap (·.frame)
abbrev Cx.fs (X:Cx):List Addr:=frs X.outer
def Vis (sc:Scope) (x:Str):Prop:=sc.names.lookup x=some .local∨sc.names.lookup x=some .cell∨sc.names.lookup x=some .free
def Loc (sc:Scope) (x:Str):Prop:=sc.names.lookup x=some .local∨sc.names.lookup x=some .cell
def Look (env:Env) (h:Heap) (m:Str→Option Value) (x:Str) (u:Value):Prop:=
 (env.kindOf x=some .local∧m x=some u)∨((env.kindOf x=some .cell∨env.kindOf x=some .free)∧∃ c,env.cells.lookup x=some c∧h.IsCell c (some u))
structure Cx.Ok (X:Cx):Prop where
 mod:Mod X.K X.mg X.base
 kind:X.env.scope.kind= .function
 glob:X.env.globals=mainGlobals
 blt:X.env.builtins=builtinsNs
 above:X.s₀.heap.objs.size≤X.env.locals
 inj:∀ x y c,X.env.cells.lookup x=some c→X.env.cells.lookup y=some c→x=y
 has:∀ x,(X.env.kindOf x=some .cell∨X.env.kindOf x=some .free)→∃ c,X.env.cells.lookup x=some c
 cab:∀ x c,X.fn x=true→X.env.cells.lookup x=some c→X.s₀.heap.objs.size≤c
 hd:X.calm=true→X.A.handled=none
 frames:X.A.frames=some X.stack
 stk:X.stack=X.outer∨(X.stack=X.env :: X.outer∧X.env.frame=some X.env.locals)
 exf:∀ b∈X.ex,b≠X.env.locals∧∀ x c,X.env.cells.lookup x=some c→c≠b
 bs:∀ b o,X.base.get? b=some o→X.s₀.heap.get? b=some o∧X.H₀ b=none
 bsz:X.base.objs.size≤X.s₀.heap.objs.size
 noex:∀ b o,X.base.get? b=some o→b ∉ X.ex
 exfs:∀ b∈X.ex,b ∉ X.fs
 funs:X.s₀.heap.FunFrames X.base X.outer
 frf:∀ b∈X.fs,X.H₀ b=none
structure Inv (X:Cx) (pins:List (Addr×Obj)) (σ:List (Option V)) (H:Hp) (s:Shared):Prop where
 ok:X.Ok
 os:s.os=X.s₀.os
 bare:AllBare s.gens
 base:Un X.fs X.ex X.H₀ H X.s₀.heap s.heap
 loc:∃ m,s.heap.Ns X.env.locals m∧∀ (i:Nat) (x:Str) (v:V),X.N[i]?=some x→σ[i]?=some (some v)→Vis X.env.scope x→∃ u,RelV v u∧Look X.env s.heap m x u
 cell:∀ x c,X.env.cells.lookup x=some c→∃ v,s.heap.IsCell c v
 free:H X.env.locals=none
 freeC:∀ x c,X.env.cells.lookup x=some c→H c=none
 pin:∀ p∈X.pn ++ pins,s.heap.get? p.1=some p.2∧H p.1=none∧p.1≠X.env.locals∧p.1 ∉ X.fs∧∀ v,p.2.data≠.cell v
 hok:HOk X.prog X.w H s.heap
 len:σ.length=X.N.length
section
variable {X:Cx} {pins:List (Addr×Obj)} {σ:List (Option V)} {H H':Hp} {s:Shared} {h':Heap}
theorem Cx.Ok.nofr (ok:X.Ok) {b:Addr} {o:Obj} (e:X.base.get? b=some o):b ∉ X.fs:=fun hb=>by
 have:=(ok.funs.mem hb).1
 rw [e] at this;cases this
theorem Inv.bs (I:Inv X pins σ H s):∀ b o,X.base.get? b=some o→s.heap.get? b=some o∧H b=none:=fun b o e=>
 ⟨I.base.keep b o (I.ok.bs b o e).1 (I.ok.bs b o e).2 (I.ok.nofr e) (I.ok.noex b o e),I.base.free b o (I.ok.bs b o e).1 (I.ok.bs b o e).2 (I.ok.noex b o e)⟩
theorem Inv.bk (I:Inv X pins σ H s):∀ b o,X.base.get? b=some o→s.heap.get? b=some o:=fun b o e=>(I.bs b o e).1
theorem Inv.mod (I:Inv X pins σ H s):Mod X.K X.mg X.base:=I.ok.mod
theorem Inv.kIn (I:Inv X pins σ H s):X.K.In s.heap:=I.ok.mod.kin.keeps I.bk
theorem Inv.lt (I:Inv X pins σ H s):X.env.locals < s.heap.objs.size:=let ⟨_,hn,_⟩:=I.loc;hn.lt
theorem Inv.sz (I:Inv X pins σ H s):X.s₀.heap.objs.size≤s.heap.objs.size:=Nat.le_trans I.ok.above (Nat.le_of_lt I.lt)
theorem Inv.nofs (I:Inv X pins σ H s) {a:Addr} (h:s.heap.objs.size≤a):a ∉ X.fs:=fun hb=>by
 obtain ⟨_,o,ho,_⟩:=I.ok.funs.mem hb
 exact absurd (Nat.lt_of_lt_of_le (Heap.lt_size ho) (Nat.le_trans I.sz h)) (Nat.lt_irrefl _)
theorem Inv.cne (I:Inv X pins σ H s):∀ x c,X.env.cells.lookup x=some c→c≠X.env.locals:=fun x c e z=>by
 obtain ⟨v,o,ho,hd⟩:=I.cell x c e
 obtain ⟨m,⟨o',es,ep,ho',hd',_⟩,_⟩:=I.loc
 rw [z,ho'] at ho;cases ho;rw [hd'] at hd;cases hd
theorem Inv.funs (I:Inv X pins σ H s):s.heap.FunFrames X.base X.outer:=by
 have all:∀ (l:List Env),(∀ b∈frs l,b∈X.fs)→X.s₀.heap.FunFrames X.base l→s.heap.FunFrames X.base l:=by
  intro l
  induction l with
  | nil=>intro _ _;trivial
  | cons env r ih=>
   intro hs hl
   obtain ⟨hk,⟨L,o,hf,hn,ho,hd⟩,hr⟩:=hl
   have hL:L∈X.fs:=hs L (by unfold frs;rw [List.filterMap_cons,hf];exact List.mem_cons_self)
   obtain ⟨sl,e⟩:=I.base.slot L o ho (I.ok.frf L hL) hL fun z=>I.ok.exfs L z hL
   exact ⟨hk,⟨L,_,hf,hn,e,hd⟩,ih (fun b hb=>hs b (by unfold frs;rw [List.filterMap_cons,hf];exact List.mem_cons_of_mem _ hb)) hr⟩
 exact all X.outer (fun _ hb=>hb) I.ok.funs
theorem Inv.stack (I:Inv X pins σ H s):s.heap.FunFrames X.base X.stack:=by
 rcases I.ok.stk with e | ⟨e,hf⟩
 ·rw [e];exact I.funs
 ·rw [e]
  obtain ⟨m,hn,_⟩:=I.loc
  refine .cons (by rw [I.ok.kind];decide) hf hn ?_ I.funs
  exact Heap.get?_none_of_le (Nat.le_trans I.ok.bsz I.ok.above)
theorem Inv.stkSub (I:Inv X pins σ H s):∀ b∈frs X.stack,b∈X.env.locals :: X.fs:=fun b hb=>by
 rcases I.ok.stk with e | ⟨e,hf⟩
 ·rw [e] at hb;exact List.mem_cons_of_mem _ hb
 ·rw [e] at hb
  unfold frs at hb
  rw [List.filterMap_cons,hf] at hb
  exact hb
theorem Inv.stkFree (I:Inv X pins σ H s):∀ b∈frs X.stack,H b=none:=fun b hb=>by
 rcases List.mem_cons.mp (I.stkSub b hb) with e | hb
 ·rw [e];exact I.free
 ·obtain ⟨_,o,ho,_⟩:=I.ok.funs.mem hb
  exact I.base.free b o ho (I.ok.frf b hb) fun z=>I.ok.exfs b z hb
theorem Inv.step {g':Array GenState} {t':Nat} {d':Drawn} {ch:List Addr} (I:Inv X pins σ H s)
  (hch:∀ b∈ch,(b∈X.ex∨X.s₀.heap.objs.size≤b)∧b≠X.env.locals∧(∀ x c,X.env.cells.lookup x=some c→c≠b)∧∀ p∈X.pn ++ pins,p.1≠b)
  (keep:∀ b o,b≠X.env.locals→b ∉ X.fs→b ∉ ch→s.heap.get? b=some o→H b=none→h'.get? b=some o)
  (slot:∀ b o,b≠X.env.locals→b∈X.fs→b ∉ ch→s.heap.get? b=some o→H b=none→∃ sl,h'.get? b=some {o with slots:=sl}) (free:∀ b o,b ∉ ch→s.heap.get? b=some o→H b=none→H' b=none)
  (there:∀ b o,b ∉ ch→s.heap.get? b=some o→∃ o',h'.get? b=some o')
  (tups:∀ b xs,H b=some (.tup xs)→H' b=some (.tup xs)) (frzs:∀ b o u,H b=some (.frz o u)→H' b=some (.frz o u)) (tbls:∀ b ps,H b=some (.tbl ps)→∃ more,H' b=some (.tbl (ps ++ more)))
  (ns:∀ m,s.heap.Ns X.env.locals m→h'.Ns X.env.locals m) (hok:HOk X.prog X.w H' h') (hg:AllBare g'):
  Inv X pins σ H' {s with heap:=h',gens:=g',drawn:=d',toks:=t'}:=by
 have neL:∀ b o,X.s₀.heap.get? b=some o→b≠X.env.locals:=fun b o e=>Nat.ne_of_lt (Nat.lt_of_lt_of_le (Heap.lt_size e) I.ok.above)
 have neC:∀ b o,X.s₀.heap.get? b=some o→b ∉ X.ex→b ∉ ch:=fun b o e hx hb=>by
  rcases (hch b hb).1 with z | z
  ·exact hx z
  ·exact absurd (Nat.lt_of_lt_of_le (Heap.lt_size e) z) (Nat.lt_irrefl _)
 have cellK:∀ x c,X.env.cells.lookup x=some c→∀ v,s.heap.IsCell c v→h'.IsCell c v:=fun x c e v ⟨o,ho,hd⟩=>by
  have nch:c ∉ ch:=fun z=>(hch c z).2.2.1 x c e rfl
  by_cases hc:c∈X.fs
  ·obtain ⟨sl,q⟩:=slot c o (I.cne x c e) hc nch ho (I.freeC x c e)
   exact ⟨_,q,hd⟩
  ·exact ⟨o,keep c o (I.cne x c e) hc nch ho (I.freeC x c e),hd⟩
 refine ⟨I.ok,I.os,hg,⟨fun b o e n hb hx=>?_,fun b o e n hb hx=>?_,fun b o e n hx=>?_,fun b o e hx=>?_,fun b xs e=>tups b xs (I.base.tups b xs e),fun b o xs e=>frzs b o xs (I.base.frzs b o xs e),fun b ps e=>?_⟩,?_,fun x c e=>?_,?_,fun x c e=>?_,fun p hp=>?_,hok,I.len⟩
 ·exact keep b o (neL b o e) hb (neC b o e hx) (I.base.keep b o e n hb hx) (I.base.free b o e n hx)
 ·obtain ⟨sl,e1⟩:=I.base.slot b o e n hb hx
  obtain ⟨sl',e2⟩:=slot b _ (neL b o e) hb (neC b o e hx) e1 (I.base.free b o e n hx)
  exact ⟨sl',e2⟩
 ·obtain ⟨o',e1⟩:=I.base.there b o e hx
  exact free b o' (neC b o e hx) e1 (I.base.free b o e n hx)
 ·obtain ⟨o',e1⟩:=I.base.there b o e hx
  exact there b o' (neC b o e hx) e1
 ·obtain ⟨m1,e1⟩:=I.base.tbls b ps e
  obtain ⟨m2,e2⟩:=tbls b _ e1
  exact ⟨m1 ++ m2,by rw [e2,Array.append_assoc]⟩
 ·obtain ⟨m,hn,hl⟩:=I.loc
  refine ⟨m,ns m hn,fun i x v e1 e2 e3=>?_⟩
  obtain ⟨u,r,l⟩:=hl i x v e1 e2 e3
  refine ⟨u,r,?_⟩
  rcases l with l | ⟨k,c,e,z⟩
  ·exact .inl l
  ·exact .inr ⟨k,c,e,cellK x c e _ z⟩
 ·obtain ⟨v,z⟩:=I.cell x c e
  exact ⟨v,cellK x c e v z⟩
 ·obtain ⟨m,⟨o,_,_,ho,_⟩,_⟩:=I.loc
  exact free _ o (fun z=>(hch _ z).2.1 rfl) ho I.free
 ·obtain ⟨v,o,ho,hd⟩:=I.cell x c e
  exact free c o (fun z=>(hch c z).2.2.1 x c e rfl) ho (I.freeC x c e)
 ·obtain ⟨e,n,ne,nf,d⟩:=I.pin p hp
  have nch:p.1 ∉ ch:=fun z=>(hch p.1 z).2.2.2 p hp rfl
  exact ⟨keep p.1 p.2 ne nf nch e n,free p.1 p.2 nch e n,ne,nf,d⟩
theorem Inv.un {t':Nat} (I:Inv X pins σ H s) (u:Un X.fs [] H H' s.heap h') (hok:HOk X.prog X.w H' h'):Inv X pins σ H' {s with heap:=h',toks:=t'}:=by
 obtain ⟨m,⟨o,es,ep,ho,r⟩,_⟩:=id I.loc
 obtain ⟨sl,hL⟩:=u.any ho I.free (by simp)
 exact I.step (g':=s.gens) (d':=s.drawn) (ch:=[]) (fun _ z=>nomatch z) (fun b o _ hb _ e n=>u.keep b o e n hb (by simp)) (fun b o _ hb _ e n=>u.slot b o e n hb (by simp)) (fun b o _ e n=>u.free b o e n (by simp)) (fun b o _ e=>u.there b o e (by simp)) u.tups u.frzs u.tbls (fun m' hm=>by
  obtain ⟨o',es',ep',ho',r'⟩:=hm
  rw [ho] at ho';cases ho'
  exact ⟨_,es',ep',hL,r'⟩) hok I.bare
theorem Inv.call {g':Array GenState} {t':Nat} {d':Drawn} {ch:List Addr} (I:Inv X pins σ H s) (u:Un (frs X.stack) ch H H' s.heap h') (hok:HOk X.prog X.w H' h') (hg:AllBare g')
  (hch:∀ b∈ch,(b∈X.ex∨X.s₀.heap.objs.size≤b)∧b≠X.env.locals∧(∀ x c,X.env.cells.lookup x=some c→c≠b)∧∀ p∈X.pn ++ pins,p.1≠b):
  Inv X pins σ H' {s with heap:=h',gens:=g',drawn:=d',toks:=t'}:=by
 obtain ⟨m,⟨o,es,ep,ho,r⟩,_⟩:=id I.loc
 obtain ⟨sl,hL⟩:=u.any ho I.free fun z=>(hch _ z).2.1 rfl
 exact I.step (ch:=ch) hch (fun b o hL hb hc e n=>u.keep b o e n (fun z=>(List.mem_cons.mp (I.stkSub b z)).elim hL hb) hc) (fun b o _ _ hc e n=>u.any e n hc) (fun b o hc e n=>u.free b o e n hc) (fun b o hc e=>u.there b o e hc) u.tups u.frzs u.tbls (fun m' hm=>by
  obtain ⟨o',es',ep',ho',r'⟩:=hm
  rw [ho] at ho';cases ho'
  exact ⟨_,es',ep',hL,r'⟩) hok hg
theorem Inv.turned {t':Nat} {it:Addr} (I:Inv X pins σ H s) (k:∀ b o,b≠it→s.heap.get? b=some o→h'.get? b=some o) (hn:H it=none) (hL:it≠X.env.locals)
  (h1:it∈X.ex∨X.s₀.heap.objs.size≤it) (h2:∀ x c,X.env.cells.lookup x=some c→c≠it) (h3:∀ p∈X.pn ++ pins,p.1≠it):Inv X pins σ H {s with heap:=h',toks:=t'}:=by
 have nit:∀ b u,H b=some u→b≠it:=fun b u e z=>by rw [z,hn] at e;cases e
 refine I.step (g':=s.gens) (d':=s.drawn) (ch:=[it]) (fun b hb=>?_) (fun b o _ _ hc e _=>k b o (fun z=>hc (by simp [z])) e) (fun b o _ _ hc e _=>⟨o.slots,k b o (fun z=>hc (by simp [z])) e⟩) (fun _ _ _ _ n=>n)
  (fun b o hc e=>⟨o,k b o (fun z=>hc (by simp [z])) e⟩) (fun _ _ e=>e) (fun _ _ _ e=>e) (fun b ps e=>⟨#[],by rw [e];simp⟩) (fun m hm=>?_) (fun b u e=>?_) I.bare
 ·have e:b=it:=by simpa using hb
  subst e
  exact ⟨h1,hL,h2,h3⟩
 ·obtain ⟨o,es,ep,ho,r⟩:=hm
  exact ⟨o,es,ep,k _ o (Ne.symm hL) ho,r⟩
 ·refine (I.hok b u e).stay (fun c v hc q=>k c v ?_ q) (fun _ q=>q) fun _ _ q=>q
  rcases hc with z | z
  ·rw [z];exact nit b u e
  ·exact nit c _ z
theorem Inv.tok (I:Inv X pins σ H s) (t:Nat):Inv X pins σ H {s with toks:=t}:=I.un (h':=s.heap) (t':=t) Un.refl I.hok
theorem Inv.kept {t':Nat} (I:Inv X pins σ H s) (k:∀ b u,s.heap.get? b=some u→h'.get? b=some u):Inv X pins σ H {s with heap:=h',toks:=t'}:=I.un (Un.kept k) (I.hok.kept k)
theorem Inv.laid {a:Addr} {o:HO} {t':Nat} (I:Inv X pins σ H s) (k:∀ b u,s.heap.get? b=some u→h'.get? b=some u) (hp:s.heap.objs.size≤a) (new:ObjOk X.prog X.w (upd H a o) h' a o):
  Inv X pins σ (upd H a o) {s with heap:=h',toks:=t'}:=I.un (Un.laid k hp (I.hok.fresh hp)) (I.hok.laid k hp new)
theorem Inv.write {x e:Addr} {o:HO} {t':Nat} (I:Inv X pins σ H s) (mu:Rp (H x)) (he:e=x∨H e=some (.own x)) (k:∀ b u,b≠e→s.heap.get? b=some u→h'.get? b=some u) (heo:∃ u,h'.get? e=some u)
  (new:ObjOk X.prog X.w (upd H x o) h' x o):Inv X pins σ (upd H x o) {s with heap:=h',toks:=t'}:=I.un (Un.write mu he k heo) (I.hok.write mu he k heo new)
theorem Inv.weak {σ':List (Option V)} (I:Inv X pins σ H s) (hl:σ'.length=σ.length) (w:∀ (i:Nat) v,σ'[i]?=some (some v)→σ[i]?=some (some v)):Inv X pins σ' H s:=
 ⟨I.ok,I.os,I.bare,I.base,let ⟨m,hn,hl'⟩:=I.loc;⟨m,hn,fun i x v e1 e2 e3=>hl' i x v e1 (w i v e2) e3⟩,I.cell,I.free,I.freeC,I.pin,I.hok,hl.trans I.len⟩
theorem Inv.pins_of {pins':List (Addr×Obj)} (I:Inv X pins σ H s) (h:∀ p∈pins',s.heap.get? p.1=some p.2∧H p.1=none∧p.1≠X.env.locals∧p.1 ∉ X.fs∧∀ v,p.2.data≠.cell v):Inv X pins' σ H s:=
 ⟨I.ok,I.os,I.bare,I.base,I.loc,I.cell,I.free,I.freeC,fun p hp=>(List.mem_append.mp hp).elim (fun z=>I.pin p (List.mem_append_left _ z)) (h p),I.hok,I.len⟩
theorem vD {N:List Str} (hN:N.Nodup) {i j:Nat} {x:Str} (a:N[i]?=some x) (b:N[j]?=some x):i=j:=by
 obtain ⟨h1,e1⟩:=List.getElem?_eq_some_iff.mp a
 obtain ⟨h2,e2⟩:=List.getElem?_eq_some_iff.mp b
 exact (List.getElem_inj hN).mp (e1.trans e2.symm)
theorem sH {M:Model} {A:Around} {E:Value→Shared→Prop} {i:Nat} {x:Str} {v:V} {u:Value} {Q:Unit→Shared→Prop} (I:Inv X pins σ H s) (hN:X.N.Nodup) (hi:X.N[i]?=some x) (hx:Loc X.env.scope x) (r:RelV v u)
  (h:∀ s',Inv X pins (σ.set i (some v)) H s'→(∃ a,Heap.SameBut a s.heap s'.heap∧(a=X.env.locals∨X.env.cells.lookup x=some a))→Q () s') (hf:autoParam (X.fn x=true∨X.env.scope.names.lookup x=some .local) L2.auto1._auto_1):wpAny M A (storeName X.env x u) Q E s:=by
 obtain ⟨m,hn,hl⟩:=id I.loc
 have hcls:(X.env.scope.kind == .class || (X.env.scope.kind == .module && X.env.locals != X.env.globals))=false:=by rw [I.ok.kind];rfl
 have hiσ:i < σ.length:=by rw [I.len];exact (List.getElem?_eq_some_iff.mp hi).1
 have cne:=I.cne
 have tracked:∀ {a:Addr} {h':Heap},(∃ o,s.heap.get? a=some o∧H a=none)→Heap.SameBut a s.heap h'→HOk X.prog X.w H h':=fun {a h'} ha hs b ob e=>by
  obtain ⟨_,_,hfree⟩:=ha
  refine (I.hok b ob e).stay (fun c w' hc q=>(hs.2 c ?_).trans q) (fun _ q=>q) fun _ _ q=>q
  rintro rfl
  rcases hc with rfl | hc
  ·rw [hfree] at e;cases e
  ·rw [hfree] at hc;cases hc
 rcases hx with hk | hk
 ·refine wpAny_storeName_local hk hn (fun h' hn' hs=>?_) hcls
  obtain ⟨oL,_,_,hoL,_⟩:=id hn
  refine h _ ⟨I.ok,I.os,I.bare,⟨fun b o e n hb hx=>?_,fun b o e n hb hx=>?_,I.base.free,fun b o e hx=>?_,I.base.tups,I.base.frzs,I.base.tbls⟩,⟨_,hn',fun j y v' e1 e2 e3=>?_⟩,fun y c e=>?_,I.free,I.freeC,fun p hp=>?_,tracked ⟨oL,hoL,I.free⟩ hs,by simpa using I.len⟩ ⟨_,hs,.inl rfl⟩
  ·exact (hs.2 b (Nat.ne_of_lt (Nat.lt_of_lt_of_le (Heap.lt_size e) I.ok.above))).trans (I.base.keep b o e n hb hx)
  ·obtain ⟨sl,e1⟩:=I.base.slot b o e n hb hx
   exact ⟨sl,(hs.2 b (Nat.ne_of_lt (Nat.lt_of_lt_of_le (Heap.lt_size e) I.ok.above))).trans e1⟩
  ·obtain ⟨o',e1⟩:=I.base.there b o e hx
   exact ⟨o',(hs.2 b (Nat.ne_of_lt (Nat.lt_of_lt_of_le (Heap.lt_size e) I.ok.above))).trans e1⟩
  ·by_cases hj:j=i
   ·subst hj
    rw [hi] at e1;cases e1
    rw [List.getElem?_set_self hiσ] at e2
    cases e2
    exact ⟨u,r,.inl ⟨hk,by simp⟩⟩
   ·rw [List.getElem?_set_ne (Ne.symm hj)] at e2
    obtain ⟨u',r',q⟩:=hl j y v' e1 e2 e3
    refine ⟨u',r',?_⟩
    rcases q with ⟨k,e⟩ | ⟨k,c,e,z⟩
    ·refine .inl ⟨k,?_⟩
     have:y≠x:=fun e=>hj (vD hN e1 (e ▸ hi))
     simp [this,e]
    ·exact .inr ⟨k,c,e,z.sameBut hs (cne y c e)⟩
  ·obtain ⟨w',z⟩:=I.cell y c e
   exact ⟨w',z.sameBut hs (cne y c e)⟩
  ·obtain ⟨e,n,ne,nf,d⟩:=I.pin p hp
   exact ⟨(hs.2 p.1 ne).trans e,n,ne,nf,d⟩
 ·have hfn:X.fn x=true:=by
   rcases hf with z | z
   ·exact z
   ·rw [z] at hk;cases hk
  obtain ⟨c,hc⟩:=I.ok.has x (.inl hk)
  obtain ⟨w',z⟩:=I.cell x c hc
  refine wpAny_storeName_cell I.ok.kind hk hc z (fun h' hc' hs=>?_)
  obtain ⟨oc,hoc,hocd⟩:=id z
  refine h {s with heap:=h'} ⟨I.ok,I.os,I.bare,⟨fun b o e n hb hx=>?_,fun b o e n hb hx=>?_,I.base.free,fun b o e hx=>?_,I.base.tups,I.base.frzs,I.base.tbls⟩,⟨m,hn.sameBut hs (Ne.symm (cne x c hc)),fun j y v' e1 e2 e3=>?_⟩,fun y c' e=>?_,I.free,I.freeC,fun p hp=>?_,tracked ⟨oc,hoc,I.freeC x c hc⟩ hs,by simpa using I.len⟩ ⟨c,hs,.inr hc⟩
  ·exact (hs.2 b (Nat.ne_of_lt (Nat.lt_of_lt_of_le (Heap.lt_size e) (I.ok.cab x c hfn hc)))).trans (I.base.keep b o e n hb hx)
  ·obtain ⟨sl,e1⟩:=I.base.slot b o e n hb hx
   exact ⟨sl,(hs.2 b (Nat.ne_of_lt (Nat.lt_of_lt_of_le (Heap.lt_size e) (I.ok.cab x c hfn hc)))).trans e1⟩
  ·obtain ⟨o',e1⟩:=I.base.there b o e hx
   exact ⟨o',(hs.2 b (Nat.ne_of_lt (Nat.lt_of_lt_of_le (Heap.lt_size e) (I.ok.cab x c hfn hc)))).trans e1⟩
  ·by_cases hj:j=i
   ·subst hj
    rw [hi] at e1;cases e1
    rw [List.getElem?_set_self hiσ] at e2
    cases e2
    exact ⟨u,r,.inr ⟨.inl hk,c,hc,hc'⟩⟩
   ·rw [List.getElem?_set_ne (Ne.symm hj)] at e2
    obtain ⟨u',r',q⟩:=hl j y v' e1 e2 e3
    refine ⟨u',r',?_⟩
    rcases q with q | ⟨k,c',e,z'⟩
    ·exact .inl q
    ·refine .inr ⟨k,c',e,z'.sameBut hs ?_⟩
     rintro rfl
     exact hj (vD hN e1 (I.ok.inj _ _ _ e hc ▸ hi))
  ·by_cases hcc:c'=c
   ·subst hcc;exact ⟨_,hc'⟩
   ·obtain ⟨w2,z2⟩:=I.cell y c' e
    exact ⟨w2,z2.sameBut hs hcc⟩
  ·obtain ⟨e,n,ne,nf,d⟩:=I.pin p hp
   refine ⟨(hs.2 p.1 ?_).trans e,n,ne,nf,d⟩
   intro q
   rw [q,hoc] at e
   have q':oc=p.2:=Option.some.inj e
   exact d w' (by rw [← q'];exact hocd)
theorem vG {M:Model} {A:Around} {E:Value→Shared→Prop} {i:Nat} {x:Str} {v:V} {u:Value} {Q:Unit→Shared→Prop} (I:Inv X pins σ H s) (hN:X.N.Nodup) (hi:X.N[i]?=some x) (hx:Loc X.env.scope x) (r:RelV v u)
  (h:∀ s',Inv X pins (σ.set i (some v)) H s'→Q () s') (hf:autoParam (X.fn x=true∨X.env.scope.names.lookup x=some .local) L2.auto1._auto_1):wpAny M A (storeName X.env x u) Q E s:=
 sH I hN hi hx r (fun s' I' _=>h s' I') hf
theorem Inv.call' {s':Shared} {ch:List Addr} (I:Inv X pins σ H s) (ho:s'.os=s.os) (u:Un (frs X.stack) ch H H' s.heap s'.heap) (hok:HOk X.prog X.w H' s'.heap) (hg:AllBare s'.gens)
  (hch:∀ b∈ch,(b∈X.ex∨X.s₀.heap.objs.size≤b)∧b≠X.env.locals∧(∀ x c,X.env.cells.lookup x=some c→c≠b)∧∀ p∈X.pn ++ pins,p.1≠b):Inv X pins σ H' s':=by
 obtain ⟨h',g',d',t',o'⟩:=s'
 have e:o'=s.os:=ho
 subst e
 exact I.call (g':=g') (t':=t') (d':=d') u hok hg hch
end
abbrev XK:=Value→Option Addr→Hp→Prop
abbrev St:=List (Option V)
abbrev VK:=V→Hp→Prop
abbrev TE:=St→Hp→VK→Prop
abbrev TT:=St→Hp→(Bool→Hp→Prop)→Prop
abbrev TA:=St→Hp→(List V→Hp→Prop)→Prop
structure Ends where
 nx:St→Hp→Prop
 rt:VK
 bk:St→Hp→Prop:=fun _ _=>False
 ct:St→Hp→Prop:=fun _ _=>False
abbrev TS:=Ends→St→Hp→Prop
def EP (X:Cx) (pins:List (Addr×Obj)) (σ:St) (Q:VK) (u:Value) (s':Shared):Prop:=∃ v H',Inv X pins σ H' s'∧RelV v u∧Q v H'
def TP (X:Cx) (pins:List (Addr×Obj)) (σ:St) (Q:Bool→Hp→Prop) (b:Bool) (s':Shared):Prop:=∃ H',Inv X pins σ H' s'∧Q b H'
def AP (X:Cx) (pins:List (Addr×Obj)) (σ:St) (Q:List V→Hp→Prop) (us:List Value) (s':Shared):Prop:=∃ vs H',Inv X pins σ H' s'∧Vals vs us∧Q vs H'
def SP (X:Cx) (pins:List (Addr×Obj)) (D:Ends) (f:Flow) (s':Shared):Prop:=
 match f with
 | .next=>∃ σ' H',Inv X pins σ' H' s'∧D.nx σ' H'
 | .brk=>∃ σ' H',Inv X pins σ' H' s'∧D.bk σ' H'
 | .cont=>∃ σ' H',Inv X pins σ' H' s'∧D.ct σ' H'
 | .ret u=>∃ v σ' H',Inv X pins σ' H' s'∧RelV v u∧D.rt v H'
def PE (X:Cx) (e:Expr) (t:TE):Prop:=
 ∀ (pins:List (Addr×Obj)) (s:Shared) (σ:St) (H:Hp) (Q:VK),Inv X pins σ H s→t σ H Q→wpAny (model X.prog X.w) X.A (eval e X.env) (EP X pins σ Q) X.xe s
def PT (X:Cx) (e:Expr) (t:TT):Prop:=
 ∀ (pins:List (Addr×Obj)) (s:Shared) (σ:St) (H:Hp) (Q:Bool→Hp→Prop),Inv X pins σ H s→t σ H Q→wpAny (model X.prog X.w) X.A (isTrue e X.env (eval e X.env)) (TP X pins σ Q) X.xe s
def PW (X:Cx) (e:Expr) (t:TT):Prop:=
 ∀ (whole:Sem Value) (pins:List (Addr×Obj)) (s:Shared) (σ:St) (H:Hp) (Q:Bool→Hp→Prop),Inv X pins σ H s→t σ H Q→wpAny (model X.prog X.w) X.A (isTrue e X.env whole) (TP X pins σ Q) X.xe s
theorem PW.pt {X:Cx} {e:Expr} {t:TT} (h:PW X e t):PT X e t:=h _
def PA (X:Cx) (es:List Expr) (t:TA):Prop:=
 ∀ (pos:Pos) (pins:List (Addr×Obj)) (s:Shared) (σ:St) (H:Hp) (Q:List V→Hp→Prop),Inv X pins σ H s→t σ H Q→wpAny (model X.prog X.w) X.A (spliced (backTo pos (starEach es X.env))) (AP X pins σ Q) X.xe s
def PS (X:Cx) (st:Stmt) (t:TS):Prop:=
 ∀ (pins:List (Addr×Obj)) (s:Shared) (σ:St) (H:Hp) (D:Ends),Inv X pins σ H s→t D σ H→wpAny (model X.prog X.w) X.A (exec st X.env) (SP X pins D) X.xe s
def PSs (X:Cx) (st:List Stmt) (t:TS):Prop:=
 ∀ (pins:List (Addr×Obj)) (s:Shared) (σ:St) (H:Hp) (D:Ends),Inv X pins σ H s→t D σ H→wpAny (model X.prog X.w) X.A (execs st X.env) (SP X pins D) X.xe s
theorem cZ {α:Type} {t:Sem α} {Q Q':α→Shared→Prop} {M:Model} {A:Around} {E:Value→Shared→Prop} {s:Shared} (h:wpAny M A t Q E s) (hQ:∀ a s,Q a s→Q' a s):wpAny M A t Q' E s:=wpAny_mono h hQ fun _ _ x=>x
end L2
namespace L2
open PySem PySem.Spec PyProof.Rows
section
variable {X:Cx}
def lA (i:Nat):TE:=fun σ H Q=>∃ v,σ[i]?=some (some v)∧Q v H
def tC (v:V):TE:=fun _ H Q=>Q v H
theorem ue {i:Nat} {x:Str} {pos:Pos} (hN:X.N[i]?=some x) (hv:Vis X.env.scope x) (hd:autoParam ((x == ("__debug__":Str))=false) L2.auto2._auto_1) (hcd:autoParam ((x == ("__classdict__":Str))=false) L2.auto2._auto_1):PE X (.Name x pos) (lA i):=by
 intro pins s σ H Q I h
 obtain ⟨v,e,h⟩:=h
 obtain ⟨m,hn,hl⟩:=I.loc
 obtain ⟨u,r,l⟩:=hl i x v hN e hv
 have fin:EP X pins σ Q u s:=⟨v,H,I,r,h⟩
 rcases l with ⟨hk,hm⟩ | ⟨hk,c,hc,hcell⟩
 ·exact wpAny_Name (wpAny_loadName_local I.ok.kind hk hn hm fin) hd
 ·rcases hk with hk | hk
  ·exact wpAny_Name (wpAny_loadName_cell I.ok.kind hk hc hcell fin) hd
  ·exact wpAny_Name (wpAny_loadName_free I.ok.kind hk hc hcell fin hcd) hd
theorem Mi {i j pos}:PE X (.Constant (.int i) j pos) (tC (.int i)):=fun _ _ _ H _ I h=>wpAny_Constant_int ⟨.int i,H,I.tok _,⟨_,rfl⟩,h⟩
theorem Rq {b j pos}:PE X (.Constant (.bool b) j pos) (tC (.bl b)):=fun _ _ _ H _ I h=>Constant_bool ⟨.bl b,H,I,rfl,h⟩
theorem Mj {j pos}:PE X (.Constant .none j pos) (tC .non):=fun _ _ _ H _ I h=>Constant_none ⟨.non,H,I,rfl,h⟩
theorem Ml {x j pos}:PE X (.Constant (.str x) j pos) (tC (.str x)):=fun _ _ _ H _ I h=>Calls.Constant_str ⟨.str x,H,I.tok _,⟨_,rfl⟩,h⟩
def Gl (X:Cx) (x:Str):Prop:=X.env.kindOf x=some .globalImplicit
theorem mO {E:Value→Shared→Prop} {pins:List (Addr×Obj)} {s:Shared} {σ:St} {H:Hp} {x:Str} {u:Value} {pos:Pos} {Q:Value→Shared→Prop} (I:Inv X pins σ H s) (hg:Gl X x) (hm:X.mg x=some u) (h:Q u s)
  (hd:autoParam ((x == ("__debug__":Str))=false) L2.auto2._auto_1):wpAny (model X.prog X.w) X.A (eval (.Name x pos) X.env) Q E s:=
 Calls.Name_function_global I.ok.kind hg (Calls.loadGlobal_global (by rw [I.ok.glob];exact I.mod.glob.keeps I.bk) hm h) hd
theorem iD {E:Value→Shared→Prop} {pins:List (Addr×Obj)} {s:Shared} {σ:St} {H:Hp} {x:Str} {u:Value} {pos:Pos} {Q:Value→Shared→Prop} (I:Inv X pins σ H s) (hg:Gl X x) (hm:X.mg x=none) (hv:bootBuiltins x=some u) (h:Q u s)
  (hn:autoParam (x≠"__name__") L2.auto2._auto_1) (hd:autoParam ((x == ("__debug__":Str))=false) L2.auto2._auto_1):wpAny (model X.prog X.w) X.A (eval (.Name x pos) X.env) Q E s:=by
 obtain ⟨mb,h1,h2⟩:=I.mod.blt
 exact Calls.Name_function_global I.ok.kind hg (Calls.loadGlobal_builtin (by rw [I.ok.glob];exact I.mod.glob.keeps I.bk) hm (by rw [I.ok.blt];exact h1.keeps I.bk) ((h2 x hn).trans hv) h) hd
theorem yP {x:Str} {v:V} {u:Value} {pos:Pos} (hg:Gl X x) (hm:X.mg x=some u) (r:RelV v u) (hd:autoParam ((x == ("__debug__":Str))=false) L2.auto2._auto_1):PE X (.Name x pos) (tC v):=
 fun _ _ _ H _ I h=>mO I hg hm ⟨v,H,I,r,h⟩ hd
theorem Hr {x:Str} {v:V} {u:Value} {pos:Pos} (hg:Gl X x) (hm:X.mg x=none) (hv:bootBuiltins x=some u) (r:RelV v u) (hn:autoParam (x≠"__name__") L2.auto2._auto_1) (hd:autoParam ((x == ("__debug__":Str))=false) L2.auto2._auto_1):PE X (.Name x pos) (tC v):=
 fun _ _ _ H _ I h=>iD I hg hm hv ⟨v,H,I,r,h⟩ hn hd
variable {a b:Expr} {ta tb:TE} {pos:Pos}
def tB (t:TE):TT:=fun σ H Q=>t σ H fun x H1=>∃ c,x= .bl c∧Q c H1
theorem Mm {e:Expr} {t:TE} (h:PE X e t) (he:autoParam (∀ whole,isTrue e X.env whole=(do let v ← whole;standAt e.pos;holding [v] (truthy v))) L2.auto3._auto_1):PT X e (tB t):=by
 intro pins s σ H Q I hw
 refine isTrue_plain (cZ (h pins s σ H _ I hw) fun v s1 qq0=>?_) (he _)
 obtain ⟨x,H1,I1,r1,q1⟩:=qq0
 obtain ⟨d,rfl,q⟩:=q1
 cases r1
 exact wpAny_truthy_bool ⟨H1,I1,q⟩
variable {tA tB':TT} {rest:List Expr}
def Hs (t u:TT):TT:=fun σ H Q=>t σ H fun c H1=>if c=true then u σ H1 Q else Q false H1
def tOr (t u:TT):TT:=fun σ H Q=>t σ H fun c H1=>if c=true then Q true H1 else u σ H1 Q
def Mp (t:TT):TT:=fun σ H Q=>t σ H fun c H1=>Q (!c) H1
theorem Ht (ha:PT X a tA):PW X (.BoolOp .And [a] pos) tA:=by
 intro wh pins s σ H Q I h
 refine isTrue_and (cZ (ha pins s σ H Q I h) fun c s1 e=>?_)
 cases c with
 | true=>exact isTrue_and_nil e
 | false=>exact e
theorem Mq (ha:PT X a tA):PW X (.BoolOp .Or [a] pos) tA:=by
 intro wh pins s σ H Q I h
 refine isTrue_or (cZ (ha pins s σ H Q I h) fun c s1 e=>?_)
 cases c with
 | false=>exact isTrue_or_nil e
 | true=>exact e
theorem Mr (ha:PT X a tA) (hb:PW X (.BoolOp .And (b :: rest) pos) tB'):PW X (.BoolOp .And (a :: b :: rest) pos) (Hs tA tB'):=by
 intro wh pins s σ H Q I h
 refine isTrue_and (cZ (ha pins s σ H _ I h) fun c s1 qq0=>?_)
 obtain ⟨H1,I1,q1⟩:=qq0
 cases c with
 | true=>exact hb wh pins s1 σ H1 Q I1 q1
 | false=>exact ⟨H1,I1,q1⟩
theorem Rr (ha:PT X a tA) (hb:PW X (.BoolOp .Or (b :: rest) pos) tB'):PW X (.BoolOp .Or (a :: b :: rest) pos) (tOr tA tB'):=by
 intro wh pins s σ H Q I h
 refine isTrue_or (cZ (ha pins s σ H _ I h) fun c s1 qq0=>?_)
 obtain ⟨H1,I1,q1⟩:=qq0
 cases c with
 | true=>exact ⟨H1,I1,q1⟩
 | false=>exact hb wh pins s1 σ H1 Q I1 q1
theorem Ms (ha:PT X a tA):PT X (.UnaryOp .Not a pos) (Mp tA):=by
 intro pins s σ H Q I h
 exact isTrue_not (ha pins s σ H (fun c H1=>Q (!c) H1) I h)
def CG (ta tb:TE):TE:=fun σ H Q=>ta σ H fun x H1=>∃ c,x= .bl c∧if c=true then tb σ H1 Q else Q (.bl false) H1
def CJ (ta:TE):TE:=fun σ H Q=>ta σ H fun x H1=>∃ c,x= .bl c∧Q (.bl (!c)) H1
theorem Mt {op} {t:TE} (h:PE X a t):PE X (.BoolOp op [a] pos) t:=fun pins s σ H Q I hw=>BoolOp_one (h pins s σ H Q I hw)
theorem Mu (ha:PE X a ta) (hb:PE X (.BoolOp .And (b :: rest) pos) tb):PE X (.BoolOp .And (a :: b :: rest) pos) (CG ta tb):=by
 intro pins s σ H Q I h
 refine BoolOp_and (cZ (ha pins s σ H _ I h) fun v s1 qq0=>?_)
 obtain ⟨x,H1,I1,r1,q1⟩:=qq0
 obtain ⟨c,rfl,q1⟩:=q1
 cases r1
 refine wpAny_truthy_bool ?_
 cases c with
 | true=>exact hb pins s1 σ H1 Q I1 q1
 | false=>exact ⟨.bl false,H1,I1,rfl,q1⟩
theorem Mv (ha:PE X a ta):PE X (.UnaryOp .Not a pos) (CJ ta):=by
 intro pins s σ H Q I h
 refine UnaryOp_ (cZ (ha pins s σ H _ I h) fun v s1 qq0=>?_)
 obtain ⟨x,H1,I1,r1,q1⟩:=qq0
 obtain ⟨c,rfl,q1⟩:=q1
 cases r1
 exact not_of (wpAny_truthy_bool ⟨.bl (!c),H1,I1,rfl,q1⟩)
end
end L2
namespace L2
open PySem PySem.Spec PyProof.Rows
def SqL (K:PySem.W.Frag) (H:Hp) (a:Addr) (xs:List V):Prop:=
 Rd H a (.lst xs)∨
  ∃ (o:Obj) (its:Array Value) (n:Nat),K.lookup a=some o∧o.cls= .type "list"∧o.dict=none∧o.data= .seq its n∧its.size≤sizeLine∧Vals xs its.toList
def SqT (K:PySem.W.Frag) (H:Hp) (a:Addr) (xs:List V):Prop:=
 Rd H a (.tup xs)∨
  ∃ (o:Obj) (its:Array Value) (n:Nat),K.lookup a=some o∧o.cls= .type "tuple"∧o.data= .seq its n∧its.size≤sizeLine∧Vals xs its.toList
def absV:Value→Option V
 | .none=>some .non
 | .bool b=>some (.bl b)
 | .int i _=>some (.int i)
 | .str x _=>some (.str x)
 | .bytes b _=>some (.byt b)
 | .float b _=>some (.flt b)
 | .ref a=>some (.ref a)
 | .type n=>some (.ty n)
 | _=>none
theorem RelV.abs {x:V} {u:Value} (r:RelV x u):absV u=some x:=by
 cases x with
 | non=>cases r;rfl
 | bl _=>cases r;rfl
 | int _=>obtain ⟨t,rfl⟩:=r;rfl
 | str _=>obtain ⟨t,rfl⟩:=r;rfl
 | byt _=>obtain ⟨t,rfl⟩:=r;rfl
 | flt _=>obtain ⟨t,rfl⟩:=r;rfl
 | ref _=>cases r;rfl
 | ty _=>cases r;rfl
theorem RelV.inj {x y:V} {u:Value} (r:RelV x u) (q:RelV y u):x=y:=Option.some.inj (r.abs.symm.trans q.abs)
theorem Vals.inj:∀ {xs ys:List V} {us:List Value},Vals xs us→Vals ys us→xs=ys
 | _,_,_,.nil,.nil=>rfl
 | _,_,_,.cons r t,.cons r' t'=>by rw [r.inj r',Vals.inj t t']
section
variable {X:Cx} {pins:List (Addr×Obj)} {σ:St} {H:Hp} {s:Shared} {a:Addr} {xs ys:List V}
theorem SqL.of {K:PySem.W.Frag} (h:H a=some (.lst xs)):SqL K H a xs:=.inl (.inl h)
theorem SqT.of {K:PySem.W.Frag} (h:H a=some (.tup xs)):SqT K H a xs:=.inl (.inl h)
theorem Inv.list (I:Inv X pins σ H s) (h:SqL X.K H a xs):∃ its:List Value,Vals xs its∧PlainL s.heap a its.toArray∧xs.length≤sizeLine:=by
 rcases h with h | ⟨o,its,n,hk,hc,hd,hs,hz,r⟩
 ·obtain ⟨z,its,n,r,e⟩:=h.ok I.hok
  exact ⟨its,r,⟨_,n,e,rfl,rfl,rfl⟩,z⟩
 ·refine ⟨its.toList,r,⟨o,n,I.kIn a o hk,hc,hd,by simpa using hs⟩,?_⟩
  have e:=r.length
  simp only [Array.length_toList] at e
  omega
theorem Inv.tuple (I:Inv X pins σ H s) (h:SqT X.K H a xs):∃ its:List Value,Vals xs its∧IsTup s.heap a its.toArray∧xs.length≤sizeLine:=by
 rcases h with h | ⟨o,its,n,hk,hc,hs,hz,r⟩
 ·obtain ⟨z,its,r,p⟩:=h.ok I.hok
  exact ⟨its,r,p,z⟩
 ·refine ⟨its.toList,r,⟨o,I.kIn a o hk,hc,n,by simpa using hs⟩,?_⟩
  have e:=r.length
  simp only [Array.length_toList] at e
  omega
theorem Inv.list_inj (I:Inv X pins σ H s) (h:SqL X.K H a xs) (h':SqL X.K H a ys):xs=ys:=by
 obtain ⟨its,r,⟨o,n,e,_,_,d⟩,_⟩:=I.list h
 obtain ⟨its',r',⟨o',n',e',_,_,d'⟩,_⟩:=I.list h'
 rw [e] at e';cases e'
 rw [d] at d'
 injection d' with d1 _
 have:its=its':=by simpa using congrArg Array.toList d1
 subst this
 exact r.inj r'
theorem Inv.tuple_inj (I:Inv X pins σ H s) (h:SqT X.K H a xs) (h':SqT X.K H a ys):xs=ys:=by
 obtain ⟨its,r,⟨o,e,_,n,d⟩,_⟩:=I.tuple h
 obtain ⟨its',r',⟨o',e',_,n',d'⟩,_⟩:=I.tuple h'
 rw [e] at e';cases e'
 rw [d] at d'
 injection d' with d1 _
 have:its=its':=by simpa using congrArg Array.toList d1
 subst this
 exact r.inj r'
end
abbrev Cx.wish (X:Cx) (E:Value→Shared→Prop):Cx:={X with xe:=E}
abbrev Cx.nox (X:Cx):Cx:=X.wish fun _ _=>False
theorem Cx.Ok.wish {X:Cx} (ok:X.Ok) (E:Value→Shared→Prop):(X.wish E).Ok:=
 ⟨ok.mod,ok.kind,ok.glob,ok.blt,ok.above,ok.inj,ok.has,ok.cab,ok.hd,ok.frames,ok.stk,ok.exf,ok.bs,ok.bsz,ok.noex,ok.exfs,ok.funs,ok.frf⟩
theorem Cx.Ok.unwish {X:Cx} {E:Value→Shared→Prop} (ok:(X.wish E).Ok):X.Ok:=
 ⟨ok.mod,ok.kind,ok.glob,ok.blt,ok.above,ok.inj,ok.has,ok.cab,ok.hd,ok.frames,ok.stk,ok.exf,ok.bs,ok.bsz,ok.noex,ok.exfs,ok.funs,ok.frf⟩
section
variable {X:Cx} {pins:List (Addr×Obj)} {σ:St} {H:Hp} {s:Shared} {E:Value→Shared→Prop}
theorem Inv.wish (I:Inv X pins σ H s) (E:Value→Shared→Prop):Inv (X.wish E) pins σ H s:=⟨I.ok.wish E,I.os,I.bare,I.base,I.loc,I.cell,I.free,I.freeC,I.pin,I.hok,I.len⟩
theorem Inv.unwish (I:Inv (X.wish E) pins σ H s):Inv X pins σ H s:=⟨I.ok.unwish,I.os,I.bare,I.base,I.loc,I.cell,I.free,I.freeC,I.pin,I.hok,I.len⟩
theorem SP.unwish {D:Ends} {f:Flow} {s':Shared} (h:SP (X.wish E) pins D f s'):SP X pins D f s':=by
 cases f with
 | next=>obtain ⟨σ',H',I,q⟩:=h;exact ⟨σ',H',I.unwish,q⟩
 | brk=>obtain ⟨σ',H',I,q⟩:=h;exact ⟨σ',H',I.unwish,q⟩
 | cont=>obtain ⟨σ',H',I,q⟩:=h;exact ⟨σ',H',I.unwish,q⟩
 | ret u=>obtain ⟨v,σ',H',I,r,q⟩:=h;exact ⟨v,σ',H',I.unwish,r,q⟩
theorem PSs.nox {st:List Stmt} {t:TS} (h:PSs X.nox st t):PSs X st t:=fun pins s σ H D I hw=>
 wpAny_mono (h pins s σ H D (I.wish _) hw) (fun _ _ q=>q.unwish) fun _ _ z=>False.elim z
end
section
variable {X:Cx} {st:Stmt} {rest:List Stmt} {t u:TS} {e:Expr} {te:TE} {pos:Pos}
def CK:TS:=fun D σ H=>D.nx σ H
def Al (t u:TS):TS:=fun D σ H=>t {D with nx:=u D} σ H
theorem Hu:PSs X [] CK:=fun _ _ σ H _ I h=>wpAny_execs_nil ⟨σ,H,I,h⟩
theorem CN (h1:PS X st t) (h2:PSs X rest u):PSs X (st :: rest) (Al t u):=by
 intro pins s σ H D I h
 refine wpAny_execs_cons (cZ (h1 pins s σ H {D with nx:=u D} I h) fun f s1 q=>?_)
 cases f with
 | next=>
  obtain ⟨σ',H',I',q⟩:=q
  exact h2 pins s1 σ' H' D I' q
 | ret v=>exact q
 | brk=>exact q
 | cont=>exact q
theorem Hv (h1:PS X st t):PSs X [st] t:=by
 intro pins s σ H D I h
 refine wpAny_execs_cons (cZ (h1 pins s σ H D I h) fun f s1 q=>?_)
 cases f with
 | next=>exact wpAny_execs_nil q
 | ret v=>exact q
 | brk=>exact q
 | cont=>exact q
theorem Inv.quiet {pins:List (Addr×Obj)} {σ:St} {H:Hp} {s:Shared} (I:Inv X pins σ H s):interactive X.env=false:=by simp [interactive,I.ok.kind]
def yQ (te:TE):TS:=fun D σ H=>te σ H fun _ H1=>D.nx σ H1
theorem Hw (he:PE X e te) (hs:autoParam (swapsWith e none pos.line X.env=pure false) L2.auto4._auto_1):PS X (.Expr e pos) (yQ te):=by
 intro pins s σ H D I h
 exact wpAny_Expr_any (cZ (he pins s σ H _ I h) fun v s1 ⟨x,H1,I1,r1,q1⟩=>⟨σ,H1,I1,q1⟩) I.quiet hs
def Mw (te:TE):TS:=fun D σ H=>te σ H D.rt
theorem Mx (he:PE X e te):PS X (.Return (some e) pos) (Mw te):=by
 intro pins s σ H D I h
 exact wpAny_Return_some (cZ (he pins s σ H _ I h) fun v s1 ⟨x,H1,I1,r1,q1⟩=>⟨x,σ,H1,I1,r1,q1⟩)
def Mz (c:TT) (t u:TS):TS:=fun D σ H=>c σ H fun b H1=>if b=true then t D σ H1 else u D σ H1
theorem Rt {c:Expr} {a b:List Stmt} {tc:TT} (hc:PT X c tc) (ha:PSs X a t) (hb:PSs X b u):PS X (.If c a b pos) (Mz tc t u):=by
 intro pins s σ H D I h
 refine wpAny_If (cZ (hc pins s σ H _ I h) fun d s1 qq0=>?_)
 obtain ⟨H1,I1,q1⟩:=qq0
 cases d with
 | true=>exact ha pins s1 σ H1 D I1 q1
 | false=>exact hb pins s1 σ H1 D I1 q1
end
abbrev TG:=V→St→Hp→(St→Hp→Prop)→Prop
abbrev w5:=List V→St→Hp→(St→Hp→Prop)→Prop
def PG (X:Cx) (target:Expr) (t:TG):Prop:=
 ∀ (pins:List (Addr×Obj)) (s:Shared) (σ:St) (H:Hp) (v:V) (u:Value) (Q:St→Hp→Prop),Inv X pins σ H s→RelV v u→t v σ H Q→
  wpAny (model X.prog X.w) X.A (assign target X.env u) (fun _ s'=>∃ σ' H',Inv X pins σ' H' s'∧Q σ' H') X.xe s
def Rc (X:Cx) (ts:List Expr) (t:w5):Prop:=
 ∀ (pins:List (Addr×Obj)) (s:Shared) (σ:St) (H:Hp) (vs:List V) (us:List Value) (Q:St→Hp→Prop),Inv X pins σ H s→Vals vs us→t vs σ H Q→
  wpAny (model X.prog X.w) X.A (assignInOrder ((assignEach ts X.env).map (·.2)) us) (fun _ s'=>∃ σ' H',Inv X pins σ' H' s'∧Q σ' H') X.xe s
abbrev Am:=V→V→V→Hp→(Hp→Prop)→Prop
def MF (X:Cx) (t:Am):Prop:=
 ∀ (pins:List (Addr×Obj)) (s:Shared) (σ:St) (H:Hp) (o i v:V) (ov iv u:Value) (Q:Hp→Prop),Inv X pins σ H s→RelV o ov→RelV i iv→RelV v u→t o i v H Q→
  wpAny (model X.prog X.w) X.A (setItem ov iv u) (fun _ s'=>∃ H',Inv X pins σ H' s'∧Q H') X.xe s
section
variable {X:Cx} {pos:Pos}
def lF (i:Nat):TG:=fun v σ H Q=>Q (σ.set i (some v)) H
theorem yR {i:Nat} {x:Str} (hN:X.N.Nodup) (hi:X.N[i]?=some x) (hx:Loc X.env.scope x) (hf:autoParam (X.fn x=true∨X.env.scope.names.lookup x=some .local) L2.auto1._auto_1):PG X (.Name x pos) (lF i):=by
 intro pins s σ H v u Q I r h
 exact wpAny_assign_Name (vG I hN hi hx r (fun s' I'=>⟨_,H,I',h⟩) hf)
def MJ:w5:=fun vs σ H Q=>vs=[]∧Q σ H
def CP (t:TG) (u:w5):w5:=fun vs σ H Q=>∃ v r,vs=v :: r∧t v σ H fun σ' H'=>u r σ' H' Q
theorem Hx:Rc X [] MJ:=by
 intro pins s σ H vs us Q I r h
 obtain ⟨e,h⟩:=h
 subst e
 cases r
 exact assignInOrder_nil ⟨σ,H,I,h⟩
theorem CQ {e:Expr} {es:List Expr} {t:TG} {u:w5} (h1:PG X e t) (h2:Rc X es u)
  (hs:autoParam ((assignEach (e :: es) X.env).map (·.2)=assign e X.env :: (assignEach es X.env).map (·.2)) L2.auto4._auto_1):Rc X (e :: es) (CP t u):=by
 intro pins s σ H vs us Q I r h
 obtain ⟨v,vr,e1,h⟩:=h
 subst e1
 cases r with
 | cons r rr=>
  rw [hs]
  refine assignInOrder_cons (cZ (h1 pins s σ H _ _ _ I r h) fun _ s1 qq0=>?_)
  obtain ⟨σ1,H1,I1,q1⟩:=qq0
  exact h2 pins s1 σ1 H1 _ _ Q I1 rr q1
def Hy (K:PySem.W.Frag) (n:Nat) (t:w5):TG:=fun v σ H Q=>∃ a xs,v= .ref a∧SqT K H a xs∧xs.length=n∧t xs σ H Q
theorem CT {es:List Expr} {k:Nat} {t:w5} {n:Nat} (hc:X.calm=true) (h:Rc X es t)
  (hn:autoParam ((assignEach es X.env).length=n) L2.auto4._auto_1) (hst:autoParam ((assignEach es X.env).findIdx? (·.1)=none) L2.auto4._auto_1):PG X (.Tuple es k pos) (Hy X.K n t):=by
 intro pins s σ H v u Q I r hw
 obtain ⟨a,xs,e1,hq,hl,hw⟩:=hw
 subst e1
 cases r
 obtain ⟨its,rv,ht,hz⟩:=I.tuple hq
 refine assign_Tuple_tuple (I.ok.hd hc) ht (by simp [hn,← hl,rv.length]) hst fun h' hx=>?_
 have I1:Inv X pins σ H {s with heap:=h'}:=I.kept (t':=s.toks) fun b o e=>hx b o (Nat.ne_of_lt (Heap.lt_size e)) e
 exact h pins _ σ H xs _ Q I1 (by simpa using rv) hw
def MK (to ti:TE) (t:Am):TG:=fun v σ H Q=>to σ H fun o H1=>ti σ H1 fun i H2=>t o i v H2 fun H3=>Q σ H3
theorem MN {o i:Expr} {to ti:TE} {t:Am} (ho:PE X o to) (hi:PE X i ti) (hs:MF X t)
  (ha:∀ v,assign (.Subscript o i pos) X.env v=(do
   let ov ← holding [v] (eval o X.env)
   let iv ← holding [v,ov] (eval i X.env)
   standAt pos
   holding [v,ov,iv] (setItem ov iv v)
   release [v,ov,iv] []):=by intro _;rfl):PG X (.Subscript o i pos) (MK to ti t):=by
 intro pins s σ H v u Q I r h
 rw [ha]
 refine wpAny_bind (wpAny_holding (cZ (ho pins s σ H _ I h) fun ov s1 qq0=>?_))
 obtain ⟨x,H1,I1,r1,q1⟩:=qq0
 refine wpAny_bind (wpAny_holding (cZ (hi pins s1 σ H1 _ I1 q1) fun iv s2 qq0=>?_))
 obtain ⟨y,H2,I2,r2,q2⟩:=qq0
 refine wpAny_bind (wpAny_standAt (wpAny_bind (wpAny_holding (cZ (hs pins s2 σ H2 x y v ov iv u _ I2 r1 r2 r q2) fun _ s3 qq0=>?_))))
 obtain ⟨H3,I3,q3⟩:=qq0
 exact wpAny_release ⟨σ,H3,I3,q3⟩
def uf (te:TE) (g:TG):TS:=fun D σ H=>te σ H fun x H1=>g x σ H1 D.nx
theorem CV {tg e:Expr} {te:TE} {g:TG} (he:PE X e te) (hg:PG X tg g) (hs:autoParam (swapsWithSole [tg] e pos.line X.env=pure false) L2.auto4._auto_1) (hw:autoParam (swappedStores [tg] e X.env=pure none) L2.auto4._auto_1)
  (h1:autoParam ((assignEach [tg] X.env).map (·.2)=[assign tg X.env]) L2.auto4._auto_1):PS X (.Assign [tg] e pos) (uf te g):=by
 intro pins s σ H D I h
 refine wpAny_Assign_stores (cZ (he pins s σ H _ I h) fun v s1 qq0=>?_) hs hw
 obtain ⟨x,H1,I1,r1,q1⟩:=qq0
 rw [h1]
 exact cZ (hg pins s1 σ H1 x v _ I1 r1 q1) fun _ s2 q=>q
theorem CW {i:Nat} {x:Str} {e:Expr} {te:TE} {pos':Pos} (hN:X.N.Nodup) (hi:X.N[i]?=some x) (hx:Loc X.env.scope x) (he:PE X e te) (hs:autoParam (swapsWith e (some (.Name x pos')) pos.line X.env=pure false) L2.auto4._auto_1) (hf:autoParam (X.fn x=true∨X.env.scope.names.lookup x=some .local) L2.auto1._auto_1):
  PS X (.Assign [.Name x pos'] e pos) (uf te (lF i)):=by
 intro pins s σ H D I h
 refine wpAny_Assign_Name (cZ (he pins s σ H _ I h) fun v s1 qq0=>?_) hs
 obtain ⟨y,H1,I1,r1,q1⟩:=qq0
 exact vG I1 hN hi hx r1 (fun s2 I2=>⟨_,H1,I2,q1⟩) hf
end
section
variable {X:Cx} {pos:Pos}
def xf (c:TT) (tb:TS):TS:=fun D σ H=>∃ W:Nat→St→Hp→Prop,(∃ m,W m σ H)∧∀ m σ H,W m σ H→
 c σ H fun b H1=>if b=true then ∃ N:St→Hp→Prop,(∀ σ' H',N σ' H'→∃ m',m' < m∧W m' σ' H')∧tb {D with nx:=N,ct:=N,bk:=D.nx} σ H1 else D.nx σ H1
theorem CZ {c:Expr} {body:List Stmt} {tc:TT} {tb:TS} (hp:PassesOwn (model X.prog X.w) X.A X.env X.xe) (hc:PT X c tc) (hb:PSs X body tb):PS X (.While c body [] pos) (xf tc tb):=by
 intro pins s σ H D I h
 obtain ⟨W,⟨m0,w0⟩,turn⟩:=h
 refine wpAny_While (codeAny_whileLoop (fun n s'=>∃ σ' H',Inv X pins σ' H' s'∧W n σ' H') ?_ m0 ⟨σ,H,I,w0⟩)
 rintro n s1 ⟨σ1,H1,I1,w1⟩
 refine wpAny_passesOwn hp (cZ (hc pins s1 σ1 H1 _ I1 (turn n σ1 H1 w1)) fun b s2 qq0=>?_)
 obtain ⟨H2,I2,q2⟩:=qq0
 cases b with
 | true=>
  obtain ⟨N,hN,q2⟩:=q2
  rw [if_pos rfl]
  refine wpAny_passesOwn hp (cZ (hb pins s2 σ1 H2 _ I2 q2) fun f s3 q3=>?_)
  cases f with
  | next=>
   obtain ⟨σ3,H3,I3,n3⟩:=q3
   obtain ⟨m',hm,w3⟩:=hN σ3 H3 n3
   exact ⟨m',hm,σ3,H3,I3,w3⟩
  | cont=>
   obtain ⟨σ3,H3,I3,n3⟩:=q3
   obtain ⟨m',hm,w3⟩:=hN σ3 H3 n3
   exact ⟨m',hm,σ3,H3,I3,w3⟩
  | brk=>exact q3
  | ret v=>exact q3
 | false=>
  rw [if_neg Bool.false_ne_true]
  exact wpAny_execs_nil ⟨σ1,H2,I2,q2⟩
end
structure It where
 go:Nat→Hp→Prop
 yld:Nat→Hp→V→Hp→Prop
 stop:Nat→Hp→Prop
def ik (X:Cx) (pins:List (Addr×Obj)) (H:Hp) (b:Addr):Prop:=
 H b=none∧b≠X.env.locals∧b ∉ X.fs∧(b∈X.ex∨X.s₀.heap.objs.size≤b)∧(∀ x c,X.env.cells.lookup x=some c→c≠b)∧∀ p∈X.pn ++ pins,p.1≠b
theorem Inv.fpOk {X:Cx} {pins:List (Addr×Obj)} {σ:St} {H H':Hp} {s:Shared} {b:Addr} (I:Inv X pins σ H s) (hb:s.heap.objs.size≤b) (hn:H' b=none):ik X pins H' b:=by
 refine ⟨hn,Nat.ne_of_gt (Nat.lt_of_lt_of_le I.lt hb),I.nofs hb,.inr (Nat.le_trans I.sz hb),fun x c e z=>?_,fun p hp z=>?_⟩
 ·obtain ⟨v,q⟩:=I.cell x c e
  exact absurd (Nat.lt_of_lt_of_le q.lt (by rw [z];exact hb)) (Nat.lt_irrefl _)
 ·exact absurd (Nat.lt_of_lt_of_le (Heap.lt_size (I.pin p hp).1) (by rw [z];exact hb)) (Nat.lt_irrefl _)
structure Turn (P:Program) (w:World) (K:PySem.W.Frag) (tg:Expr) (J:It) (fp:List Addr) (it:Addr) (tn:Nat→Heap→Prop):Prop where
 mem:it∈fp
 obj:∀ i h,tn i h→∀ b∈fp,∃ o,h.get? b=some o∧∀ v,o.data≠.cell v
 keep:∀ i h h',tn i h→(∀ b∈fp,∀ o,h.get? b=some o→h'.get? b=some o)→tn i h'
 item:∀ (X:Cx),X.prog=P→X.w=w→X.K=K→X.calm=true→∀ (i:Nat) (pins:List (Addr×Obj)) (s:Shared) (σ:St) (H:Hp) (E:Value→Shared→Prop),Inv X pins σ H s→(∀ b∈fp,ik X pins H b)→tn i s.heap→J.go i H→
  wpAny (model P w) X.A (pyNext (.ref it)) (fun r s1=>∃ u,r=some u∧
   wpAny (model P w) X.A (letOwnedTupleGo tg (.ref it) u) (fun _ s2=>∃ x H',Inv X pins σ H' s2∧RelV x u∧J.yld i H x H'∧tn (i+1) s2.heap∧∀ b∈fp,H' b=none) E s1) E s
 done:∀ (X:Cx),X.prog=P→X.w=w→X.K=K→X.calm=true→∀ (i:Nat) (pins:List (Addr×Obj)) (s:Shared) (σ:St) (H:Hp) (E:Value→Shared→Prop),Inv X pins σ H s→(∀ b∈fp,ik X pins H b)→tn i s.heap→J.stop i H→
  wpAny (model P w) X.A (pyNext (.ref it)) (fun r s1=>r=none∧Inv X pins σ H s1) E s
 self:∀ (A:Around) (i:Nat) (s:Shared) (Q:Value→Shared→Prop) (E:Value→Shared→Prop),tn i s.heap→Q (.ref it) s→wpAny (model P w) A (pyIter (.ref it)) Q E s
abbrev TI:=St→Hp→(It→Hp→Prop)→Prop
def PIE (X:Cx) (pins:List (Addr×Obj)) (σ:St) (tg:Expr) (R:It→Hp→Prop) (itv:Value) (s2:Shared):Prop:=
 ∃ (it:Addr) (fp:List Addr) (tn:Nat→Heap→Prop) (J:It) (H':Hp),itv= .ref it∧Inv X pins σ H' s2∧Turn X.prog X.w X.K tg J fp it tn∧tn 0 s2.heap∧(∀ b∈fp,ik X pins H' b)∧R J H'
def PI (X:Cx) (tg iter:Expr) (wi:TI):Prop:=
 ∀ (pins:List (Addr×Obj)) (s:Shared) (σ:St) (H:Hp) (R:It→Hp→Prop),Inv X pins σ H s→wi σ H R→
  wpAny (model X.prog X.w) X.A (eval iter X.env) (fun v s1=>wpAny (model X.prog X.w) X.A (pyIter v) (PIE X pins σ tg R) X.xe s1) X.xe s
theorem yS {M:Model} {A:Around} {E:Value→Shared→Prop} {s:Shared} {tg:Expr} {it:Addr} {u:Value} {o:Obj} {n:String} {vs:Array Value} {Q:Unit→Shared→Prop} (ho:s.heap.get? it=some o) (hc:o.cls= .type n) (hd:o.data= .fields vs)
  (hn:["enumerate","zip","dict_itemiterator","dict_reverseitemiterator","odict_iterator","itertools.zip_longest","itertools.pairwise"].contains n=false) (hQ:Q () s):wpAny M A (letOwnedTupleGo tg (.ref it) u) Q E s:=by
 unfold letOwnedTupleGo
 cases tg <;> first
  | exact wpAny_pure hQ
  | (cases u <;> first
    | exact wpAny_pure hQ
    | (refine wpAny_bind (wpAny_load ho ?_)
       rw [hc,hd]
       show wpAny M A (if (["enumerate","zip","dict_itemiterator","dict_reverseitemiterator","odict_iterator","itertools.zip_longest","itertools.pairwise"].contains n && vs[0]? == some (rawInt _))=true then _ else _) Q E s
       rw [if_neg (by intro h;rw [hn,Bool.false_and] at h;cases h)]
       exact wpAny_pure hQ))
def La (K:PySem.W.Frag) (a:Addr):It:=
 ⟨fun i H=>∃ xs x,SqL K H a xs∧xs[i]?=some x,fun i H x H'=>H'=H∧∀ xs,SqL K H a xs→xs[i]?=some x,fun i H=>∃ xs,SqL K H a xs∧xs.length≤i⟩
def Itt (K:PySem.W.Frag) (a:Addr):It:=
 ⟨fun i H=>∃ xs x,SqT K H a xs∧xs[i]?=some x,fun i H x H'=>H'=H∧∀ xs,SqT K H a xs→xs[i]?=some x,fun i H=>∃ xs,SqT K H a xs∧xs.length≤i⟩
def Lb (lo:Int) (n:Nat):It:=⟨fun i _=>i < n,fun i H x H'=>H'=H∧x= .int (lo+i),fun i _=>n≤i⟩
theorem An {P:Program} {w:World} {K:PySem.W.Frag} {tg:Expr} (a it:Addr):Turn P w K tg (La K a) [it] it (fun i h=>h.IsListIter it a i) where
 mem:=by simp
 obj:=fun i h st b hb=>by
  have e:b=it:=by simpa using hb
  subst e
  obtain ⟨o,e,c,d⟩:=st
  exact ⟨o,e,fun v z=>by rw [d] at z;cases z⟩
 keep:=fun i h h' st k=>st.at fun o e=>k it (by simp) o e
 item:=by
  intro X hP hw hK hc i pins s σ H E I hf st hg
  subst hP hw hK
  obtain ⟨xs,x,hq,hx⟩:=hg
  obtain ⟨its,rv,p,hz⟩:=I.list hq
  obtain ⟨u,hu,ru⟩:=rv.get hx
  obtain ⟨f0,f1,f2,f3,f4,f5⟩:=hf it (by simp)
  refine wpAny_pyNext_list_item st p.isList (x:=u) (by simpa using hu) fun h' st' sb=>?_
  have I1:Inv X pins σ H {s with heap:=h'}:=I.turned (t':=s.toks) (fun b o hb e=>(sb.2 b hb).trans e) f0 f1 f3 f4 f5
  obtain ⟨o,e,c,d⟩:=id st'
  exact ⟨u,rfl,yS (s:={s with heap:=h'}) e c d (by decide) ⟨x,H,I1,ru,⟨rfl,fun ys hy=>by rw [I.list_inj hy hq];exact hx⟩,st',fun b hb=>(hf b hb).1⟩⟩
 done:=by
  intro X hP hw hK hc i pins s σ H E I hf st hg
  subst hP hw hK
  obtain ⟨xs,hq,hx⟩:=hg
  obtain ⟨its,rv,p,hz⟩:=I.list hq
  obtain ⟨f0,f1,f2,f3,f4,f5⟩:=hf it (by simp)
  have hl:=rv.length
  exact wpAny_pyNext_list_end (I.ok.hd hc) st p.isList (by simp;omega) fun h' eb=>⟨rfl,I.turned (t':=s.toks) (fun b o hb e=>eb b o hb e) f0 f1 f3 f4 f5⟩
 self:=fun _ _ _ _ _ st h=>wpAny_pyIter_listiter st h
theorem xg {P:Program} {w:World} {K:PySem.W.Frag} {tg:Expr} (a it:Addr):Turn P w K tg (Itt K a) [it] it (fun i h=>h.IsTupleIter it a i) where
 mem:=by simp
 obj:=fun i h st b hb=>by
  have e:b=it:=by simpa using hb
  subst e
  obtain ⟨o,e,c,d⟩:=st
  exact ⟨o,e,fun v z=>by rw [d] at z;cases z⟩
 keep:=fun i h h' st k=>st.at fun o e=>k it (by simp) o e
 item:=by
  intro X hP hw hK hc i pins s σ H E I hf st hg
  subst hP hw hK
  obtain ⟨xs,x,hq,hx⟩:=hg
  obtain ⟨its,rv,p,hz⟩:=I.tuple hq
  obtain ⟨u,hu,ru⟩:=rv.get hx
  obtain ⟨f0,f1,f2,f3,f4,f5⟩:=hf it (by simp)
  refine wpAny_pyNext_tuple_item st (show s.heap.IsTuple a its.toArray from p) (x:=u) (by simpa using hu) fun h' st' sb=>?_
  have I1:Inv X pins σ H {s with heap:=h'}:=I.turned (t':=s.toks) (fun b o hb e=>(sb.2 b hb).trans e) f0 f1 f3 f4 f5
  obtain ⟨o,e,c,d⟩:=id st'
  exact ⟨u,rfl,yS (s:={s with heap:=h'}) e c d (by decide) ⟨x,H,I1,ru,⟨rfl,fun ys hy=>by rw [I.tuple_inj hy hq];exact hx⟩,st',fun b hb=>(hf b hb).1⟩⟩
 done:=by
  intro X hP hw hK hc i pins s σ H E I hf st hg
  subst hP hw hK
  obtain ⟨xs,hq,hx⟩:=hg
  obtain ⟨its,rv,p,hz⟩:=I.tuple hq
  obtain ⟨f0,f1,f2,f3,f4,f5⟩:=hf it (by simp)
  have hl:=rv.length
  exact wpAny_pyNext_tuple_end (I.ok.hd hc) st (show s.heap.IsTuple a its.toArray from p) (by simp;omega) fun h' eb=>⟨rfl,I.turned (t':=s.toks) (fun b o hb e=>eb b o hb e) f0 f1 f3 f4 f5⟩
 self:=fun _ _ _ _ _ st h=>wpAny_pyIter_tupleiter st h
theorem xj {P:Program} {w:World} {K:PySem.W.Frag} {tg:Expr} (it:Addr) (lo:Int) (n:Nat):Turn P w K tg (Lb lo n) [it] it (fun i h=>IsRangeIter h it (lo+(i:Nat)*1) ((n:Int) - (i:Nat)) 1) where
 mem:=by simp
 obj:=fun i h st b hb=>by
  have e:b=it:=by simpa using hb
  subst e
  exact ⟨_,st,fun v z=>by
   have z':Data.fields _=Data.cell v:=z
   cases z'⟩
 keep:=fun i h h' st k=>k it (by simp) _ st
 item:=by
  intro X hP hw hK hc i pins s σ H E I hf st hg
  subst hP hw hK
  obtain ⟨f0,f1,f2,f3,f4,f5⟩:=hf it (by simp)
  have W:=Walks.range (prog:=X.prog) (w:=X.w) (I.ok.hd hc) it lo 1 n
  refine W.item i s _ _ hg st fun v h' tk hv st' kk=>?_
  obtain ⟨t,rfl⟩:=hv
  have I1:Inv X pins σ H {s with heap:=h',toks:=tk}:=I.turned (fun b o hb e=>kk b o (by simpa using hb) e) f0 f1 f3 f4 f5
  refine ⟨_,rfl,yS (s:={s with heap:=h',toks:=tk}) (n:="range_iterator") st' rfl rfl (by decide) ⟨.int (lo+i),H,I1,⟨t,?_⟩,⟨rfl,rfl⟩,st',fun b hb=>(hf b hb).1⟩⟩
  rw [Int.mul_one]
 done:=by
  intro X hP hw hK hc i pins s σ H E I hf st hg
  subst hP hw hK
  obtain ⟨f0,f1,f2,f3,f4,f5⟩:=hf it (by simp)
  exact wpAny_pyNext_range_end (I.ok.hd hc) st (by have:n≤i:=hg;omega) fun h' eb=>⟨rfl,I.turned (t':=s.toks) (fun b o hb e=>eb b o hb e) f0 f1 f3 f4 f5⟩
 self:=fun _ _ _ _ _ st h=>wpAny_pyIter_rangeiter st h
end L2
namespace L2
open PySem PySem.Spec PyProof.Rows
section
variable {X:Cx} {tg:Expr}
theorem Dc {pins:List (Addr×Obj)} {σ:St} {H:Hp} {s:Shared} {R:It→Hp→Prop} {E:Value→Shared→Prop} {lo hi:Int} {t u v:Tok} {tk:Nat} (I:Inv X pins σ H s) (h1: -(2 ^ 62)≤lo) (h2:lo < 2 ^ 62) (h3: -(2 ^ 62)≤hi) (h4:hi < 2 ^ 62)
  (q:R (Lb lo (hi - lo).toNat) H):wpAny (model X.prog X.w) X.A (pyIter (.ref s.heap.objs.size)) (PIE X pins σ tg R) E {s with heap:=s.heap.push {cls:=.type "range",data:=.fields #[.int lo t,.int hi u,.int 1 v]},toks:=tk}:=by
 refine wpAny_pyIter_range (IsRange.new ..) (small_one h1 h2 h3 h4) ?_
 have I1:Inv X pins σ H {s with heap:=s.heap.push {cls:=.type "range",data:=.fields #[.int lo t,.int hi u,.int 1 v]},toks:=tk}:=I.kept fun b o e=>Heap.get?_push_of_some _ e
 refine ⟨(s.heap.push {cls:=.type "range",data:=.fields #[.int lo t,.int hi u,.int 1 v]}).objs.size,[(s.heap.push {cls:=.type "range",data:=.fields #[.int lo t,.int hi u,.int 1 v]}).objs.size],_,_,H,rfl,
  I1.kept (t':=tk) fun b o e=>Heap.get?_push_of_some _ e,xj _ lo (hi - lo).toNat,?_,fun b hb=>?_,q⟩
 ·have e1:lo+((0:Nat):Int)*1=lo:=by simp
  have e2:(((hi - lo).toNat:Nat):Int) - ((0:Nat):Int)=Builtin.Range.rangeSize lo hi 1:=by rw [rangeSize_one];split <;> omega
  show IsRangeIter _ _ (lo+((0:Nat):Int)*1) ((((hi - lo).toNat:Nat):Int) - ((0:Nat):Int)) 1
  rw [e1,e2]
  exact Heap.get?_push_size _ rfl
 ·have e:b=(s.heap.push {cls:=.type "range",data:=.fields #[.int lo t,.int hi u,.int 1 v]}).objs.size:=by simpa using hb
  subst e
  exact I1.fpOk (Nat.le_refl _) (I1.hok.fresh (Nat.le_refl _))
def Dd (ta:TA):TI:=fun σ H R=>ta σ H fun vs H1=>∃ j:Int,vs=[.int j]∧-(2 ^ 62)≤j∧j < 2 ^ 62∧R (Lb 0 j.toNat) H1
theorem Ao {a:Expr} {ta:TA} {p pos:Pos} (hg:Gl X "range") (hm:X.mg "range"=none) (ha:PA X [a] ta) (hs:autoParam (starEach [a] X.env=[(false,eval a X.env)]) L2.auto4._auto_1):PI X tg (.Call (.Name "range" p) [a] [] pos) (Dd ta):=by
 intro pins s σ H R I h
 refine Call_ (iD I hg hm boot_range (PyProof.Rows.callWith_type1 (cZ (ha pos pins s σ H _ I h) fun us s1 ⟨vs,H1,I1,r1,q1⟩=>?_) hs rfl))
 obtain ⟨j,e,q1,q2,q⟩:=q1
 subst e
 cases r1 with
 | cons r rr=>
  cases rr
  obtain ⟨t,rfl⟩:=r
  exact call_range_1 (Dc I1 (by omega) (by omega) q1 q2 (by simpa using q))
def Hz (wi:TI) (g:TG) (tb:TS):TS:=fun D σ H=>wi σ H fun J H1=>∃ W:Nat→Nat→St→Hp→Prop,(∃ m,W 0 m σ H1)∧∀ i m σ H,W i m σ H→
 (J.stop i H∧D.nx σ H)∨(J.go i H∧∃ N:St→Hp→Prop,(∀ σ' H',N σ' H'→∃ m',m' < m∧W (i+1) m' σ' H')∧∀ x H',J.yld i H x H'→g x σ H' fun σ2 H2=>tb {D with nx:=N,ct:=N,bk:=D.nx} σ2 H2)
def nP (fp:List Addr) (h:Heap):List (Addr×Obj):=fp.filterMap fun b=>(h.get? b).map fun o=>(b,o)
theorem jD {fp:List Addr} {h:Heap} {b:Addr} {o:Obj} (hb:b∈fp) (e:h.get? b=some o):(b,o)∈nP fp h:=List.mem_filterMap.mpr ⟨b,hb,by rw [e];rfl⟩
theorem Aq {fp:List Addr} {h:Heap} {p:Addr×Obj} (hp:p∈nP fp h):p.1∈fp∧h.get? p.1=some p.2:=by
 obtain ⟨b,hb,e⟩:=List.mem_filterMap.mp hp
 cases q:h.get? b with
 | none=>rw [q] at e;cases e
 | some o=>
  rw [q] at e
  have e':(b,o)=p:=Option.some.inj e
  subst e'
  exact ⟨hb,q⟩
theorem Inv.pinned {pins:List (Addr×Obj)} {σ:St} {H:Hp} {s:Shared} {fp:List Addr} (I:Inv X pins σ H s) (hf:∀ b∈fp,ik X pins H b) (ho:∀ b∈fp,∃ o,s.heap.get? b=some o∧∀ v,o.data≠.cell v):Inv X (pins ++ nP fp s.heap) σ H s:=
 I.pins_of fun p hp=>(List.mem_append.mp hp).elim (fun z=>I.pin p (List.mem_append_right _ z)) fun z=>by
  obtain ⟨hb,e⟩:=Aq z
  obtain ⟨f0,f1,f2,_⟩:=hf p.1 hb
  obtain ⟨o,e',d⟩:=ho p.1 hb
  rw [e] at e';cases e'
  exact ⟨e,f0,f1,f2,d⟩
theorem Inv.unpinned {pins pl:List (Addr×Obj)} {σ:St} {H:Hp} {s:Shared} (I:Inv X (pins ++ pl) σ H s):Inv X pins σ H s:=I.pins_of fun p hp=>I.pin p (List.mem_append_right _ (List.mem_append_left _ hp))
theorem MP {iter:Expr} {body:List Stmt} {wi:TI} {g:TG} {tb:TS} {pos:Pos} (hp:PassesOwn (model X.prog X.w) X.A X.env X.xe) (hc:X.calm=true) (hi:PI X tg iter wi) (hg:PG X tg g) (hb:PSs X body tb)
  (hs:autoParam (∀ x,foldedSetIterable iter X.env x=pure x) L2.auto3._auto_1):PS X (.For tg iter body [] pos) (Hz wi g tb):=by
 intro pins s σ H D I h
 refine wpAny_For (cZ (hi pins s σ H _ I h) fun v s1 h1=>cZ h1 fun itv s2 h2=>?_) hs
 obtain ⟨it,fp,tn,J,H2,e,I2,T,st2,f2,W,⟨m0,w0⟩,turn⟩:=h2
 subst e
 have stat:∀ {H':Hp},(∀ b∈fp,H' b=none)→∀ b∈fp,ik X pins H' b:=fun hn b hb=>⟨hn b hb,(f2 b hb).2⟩
 refine codeAny_forLoop_any (fun n s'=>∃ i σ' H',Inv X pins σ' H' s'∧tn i s'.heap∧(∀ b∈fp,H' b=none)∧W i n σ' H') ?_ m0 ⟨0,σ,H2,I2,st2,fun b hb=>(f2 b hb).1,w0⟩
 rintro n s3 ⟨i,σ3,H3,I3,st3,fr3,w3⟩
 rcases turn i n σ3 H3 w3 with ⟨stop,qn⟩ | ⟨go,N,hN,step⟩
 ·refine wpAny_passesOwn hp (cZ (T.done X rfl rfl rfl hc i pins s3 σ3 H3 X.xe I3 (stat fr3) st3 stop) fun r s4 qq0=>?_)
  obtain ⟨hr,I4⟩:=qq0
  subst hr
  exact wpAny_execs_nil ⟨σ3,H3,I4,qn⟩
 ·refine wpAny_passesOwn hp (cZ (T.item X rfl rfl rfl hc i pins s3 σ3 H3 X.xe I3 (stat fr3) st3 go) fun r s4 qq0=>?_)
  obtain ⟨u,hr,h4⟩:=qq0
  subst hr
  refine wpAny_passesOwn hp (cZ h4 fun _ s5 qq0=>?_)
  obtain ⟨x,H5,I5,r5,y5,st5,fr5⟩:=qq0
  have I5':=I5.pinned (stat fr5) (T.obj _ _ st5)
  refine wpAny_passesOwn hp (cZ (hg _ s5 σ3 H5 x u _ I5' r5 (step x H5 y5)) fun _ s6 qq0=>?_)
  obtain ⟨σ6,H6,I6,q6⟩:=qq0
  refine wpAny_passesOwn hp (cZ (hb _ s6 σ6 H6 _ I6 q6) fun f s7 q7=>?_)
  have again:∀ {σ7:St} {H7:Hp},Inv X (pins ++ nP fp s5.heap) σ7 H7 s7→N σ7 H7→∃ m,m < n∧∃ i σ' H',Inv X pins σ' H' s7∧tn i s7.heap∧(∀ b∈fp,H' b=none)∧W i m σ' H':=fun {σ7 H7} I7 n7=>by
   obtain ⟨m',hm,w7⟩:=hN σ7 H7 n7
   refine ⟨m',hm,i+1,σ7,H7,I7.unpinned,T.keep _ _ _ st5 fun b hb o e=>(I7.pin (b,o) (List.mem_append_right _ (List.mem_append_right _ (jD hb e)))).1,fun b hb=>?_,w7⟩
   obtain ⟨o,e,d⟩:=T.obj _ _ st5 b hb
   exact (I7.pin (b,o) (List.mem_append_right _ (List.mem_append_right _ (jD hb e)))).2.1
  cases f with
  | next=>obtain ⟨σ7,H7,I7,n7⟩:=q7;exact again I7 n7
  | cont=>obtain ⟨σ7,H7,I7,n7⟩:=q7;exact again I7 n7
  | brk=>obtain ⟨σ7,H7,I7,q7⟩:=q7;exact ⟨σ7,H7,I7.unpinned,q7⟩
  | ret v=>obtain ⟨x7,σ7,H7,I7,r7,q7⟩:=q7;exact ⟨x7,σ7,H7,I7.unpinned,r7,q7⟩
end
theorem ju {K:PySem.W.Frag} {a:Addr} {xs:List V} {g:TG} {tb:TS} {D:Ends} {σ:St} {H:Hp} (Pv:Nat→St→Hp→Prop) (h0:Pv 0 σ H) (hl:∀ i σ H,i≤xs.length→Pv i σ H→SqL K H a xs)
  (hs:∀ i x σ H,xs[i]?=some x→Pv i σ H→g x σ H fun σ2 H2=>tb {D with nx:=Pv (i+1),ct:=Pv (i+1),bk:=D.nx} σ2 H2) (hd:∀ σ H,Pv xs.length σ H→D.nx σ H):
  ∃ W:Nat→Nat→St→Hp→Prop,(∃ m,W 0 m σ H)∧∀ i m σ H,W i m σ H→
   ((La K a).stop i H∧D.nx σ H)∨((La K a).go i H∧∃ N:St→Hp→Prop,(∀ σ' H',N σ' H'→∃ m',m' < m∧W (i+1) m' σ' H')∧∀ x H',(La K a).yld i H x H'→g x σ H' fun σ2 H2=>tb {D with nx:=N,ct:=N,bk:=D.nx} σ2 H2):=by
 refine ⟨fun i m σ H=>m=xs.length - i∧i≤xs.length∧Pv i σ H,⟨xs.length,by simp,Nat.zero_le _,h0⟩,?_⟩
 rintro i m σ H ⟨rfl,hi,p⟩
 have q:=hl i σ H hi p
 by_cases hlt:i < xs.length
 ·refine .inr ⟨⟨xs,xs[i],q,by simp [hlt]⟩,Pv (i+1),fun σ' H' p'=>⟨xs.length - (i+1),by omega,rfl,hlt,p'⟩,fun x H' y=>?_⟩
  obtain ⟨e,y⟩:=y
  subst e
  exact hs i x σ _ (y xs q) p
 ·have e:i=xs.length:=by omega
  subst e
  exact .inl ⟨⟨xs,q,Nat.le_refl _⟩,hd σ H p⟩
theorem cV {lo:Int} {n:Nat} {g:TG} {tb:TS} {D:Ends} {σ:St} {H:Hp} (Pv:Nat→St→Hp→Prop) (h0:Pv 0 σ H)
  (hs:∀ i σ H,i < n→Pv i σ H→g (.int (lo+i)) σ H fun σ2 H2=>tb {D with nx:=Pv (i+1),ct:=Pv (i+1),bk:=D.nx} σ2 H2) (hd:∀ σ H,Pv n σ H→D.nx σ H):
  ∃ W:Nat→Nat→St→Hp→Prop,(∃ m,W 0 m σ H)∧∀ i m σ H,W i m σ H→
   ((Lb lo n).stop i H∧D.nx σ H)∨((Lb lo n).go i H∧∃ N:St→Hp→Prop,(∀ σ' H',N σ' H'→∃ m',m' < m∧W (i+1) m' σ' H')∧∀ x H',(Lb lo n).yld i H x H'→g x σ H' fun σ2 H2=>tb {D with nx:=N,ct:=N,bk:=D.nx} σ2 H2):=by
 refine ⟨fun i m σ H=>m=n - i∧i≤n∧Pv i σ H,⟨n,by simp,Nat.zero_le _,h0⟩,?_⟩
 rintro i m σ H ⟨rfl,hi,p⟩
 by_cases hlt:i < n
 ·refine .inr ⟨hlt,Pv (i+1),fun σ' H' p'=>⟨n - (i+1),by omega,rfl,hlt,p'⟩,fun x H' y=>?_⟩
  obtain ⟨e,y⟩:=y
  subst e y
  exact hs i σ _ hlt p
 ·have e:i=n:=by omega
  subst e
  exact .inl ⟨Nat.le_refl _,hd σ H p⟩
theorem De {c:TT} {tb:TS} {D:Ends} {σ:St} {H:Hp} (Pv:St→Hp→Prop) (μ:St→Hp→Nat) (h0:Pv σ H)
  (hs:∀ σ H,Pv σ H→c σ H fun b H1=>if b=true then tb {D with nx:=fun σ' H'=>Pv σ' H'∧μ σ' H' < μ σ H,ct:=fun σ' H'=>Pv σ' H'∧μ σ' H' < μ σ H,bk:=D.nx} σ H1 else D.nx σ H1)
  (mono:∀ σ H Q Q',(∀ b H1,Q b H1→Q' b H1)→c σ H Q→c σ H Q'):xf c tb D σ H:=by
 refine ⟨fun m σ H=>m=μ σ H∧Pv σ H,⟨_,rfl,h0⟩,?_⟩
 rintro m σ H ⟨rfl,p⟩
 refine mono σ H _ _ (fun b H1 q=>?_) (hs σ H p)
 cases b with
 | true=>exact ⟨_,fun σ' H' ⟨p',l⟩=>⟨_,l,rfl,p'⟩,q⟩
 | false=>exact q
end L2
namespace L2
open PySem PySem.Spec PyProof.Rows
abbrev R2:=V→V→Hp→VK→Prop
def OpR (X:Cx) (f:Value→Value→Sem Value) (r:R2):Prop:=
 ∀ (pins:List (Addr×Obj)) (s:Shared) (σ:St) (H:Hp) (x y:V) (v u:Value) (Q:VK),Inv X pins σ H s→RelV x v→RelV y u→r x y H Q→
  wpAny (model X.prog X.w) X.A (f v u) (EP X pins σ Q) X.xe s
def CallR (X:Cx) (f:Value) (r:List V→Hp→VK→Prop):Prop:=
 ∀ (pins:List (Addr×Obj)) (s:Shared) (σ:St) (H:Hp) (xs:List V) (us:List Value) (Q:VK),Inv X pins σ H s→Vals xs us→r xs H Q→
  wpAny (model X.prog X.w) X.A (call f us) (EP X pins σ Q) X.xe s
def Df (r:R2) (ta tb:TE):TE:=fun σ H Q=>ta σ H fun x H1=>tb σ H1 fun y H2=>r x y H2 Q
def rI (C:Int→Int→Prop) (g:Int→Int→V):R2:=fun x y H Q=>∃ i j,x= .int i∧y= .int j∧C i j∧Q (g i j) H
def Hk (g:Int→Int→V):R2:=fun x y H Q=>∃ i j,x= .int i∧y= .int j∧Q (g i j) H
section
variable {X:Cx} {a b c:Expr} {ta tb tc:TE} {pos:Pos}
theorem M5 (ha:PE X a ta) (hb:PE X b tb) {pins:List (Addr×Obj)} {s:Shared} {σ:St} {H:Hp} {R:V→V→Hp→Prop} (I:Inv X pins σ H s)
  (h:ta σ H fun x H1=>tb σ H1 fun y H2=>R x y H2) {Q:Value→Shared→Prop} {f:Value→Value→Sem Value}
  (hf:∀ v u s2 x y H2,Inv X pins σ H2 s2→RelV x v→RelV y u→R x y H2→wpAny (model X.prog X.w) X.A (f v u) Q X.xe s2):
  wpAny (model X.prog X.w) X.A (eval a X.env) (fun v s₁=>wpAny (model X.prog X.w) X.A (eval b X.env) (fun u s₂=>wpAny (model X.prog X.w) X.A (f v u) Q X.xe s₂) X.xe s₁) X.xe s:=by
 refine cZ (ha pins s σ H _ I h) fun v s1 qq0=>?_
 obtain ⟨x,H1,I1,r1,q1⟩:=qq0
 refine cZ (hb pins s1 σ H1 _ I1 q1) fun u s2 qq0=>?_
 obtain ⟨y,H2,I2,r2,q2⟩:=qq0
 exact hf v u s2 x y H2 I2 r1 r2 q2
theorem Ru {op:Operator} {r:R2} (ho:OpR X (binaryOp op) r) (ha:PE X a ta) (hb:PE X b tb):PE X (.BinOp a op b pos) (Df r ta tb):=by
 intro pins s σ H Q I h
 exact wpAny_BinOp (M5 ha hb I h fun v u s2 x y H2 I2 rx ry q=>ho pins s2 σ H2 x y v u Q I2 rx ry q)
theorem Rv {f:Value→Value→Sem Value} {C:Int→Int→Prop} {g:Int→Int→Int}
  (rule:∀ (i j:Int) (t u:Tok) (s:Shared) (Q:Value→Shared→Prop) (E:Value→Shared→Prop),C i j→Q (.int (g i j) s.toks) {s with toks:=s.toks+1}→wpAny (model X.prog X.w) X.A (f (.int i t) (.int j u)) Q E s):
  OpR X f (rI C fun i j=>.int (g i j)):=by
 intro pins s σ H x y v u Q I rx ry h
 obtain ⟨i,j,rfl,rfl,hc,q⟩:=h
 obtain ⟨t,rfl⟩:=rx
 obtain ⟨t',rfl⟩:=ry
 exact rule i j t t' s _ _ hc ⟨.int (g i j),H,I.tok _,⟨_,rfl⟩,q⟩
theorem Rw {f:Value→Value→Sem Value} {g:Int→Int→Int}
  (rule:∀ (i j:Int) (t u:Tok) (s:Shared) (Q:Value→Shared→Prop) (E:Value→Shared→Prop),Q (.int (g i j) s.toks) {s with toks:=s.toks+1}→wpAny (model X.prog X.w) X.A (f (.int i t) (.int j u)) Q E s):
  OpR X f (Hk fun i j=>.int (g i j)):=by
 intro pins s σ H x y v u Q I rx ry h
 obtain ⟨i,j,rfl,rfl,q⟩:=h
 obtain ⟨t,rfl⟩:=rx
 obtain ⟨t',rfl⟩:=ry
 exact rule i j t t' s _ _ ⟨.int (g i j),H,I.tok _,⟨_,rfl⟩,q⟩
theorem HD {f:Value→Value→Sem Value} {g:Int→Int→Bool}
  (rule:∀ (i j:Int) (t u:Tok) (s:Shared) (Q:Value→Shared→Prop) (E:Value→Shared→Prop),Q (.bool (g i j)) s→wpAny (model X.prog X.w) X.A (f (.int i t) (.int j u)) Q E s):
  OpR X f (Hk fun i j=>.bl (g i j)):=by
 intro pins s σ H x y v u Q I rx ry h
 obtain ⟨i,j,rfl,rfl,q⟩:=h
 obtain ⟨t,rfl⟩:=rx
 obtain ⟨t',rfl⟩:=ry
 exact rule i j t t' s _ _ ⟨.bl (g i j),H,I,rfl,q⟩
def CDiv (i j:Int):Prop:=0 < j∧j < 1073741824
def CPow (i j:Int):Prop:=0≤j∧j≤1000000∧i.natAbs < 2 ^ 64
def CMul (i j:Int):Prop:=(-(2 ^ 64) < i∧i < 2 ^ 64)∨(-(2 ^ 64) < j∧j < 2 ^ 64)
theorem CMul.ok {i j:Int} (h:CMul i j):IntMulOk i j:=by
 rcases h with ⟨h1,h2⟩ | ⟨h1,h2⟩
 ·exact .of_left (intBits_le_64 h1 h2)
 ·exact .of_right (intBits_le_64 h1 h2)
theorem M6:OpR X (binaryOp .Add) (Hk fun i j=>.int (i+j)):=Rw fun _ _ _ _ _ _ _ q=>add_int q
theorem fH:OpR X (binaryOp .Sub) (Hk fun i j=>.int (i - j)):=Rw fun _ _ _ _ _ _ _ q=>sub_int q
theorem M9:OpR X (binaryOp .Mult) (rI CMul fun i j=>.int (i*j)):=Rv fun _ _ _ _ _ _ _ hc q=>mul_int q hc.ok
theorem yU:OpR X (binaryOp .FloorDiv) (rI CDiv fun i j=>.int (i / j)):=Rv fun i j _ _ _ _ _ hc q=>by
 have h1:(0:Int) < j:=hc.1
 have h2:j < 1073741824:=hc.2
 exact floordiv_int (by omega) (by rw [Int.fdiv_eq_ediv_of_nonneg i (by omega)];exact q) (.inl (PyProof.noPylong_small (by omega)))
theorem cP:OpR X (binaryOp .Mod) (rI (fun _ j=>0 < j) fun i j=>.int (i % j)):=Rv fun i j _ _ _ _ _ hc q=>by
 have h1:(0:Int) < j:=hc
 exact mod_int' (by omega) (by rw [Int.fmod_eq_emod_of_nonneg i (by omega)];exact q)
theorem Nb:OpR X (binaryOp .Pow) (rI CPow fun i j=>.int (i ^ j.toNat)):=Rv fun _ _ _ _ _ _ _ hc q=>pow_int_small hc.1 hc.2.1 hc.2.2 q
end
def Rx:V→V→Bool
 | .non,.non=>true | .non,.int _=>true | .int _,.non=>true | .non,.bl _=>true | .bl _,.non=>true | .non,.str _=>true | .str _,.non=>true
 | .int _,.int _=>true | .bl _,.bl _=>true | .str _,.str _=>true | .byt _,.byt _=>true
 | .int _,.str _=>true | .str _,.int _=>true | .bl _,.str _=>true | .str _,.bl _=>true
 | _,_=>false
def rEq:R2:=fun x y H Q=>Rx x y=true∧Q (.bl (decide (x=y))) H
def rNe:R2:=fun x y H Q=>Rx x y=true∧Q (.bl (!decide (x=y))) H
theorem yV {i j:Int}:decide (V.int i=V.int j)=(i == j):=by
 rw [Bool.eq_iff_iff]
 simp
theorem Dg {i j:Bool}:decide (V.bl i=V.bl j)=(i == j):=by
 rw [Bool.eq_iff_iff]
 simp
theorem yW {i j:Str}:decide (V.str i=V.str j)=(i == j):=by
 rw [Bool.eq_iff_iff]
 simp
theorem yX {i j:Array UInt8}:decide (V.byt i=V.byt j)=(i.toList == j.toList):=by
 rw [Bool.eq_iff_iff]
 cases i
 cases j
 simp
section
variable {X:Cx} {a b c:Expr} {ta tb tc:TE} {pos:Pos}
theorem bw {pins:List (Addr×Obj)} {σ:St} {H:Hp} {s:Shared} {Q:VK} {k k':Bool} (I:Inv X pins σ H s) (q:Q (.bl k) H) (e:k=k'):EP X pins σ Q (.bool k') s:=by
 subst e
 exact ⟨.bl k,H,I,rfl,q⟩
theorem Ry:OpR X (compareOp .Eq) rEq:=by
 intro pins s σ H x y v u Q I rx ry h
 obtain ⟨hs,q⟩:=h
 cases x with
 | non=>
  cases rx
  cases y with
  | non=>cases ry;exact PySem.EqNone.eq_none_none (bw I q (by simp))
  | bl j=>cases ry;exact PySem.EqNone.eq_none_bool (bw I q (by simp))
  | int j=>obtain ⟨t',rfl⟩:=ry;exact PySem.EqNone.eq_none_int (bw I q (by simp))
  | str j=>obtain ⟨t',rfl⟩:=ry;exact PySem.EqNone.eq_none_str (bw I q (by simp))
  | _=>exact absurd (show false=true from hs) Bool.false_ne_true
 | bl i=>
  cases rx
  cases y with
  | non=>cases ry;exact PySem.EqNone.eq_bool_none (bw I q (by simp))
  | bl j=>cases ry;exact eq_bool (bw I q Dg)
  | str j=>obtain ⟨t',rfl⟩:=ry;exact PySem.EqMixed.eq_bool_str (bw I q (by simp))
  | _=>exact absurd (show false=true from hs) Bool.false_ne_true
 | int i=>
  obtain ⟨t,rfl⟩:=rx
  cases y with
  | non=>cases ry;exact PySem.EqNone.eq_int_none (bw I q (by simp))
  | int j=>obtain ⟨t',rfl⟩:=ry;exact eq_int (bw I q yV)
  | str j=>obtain ⟨t',rfl⟩:=ry;exact PySem.EqMixed.eq_int_str (bw I q (by simp))
  | _=>exact absurd (show false=true from hs) Bool.false_ne_true
 | str i=>
  obtain ⟨t,rfl⟩:=rx
  cases y with
  | non=>cases ry;exact PySem.EqNone.eq_str_none (bw I q (by simp))
  | bl j=>cases ry;exact PySem.EqMixed.eq_str_bool (bw I q (by simp))
  | int j=>obtain ⟨t',rfl⟩:=ry;exact PySem.EqMixed.eq_str_int (bw I q (by simp))
  | str j=>obtain ⟨t',rfl⟩:=ry;exact eq_str (bw I q yW)
  | _=>exact absurd (show false=true from hs) Bool.false_ne_true
 | byt i=>
  obtain ⟨t,rfl⟩:=rx
  cases y with
  | byt j=>obtain ⟨t',rfl⟩:=ry;exact PySem.W.eq_bytes (bw I q yX)
  | _=>exact absurd (show false=true from hs) Bool.false_ne_true
 | _=>cases y <;> exact absurd (show false=true from hs) Bool.false_ne_true
theorem Rz:OpR X (compareOp .NotEq) rNe:=by
 intro pins s σ H x y v u Q I rx ry h
 obtain ⟨hs,q⟩:=h
 cases x with
 | non=>
  cases rx
  cases y with
  | non=>cases ry;exact PySem.EqNone.ne_none_none (bw I q (by simp))
  | bl j=>cases ry;exact PySem.EqNone.ne_none_bool (bw I q (by simp))
  | int j=>obtain ⟨t',rfl⟩:=ry;exact PySem.EqNone.ne_none_int (bw I q (by simp))
  | str j=>obtain ⟨t',rfl⟩:=ry;exact PySem.EqNone.ne_none_str (bw I q (by simp))
  | _=>exact absurd (show false=true from hs) Bool.false_ne_true
 | bl i=>
  cases rx
  cases y with
  | non=>cases ry;exact PySem.EqNone.ne_bool_none (bw I q (by simp))
  | bl j=>cases ry;exact ne_bool (bw I q (congrArg not Dg))
  | str j=>obtain ⟨t',rfl⟩:=ry;exact PySem.EqMixed.ne_bool_str (bw I q (by simp))
  | _=>exact absurd (show false=true from hs) Bool.false_ne_true
 | int i=>
  obtain ⟨t,rfl⟩:=rx
  cases y with
  | non=>cases ry;exact PySem.EqNone.ne_int_none (bw I q (by simp))
  | int j=>obtain ⟨t',rfl⟩:=ry;exact ne_int (bw I q (congrArg not yV))
  | str j=>obtain ⟨t',rfl⟩:=ry;exact PySem.EqMixed.ne_int_str (bw I q (by simp))
  | _=>exact absurd (show false=true from hs) Bool.false_ne_true
 | str i=>
  obtain ⟨t,rfl⟩:=rx
  cases y with
  | non=>cases ry;exact PySem.EqNone.ne_str_none (bw I q (by simp))
  | bl j=>cases ry;exact PySem.EqMixed.ne_str_bool (bw I q (by simp))
  | int j=>obtain ⟨t',rfl⟩:=ry;exact PySem.EqMixed.ne_str_int (bw I q (by simp))
  | str j=>obtain ⟨t',rfl⟩:=ry;exact ne_str (bw I q (congrArg not yW))
  | _=>exact absurd (show false=true from hs) Bool.false_ne_true
 | byt i=>
  obtain ⟨t,rfl⟩:=rx
  cases y with
  | byt j=>obtain ⟨t',rfl⟩:=ry;exact PySem.W.ne_bytes (bw I q (congrArg not yX))
  | _=>exact absurd (show false=true from hs) Bool.false_ne_true
 | _=>cases y <;> exact absurd (show false=true from hs) Bool.false_ne_true
theorem yZ:OpR X (compareOp .Lt) (Hk fun i j=>.bl (decide (i < j))):=HD fun _ _ _ _ _ _ _ q=>lt_int q
theorem Ld:OpR X (compareOp .LtE) (Hk fun i j=>.bl (decide (i≤j))):=HD fun _ _ _ _ _ _ _ q=>le_int q
theorem za:OpR X (compareOp .Gt) (Hk fun i j=>.bl (decide (j < i))):=HD fun _ _ _ _ _ _ _ q=>gt_int q
theorem RC:OpR X (compareOp .GtE) (Hk fun i j=>.bl (decide (j≤i))):=HD fun _ _ _ _ _ _ _ q=>ge_int q
theorem Ar:OpR X (compareOp .In) (fun x y H Q=>∃ i j,x= .str i∧y= .str j∧Q (.bl (!(Builtin.Str.occurrences j i 0 j.length 1).isEmpty)) H):=by
 intro pins s σ H x y v u Q I rx ry h
 obtain ⟨i,j,rfl,rfl,q⟩:=h
 obtain ⟨t,rfl⟩:=rx
 obtain ⟨t',rfl⟩:=ry
 exact in_str (bw I q rfl)
theorem Nf:OpR X (compareOp .Is) (fun x y H Q=>y= .non∧Q (.bl (decide (x= .non))) H):=by
 intro pins s σ H x y v u Q I rx ry h
 obtain ⟨rfl,q⟩:=h
 cases ry
 refine is_none_gen (bw I q ?_)
 cases x <;> first
  | (cases rx;rfl)
  | (obtain ⟨t,rfl⟩:=rx;rfl)
theorem HF:OpR X (compareOp .IsNot) (fun x y H Q=>y= .non∧Q (.bl (!decide (x= .non))) H):=by
 intro pins s σ H x y v u Q I rx ry h
 obtain ⟨rfl,q⟩:=h
 cases ry
 refine isnot_none_gen (bw I q ?_)
 cases x <;> first
  | (cases rx;rfl)
  | (obtain ⟨t,rfl⟩:=rx;rfl)
theorem OpR.or {f:Value→Value→Sem Value} {r r':R2} (h:OpR X f r) (h':OpR X f r'):OpR X f (fun x y H Q=>r x y H Q∨r' x y H Q):=by
 intro pins s σ H x y v u Q I rx ry q
 rcases q with q | q
 ·exact h pins s σ H x y v u Q I rx ry q
 ·exact h' pins s σ H x y v u Q I rx ry q
theorem aL (b:Expr) {op:CmpOp} (h:autoParam (op≠.In) L2.auto2._auto_1) (h2:autoParam (op≠.NotIn) L2.auto2._auto_1):behindInMarks op b=false:=by
 have e1:(op == CmpOp.In)=false:=by cases op <;> first | rfl | exact absurd rfl h
 have e2:(op == CmpOp.NotIn)=false:=by cases op <;> first | rfl | exact absurd rfl h2
 cases b <;> simp [behindInMarks,e1,e2]
theorem HH {op:CmpOp} {r:R2} (ho:OpR X (compareOp op) r) (ha:PE X a ta) (hb:PE X b tb) (hm:behindInMarks op b=false):PE X (.Compare a [op] [b] pos) (Df r ta tb):=by
 intro pins s σ H Q I h
 exact wpAny_Compare1 (M5 ha hb I h fun v u s2 x y H2 I2 rx ry q=>ho pins s2 σ H2 x y v u Q I2 rx ry q) hm
def zb (t:TE):TT:=fun σ H Q=>t σ H fun x H'=>∃ k,x= .bl k∧Q k H'
theorem HJ {op:CmpOp} {r:R2} (ho:OpR X (compareOp op) r) (ha:PE X a ta) (hb:PE X b tb) (hm:behindInMarks op b=false):PT X (.Compare a [op] [b] pos) (zb (Df r ta tb)):=by
 intro pins s σ H Q I h
 refine wpAny_isTrue_Compare1 (cZ (ha pins s σ H _ I h) fun v s1 ⟨x,H1,I1,r1,q1⟩=>cZ (hb pins s1 σ H1 _ I1 q1) fun u s2 ⟨y,H2,I2,r2,q2⟩=>
  cZ (ho pins s2 σ H2 x y v u _ I2 r1 r2 q2) fun c s3 ⟨z,H3,I3,r3,k,e,q3⟩=>?_) hm
 subst e
 cases r3
 exact wpAny_truthy_bool ⟨H3,I3,q3⟩
def xm (r r':R2) (ta tb tc:TE):TE:=fun σ H Q=>ta σ H fun x H1=>tb σ H1 fun y H2=>r x y H2 fun z H3=>∃ k,z= .bl k∧
 (if k=true then tc σ H3 fun w' H4=>r' y w' H4 Q else Q (.bl false) H3)
theorem Dh {op op':CmpOp} {r r':R2} (ho:OpR X (compareOp op) r) (ho':OpR X (compareOp op') r') (ha:PE X a ta) (hb:PE X b tb) (hc:PE X c tc)
  (hm:autoParam (lastMarks [op,op'] [b,c]=false) L2.auto5._auto_1):PE X (.Compare a [op,op'] [b,c] pos) (xm r r' ta tb tc):=by
 intro pins s σ H Q I h
 refine Compare_chain (cZ (ha pins s σ H _ I h) fun v s1 ⟨x,H1,I1,r1,q1⟩=>chain_link (cZ (hb pins s1 σ H1 _ I1 q1) fun u s2 ⟨y,H2,I2,r2,q2⟩=>
  cZ (ho pins s2 σ H2 x y v u _ I2 r1 r2 q2) fun d s3 ⟨z,H3,I3,r3,k,e,q3⟩=>?_)) hm
 subst e
 cases r3
 refine wpAny_truthy_bool ?_
 cases k with
 | false=>exact ite_ff ⟨.bl false,H3,I3,rfl,q3⟩
 | true=>exact ite_tt (chain_last (cZ (hc pins s3 σ H3 _ I3 q3) fun w' s4 ⟨z',H4,I4,r4,q4⟩=>ho' pins s4 σ H4 y z' u w' Q I4 r2 r4 q4))
theorem p8:(sizeLine:Nat) < 2 ^ 63:=by rw [sizeLine_eq];decide
theorem xn:OpR X (binaryOp .Add) (fun x y H Q=>∃ i j,x= .str i∧y= .str j∧i.length+j.length≤sizeLine∧Q (.str (i ++ j)) H):=by
 intro pins s σ H x y v u Q I rx ry h
 obtain ⟨i,j,rfl,rfl,hz,q⟩:=h
 obtain ⟨t,rfl⟩:=rx
 obtain ⟨t',rfl⟩:=ry
 exact add_str (fun t' tk=>⟨.str (i ++ j),H,I.tok _,⟨_,rfl⟩,q⟩) hz
theorem vals1 {x:V} {us:List Value} (r:Vals [x] us):∃ u,us=[u]∧RelV x u:=by
 cases r with
 | cons r1 r2=>cases r2;exact ⟨_,rfl,r1⟩
theorem vals2 {x y:V} {us:List Value} (r:Vals [x,y] us):∃ u w',us=[u,w']∧RelV x u∧RelV y w':=by
 cases r with
 | cons r1 r2=>
  cases r2 with
  | cons r3 r4=>cases r4;exact ⟨_,_,rfl,r1,r3⟩
theorem sI (hc:X.calm=true):CallR X (.builtin "max") (fun xs H Q=>∃ i j,xs=[.int i,.int j]∧Q (.int (if j > i then j else i)) H):=by
 intro pins s σ H xs us Q I r h
 obtain ⟨i,j,rfl,q⟩:=h
 obtain ⟨u,w',rfl,⟨t,rfl⟩,⟨t',rfl⟩⟩:=vals2 r
 refine max_two_ints (I.ok.hd hc) fun h' tk k=>⟨_,H,I.kept k,?_,q⟩
 by_cases hj:j > i
 ·rw [if_pos hj,if_pos hj];exact ⟨_,rfl⟩
 ·rw [if_neg hj,if_neg hj];exact ⟨_,rfl⟩
theorem Av (hc:X.calm=true):CallR X (.builtin "min") (fun xs H Q=>∃ i j,xs=[.int i,.int j]∧Q (.int (if j < i then j else i)) H):=by
 intro pins s σ H xs us Q I r h
 obtain ⟨i,j,rfl,q⟩:=h
 obtain ⟨u,w',rfl,⟨t,rfl⟩,⟨t',rfl⟩⟩:=vals2 r
 refine min_two_ints (I.ok.hd hc) fun h' tk k=>⟨_,H,I.kept k,?_,q⟩
 by_cases hj:j < i
 ·rw [if_pos hj,if_pos hj];exact ⟨_,rfl⟩
 ·rw [if_neg hj,if_neg hj];exact ⟨_,rfl⟩
def RD (K:PySem.W.Frag) (x:V) (H:Hp) (n:Nat):Prop:=
 match x with
 | .str y=>y.length≤sizeLine∧n=y.length
 | .byt y=>y.size≤sizeLine∧n=y.size
 | .ref p=>(∃ xs,SqL K H p xs∧n=xs.length)∨∃ xs,SqT K H p xs∧n=xs.length
 | _=>False
theorem Di:CallR X (.builtin "len") (fun xs H Q=>∃ x n,xs=[x]∧RD X.K x H n∧Q (.int n) H):=by
 intro pins s σ H xs us Q I r h
 obtain ⟨x,n,rfl,e,q⟩:=h
 obtain ⟨u,rfl,rx⟩:=vals1 r
 have hl:=p8
 have hs:sizeLine=16777216:=sizeLine_eq
 cases x with
 | str y=>
  obtain ⟨t,rfl⟩:=rx
  obtain ⟨hy,e'⟩:y.length≤sizeLine∧n=y.length:=e
  subst e'
  exact len_str (by omega) ⟨.int _,H,I.tok _,⟨_,rfl⟩,q⟩
 | byt y=>
  obtain ⟨t,rfl⟩:=rx
  obtain ⟨hy,e'⟩:y.size≤sizeLine∧n=y.size:=e
  subst e'
  exact PySem.W.len_bytes (by omega) ⟨.int _,H,I.tok _,⟨_,rfl⟩,q⟩
 | ref p=>
  cases rx
  have e':(∃ xs,SqL X.K H p xs∧n=xs.length)∨∃ xs,SqT X.K H p xs∧n=xs.length:=e
  rcases e' with ⟨xs,hx,e'⟩ | ⟨xs,hx,e'⟩
  ·subst e'
   obtain ⟨its,r',pl,hz⟩:=I.list hx
   have hlen:=r'.length
   exact Calls.call_len_list pl.isList (by simp only [List.size_toArray];omega) ⟨.int xs.length,H,I.tok _,⟨_,by simp only [List.size_toArray];rw [hlen]⟩,q⟩
  ·subst e'
   obtain ⟨its,r',pl,hz⟩:=I.tuple hx
   have hlen:=r'.length
   exact len_tuple pl (by simp only [List.size_toArray];omega) ⟨.int xs.length,H,I.tok _,⟨_,by simp only [List.size_toArray];rw [hlen]⟩,q⟩
 | _=>exact (show False from e).elim
end
end L2
namespace L2
open PySem PySem.Spec PyProof.Rows
structure ObjM (h:Heap) (x dx C:Addr) (mA:Str→Option Value):Prop where
 obj:h.get? x=some (PySem.W.instObj C dx)
 ns:h.Ns1 dx mA
 ne:dx≠x
theorem Aw {h:Heap} {dx:Addr} {mA:Str→Option Value} (n:h.Ns1 dx mA):∃ od,h.get? dx=some od∧∀ name,PySem.W.lookIn name od=some (mA name):=by
 obtain ⟨o,es,ep,ho,hd,hk,_,hm⟩:=n
 refine ⟨o,ho,fun name=>?_⟩
 have e:=hm name
 unfold nsFind findBy at e
 rw [← Array.find?_toList] at e
 unfold PySem.W.lookIn
 rw [hd]
 dsimp only
 split
 ·rename_i y q
  rw [q] at e
  exact congrArg some e
 ·rename_i q
  rw [q] at e
  have a:es.toList.any (·.refKey)=false:=by
   rw [List.any_eq_false]
   intro y hy
   obtain ⟨z,t,hkey⟩:=hk y (Array.mem_toList_iff.mp hy)
   simp [DictEntry.refKey,hkey]
  have a':¬ es.toList.any (·.refKey)=true:=by rw [a];exact Bool.false_ne_true
  rw [if_neg a']
  exact congrArg some e
theorem ObjM.look {h:Heap} {x dx C:Addr} {mA:Str→Option Value} (I:ObjM h x dx C mA):∃ od,PySem.W.InstAt h x (PySem.W.instObj C dx) C (some od)∧∀ name,PySem.W.lookIn name od=some (mA name):=
 let ⟨od,ho,hl⟩:=Aw I.ns
 ⟨od,⟨I.obj,rfl,rfl,ho⟩,hl⟩
section
variable {prog:Program} {w:World} {A:Around} {E:Value→Shared→Prop} {s:Shared} {K:PySem.W.Frag} {x dx C f:Addr} {mA:Str→Option Value} {name:Str} {v:Value}
theorem HN {expr:Bool} {Q:Value→Shared→Prop} (X:K.In s.heap) (I:ObjM s.heap x dx C mA) (hg:PySem.W.plainGet K C name=true) (hh:PySem.W.hasDictIn K C=true)
  (ha:PySem.W.findIn K (.ref C) name=some none) (hv:mA name=some v) (hv':PySem.W.handedIn v=true) (h:Q v {s with toks:=s.toks+1}):
  wpAny (model prog w) A (getAttr (.ref x) name expr) Q E s:=by
 obtain ⟨od,J,hl⟩:=I.look
 exact PySem.W.get_value X J (PySem.W.plainGet_of hg).1 (PySem.W.findObj_own hh ha rfl (by rw [hl,hv])) hv' h
theorem Dj {pl:Sem Bool} {Q:Value×List Value→Shared→Prop} (X:K.In s.heap) (I:ObjM s.heap x dx C mA) (hg:PySem.W.plainGet K C name=true)
  (hf:PySem.W.findIn K (.ref C) name=some (some (.ref f))) (ht:PySem.W.isFn K (.ref f)=true) (hv:mA name=none) (h:Q (.ref f,[.ref x]) s):
  wpAny (model prog w) A (getMethod (.ref x) name pl) Q E s:=by
 obtain ⟨od,J,hl⟩:=I.look
 exact PySem.W.method_fn X J (PySem.W.plainGet_of hg).1 (PySem.W.plainGet_of hg).2 hf (beq_iff_eq.mp ht) (by show (PySem.W.lookIn name od).map (·.isSome)=some false;rw [hl,hv];rfl) h
theorem HQ {ns:List Str} {Q:Unit→Shared→Prop} (X:K.In s.heap) (I:ObjM s.heap x dx C mA)
  (hs:PySem.W.findIn K (.ref C) "__setattr__"=some (some (.builtin "object.__setattr__"))) (hp:PySem.W.plainOver K C=true) (ht:PySem.W.takerIn K C name=some none) (hh:PySem.W.hasDictIn K C=true)
  (hw:PySem.Within mA ns) (hsz:ns.length≤sizeLine)
  (h:∀ h',ObjM h' x dx C (fun y=>if y=name then some v else mA y)→Heap.SameBut dx s.heap h'→Q () {s with heap:=h',toks:=s.toks+2}):
  wpAny (model prog w) A (setAttr (.ref x) name v) Q E s:=by
 obtain ⟨od,J,hl⟩:=I.look
 refine PySem.W.set_plain X J hs (PySem.W.osa_open (s:={s with toks:=s.toks+1}) (r:=none) X J hp ht fun b=>?_)
 obtain ⟨cd,hc,hd'⟩:=PySem.W.any_some hh
 have hx:s.heap.get? x=some ⟨.ref C,some dx,.plain,#[]⟩:=I.obj
 refine wpAny_bind (wpAny_pure (wpAny_bind (wpAny_bind (wpAny_loadPart hx (wpAny_bind (PySem.W.Looks.here (s:={s with toks:=s.toks+1}) (PySem.W.looks_clsIn X hc) ?_))))))
 rw [hd']
 refine wpAny_pure (a:=some dx) (wpAny_bind (wpAny_pure (wpAny_bind ?_)))
 refine wpAny_nsSet1 (s:={s with toks:=s.toks+1}) I.ns fun h' hn2 hs2=>?_
 obtain ⟨oD,esD,epD,hoD,hdD,hcD⟩:=hn2.count (PySem.Within.cons name v hw)
 refine wpAny_bind (wpAny_lookBehind hoD (by rw [hdD];exact pastItsLine_dict (Nat.le_trans hcD (by rw [List.length_cons];omega))) ?_)
 exact wpAny_pure (h _ ⟨(hs2.2 _ (Ne.symm I.ne)).trans I.obj,hn2,I.ne⟩ hs2)
theorem Dk {R:Result→Shared→Prop} {vs:List Value} {kw:List (Str×Value)} (X:K.In s.heap) (hm:PySem.W.makesIn K C=true)
  (hi:PySem.W.findIn K (.ref C) "__init__"=some (some (.ref f))) (hf:PySem.W.typeIn K (.ref f)=some (.type "function"))
  (h:codeAny (model prog w) (A.under (.builtin "type.__call__" ⟨.ref C :: vs,kw⟩)) (.call (.ref f) ⟨.ref (s.heap.objs.size+1) :: vs,kw⟩) (PySem.W.InitBack (s.heap.objs.size+1) R)
   {s with heap:=(s.heap.push PySem.W.emptyDict).push (PySem.W.instObj C s.heap.objs.size)}):
  codeAny (model prog w) A (.call (.ref C) ⟨vs,kw⟩) R s:=by
 obtain ⟨hh,g,d,t,os⟩:=s
 exact PySem.W.make_core (PySem.W.makes_of X hm) (PySem.W.looks_findIn X hi) (fun self=>PySem.W.bind_fn X self hf) (.inl rfl) h
end
def iG (f:Str) (v:V):List (Str×V)→List (Str×V)
 | []=>[(f,v)]
 | (g,x) :: r=>if g=f then (g,v) :: r else (g,x) :: iG f v r
theorem jQ (f g:Str) (v:V):∀ fs:List (Str×V),(iG f v fs).lookup g=if g=f then some v else fs.lookup g
 | []=>by
  show List.lookup g [(f,v)]=_
  by_cases h:g=f
  ·have hb:(g == f)=true:=beq_iff_eq.mpr h
   simp only [List.lookup,hb,if_pos h]
  ·have hb:(g == f)=false:=beq_eq_false_iff_ne.mpr h
   simp only [List.lookup,hb,if_neg h]
 | (k,x) :: r=>by
  have ih:=jQ f g v r
  rw [show iG f v ((k,x) :: r)=(if k=f then (k,v) :: r else (k,x) :: iG f v r) from rfl]
  by_cases hk:k=f
  ·rw [if_pos hk]
   by_cases h:g=k
   ·have hb:(g == k)=true:=beq_iff_eq.mpr h
    simp only [List.lookup,hb,if_pos (h.trans hk)]
   ·have hb:(g == k)=false:=beq_eq_false_iff_ne.mpr h
    simp only [List.lookup,hb,if_neg (fun e:g=f=>h (e.trans hk.symm))]
  ·rw [if_neg hk]
   by_cases h:g=k
   ·have hb:(g == k)=true:=beq_iff_eq.mpr h
    simp only [List.lookup,hb,if_neg (fun e:g=f=>hk (h.symm.trans e))]
   ·have hb:(g == k)=false:=beq_eq_false_iff_ne.mpr h
    simp only [List.lookup,hb]
    exact ih
theorem nQ (f:Str) (v:V):∀ fs:List (Str×V),f∈(iG f v fs).map (·.1)∧∀ g,g∈fs.map (·.1)→g∈(iG f v fs).map (·.1)
 | []=>⟨by simp [iG],fun g h=>by simp at h⟩
 | (k,x) :: r=>by
  obtain ⟨i1,i2⟩:=nQ f v r
  rw [show iG f v ((k,x) :: r)=(if k=f then (k,v) :: r else (k,x) :: iG f v r) from rfl]
  by_cases hk:k=f
  ·rw [if_pos hk]
   subst hk
   exact ⟨by simp,fun g h=>by simpa using h⟩
  ·rw [if_neg hk]
   refine ⟨?_,fun g h=>?_⟩
   ·rw [List.map_cons]
    exact List.mem_cons_of_mem _ i1
   ·rw [List.map_cons] at h ⊢
    rcases List.mem_cons.mp h with e | e
    ·exact List.mem_cons.mpr (.inl e)
    ·exact List.mem_cons_of_mem _ (i2 g e)
theorem oV (f:Str) (v:V):∀ fs:List (Str×V),(iG f v fs).length≤fs.length+1
 | []=>by simp [iG]
 | (k,x) :: r=>by
  have ih:=oV f v r
  rw [show iG f v ((k,x) :: r)=(if k=f then (k,v) :: r else (k,x) :: iG f v r) from rfl]
  by_cases hk:k=f
  ·rw [if_pos hk,List.length_cons,List.length_cons];omega
  ·rw [if_neg hk,List.length_cons,List.length_cons];omega
theorem RelO.some_of {v:V} {o:Option Value} (r:RelO (some v) o):∃ u,o=some u∧RelV v u:=by
 cases o with
 | none=>exact (show False from r).elim
 | some u=>exact ⟨u,rfl,r⟩
theorem RelO.none_of {o:Option Value} (r:RelO none o):o=none:=by
 cases o with
 | none=>rfl
 | some u=>exact (show False from r).elim
theorem Ax {v:V} {u:Value} (r:RelV v u):PySem.W.handedIn u=true:=by
 cases v with
 | non=>cases (show u=Value.none from r);rfl
 | bl b=>cases (show u=Value.bool b from r);rfl
 | int i=>obtain ⟨t,e⟩:=(show ∃ t,u=Value.int i t from r);cases e;rfl
 | str x=>obtain ⟨t,e⟩:=(show ∃ t,u=Value.str x t from r);cases e;rfl
 | byt b=>obtain ⟨t,e⟩:=(show ∃ t,u=Value.bytes b t from r);cases e;rfl
 | flt b=>obtain ⟨t,e⟩:=(show ∃ t,u=Value.float b t from r);cases e;rfl
 | ref a=>cases (show u=Value.ref a from r);rfl
 | ty n=>cases (show u=Value.type n from r);rfl
section
variable {P:Program} {w:World} {H H':Hp} {h h':Heap} {a C dx:Addr} {fs fs':List (Str×V)}
theorem pL (hok:HOk P w H h) (e:H a=some (.ins C dx fs)):∃ mA,ObjM h a dx C mA∧(∀ f,RelO (fs.lookup f) (mA f))∧PySem.Within mA (fs.map (·.1))∧fs.length≤1000∧H dx=some (.own a):=by
 obtain ⟨d,z,ne,ob,mA,n,r,q⟩:=(show ObjOk P w H h a (.ins C dx fs) from hok a _ e)
 exact ⟨mA,⟨ob,n,ne⟩,r,q,z,d⟩
end
structure Cls (K:PySem.W.Frag) (C:Addr):Prop where
 pg:PySem.W.plainGet K C Str.empty=true
 hd:PySem.W.hasDictIn K C=true
 po:PySem.W.plainOver K C=true
 sa:PySem.W.findIn K (.ref C) "__setattr__"=some (some (.builtin "object.__setattr__"))
theorem Cls.get {K:PySem.W.Frag} {C:Addr} (c:Cls K C) (f:Str):PySem.W.plainGet K C f=true:=c.pg
def NoAttr (K:PySem.W.Frag) (C:Addr) (f:Str):Prop:=PySem.W.findIn K (.ref C) f=some none
theorem NoAttr.taker {K:PySem.W.Frag} {C:Addr} {f:Str} (n:NoAttr K C f):PySem.W.takerIn K C f=some none:=by
 unfold PySem.W.takerIn
 rw [show PySem.W.findIn K (.ref C) f=some none from n]
 rfl
structure Con (K:PySem.W.Frag) (C:Addr) (f:Str) (v:V) (u:Value):Prop where
 at_:PySem.W.findIn K (.ref C) f=some (some u)
 rel:RelV v u
 get:PySem.W.specialIn K u "__get__"=some none
 cp:PySem.W.copiedNames.contains f=false
structure Meth (K:PySem.W.Frag) (C:Addr) (m:Str) (f:Addr):Prop where
 at_:PySem.W.findIn K (.ref C) m=some (some (.ref f))
 fn:PySem.W.isFn K (.ref f)=true
 kp:PySem.W.keepIn K (.ref f)=true
section
variable {X:Cx} {pins:List (Addr×Obj)} {σ:St} {H:Hp} {s:Shared} {a C dx:Addr} {fs:List (Str×V)} {f:Str} {v:V} {A:Around} {E:Value→Shared→Prop}
theorem xq {b:Bool} {Q:Value→Shared→Prop} (I:Inv X pins σ H s) (e:H a=some (.ins C dx fs)) (c:Cls X.K C) (n:NoAttr X.K C f) (l:fs.lookup f=some v)
  (h:∀ u s',Inv X pins σ H s'→RelV v u→Q u s'):wpAny (model X.prog X.w) A (getAttr (.ref a) f b) Q E s:=by
 obtain ⟨mA,O,r,_,_,_⟩:=pL I.hok e
 obtain ⟨u,hu,ru⟩:=RelO.some_of (v:=v) (o:=mA f) (by rw [← l];exact r f)
 exact HN I.kIn O (c.get f) c.hd n hu (Ax ru) (h u _ (I.tok _) ru)
theorem qd {m:Str} {g:Addr} {pl:Sem Bool} {Q:Value×List Value→Shared→Prop} (I:Inv X pins σ H s) (e:H a=some (.ins C dx fs)) (c:Cls X.K C) (k:Meth X.K C m g) (l:fs.lookup m=none)
  (h:Q (.ref g,[.ref a]) s):wpAny (model X.prog X.w) A (getMethod (.ref a) m pl) Q E s:=by
 obtain ⟨mA,O,r,_,_,_⟩:=pL I.hok e
 have hn:mA m=none:=RelO.none_of (by rw [← l];exact r m)
 exact Dj I.kIn O (c.get m) k.at_ k.fn hn h
theorem xr {y:V} {u:Value} {Q:Unit→Shared→Prop} (I:Inv X pins σ H s) (e:H a=some (.ins C dx fs)) (c:Cls X.K C) (n:NoAttr X.K C f) (hl:fs.length < 1000) (ry:RelV y u)
  (h:∀ s',Inv X pins σ (upd H a (.ins C dx (iG f y fs))) s'→Q () s'):wpAny (model X.prog X.w) A (setAttr (.ref a) f u) Q E s:=by
 obtain ⟨mA,O,r,wi,_,ho⟩:=pL I.hok e
 have hz:(fs.map (·.1)).length≤sizeLine:=by rw [List.length_map,sizeLine_eq];omega
 refine HQ I.kIn O c.sa c.po n.taker c.hd wi hz fun h' O' sb=>h _ ?_
 have hd:∃ o,h'.get? dx=some o:=let ⟨o,_,_,e',_⟩:=O'.ns;⟨o,e'⟩
 refine I.write (x:=a) (e:=dx) (by rw [e];exact True.intro) (.inr ho) (fun b q hb z=>(sb.2 b hb).trans z) hd ?_
 refine ⟨by rw [az O.ne];exact ho,?_,O.ne,O'.obj,_,O'.ns,fun g=>?_,fun g hg=>?_⟩
 ·have:=oV f y fs;omega
 ·show RelO ((iG f y fs).lookup g) (if g=f then some u else mA g)
  rw [jQ]
  by_cases q:g=f
  ·rw [if_pos q,if_pos q];exact ry
  ·rw [if_neg q,if_neg q];exact r g
 ·by_cases q:g=f
  ·rw [q];exact (nQ f y fs).1
  ·refine (nQ f y fs).2 g (wi g fun z=>hg ?_)
   show (if g=f then some u else mA g)=none
   rw [if_neg q];exact z
theorem Inv.made (I:Inv X pins σ H s):Inv X pins σ (upd (upd H s.heap.objs.size (.own (s.heap.objs.size+1))) (s.heap.objs.size+1) (.ins C s.heap.objs.size []))
  {s with heap:=(s.heap.push PySem.W.emptyDict).push (PySem.W.instObj C s.heap.objs.size)}:=by
 have e1:(s.heap.push PySem.W.emptyDict).get? s.heap.objs.size=some PySem.W.emptyDict:=Heap.get?_push_size s.heap rfl
 have e2:((s.heap.push PySem.W.emptyDict).push (PySem.W.instObj C s.heap.objs.size)).get? (s.heap.objs.size+1)=some (PySem.W.instObj C s.heap.objs.size):=by
  have:=Heap.get?_push_size (s.heap.push PySem.W.emptyDict) (o:=PySem.W.instObj C s.heap.objs.size) rfl
  rwa [Heap.size_push] at this
 have e3:(s.heap.push PySem.W.emptyDict).Ns s.heap.objs.size (fun _=>none):=⟨PySem.W.emptyDict,#[],_,e1,rfl,(fun e he=>absurd he (by simp)),fun _=>rfl⟩
 have I1:=I.laid (a:=s.heap.objs.size) (o:=.own (s.heap.objs.size+1)) (h':=s.heap.push PySem.W.emptyDict) (t':=s.toks) (fun b u q=>Heap.get?_push_of_some _ q) (Nat.le_refl _) ⟨_,e1⟩
 refine I1.laid (a:=s.heap.objs.size+1) (o:=.ins C s.heap.objs.size []) (t':=s.toks) (fun b u q=>Heap.get?_push_of_some _ q) (Nat.le_of_eq (Heap.size_push _ _)) ?_
 have ne:s.heap.objs.size≠s.heap.objs.size+1:=Nat.ne_of_lt (Nat.lt_succ_self _)
 refine ⟨by rw [az ne,ak],Nat.zero_le _,ne,e2,fun _=>none,(Heap.Ns1.of_empty e3).at fun o q=>Heap.get?_push_of_some _ q,fun _=>True.intro,fun y hy=>absurd rfl hy⟩
theorem HR {prog:Program} {w:World} {env:Env} {e:Expr} {f:Str} {pos:Pos} {s:Shared} {Q:Value→Shared→Prop} (hb:attributeBase e f env (eval e env)=eval e env)
  (h:wpAny (model prog w) A (eval e env) (fun o s₁=>wpAny (model prog w) A (getAttr o f true) Q E s₁) E s):wpAny (model prog w) A (eval (.Attribute e f pos) env) Q E s:=
 Attribute_any_ h (by rw [arm_eval_Attribute,hb])
end
def Ng (K:PySem.W.Frag) (ta:TE) (f:Str):TE:=fun σ H Q=>ta σ H fun x H1=>∃ a C dx fs v,x= .ref a∧H1 a=some (.ins C dx fs)∧Cls K C∧NoAttr K C f∧fs.lookup f=some v∧Q v H1
def Nh (K:PySem.W.Frag) (ta tv:TE) (f:Str):TS:=fun D σ H=>tv σ H fun y H1=>ta σ H1 fun x H2=>∃ a C dx fs,x= .ref a∧H2 a=some (.ins C dx fs)∧Cls K C∧NoAttr K C f∧fs.length < 1000∧
 D.nx σ (upd H2 a (.ins C dx (iG f y fs)))
section
variable {X:Cx} {o e value:Expr} {f:Str} {pos pos' tpos:Pos} {ta tv:TE}
theorem Ni (he:PE X e ta) (hb:attributeBase e f X.env (eval e X.env)=eval e X.env):PE X (.Attribute e f pos) (Ng X.K ta f):=by
 intro pins s σ H Q I h
 refine HR hb (cZ (he pins s σ H _ I h) fun u s1 qq0=>?_)
 obtain ⟨x,H1,I1,rx,a,C,dx,fs,v,ex,ea,c,n,l,q⟩:=qq0
 subst ex
 obtain rfl:u=Value.ref a:=rx
 exact xq I1 ea c n l fun u' s2 I2 ru=>⟨v,H1,I2,ru,q⟩
theorem Nj (ha:PE X o ta) (hv:PE X value tv) (hs:swapsWith value (some (.Attribute o f pos')) pos.line X.env=pure false):PS X (.Assign [.Attribute o f pos'] value pos) (Nh X.K ta tv f):=by
 intro pins s σ H D I h
 refine plainObj_wpAny_Assign_Attribute (cZ (hv pins s σ H _ I h) fun u s1 ⟨y,H1,I1,ry,q⟩=>cZ (ha pins s1 σ H1 _ I1 q) fun ov s2 qq0=>?_) hs
 obtain ⟨x,H2,I2,rx,a,C,dx,fs,ex,ea,c,n,l,q2⟩:=qq0
 subst ex
 obtain rfl:ov=Value.ref a:=rx
 exact xr I2 ea c n l ry fun s3 I3=>⟨σ,_,I3,q2⟩
end
section
variable {X:Cx} {pins:List (Addr×Obj)} {σ:St} {H:Hp} {s:Shared} {A:Around} {E:Value→Shared→Prop} {Q:Value→Shared→Prop} {c:Value} {b:Bool}
inductive TyOf (K:PySem.W.Frag) (H:Hp):V→Value→Prop where
 | non:TyOf K H .non (.type "NoneType")
 | bl (x:Bool):TyOf K H (.bl x) (.type "bool")
 | int (i:Int):TyOf K H (.int i) (.type "int")
 | str (x:Str):TyOf K H (.str x) (.type "str")
 | flt (x:UInt64):TyOf K H (.flt x) (.type "float")
 | lst {a:Addr} {xs:List V} (e:H a=some (.lst xs)):TyOf K H (.ref a) (.type "list")
 | frz {a:Addr} {o:Obj} {xs:List V} (e:H a=some (.frz o (.lst xs))):TyOf K H (.ref a) (.type "list")
 | tup {a:Addr} {xs:List V} (e:H a=some (.tup xs)):TyOf K H (.ref a) (.type "tuple")
 | dK {a:Addr} {kvs:List (Key×V)} (e:H a=some (.dK kvs)):TyOf K H (.ref a) (.type "dict")
 | dT {a:Addr} {kvs:List (List Key×V)} (e:H a=some (.dT kvs)):TyOf K H (.ref a) (.type "dict")
 | ins {a C dx:Addr} {fs:List (Str×V)} (e:H a=some (.ins C dx fs)) (cl:Cls K C) (ha:PySem.W.findIn K (.ref C) "__class__"=some (some (.builtin "object.__class__")))
   (hn:PySem.W.specialIn K (.builtin "object.__class__") "__get__"=some (some (.builtin "getset_descriptor.__get__"))) (htk:PySem.W.takesIn K (.builtin "object.__class__")=some true)
   (hm:PySem.W.mroIn K C (.type "object")=some true):TyOf K H (.ref a) (.ref C)
theorem Ay {x:V} {u t:Value} (I:Inv X pins σ H s) (rx:RelV x u) (ty:TyOf X.K H x t) (e:PySem.W.kitOne X.K t c=some b) (h:∀ tk,Q (.bool b) {s with toks:=tk}):
  wpAny (model X.prog X.w) A (call (.builtin "isinstance") [u,c]) Q E s:=by
 cases ty with
 | non=>cases (show u=Value.none from rx);exact PySem.W.kia_one PySem.W.kitx_none I.kIn True.intro e (fun z=>nomatch z) h
 | bl y=>cases (show u=Value.bool y from rx);exact PySem.W.kia_one PySem.W.kitx_bool I.kIn True.intro e (fun z=>nomatch z) h
 | int i=>obtain ⟨t,q⟩:=(show ∃ t,u=Value.int i t from rx);cases q;exact PySem.W.kia_one PySem.W.kitx_int I.kIn True.intro e (fun z=>nomatch z) h
 | str y=>obtain ⟨t,q⟩:=(show ∃ t,u=Value.str y t from rx);cases q;exact PySem.W.kia_one PySem.W.kitx_str I.kIn True.intro e (fun z=>nomatch z) h
 | flt y=>obtain ⟨t,q⟩:=(show ∃ t,u=Value.float y t from rx);cases q;exact PySem.W.kia_one PySem.W.kitx_float I.kIn True.intro e (fun z=>nomatch z) h
 | @lst a xs ea=>
  cases (show u=Value.ref a from rx)
  obtain ⟨_,_,n,_,h1⟩:=(show ObjOk X.prog X.w H s.heap a (.lst xs) from I.hok a _ ea)
  exact PySem.W.kia_one PySem.W.kitx_list I.kIn ⟨_,h1,rfl⟩ e (fun z=>nomatch z) h
 | @frz a ob xs ea=>
  cases (show u=Value.ref a from rx)
  obtain ⟨_,_,_,n,_,h1⟩:=(show ObjOk X.prog X.w H s.heap a (.frz ob (.lst xs)) from I.hok a _ ea)
  exact PySem.W.kia_one PySem.W.kitx_list I.kIn ⟨_,h1,rfl⟩ e (fun z=>nomatch z) h
 | @tup a xs ea=>
  cases (show u=Value.ref a from rx)
  obtain ⟨_,_,_,p⟩:=(show ObjOk X.prog X.w H s.heap a (.tup xs) from I.hok a _ ea)
  obtain ⟨o,h1,h2,_⟩:=p
  exact PySem.W.kia_one PySem.W.kitx_tuple I.kIn ⟨o,h1,h2⟩ e (fun z=>nomatch z) h
 | @dK a kvs ea=>
  cases (show u=Value.ref a from rx)
  obtain ⟨_,_,vs,_,p⟩:=(show ObjOk X.prog X.w H s.heap a (.dK kvs) from I.hok a _ ea)
  obtain ⟨o,es,ep,h1,h2,_⟩:=p
  exact PySem.W.kia_one PySem.W.kitx_dict I.kIn ⟨o,h1,h2.1⟩ e (fun z=>nomatch z) h
 | @dT a kvs ea=>
  cases (show u=Value.ref a from rx)
  obtain ⟨_,_,xs,_,o,es,ep,h1,h2,_⟩:=(show ObjOk X.prog X.w H s.heap a (.dT kvs) from I.hok a _ ea)
  exact PySem.W.kia_one PySem.W.kitx_dict I.kIn ⟨o,h1,h2.1⟩ e (fun z=>nomatch z) h
 | @ins a C dx fs ea cl ha hn htk hm=>
  cases (show u=Value.ref a from rx)
  obtain ⟨mA,O,_⟩:=pL I.hok ea
  obtain ⟨od,J,_⟩:=O.look
  exact PySem.W.kia_one (PySem.W.kitx_own (cl.get _) cl.hd ha hn htk hm) I.kIn J e (fun z=>nomatch z) h
end
end L2
namespace L2
open PySem PySem.Spec PyProof.Rows
structure Room (k:Nat) (A:Around):Prop where
 hd:A.handled=none
 dp:A.depth+3*k+5 < recursionLimit
 un:A.units+16*k+200 < cLine
 gd:A.guards=some []
theorem Room.mono {j k:Nat} {A:Around} (r:Room k A) (h:j≤k):Room j A:=⟨r.hd,by have:=r.dp;omega,by have:=r.un;omega,r.gd⟩
theorem Room.deeper {k:Nat} {A:Around} (r:Room (k+1) A) (env:Env):Room k (A.deeper env):=
 ⟨r.hd,by have:=r.dp;show A.depth+1+3*k+5 < _;omega,by have:=r.un;show A.units+3+16*k+200 < _;omega,r.gd⟩
theorem xu {A:Around} {C:Addr} {us:List Value} {kw:List (Str×Value)}:(A.under (.builtin "type.__call__" ⟨.ref C :: us,kw⟩)).depth=A.depth+1:=by
 first | rfl | simp [Around.under,Code.weight,Code.isCreation,Code.isGuard,Code.isCaller,Code.frames,Code.isFrame,guardIds]
theorem xx {A:Around} {C:Addr} {us:List Value} {kw:List (Str×Value)}:(A.under (.builtin "type.__call__" ⟨.ref C :: us,kw⟩)).units=A.units+1:=by
 first | rfl | simp [Around.under,Code.cUnits,Code.frames,Code.isFrame]
theorem vH {A:Around} {C:Addr} {us:List Value} {kw:List (Str×Value)}:(A.under (.builtin "type.__call__" ⟨.ref C :: us,kw⟩)).guards=pushGuards [] A.guards:=by
 first | rfl | simp [Around.under,Code.guards,Code.isGuard,guardIds]
theorem Room.make {k:Nat} {A:Around} (r:Room (k+1) A) (C:Addr) (us:List Value) (kw:List (Str×Value)):Room k (A.under (.builtin "type.__call__" ⟨.ref C :: us,kw⟩)):=
 ⟨r.hd,by have:=r.dp;rw [xu];omega,by have:=r.un;rw [xx];omega,(vH.trans (by rw [r.gd];rfl))⟩
theorem Room.depth {k:Nat} {A:Around} (r:Room k A):A.depth < recursionLimit:=by have:=r.dp;omega
theorem Room.units {k:Nat} {A:Around} (r:Room k A):A.units+64 < cLine:=by have:=r.un;omega
theorem Room.units0 {k:Nat} {A:Around} (r:Room k A):A.units < cLine:=by have:=r.un;omega
def Dl:TA:=fun _ H Q=>Q [] H
def sJ (ta:TE) (tr:TA):TA:=fun σ H Q=>ta σ H fun x H1=>tr σ H1 fun xs H2=>Q (x :: xs) H2
section
variable {X:Cx} {e:Expr} {es:List Expr} {te:TE} {t:TA} {pos:Pos}
theorem Nk:PA X [] Dl:=fun _ _ _ _ H Q I h=>Calls.spliced_nil ⟨[],H,I,.nil,h⟩
theorem HS (ha:PE X e te) (hr:PA X es t) (hs:autoParam (starEach (e :: es) X.env=(false,eval e X.env) :: starEach es X.env) L2.auto4._auto_1):PA X (e :: es) (sJ te t):=by
 intro pos pins s σ H Q I h
 rw [hs]
 show wpAny _ _ (spliced ((false,eval e X.env) :: backTo pos (starEach es X.env))) _ _ s
 refine Calls.spliced_cons (cZ (ha pins s σ H _ I h) fun u s1 qq0=>?_)
 obtain ⟨x,H1,I1,r1,q1⟩:=qq0
 exact cZ (hr pos pins s1 σ H1 _ I1 q1) fun us s2 ⟨xs,H2,I2,r2,q2⟩=>⟨x :: xs,H2,I2,.cons r1 r2,q2⟩
def HW (t:TA):TE:=fun σ H Q=>t σ H fun xs H1=>xs.length≤sizeLine∧∀ p,H1 p=none→Q (.ref p) (upd H1 p (.tup xs))
def HX (t:TA):TE:=fun σ H Q=>t σ H fun xs H1=>xs.length≤sizeLine∧∀ p,H1 p=none→Q (.ref p) (upd H1 p (.lst xs))
theorem Nm {x1} (h:PA X es t):PE X (.Tuple es x1 pos) (HW t):=by
 intro pins s σ H Q I hq
 refine wpAny_Tuple_spliced (cZ (h pos pins s σ H _ I hq) fun us s1 ⟨xs,H1,I1,r,z,q⟩=>⟨by rw [← r.length];exact z,?_⟩)
 have hf:H1 s1.heap.objs.size=none:=I1.hok.fresh (Nat.le_refl _)
 refine ⟨.ref s1.heap.objs.size,upd H1 s1.heap.objs.size (.tup xs),I1.laid (t':=s1.toks) (fun b u e=>Heap.get?_push_of_some _ e) (Nat.le_refl _) ?_,rfl,q _ hf⟩
 exact ⟨z,us,r,⟨_,Heap.get?_push_size _ rfl,rfl,_,rfl⟩⟩
theorem Np (h:PA X es t):PE X (.List es pos) (HX t):=by
 intro pins s σ H Q I hq
 refine wpAny_List_spliced (cZ (h pos pins s σ H _ I hq) fun us s1 ⟨xs,H1,I1,r,z,q⟩=>⟨by rw [← r.length];exact z,?_⟩)
 have hf:H1 s1.heap.objs.size=none:=I1.hok.fresh (Nat.le_refl _)
 refine ⟨.ref s1.heap.objs.size,upd H1 s1.heap.objs.size (.lst xs),I1.laid (t':=s1.toks) (fun b u e=>Heap.get?_push_of_some _ e) (Nat.le_refl _) ?_,rfl,q _ hf⟩
 exact ⟨z,us,0,r,Heap.get?_push_size _ rfl⟩
end
abbrev Sp:=List V→Hp→VK→XK→Prop
abbrev Cy:=List Env→Hp→Shared→XK→Value→Shared→Prop
structure Env0 (P:Program) (w:World) (K:PySem.W.Frag) (mg:Str→Option Value) (base:Heap) (A:Around) (outer:List Env) (s:Shared) (H:Hp):Prop where
 frames:A.frames=some outer
 mod:Mod K mg base
 bs:∀ b o,base.get? b=some o→s.heap.get? b=some o∧H b=none
 bsz:base.objs.size≤s.heap.objs.size
 funs:s.heap.FunFrames base outer
 frf:∀ b∈frs outer,H b=none
 hok:HOk P w H s.heap
 bare:AllBare s.gens
def CE (outer:List Env) (P:Program) (w:World) (H:Hp) (s:Shared) (Q:VK) (u:Value) (s':Shared):Prop:=
 ∃ v H',s'.os=s.os∧AllBare s'.gens∧Un (frs outer) [] H H' s.heap s'.heap∧HOk P w H' s'.heap∧RelV v u∧Q v H'
def CR (CX:Cy) (outer:List Env) (P:Program) (w:World) (H:Hp) (s:Shared) (Q:VK) (E:XK) (r:Result) (s':Shared):Prop:=
 match r with
 | .ok (.ret u)=>CE outer P w H s Q u s'
 | .ok _=>False
 | .error e=>CX outer H s E e s'
structure mQ (P:Program) (w:World) (K:PySem.W.Frag) (mg:Str→Option Value) (base:Heap) (CX:Cy) (k:Nat) (f:Addr) (fd:FuncData) (ps:List Str) (sp:Sp):Prop where
 len:∀ vs H Q E,sp vs H Q E→vs.length=ps.length
 run:∀ (A:Around) (outer:List Env) (s:Shared) (H:Hp) (args:Args) (us:List Value) (vs:List V) (Q:VK) (E:XK),Room k A→Env0 P w K mg base A outer s H→BindsTo s fd args (ps.zip us)→Vals vs us→sp vs H Q E→
  codeAny (model P w) A (.call (.ref f) args) (CR CX outer P w H s Q E) s
theorem Env0.make {P:Program} {w:World} {K:PySem.W.Frag} {mg:Str→Option Value} {base:Heap} {A:Around} {outer:List Env} {s:Shared} {H:Hp} (e:Env0 P w K mg base A outer s H) (C:Addr) (us:List Value) (kw:List (Str×Value)):
  Env0 P w K mg base (A.under (.builtin "type.__call__" ⟨.ref C :: us,kw⟩)) outer s H:=⟨by first | exact e.frames | (simpa [Around.under,Code.envs,Code.isFrame,pushEnvs] using e.frames),e.mod,e.bs,e.bsz,e.funs,e.frf,e.hok,e.bare⟩
section
variable {X:Cx} {pins:List (Addr×Obj)} {σ:St} {H:Hp} {s s':Shared}
theorem Inv.env0 (I:Inv X pins σ H s):Env0 X.prog X.w X.K X.mg X.base X.A X.stack s H:=
 ⟨I.ok.frames,I.ok.mod,I.bs,Nat.le_trans I.ok.bsz I.sz,I.stack,I.stkFree,I.hok,I.bare⟩
theorem Inv.after {Q:VK} {u:Value} (I:Inv X pins σ H s) (h:CE X.stack X.prog X.w H s Q u s'):EP X pins σ Q u s':=by
 obtain ⟨v,H',os,bare,un,hok,r,q⟩:=h
 obtain ⟨hh,g,d,t,os'⟩:=s'
 obtain rfl:os'=s.os:=os
 exact ⟨v,H',I.call (h':=hh) (g':=g) (d':=d) (t':=t) (ch:=[]) un hok bare (fun b z=>absurd z (by simp)),r,q⟩
end
def sO (sp:Sp) (dvs:List V) (E:XK) (t:TA):TE:=fun σ H Q=>t σ H fun vs H1=>sp (vs ++ dvs) H1 Q E
def Binds (K:PySem.W.Frag) (fd:FuncData) (ps:List Str) (ds:List Value):Prop:=
 ∀ (s:Shared) (us:List Value),K.In s.heap→(us ++ ds).length=ps.length→BindsTo s fd ⟨us,[]⟩ (ps.zip (us ++ ds))
theorem Binds.all {K:PySem.W.Frag} {fd:FuncData} {ps:List Str} (h:∀ us:List Value,us.length=ps.length→bindArgs fd ⟨us,[]⟩=pure (ps.zip us)):Binds K fd ps []:=fun s us _ hl=>by
 rw [List.append_nil] at hl ⊢
 exact .of_eq (h us hl)
def xF (CX:Cy) (X:Cx) (E:XK):Prop:=∀ (pins:List (Addr×Obj)) (σ:St) (H:Hp) (s:Shared) (e:Value) (s':Shared),Inv X pins σ H s→CX X.stack H s E e s'→X.xe e s'
section
variable {X:Cx} {CX:Cy} {k:Nat} {f C:Addr} {fd:FuncData} {ps:List Str} {sp:Sp} {dvs:List V} {ds:List Value} {E:XK} {x m:Str} {p pos apos:Pos} {e o:Expr} {es:List Expr} {ta:TE} {t:TA}
theorem Nq {pins:List (Addr×Obj)} {σ:St} {H:Hp} {s:Shared} {Q:VK} {us:List Value} {vs:List V} (F:mQ X.prog X.w X.K X.mg X.base CX k f fd ps sp) (hr:Room k X.A) (hb:Binds X.K fd ps ds) (hd:Vals dvs ds) (hx:xF CX X E)
  (I:Inv X pins σ H s) (r:Vals vs us) (h:sp (vs ++ dvs) H Q E):wpAny (model X.prog X.w) X.A (call (.ref f) us) (EP X pins σ Q) X.xe s:=by
 have r2:Vals (vs ++ dvs) (us ++ ds):=r.append hd
 have hl:(us ++ ds).length=ps.length:=by rw [← r2.length];exact F.len _ _ _ _ h
 refine wpAny_call (codeAny_mono (F.run X.A X.stack s H ⟨us,[]⟩ (us ++ ds) (vs ++ dvs) Q E hr I.env0 (hb s us I.kIn hl) r2 h) fun r s' hq=>?_)
 cases r with
 | error e=>exact hx pins σ H s e s' I hq
 | ok fl=>
  cases fl with
  | ret u=>exact I.after hq
  | next=>exact False.elim hq
  | brk=>exact False.elim hq
  | cont=>exact False.elim hq
theorem HY (F:mQ X.prog X.w X.K X.mg X.base CX k f fd ps sp) (hr:Room k X.A) (hg:Gl X x) (hm:X.mg x=some (.ref f)) (hk:PySem.W.keepIn X.K (.ref f)=true) (hb:Binds X.K fd ps ds) (hd:Vals dvs ds) (hx:xF CX X E)
  (ha:PA X (e :: es) t) (hdb:autoParam ((x == ("__debug__":Str))=false) L2.auto2._auto_1) (he:autoParam (starEach (e :: es) X.env=(false,eval e X.env) :: starEach es X.env) L2.auto4._auto_1) (hpl:autoParam ((backTo pos (starEach es X.env)).any (·.1)=false) L2.auto4._auto_1):
  PE X (.Call (.Name x p) (e :: es) [] pos) (sO sp dvs E t):=by
 intro pins s σ H Q I h
 refine wpAny_Call_Name_kw (mO I hg hm ?_ hdb)
 refine PySem.W.callWith_K (h₀:=X.base) I.ok.mod.kin hk (cZ (ha pos pins s σ H _ I h) fun us s1 ⟨vs,H1,I1,r,q⟩=>⟨I1.kIn,?_⟩) he hpl
 exact Nq F hr hb hd hx I1 r q
structure Mk (K:PySem.W.Frag) (C f:Addr):Prop where
 makes:PySem.W.makesIn K C=true
 init:PySem.W.findIn K (.ref C) "__init__"=some (some (.ref f))
 fn:PySem.W.isFn K (.ref f)=true
 kp:PySem.W.keepIn K (.ref C)=true
end
section
variable {X:Cx} {CX:Cy} {k:Nat} {f C:Addr} {fd:FuncData} {ps ks:List Str} {sp:Sp} {E:XK} {x m:Str} {p pos apos kpos:Pos} {e o:Expr} {es:List Expr} {kws:List Keyword} {te ta:TE} {t tk:TA} {nm:Option Str}
structure KBinds (K:PySem.W.Frag) (fd:FuncData) (ps ks:List Str) (g:List Value→List Value→List Value) (gV:List V→List V→List V):Prop where
 to:∀ (s:Shared) (us ws:List Value),K.In s.heap→(g us ws).length=ps.length→BindsTo s fd ⟨us,ks.zip ws⟩ (ps.zip (g us ws))
 rel:∀ {vs:List V} {us:List Value} {zs:List V} {ws:List Value},Vals vs us→Vals zs ws→Vals (gV vs zs) (g us ws)
variable {g:List Value→List Value→List Value} {gV:List V→List V→List V}
end
structure aF (N P:List Str) (sc:Scope):Prop where
 kind:sc.kind= .function
 co:sc.isCoroutine=false
 gen:sc.isGenerator=false
 nd:N.Nodup
 pre:N.take P.length=P
 par:∀ x∈P,sc.names.lookup x=some .local∨sc.names.lookup x=some .cell
 nofree:∀ y∈sc.names,y.2≠.free
theorem sS {kindOf:Str→Option NameKind} {x:Str}:∀ {binds:List (Str×Value)} {m:Str→Option Value},(∀ v,(x,v) ∉ binds)→bindL kindOf binds m x=m x
 | [],_,_=>rfl
 | (n,v) :: r,m,h=>by
  unfold bindL
  rw [sS fun w hw=>h w (List.mem_cons_of_mem _ hw)]
  split
  ·have:x≠n:=by rintro rfl;exact h v List.mem_cons_self
   simp [this]
  ·rfl
theorem sU {kindOf:Str→Option NameKind} {x:Str}:∀ {binds:List (Str×Value)} {m:Str→Option Value},(∀ v,(x,v) ∉ binds)→bindC kindOf binds m x=m x
 | [],_,_=>rfl
 | (n,v) :: r,m,h=>by
  unfold bindC
  rw [sU fun w hw=>h w (List.mem_cons_of_mem _ hw)]
  split
  ·rfl
  ·have:x≠n:=by rintro rfl;exact h v List.mem_cons_self
   simp [this]
theorem sV {kindOf:Str→Option NameKind} {x:Str} {v:Value}:∀ {P:List Str} {vs:List Value} {i:Nat} {m:Str→Option Value},P.Nodup→P[i]?=some x→vs[i]?=some v→kindOf x=some .local→
  bindL kindOf (P.zip vs) m x=some v
 | [],_,_,_,_,h,_,_=>by simp at h
 | _ :: _,[],_,_,_,_,h,_=>by simp at h
 | p :: P,w :: vs,0,m,nd,h1,h2,hk=>by
  simp at h1 h2;subst h1;subst h2
  show bindL kindOf ((p,w) :: P.zip vs) m p=_
  unfold bindL
  rw [sS fun v hv=>(List.nodup_cons.mp nd).1 (List.of_mem_zip hv).1,if_pos hk]
  simp
 | p :: P,w :: vs,i+1,m,nd,h1,h2,hk=>by
  show bindL kindOf ((p,w) :: P.zip vs) m x=_
  unfold bindL
  exact sV (i:=i) (List.nodup_cons.mp nd).2 (by simpa using h1) (by simpa using h2) hk
theorem sW {kindOf:Str→Option NameKind} {x:Str} {v:Value}:∀ {P:List Str} {vs:List Value} {i:Nat} {m:Str→Option Value},P.Nodup→P[i]?=some x→vs[i]?=some v→kindOf x≠some .local→
  bindC kindOf (P.zip vs) m x=some v
 | [],_,_,_,_,h,_,_=>by simp at h
 | _ :: _,[],_,_,_,_,h,_=>by simp at h
 | p :: P,w :: vs,0,m,nd,h1,h2,hk=>by
  simp at h1 h2;subst h1;subst h2
  show bindC kindOf ((p,w) :: P.zip vs) m p=_
  unfold bindC
  rw [sU fun v hv=>(List.nodup_cons.mp nd).1 (List.of_mem_zip hv).1,if_neg hk]
  simp
 | p :: P,w :: vs,i+1,m,nd,h1,h2,hk=>by
  show bindC kindOf ((p,w) :: P.zip vs) m x=_
  unfold bindC
  exact sW (i:=i) (List.nodup_cons.mp nd).2 (by simpa using h1) (by simpa using h2) hk
def start (N:List Str) (vs:List V):St:=vs.map some ++ List.replicate (N.length - vs.length) none
def mq (CX:Cy) (P:Program) (w:World) (K:PySem.W.Frag) (mg:Str→Option Value) (base:Heap) (N:List Str) (qual:Str) (scope:Scope) (f:Addr) (cd:Value) (A:Around) (outer:List Env) (s:Shared) (H:Hp) (E:XK):Cx where
 prog:=P
 w:=w
 K:=K
 mg:=mg
 base:=base
 A:=A.deeper (envOfC qual scope s.heap.objs.size f cd)
 N:=N
 s₀:=s
 H₀:=H
 env:=envOfC qual scope s.heap.objs.size f cd
 outer:=outer
 stack:=envOfC qual scope s.heap.objs.size f cd :: outer
 ex:=[]
 calm:=true
 fn:=fun _=>true
 pn:=[]
 xe:=fun e s'=>wpAny (model P w) (A.deeper (envOfC qual scope s.heap.objs.size f cd)) (leaving (envOfC qual scope s.heap.objs.size f cd) e) (fun _ s''=>CX outer H s E e s'') (fun e' s''=>CX outer H s E e' s'') s'
theorem vI {sc:Scope} {n:Nat} {x:Str} (h:sc.names.lookup x=some .cell):∃ c,(cellsFrom n sc.names []).lookup x=some c:=by
 have q:=PySem.W.cellsFrom_some sc.names n [] (.inl h)
 exact Option.isSome_iff_exists.mp q
theorem Az {CX:Cy} {P:Program} {w:World} {K:PySem.W.Frag} {mg:Str→Option Value} {base:Heap} {N ps:List Str} {qual:Str} {scope:Scope} {f:Addr} {cd:Value} {A:Around} {outer:List Env} {s s1:Shared} {H:Hp} {E:XK} {us:List Value} {vs:List V}
  (S:aF N ps scope) (hd:A.handled=none) (e0:Env0 P w K mg base A outer s H) (hl:vs.length=ps.length) (r:Vals vs us)
  (x:InCallC s s.heap.objs.size (bindL (envOfC qual scope s.heap.objs.size f cd).kindOf (ps.zip us) fun _=>none) (cellsFrom (s.heap.objs.size+1) scope.names []) (bindC (envOfC qual scope s.heap.objs.size f cd).kindOf (ps.zip us) fun _=>none) s1):
  Inv (mq CX P w K mg base N qual scope f cd A outer s H E) [] (start N vs) H s1:=by
 have hpl:ps.length≤N.length:=by have:=congrArg List.length S.pre;rw [List.length_take] at this;omega
 obtain ⟨h1,tk,rfl,hk⟩:=x.done
 have noA:∀ b:Addr,b ∉ (mq CX P w K mg base N qual scope f cd A outer s H E).ex:=fun b z=>absurd (show b∈([]:List Addr) from z) (by simp)
 refine ⟨⟨e0.mod,S.kind,rfl,rfl,Nat.le_refl _,fun y z c h1 h2=>?_,fun y hy=>?_,fun y c _ h=>?_,fun _=>hd,Around.frames_deeper e0.frames,.inr ⟨rfl,rfl⟩,fun b z=>absurd z (noA b),e0.bs,e0.bsz,fun b _ _=>noA b,fun b z=>absurd z (noA b),e0.funs,e0.frf⟩,
  rfl,e0.bare,Un.kept hk,⟨_,x.toInCall.ns,fun i y v h1 h2 h3=>?_⟩,fun y c h=>⟨_,x.cell y c h⟩,e0.hok.fresh (Nat.le_refl _),fun y c h=>?_,fun p hp=>absurd (show p∈([]:List (Addr×Obj)) from hp) (by simp),e0.hok.kept hk,?_⟩
 ·exact name_of_addr x.apart (PySem.mem_of_lookup h1) (PySem.mem_of_lookup h2)
 ·have hy:scope.names.lookup y=some .cell∨scope.names.lookup y=some .free:=hy
  rcases hy with hy | hy
  ·exact vI hy
  ·exact absurd rfl (S.nofree _ (PySem.mem_of_lookup hy))
 ·exact Nat.le_of_lt (x.above y c (PySem.mem_of_lookup h))
 ·have hi:i < vs.length:=by
   unfold start at h2
   by_cases hi:i < vs.length
   ·exact hi
   ·rw [List.getElem?_append_right (by simpa using hi)] at h2
    rw [List.getElem?_replicate] at h2
    split at h2 <;> cases h2
  have ha:vs[i]?=some v:=by
   unfold start at h2
   rw [List.getElem?_append_left (by simpa using hi),List.getElem?_map] at h2
   cases e:vs[i]? with
   | none=>rw [e] at h2;cases h2
   | some a=>rw [e] at h2;cases h2;rfl
  obtain ⟨u,hu,rv⟩:=r.get ha
  have hp:ps[i]?=some y:=by
   rw [← S.pre,List.getElem?_take_of_lt (by omega)];exact h1
  have ndP:ps.Nodup:=by rw [← S.pre];exact S.nd.sublist (List.take_sublist _ _)
  refine ⟨u,rv,?_⟩
  rcases S.par y (List.mem_of_getElem? hp) with k | k
  ·exact .inl ⟨k,sV ndP hp hu k⟩
  ·obtain ⟨c,e⟩:=vI (n:=s.heap.objs.size+1) k
   refine .inr ⟨.inl k,c,e,?_⟩
   have q:=x.cell y c e
   rw [sW ndP hp hu (by show scope.names.lookup y≠_;rw [k];decide)] at q
   exact q
 ·exact e0.hok.fresh (Nat.le_of_lt (x.above y c (PySem.mem_of_lookup h)))
 ·unfold start
  show _=N.length
  rw [List.length_append,List.length_map,List.length_replicate]
  omega
theorem Dm {CX:Cy} {P:Program} {w:World} {K:PySem.W.Frag} {mg:Str→Option Value} {base:Heap} {k:Nat} {f:Addr} {name qual:Str} {params:Arguments} {body:List Stmt} {scope:Scope} {dV kV doc pm cdv ct oc:Value} {an od:Option Addr}
  {osl:Array (Option Value)} {N ps:List Str} {sp:Sp} (lk:K.lookup f=some ⟨oc,od,.func (PySem.W.fnOf name qual params body scope dV kV doc pm an cdv ct),osl⟩) (hcd:PySem.W.codeIn K cdv qual=true) (S:aF N ps scope)
  (len:∀ vs H Q E,sp vs H Q E→vs.length=ps.length)
  (hbody:∀ (A:Around) (outer:List Env) (s:Shared) (H:Hp) (vs:List V) (Q:VK) (E:XK),Room k (A.deeper (envOfC qual scope s.heap.objs.size f cdv))→sp vs H Q E→
   ∃ t,PSs (mq CX P w K mg base N qual scope f cdv A outer s H E) body t∧t {nx:=fun _ H'=>Q .non H',rt:=Q} (start N vs) H):
  mQ P w K mg base CX (k+1) f (PySem.W.fnOf name qual params body scope dV kV doc pm an cdv ct) ps sp:=by
 refine ⟨len,fun A outer s H args us vs Q E hr e0 hb r hsp=>?_⟩
 have hl:=len _ _ _ _ hsp
 have KX:K.In s.heap:=e0.mod.kin.keeps fun b o e=>(e0.bs b o e).1
 have lim:s.heap.NoLimit:=e0.mod.nolimit.keeps fun b o e=>(e0.bs b o e).1
 have hkind:∀ y∈ps.zip us,scope.names.lookup y.1=some .local∨(scope.names.lookup y.1=some .cell∧((cellsFrom (s.heap.objs.size+1) scope.names []).lookup y.1).isSome=true):=fun ⟨n,v⟩ hy=>by
  rcases S.par n (List.of_mem_zip hy).1 with q | q
  ·exact .inl q
  ·exact .inr ⟨q,PySem.W.cellsFrom_some _ _ _ (.inl q)⟩
 refine codeAny_call_function hr.depth (KX _ _ lk) rfl S.co S.gen rfl (PySem.W.codeRec_of KX hcd) (hb _ _ _ _ ?_)
 refine wpAny_newFunctionEnv_cells S.kind hkind fun env he s1 x=>?_
 subst he
 refine ⟨lim.keeps x.toInCall.keep,codeAny_func ?_⟩
 obtain ⟨t,ht,hq⟩:=hbody A outer s H vs Q E (hr.deeper _) hsp
 have I:Inv (mq CX P w K mg base N qual scope f cdv A outer s H E) [] (start N vs) H s1:=Az S hr.hd e0 hl r x
 refine wpAny_mono (ht [] s1 (start N vs) H _ I hq) (fun fl s' hs=>?_) fun e s' hs=>hs
 have fin:∀ {σ':St} {H':Hp} {v:V} {u:Value},Inv (mq CX P w K mg base N qual scope f cdv A outer s H E) [] σ' H' s'→RelV v u→Q v H'→CE outer P w H s Q u s':=
  fun {σ' H' v u} J rv q=>⟨v,H',J.os,J.bare,J.base,J.hok,rv,q⟩
 cases fl with
 | ret u=>
  obtain ⟨v,σ',H',J,rv,q⟩:=hs
  exact fin J rv q
 | next=>
  obtain ⟨σ',H',J,q⟩:=hs
  exact fin (v:=V.non) (u:=Value.none) J rfl q
 | brk=>
  obtain ⟨_,_,_,q⟩:=hs
  exact False.elim q
 | cont=>
  obtain ⟨_,_,_,q⟩:=hs
  exact False.elim q
end L2
namespace L2
open PySem PySem.Spec PyProof.Rows
section
variable {X:Cx} {x:Str} {p pos:Pos} {e:Expr} {es:List Expr} {t:TA} {id T:String} {r:List V→Hp→VK→Prop}
def Nr (r:List V→Hp→VK→Prop) (t:TA):TE:=fun σ H Q=>t σ H fun vs H1=>r vs H1 Q
theorem Dn (hc:CallR X (.builtin id) r) (hg:Gl X x) (hm:X.mg x=none) (hv:bootBuiltins x=some (.builtin id)) (ha:PA X (e :: es) t) (hn:autoParam (x≠"__name__") L2.auto2._auto_1) (hdb:autoParam ((x == ("__debug__":Str))=false) L2.auto2._auto_1)
  (he:autoParam (starEach (e :: es) X.env=(false,eval e X.env) :: starEach es X.env) L2.auto4._auto_1) (hpl:autoParam ((backTo pos (starEach es X.env)).any (·.1)=false) L2.auto4._auto_1):PE X (.Call (.Name x p) (e :: es) [] pos) (Nr r t):=by
 intro pins s σ H Q I h
 refine wpAny_Call_Name_kw (iD I hg hm hv ?_ hn hdb)
 exact PyProof.Rows.callWith_builtin1 (cZ (ha pos pins s σ H _ I h) fun us s1 ⟨vs,H1,I1,r1,q1⟩=>hc pins s1 σ H1 vs us Q I1 r1 q1) he hpl
theorem Ba (hc:CallR X (.type T) r) (hg:Gl X x) (hm:X.mg x=none) (hv:bootBuiltins x=some (.type T)) (ha:PA X (e :: es) t) (hn:autoParam (x≠"__name__") L2.auto2._auto_1) (hdb:autoParam ((x == ("__debug__":Str))=false) L2.auto2._auto_1)
  (he:autoParam (starEach (e :: es) X.env=(false,eval e X.env) :: starEach es X.env) L2.auto4._auto_1) (hpl:autoParam ((backTo pos (starEach es X.env)).any (·.1)=false) L2.auto4._auto_1):PE X (.Call (.Name x p) (e :: es) [] pos) (Nr r t):=by
 intro pins s σ H Q I h
 refine wpAny_Call_Name_kw (iD I hg hm hv ?_ hn hdb)
 exact PyProof.Rows.callWith_type1 (cZ (ha pos pins s σ H _ I h) fun us s1 ⟨vs,H1,I1,r1,q1⟩=>hc pins s1 σ H1 vs us Q I1 r1 q1) he hpl
end
end L2
namespace HT
open PySem PyProof.Rows
section
open PySem.SeqAt
open PySem.AutoSeq1 (wpAny_loadPart')
open PySem.MeetsSeq PySem.MeetsSeq2 PySem.MeetsSeq3
end
section
variable {prog:Program} {w:World} {A:Around} {E:Value→Shared→Prop} {s:Shared}
def sIx (n d:Nat):Option Int→Nat
 | none=>d
 | some v=>if v < 0 then (v+(n:Int)).toNat else min v.toNat n
theorem sIx_none (n d:Nat):sIx n d none=d:=rfl
theorem sIx_nat (n d k:Nat):sIx n d (some (k:Int))=min k n:=by
 show (if (k:Int) < 0 then ((k:Int)+(n:Int)).toNat else min (k:Int).toNat n)=min k n
 rw [if_neg (by omega),Int.toNat_natCast]
theorem sIx_le (n d:Nat) (hd:d≤n) (o:Option Int):sIx n d o≤n:=by
 cases o with
 | none=>exact hd
 | some v=>
  show (if v < 0 then (v+(n:Int)).toNat else min v.toNat n)≤n
  by_cases hv:v < 0
  ·rw [if_pos hv];omega
  ·rw [if_neg hv];exact Nat.min_le_right _ _
theorem clip_eq (v:Int) (n d:Nat):(if v < 0 then max (v+(n:Int)) 0 else min v (n:Int))=((sIx n d (some v):Nat):Int):=by
 show (if v < 0 then max (v+(n:Int)) 0 else min v (n:Int))=(((if v < 0 then (v+(n:Int)).toNat else min v.toNat n):Nat):Int)
 by_cases hv:v < 0
 ·simp only [if_pos hv];omega
 ·simp only [if_neg hv];omega
theorem xG (lo hi:Option Int) (n:Nat):Builtin.Slice.sliceAdjust lo hi 1 (n:Int)=(((sIx n 0 lo:Nat):Int),((sIx n n hi:Nat):Int)):=by
 have h1:¬ ((1:Int) < 0):=by omega
 unfold Builtin.Slice.sliceAdjust
 simp only [h1,if_false]
 refine Prod.ext ?_ ?_
 ·cases lo with
  | none=>rfl
  | some v=>exact clip_eq v n 0
 ·cases hi with
  | none=>rfl
  | some v=>exact clip_eq v n n
theorem xH (i j:Nat):Builtin.Slice.slicePlaces (i:Int) (j:Int) 1=j - i:=by
 unfold Builtin.Slice.slicePlaces
 have h1:(1:Int) > 0:=by omega
 simp only [h1,if_true,Int.ediv_one]
 split <;> omega
theorem qe {v:Value} {o:Option Int} {Q:Option Int→Shared→Prop} (p:IsPart v o) (h:Q o s):wpAny (model prog w) A (Builtin.Slice.slicePartIndex v) Q E s:=by
 cases p with
 | none=>exact slicePart_none h
 | int i t=>exact slicePart_int h
theorem nU {sl:Addr} {vl vu:Value} {lo hi:Option Int} {n:Nat} {Q:Int×Int×Nat→Shared→Prop} (hs:s.heap.IsSliceOf sl vl vu .none) (pl:IsPart vl lo) (pu:IsPart vu hi)
  (h:Q (((sIx n 0 lo:Nat):Int),1,sIx n n hi - sIx n 0 lo) s):wpAny (model prog w) A (Builtin.Slice.sliceApplied (.ref sl) (pure (n:Int))) Q E s:=by
 obtain ⟨os,hos,hcs,hds⟩:=id hs
 unfold Builtin.Slice.sliceApplied Builtin.Slice.sliceFields
 refine wpAny_bind (wpAny_bind (wpAny_field hos hds (x:=vl) rfl (wpAny_bind (wpAny_field hos hds (x:=vu) rfl (wpAny_bind (wpAny_field hos hds (x:=.none) rfl (wpAny_pure ?_)))))))
 refine wpAny_bind (slicePart_none ?_)
 show wpAny _ _ (if ((1:Int) == 0)=true then _ else _) _ _ s
 rw [if_neg (by decide)]
 refine wpAny_bind (qe pl (wpAny_bind (qe pu (wpAny_bind (wpAny_pure ?_)))))
 show wpAny _ _ (match Builtin.Slice.sliceAdjust lo hi 1 (n:Int) with | (lo,hi)=>pure (lo,(1:Int),Builtin.Slice.slicePlaces lo hi 1)) _ _ s
 rw [xG lo hi n]
 show wpAny _ _ (pure (((sIx n 0 lo:Nat):Int),(1:Int),Builtin.Slice.slicePlaces ((sIx n 0 lo:Nat):Int) ((sIx n n hi:Nat):Int) 1)) _ _ s
 rw [xH]
 exact wpAny_pure h
theorem Do (xs:Array Value) (i k:Nat):((List.range k).filterMap fun (m:Nat)=>xs[((i:Int)+(m:Int)*1).toNat]?).toArray=((xs.toList.drop i).take k).toArray:=by
 have e:(fun (m:Nat)=>xs[((i:Int)+(m:Int)*1).toNat]?)=fun m=>xs[i+m]?:=by
  funext m
  have:((i:Int)+(m:Int)*1).toNat=i+m:=by omega
  rw [this]
 rw [e]
 have:=pick_run xs i k
 rw [List.filterMap_map] at this
 have e2:((fun x=>xs[x]?) ∘ fun x=>i+x)=fun m=>xs[i+m]?:=rfl
 rw [e2] at this
 rw [this]
theorem getItem_tuple_cut {t sl:Addr} {items:Array Value} {vl vu:Value} {lo hi:Option Int} {Q:Value→Shared→Prop} (ht:IsTup s.heap t items) (hs:s.heap.IsSliceOf sl vl vu .none) (pl:IsPart vl lo) (pu:IsPart vu hi)
  (hw:¬ (sIx items.size 0 lo=0∧sIx items.size items.size hi=items.size))
  (h:Q (.ref s.heap.objs.size) {s with heap:=s.heap.push {cls:=.type "tuple",data:=.seq ((items.toList.drop (sIx items.size 0 lo)).take (sIx items.size items.size hi - sIx items.size 0 lo)).toArray}})
  (hsz:items.size≤sizeLine):wpAny (model prog w) A (getItem (.ref t) (.ref sl)) Q E s:=by
 have htake:sizeOk (.seq ((items.toList.drop (sIx items.size 0 lo)).take (sIx items.size items.size hi - sIx items.size 0 lo)).toArray):=by
  show ((items.toList.drop (sIx items.size 0 lo)).take (sIx items.size items.size hi - sIx items.size 0 lo)).toArray.size≤sizeLine
  rw [List.size_toArray,List.length_take,List.length_drop,Array.length_toList]
  omega
 have hj:sIx items.size items.size hi≤items.size:=sIx_le _ _ (Nat.le_refl _) hi
 obtain ⟨os,hos,hcs,hds⟩:=id hs
 have hTs:s.TypeIs (.ref sl) "slice":=⟨os,hos,hcs⟩
 unfold getItem
 try with_reducible refine wpAny_holding ?_
 first | refine wpAny_bind (wpAny_pure ?_) | skip
 refine wpAny_bind (wpAny_sequenceKey ht.typeIs (by decide) ?_)
 refine wpAny_bind (wpAny_callSpecial?_slot (name:=Str.ofString "__getitem__") ht.typeIs PyProof.Rows.slot_tuple_getitem
  (wpAny_call_entry PyProof.Rows.slot_tuple_getitem ht.typeIs entry_tuple_getitem ?_ (args_tuple_getitem _ _)))
 show wpAny _ _ (Builtin.Tuple.tupleItemsOf (.ref t) >>=_) _ _ s
 refine wpAny_bind (tupleItemsOf_ ht ?_)
 refine wpAny_bind (wpAny_typeOf hTs ?_)
 rw [if_pos (by decide)]
 refine wpAny_bind (nU hs pl pu ?_)
 have hno:¬ ((((sIx items.size 0 lo:Nat):Int) == 0 && (1:Int) == 1 && (sIx items.size items.size hi - sIx items.size 0 lo) == items.size)=true):=by
  intro q
  rw [Bool.and_eq_true,Bool.and_eq_true] at q
  have q1:((sIx items.size 0 lo:Nat):Int)=0:=eq_of_beq q.1.1
  have q2:sIx items.size items.size hi - sIx items.size 0 lo=items.size:=eq_of_beq q.2
  exact hw ⟨by omega,by omega⟩
 show wpAny _ _ (if (((sIx items.size 0 lo:Nat):Int) == 0 && (1:Int) == 1 && (sIx items.size items.size hi - sIx items.size 0 lo) == items.size)=true then _ else _) _ _ s
 rw [if_neg hno,Do]
 first
  | exact wpAny_bind (m:=Builtin.Tuple.tupleExact _) (wpAny_newObj_type (wpAny_pure ⟨_,rfl,wpAny_pure h⟩) htake)
  | exact wpAny_bind (m:=Builtin.Tuple.tupleExact _) (wpAny_newObj_type (wpAny_bind (wpAny_pure (wpAny_pure ⟨_,rfl,wpAny_pure h⟩))) htake)
  | exact wpAny_bind (wpAny_bind (m:=Builtin.Tuple.tupleExact _) (wpAny_newObj_type (wpAny_pure (wpAny_pure ⟨_,rfl,wpAny_pure h⟩)) htake))
  | exact wpAny_bind (wpAny_bind (m:=Builtin.Tuple.tupleExact _) (wpAny_newObj_type (wpAny_pure ⟨_,rfl,wpAny_pure h⟩) htake))
end
end HT
namespace L2
open PySem PySem.Spec PyProof.Rows
abbrev TO:=St→Hp→(Option Int→Hp→Prop)→Prop
def PO (X:Cx) (e:Option Expr) (t:TO):Prop:=
 ∀ (pins:List (Addr×Obj)) (s:Shared) (σ:St) (H:Hp) (Q:Option Int→Hp→Prop),Inv X pins σ H s→t σ H Q→
  wpAny (model X.prog X.w) X.A (evalPart e X.env) (fun u s'=>∃ o H',Inv X pins σ H' s'∧IsPart u o∧Q o H') X.xe s
def ug:TO:=fun _ H Q=>Q none H
def Dp (t:TE):TO:=fun σ H Q=>t σ H fun x H1=>∃ i,x= .int i∧Q (some i) H1
theorem intsAre_of {ns:List Int}:∀ {us:List Value},Vals (ns.map V.int) us→IntsAre us ns:=by
 induction ns with
 | nil=>intro us r;rw [List.map_nil] at r;cases r;exact .nil
 | cons n ns ih=>
  intro us r
  rw [List.map_cons] at r
  cases r with
  | cons r1 r2=>
   obtain ⟨t,e⟩:=r1
   subst e
   exact .cons n t (ih r2)
section
variable {X:Cx} {e:Expr} {te:TE} {lo hi:Option Expr} {tl th:TO} {pos p2:Pos}
theorem Ia:PO X none ug:=by
 intro pins s σ H Q I h
 rw [evalPart_none]
 exact wpAny_pure ⟨none,H,I,.none,h⟩
theorem Ib (h:PE X e te):PO X (some e) (Dp te):=by
 intro pins s σ H Q I hw
 rw [evalPart_some]
 refine cZ (h pins s σ H _ I hw) fun u s1 qq0=>?_
 obtain ⟨x,H1,I1,r1,q1⟩:=qq0
 obtain ⟨i,rfl,q⟩:=q1
 obtain ⟨t,rfl⟩:=r1
 exact ⟨some i,H1,I1,.int i t,q⟩
def SlR (X:Cx) (r:V→Option Int→Option Int→Hp→VK→Prop):Prop:=
 ∀ (pins:List (Addr×Obj)) (s:Shared) (σ:St) (H:Hp) (x:V) (v vl vu:Value) (lo hi:Option Int) (sl:Addr) (Q:VK),Inv X pins σ H s→RelV x v→s.heap.IsSliceOf sl vl vu .none→IsPart vl lo→IsPart vu hi→r x lo hi H Q→
  ∃ T id,typeLookup (.type T) "__getitem__"=pure (some (.builtin id))∧s.TypeIs v T∧wpAny (model X.prog X.w) X.A (getItem v (.ref sl)) (EP X pins σ Q) X.xe s
theorem SlR.or {r r':V→Option Int→Option Int→Hp→VK→Prop} (h:SlR X r) (h':SlR X r'):SlR X (fun x lo hi H Q=>r x lo hi H Q∨r' x lo hi H Q):=by
 intro pins s σ H x v vl vu lo hi sl Q I rx hs pl pu q
 rcases q with q | q
 ·exact h pins s σ H x v vl vu lo hi sl Q I rx hs pl pu q
 ·exact h' pins s σ H x v vl vu lo hi sl Q I rx hs pl pu q
def tSl (r:V→Option Int→Option Int→Hp→VK→Prop) (te:TE) (tl th:TO):TE:=fun σ H Q=>te σ H fun x H1=>tl σ H1 fun l H2=>th σ H2 fun u H3=>r x l u H3 Q
theorem Dq {r:V→Option Int→Option Int→Hp→VK→Prop} (hr:SlR X r) (he:PE X e te) (hl:PO X lo tl) (hu:PO X hi th):PE X (.Subscript e (.Slice lo hi none p2) pos) (tSl r te tl th):=by
 intro pins s σ H Q I h
 refine Subscript_ (cZ (he pins s σ H _ I h) fun v s1 qq0=>?_)
 obtain ⟨x,H1,I1,r1,q1⟩:=qq0
 refine wpAny_Slice (cZ (hl pins s1 σ H1 _ I1 q1) fun vl s2 ⟨l,H2,I2,pl,q2⟩=>cZ (hu pins s2 σ H2 _ I2 q2) fun vu s3 qq0=>?_)
 obtain ⟨u,H3,I3,pu,q3⟩:=qq0
 rw [evalPart_none]
 refine wpAny_pure ?_
 have I4:Inv X pins σ H3 {s3 with heap:=s3.heap.push {cls:=.type "slice",data:=.fields #[vl,vu,.none]}}:=I3.kept (t':=s3.toks) fun b ob q=>Heap.get?_push_of_some _ q
 obtain ⟨T,id,hT,ht,hg⟩:=hr pins {s3 with heap:=s3.heap.push {cls:=.type "slice",data:=.fields #[vl,vu,.none]}} σ H3 x v vl vu l u s3.heap.objs.size Q I4 r1 (Heap.IsSliceOf.new ..) pl pu q3
 show wpAny (model X.prog X.w) X.A (subscriptTail e (.Slice lo hi none p2) v (.ref s3.heap.objs.size)) (EP X pins σ Q) X.xe {s3 with heap:=s3.heap.push {cls:=.type "slice",data:=.fields #[vl,vu,.none]}}
 exact tail_any (ops:=[.ref s3.heap.objs.size,v]) ht hT hg (by with_unfolding_all rfl)
def my (xs:List V) (lo hi:Option Int):List V:=(xs.drop (HT.sIx xs.length 0 lo)).take (HT.sIx xs.length xs.length hi - HT.sIx xs.length 0 lo)
theorem oW (xs:List V) (lo hi:Option Int):(my xs lo hi).length≤xs.length:=by
 unfold my
 rw [List.length_take,List.length_drop]
 omega
def RG (K:PySem.W.Frag):V→Option Int→Option Int→Hp→VK→Prop:=fun x lo hi H Q=>∃ a xs,x= .ref a∧SqT K H a xs∧
 ¬ (HT.sIx xs.length 0 lo=0∧HT.sIx xs.length xs.length hi=xs.length)∧∀ p,H p=none→Q (.ref p) (upd H p (.tup (my xs lo hi)))
theorem Nt:SlR X (RG X.K):=by
 intro pins s σ H x v vl vu lo hi sl Q I rx hs pl pu h
 obtain ⟨a,xs,rfl,hx,hw,q⟩:=h
 cases rx
 obtain ⟨its,r,ht,hz⟩:=I.tuple hx
 have hlen:its.toArray.size=xs.length:=by rw [List.size_toArray];exact r.length.symm
 refine ⟨"tuple",_,PyProof.Rows.slot_tuple_getitem.lookup,ht.typeIs,?_⟩
 refine HT.getItem_tuple_cut ht hs pl pu (by rw [hlen];exact hw) ?_ (by rw [hlen];exact hz)
 rw [hlen]
 refine ⟨.ref s.heap.objs.size,_,I.laid (t':=s.toks) (o:=.tup (my xs lo hi)) (fun b ob q=>Heap.get?_push_of_some _ q) (Nat.le_refl _) ?_,rfl,q _ (I.hok.fresh (Nat.le_refl _))⟩
 exact ⟨Nat.le_trans (oW xs lo hi) hz,_,(r.drop (HT.sIx xs.length 0 lo)).take (HT.sIx xs.length xs.length hi - HT.sIx xs.length 0 lo),IsTup.new _ _⟩
end
end L2
namespace L2
open PySem PySem.Spec PyProof.Rows
def Hl (n:Nat) (i:Int):Option Nat:=if 0≤i then (if i < n then some i.toNat else none) else if -(n:Int)≤i then some (i+n).toNat else none
def uh {α:Type} (xs:List α) (i:Int):Option α:=(Hl xs.length i).bind fun j=>xs[j]?
theorem zc {n:Nat} {i:Int} {j:Nat} (h:Hl n i=some j):seqIndex? i n=some j∧j < n∧-(n:Int)≤i∧i < n:=by
 unfold Hl at h
 by_cases h0:0≤i
 ·rw [if_pos h0] at h
  by_cases h1:i < n
  ·rw [if_pos h1] at h
   have e:i.toNat=j:=Option.some.inj h
   exact ⟨by rw [seqIndex_of h0 h1,e],by omega,by omega,h1⟩
  ·rw [if_neg h1] at h;cases h
 ·rw [if_neg h0] at h
  by_cases h1: -(n:Int)≤i
  ·rw [if_pos h1] at h
   have e:(i+n).toNat=j:=Option.some.inj h
   exact ⟨by rw [seqIndex_neg (by omega) h1,e],by omega,h1,by omega⟩
  ·rw [if_neg h1] at h;cases h
theorem um {α:Type} {xs:List α} {i:Int} {v:α} (h:uh xs i=some v):∃ j,seqIndex? i xs.length=some j∧xs[j]?=some v∧j < xs.length∧-(xs.length:Int)≤i∧i < xs.length:=by
 unfold uh at h
 cases e:Hl xs.length i with
 | none=>rw [e] at h;cases h
 | some j=>
  rw [e] at h
  obtain ⟨h1,h2,h3,h4⟩:=zc e
  exact ⟨j,h1,h,h2,h3,h4⟩
theorem bF {α:Type} {xs:List α} {j:Nat} {v:α} (h:xs[j]?=some v):uh xs (j:Int)=some v:=by
 have hj:j < xs.length:=(List.getElem?_eq_some_iff.mp h).1
 have e:Hl xs.length (j:Int)=some j:=by
  unfold Hl
  rw [if_pos (by omega),if_pos (by omega)];simp
 unfold uh;rw [e];exact h
def zf (b:Expr):Prop:=∀ o i,subscripted b false o i=operate [o,i] (getItem o i)
def IxR (X:Cx) (r:R2):Prop:=
 ∀ (value slice:Expr) (pins:List (Addr×Obj)) (s:Shared) (σ:St) (H:Hp) (x y:V) (v u:Value) (Q:VK),Inv X pins σ H s→RelV x v→RelV y u→r x y H Q→
  subscripted slice false v u=operate [v,u] (getItem v u)→wpAny (model X.prog X.w) X.A (subscriptTail value slice v u) (EP X pins σ Q) X.xe s
def Rf (X:Cx) (id:String) (r:V→List V→Hp→VK→Prop):Prop:=
 ∀ (pins:List (Addr×Obj)) (s:Shared) (σ:St) (H:Hp) (x:V) (xs:List V) (v:Value) (us:List Value) (Q:VK),Inv X pins σ H s→RelV x v→Vals xs us→r x xs H Q→
  wpAny (model X.prog X.w) X.A (call (.builtin id) (v :: us)) (EP X pins σ Q) X.xe s
section
variable {X:Cx} {a b:Expr} {ta tb:TE} {pos:Pos}
theorem IxR.or {r r':R2} (h:IxR X r) (h':IxR X r'):IxR X (fun x y H Q=>r x y H Q∨r' x y H Q):=by
 intro value slice pins s σ H x y v u Q I rx ry q hs
 rcases q with q | q
 ·exact h value slice pins s σ H x y v u Q I rx ry q hs
 ·exact h' value slice pins s σ H x y v u Q I rx ry q hs
theorem RJ {r:R2} (hr:IxR X r) (ha:PE X a ta) (hb:PE X b tb) (hs:zf b):PE X (.Subscript a b pos) (Df r ta tb):=by
 intro pins s σ H Q I h
 exact Subscript_ (M5 ha hb I h fun v u s2 x y H2 I2 rx ry q=>hr a b pins s2 σ H2 x y v u Q I2 rx ry q (hs _ _))
def RK (K:PySem.W.Frag):R2:=fun x y H Q=>∃ p xs i v,x= .ref p∧y= .int i∧SqL K H p xs∧uh xs i=some v∧Q v H
def RL (K:PySem.W.Frag):R2:=fun x y H Q=>∃ p xs i v,x= .ref p∧y= .int i∧SqT K H p xs∧uh xs i=some v∧Q v H
def RM:R2:=fun x y H Q=>∃ z i c,x= .str z∧y= .int i∧z.length≤sizeLine∧uh z.cps.toList i=some c∧Q (.str ⟨#[c]⟩) H
theorem Ie:IxR X (RK X.K):=by
 intro value slice pins s σ H x y v u Q I rx ry h hs
 obtain ⟨p,xs,i,z,rfl,rfl,hq,he,q⟩:=h
 cases rx
 obtain ⟨t,rfl⟩:=ry
 obtain ⟨its,r,pl,hz⟩:=I.list hq
 obtain ⟨j,h1,h2,h3,h4,h5⟩:=um he
 obtain ⟨w,ew,rw'⟩:=r.get h2
 have hl:=r.length
 have hn:=p8
 have fin:EP X pins σ Q w s:=⟨z,H,I,rw',q⟩
 by_cases h0:0≤i
 ·have hj:i.toNat=j:=by
   rw [seqIndex_of h0 h5] at h1
   exact Option.some.inj h1
  exact item_listR pl.isList h0 (by omega) (by rw [hj];simpa using ew) fin hs
 ·have hj:(i+(its.toArray.size:Int)).toNat=j:=by
   rw [seqIndex_neg (by omega) h4] at h1
   rw [List.size_toArray,← hl]
   exact Option.some.inj h1
  exact subscriptTail_builtinR (x:=w) pl.isList.typeIs slot_list_getitem.lookup
   (wpAny_getItem_list_neg (Q:=fun r s'=>r=w∧EP X pins σ Q r s') pl.isList (by omega) (by rw [List.size_toArray] <;> omega) (by omega) (by rw [hj];simpa using ew) ⟨rfl,fin⟩) hs
theorem Nu:IxR X (RL X.K):=by
 intro value slice pins s σ H x y v u Q I rx ry h hs
 obtain ⟨p,xs,i,z,rfl,rfl,hq,he,q⟩:=h
 cases rx
 obtain ⟨t,rfl⟩:=ry
 obtain ⟨its,r,pl,hz⟩:=I.tuple hq
 obtain ⟨j,h1,h2,h3,h4,h5⟩:=um he
 obtain ⟨w,ew,rw'⟩:=r.get h2
 have hl:=r.length
 have hn:=p8
 have fin:EP X pins σ Q w s:=⟨z,H,I,rw',q⟩
 exact subscriptTail_builtinR (x:=w) pl.typeIs slot_tuple_getitem.lookup
  (getItem_tuple (j:=j) (Q:=fun r s'=>r=w∧EP X pins σ Q r s') pl (by omega) (by omega) (by rw [List.size_toArray,← hl];exact h1) (by simpa using ew) ⟨rfl,fin⟩) hs
theorem Nv:IxR X RM:=by
 intro value slice pins s σ H x y v u Q I rx ry h hs
 obtain ⟨z,i,c,rfl,rfl,hz,he,q⟩:=h
 obtain ⟨t,rfl⟩:=rx
 obtain ⟨t',rfl⟩:=ry
 obtain ⟨j,h1,h2,h3,h4,h5⟩:=um he
 have hl:z.cps.toList.length=z.length:=by simp [Str.length]
 rw [hl] at h1 h4 h5
 have hn:=p8
 exact tail_any (typeIs_str s z t) slot_str_getitem.lookup (getItem_str (c:=c) (by
  have e1:decide (i < -(2 ^ 63:Int))=false:=decide_eq_false (by omega)
  have e2:decide (i≥2 ^ 63)=false:=decide_eq_false (by omega)
  rw [e1,e2,Bool.or_false]) (by rw [h1];simpa using h2) ⟨.str ⟨#[c]⟩,H,I.tok _,⟨_,rfl⟩,q⟩) hs
def Ny (K:PySem.W.Frag):R2:=fun x y H Q=>RK K x y H Q∨RL K x y H Q∨RM x y H Q
theorem Nz:IxR X (Ny X.K):=Ie.or (Nu.or Nv)
theorem xJ (its:List Value) (n j:Nat) (u:Value):Obj.mapSeq (·.setIfInBounds j u) {cls:=.type "list",data:=.seq its.toArray n}={cls:=.type "list",data:=.seq (its.set j u).toArray n}:=by
 simp [Obj.mapSeq]
theorem Inv.lst {pins:List (Addr×Obj)} {σ:St} {H:Hp} {s:Shared} {p:Addr} {xs:List V} (I:Inv X pins σ H s) (h:H p=some (.lst xs)):
  ∃ (its:List Value) (n:Nat),Vals xs its∧s.heap.get? p=some {cls:=.type "list",data:=.seq its.toArray n}∧xs.length≤sizeLine:=by
 obtain ⟨z,its,n,r,e⟩:=I.hok p _ h
 exact ⟨its,n,r,e,z⟩
theorem Inv.lstUpd {pins:List (Addr×Obj)} {σ:St} {H:Hp} {s:Shared} {p:Addr} {xs ys:List V} {its its':List Value} {n n':Nat} {f:Obj→Obj} (I:Inv X pins σ H s) (h:H p=some (.lst xs))
  (ho:s.heap.get? p=some {cls:=.type "list",data:=.seq its.toArray n}) (hf:f {cls:=.type "list",data:=.seq its.toArray n}={cls:=.type "list",data:=.seq its'.toArray n'}) (r:Vals ys its') (hz:ys.length≤sizeLine) (t:Nat):
  Inv X pins σ (upd H p (.lst ys)) {s with heap:=s.heap.update p f,toks:=t}:=by
 have e:(s.heap.update p f).get? p=some {cls:=.type "list",data:=.seq its'.toArray n'}:=by
  rw [Heap.get?_update_self f ho (by rw [hf] <;> rfl),hf]
 refine I.write (x:=p) (e:=p) (by rw [h];trivial) (.inl rfl) (fun b u hb q=>(Heap.get?_update_other _ _ (Ne.symm hb)).trans q) ⟨_,e⟩ ?_
 exact ⟨hz,its',n',r,e⟩
def vJ:V→V→V→Hp→(Hp→Prop)→Prop:=fun o i v H Q=>∃ p xs k j,o= .ref p∧i= .int k∧H p=some (.lst xs)∧Hl xs.length k=some j∧Q (upd H p (.lst (xs.set j v)))
theorem set_list:MF X vJ:=by
 intro pins s σ H o i v ov iv u Q I ro ri rv h
 obtain ⟨p,xs,k,j,rfl,rfl,hp,hj,q⟩:=h
 cases ro
 obtain ⟨t,rfl⟩:=ri
 obtain ⟨its,n,r,ho,hz⟩:=I.lst hp
 obtain ⟨h1,h2,h3,h4⟩:=zc hj
 have hl:=r.length
 have hn:=p8
 have I':Inv X pins σ (upd H p (.lst (xs.set j v))) {s with heap:=s.heap.update p (Obj.mapSeq (·.setIfInBounds j u))}:=
  I.lstUpd hp ho (xJ its n j u) (r.set rv j) (by rw [List.length_set];exact hz) s.toks
 by_cases h0:0≤k
 ·have hk:k.toNat=j:=by
   rw [seqIndex_of h0 h4] at h1
   exact Option.some.inj h1
  exact PySem.W.ki_setAt ho h0 (by omega) (by rw [List.size_toArray,← hl];exact h4) (by rw [hk];exact ⟨_,I',q⟩)
 ·have hk:(k+(its.toArray.size:Int)).toNat=j:=by
   rw [seqIndex_neg (by omega) h3] at h1
   rw [List.size_toArray,← hl]
   exact Option.some.inj h1
  exact PySem.W.ki_setBack ho (by omega) (by rw [List.size_toArray,← hl];exact h3) (by omega) (by rw [hk];exact ⟨_,I',q⟩)
theorem uo (lo hi:Option Int) (n:Nat):(sliceBounds lo hi none n).1=((HT.sIx n 0 lo:Nat):Int)∧(sliceBounds lo hi none n).2.1=((HT.sIx n n hi:Nat):Int)∧(sliceBounds lo hi none n).2.2=1:=by
 refine ⟨?_,?_,rfl⟩
 ·cases lo with
  | none=>simp [sliceBounds,HT.sIx]
  | some i=>
   simp only [sliceBounds,HT.sIx,Option.getD_none,show (1:Int) > 0 by decide,if_true]
   by_cases h:i < 0
   ·simp only [h,if_true] <;> omega
   ·simp only [h,if_false] <;> omega
 ·cases hi with
  | none=>simp [sliceBounds,HT.sIx]
  | some i=>
   simp only [sliceBounds,HT.sIx,Option.getD_none,show (1:Int) > 0 by decide,if_true]
   by_cases h:i < 0
   ·simp only [h,if_true] <;> omega
   ·simp only [h,if_false] <;> omega
theorem rH (its:List Value) (lo hi:Option Int):slicePick its.toArray lo hi none=((its.drop (HT.sIx its.length 0 lo)).take (HT.sIx its.length its.length hi - HT.sIx its.length 0 lo)).toArray:=by
 obtain ⟨h1,h2,h3⟩:=uo lo hi its.toArray.size
 unfold slicePick
 rw [h1,h2,h3]
 simp only [sliceRange_one,pick_run,List.size_toArray] <;> rfl
def RN (K:PySem.W.Frag):V→Option Int→Option Int→Hp→VK→Prop:=fun x lo hi H Q=>∃ a xs,x= .ref a∧SqL K H a xs∧∀ p,H p=none→Q (.ref p) (upd H p (.lst (my xs lo hi)))
theorem Ig:SlR X (RN X.K):=by
 intro pins s σ H x v vl vu lo hi sl Q I rx hs pl pu h
 obtain ⟨a,xs,rfl,hx,q⟩:=h
 cases rx
 obtain ⟨its,r,ht,hz⟩:=I.list hx
 have hlen:=r.length
 refine ⟨"list",_,slot_list_getitem.lookup,ht.isList.typeIs,?_⟩
 refine wpAny_getItem_list_slice ht.isList hs pl pu .none (by simp) ?_ (by rw [List.size_toArray] <;> omega)
 rw [rH,← hlen]
 refine ⟨.ref s.heap.objs.size,_,I.laid (t':=s.toks) (o:=.lst (my xs lo hi)) (fun b ob q=>Heap.get?_push_of_some _ q) (Nat.le_refl _) ?_,rfl,q _ (I.hok.fresh (Nat.le_refl _))⟩
 exact ⟨Nat.le_trans (oW xs lo hi) hz,_,0,(r.drop (HT.sIx xs.length 0 lo)).take (HT.sIx xs.length xs.length hi - HT.sIx xs.length 0 lo),Heap.get?_push_size _ rfl⟩
def jw:V→Bool
 | .non=>true
 | .bl _=>true
 | .int _=>true
 | .str _=>true
 | _=>false
def vK:V→V→Bool
 | .non,.non=>true
 | .bl a,.bl b=>a == b
 | .bl a,.int b=>(if a then 1 else 0) == b
 | .int a,.bl b=>a == (if b then 1 else 0)
 | .int a,.int b=>a == b
 | .str a,.str b=>a == b
 | _,_=>false
theorem uq {A:Around} {s:Shared} {y x:V} {u v:Value} (ry:RelV y u) (rx:RelV x v) (fy:jw y=true) (fx:jw x=true):SeqAt.EqAt A s u v (vK y x):=by
 cases y with
 | non=>
  cases ry
  cases x with
  | non=>cases rx;exact SeqAt.EqAt.same _
  | bl b=>cases rx;exact SeqAt.EqAt.none_bool b
  | int b=>obtain ⟨t,rfl⟩:=rx;exact SeqAt.EqAt.none_int b t
  | str b=>obtain ⟨t,rfl⟩:=rx;exact SeqAt.EqAt.none_str b t
  | _=>exact absurd (show false=true from fx) Bool.false_ne_true
 | bl a=>
  cases ry
  cases x with
  | non=>cases rx;exact SeqAt.EqAt.bool_none a
  | bl b=>cases rx;exact SeqAt.EqAt.bool_bool a b
  | int b=>obtain ⟨t,rfl⟩:=rx;exact SeqAt.EqAt.bool_int a b t
  | str b=>obtain ⟨t,rfl⟩:=rx;exact SeqAt.EqAt.bool_str a b t
  | _=>exact absurd (show false=true from fx) Bool.false_ne_true
 | int a=>
  obtain ⟨t',rfl⟩:=ry
  cases x with
  | non=>cases rx;exact SeqAt.EqAt.int_none a t'
  | bl b=>cases rx;exact SeqAt.EqAt.int_bool a t' b
  | int b=>obtain ⟨t,rfl⟩:=rx;exact SeqAt.EqAt.int_int a t' b t
  | str b=>obtain ⟨t,rfl⟩:=rx;exact SeqAt.EqAt.int_str a t' b t
  | _=>exact absurd (show false=true from fx) Bool.false_ne_true
 | str a=>
  obtain ⟨t',rfl⟩:=ry
  cases x with
  | non=>cases rx;exact SeqAt.EqAt.str_none a t'
  | bl b=>cases rx;exact SeqAt.EqAt.str_bool a t' b
  | int b=>obtain ⟨t,rfl⟩:=rx;exact SeqAt.EqAt.str_int a t' b t
  | str b=>obtain ⟨t,rfl⟩:=rx;exact SeqAt.EqAt.str_str a t' b t
  | _=>exact absurd (show false=true from fx) Bool.false_ne_true
 | _=>exact absurd (show false=true from fy) Bool.false_ne_true
def Ih (x:V) (u:Value):Bool:=match u with
 | .none=>vK .non x
 | .bool b=>vK (.bl b) x
 | .int i _=>vK (.int i) x
 | .str z _=>vK (.str z) x
 | _=>false
theorem Ds {x y:V} {u:Value} (r:RelV y u) (f:jw y=true):Ih x u=vK y x:=by
 cases y with
 | non=>cases r;rfl
 | bl b=>cases r;rfl
 | int i=>obtain ⟨t,rfl⟩:=r;rfl
 | str z=>obtain ⟨t,rfl⟩:=r;rfl
 | _=>exact absurd (show false=true from f) Bool.false_ne_true
theorem ur {x:V}:∀ {xs:List V} {us:List Value},Vals xs us→xs.all jw=true→us.any (Ih x)=xs.any fun y=>vK y x
 | _,_,.nil,_=>rfl
 | y :: xs,u :: us,.cons r t,f=>by
  rw [List.all_cons,Bool.and_eq_true] at f
  rw [List.any_cons,List.any_cons,Ds r f.1,ur t f.2]
theorem qg {A:Around} {s:Shared} {x:V} {v:Value} (rx:RelV x v) (fx:jw x=true):∀ {xs:List V} {us:List Value},Vals xs us→xs.all jw=true→∀ u∈us,SeqAt.EqAt A s u v (Ih x u)
 | _,_,.nil,_=>fun u hu=>by cases hu
 | y :: xs,u :: us,.cons r t,f=>fun u' hu=>by
  rw [List.all_cons,Bool.and_eq_true] at f
  rcases List.mem_cons.mp hu with rfl | hu
  ·rw [Ds r f.1];exact uq r rx f.1 fx
  ·exact qg rx fx t f.2 u' hu
def inV (x:V) (xs:List V):Bool:=xs.any fun y=>vK y x
def rIn (K:PySem.W.Frag) (neg:Bool):R2:=fun x y H Q=>∃ p xs,y= .ref p∧(SqL K H p xs∨SqT K H p xs)∧jw x=true∧xs.all jw=true∧Q (.bl (if neg then !inV x xs else inV x xs)) H
theorem Bb:OpR X (compareOp .In) (rIn X.K false):=by
 intro pins s σ H x y v u Q I rx ry h
 obtain ⟨p,xs,rfl,hq,fx,fs,q⟩:=h
 cases ry
 rcases hq with hq | hq
 ·obtain ⟨its,r,pl,hz⟩:=I.list hq
  refine SeqAt.in_listAt (Ih x) pl.isList (fun w hw=>qg rx fx r fs w (by simpa using hw)) ⟨.bl _,H,I,rfl,?_⟩
  rw [show its.toArray.any (Ih x)=its.any (Ih x) by simp,ur r fs]
  exact q
 ·obtain ⟨its,r,pl,hz⟩:=I.tuple hq
  refine SeqAt.in_tupleAt (Ih x) pl (fun w hw=>qg rx fx r fs w (by simpa using hw)) ⟨.bl _,H,I,rfl,?_⟩
  rw [show its.toArray.any (Ih x)=its.any (Ih x) by simp,ur r fs]
  exact q
theorem CallR.or {f:Value} {r r':List V→Hp→VK→Prop} (h:CallR X f r) (h':CallR X f r'):CallR X f (fun xs H Q=>r xs H Q∨r' xs H Q):=by
 intro pins s σ H xs us Q I rs q
 rcases q with q | q
 ·exact h pins s σ H xs us Q I rs q
 ·exact h' pins s σ H xs us Q I rs q
theorem ut:CallR X (.type "list") (fun xs H Q=>∃ p ys,xs=[.ref p]∧(SqL X.K H p ys∨SqT X.K H p ys)∧∀ l,H l=none→Q (.ref l) (upd H l (.lst ys))):=by
 intro pins s σ H xs us Q I r h
 obtain ⟨p,ys,rfl,hq,q⟩:=h
 obtain ⟨u,rfl,rx⟩:=vals1 r
 cases rx
 have fin:∀ (its:List Value),Vals ys its→ys.length≤sizeLine→∀ (h':Heap) (c':Nat),(∀ b o',s.heap.get? b=some o'→h'.get? b=some o')→
   h'.get? s.heap.objs.size=some {cls:=.type "list",dict:=none,data:=.seq its.toArray c',slots:=#[]}→EP X pins σ Q (.ref s.heap.objs.size) {s with heap:=h'}:=fun its r' hz h' c' kp e=>
  ⟨.ref s.heap.objs.size,_,I.laid (t':=s.toks) kp (Nat.le_refl _) (show ObjOk X.prog X.w _ h' _ (.lst ys) from ⟨hz,its,c',r',e⟩),rfl,q _ (I.hok.fresh (Nat.le_refl _))⟩
 rcases hq with hq | hq
 ·obtain ⟨its,r',pl,hz⟩:=I.list hq
  have hlen:=r'.length
  obtain ⟨o,ho,hc,n,hd⟩:=pl.isList
  exact call_list_seq p (.inl rfl) ho hc hd (fun h' c' kp e=>fin its r' hz h' c' kp e) (by simp only [List.size_toArray] <;> omega)
 ·obtain ⟨its,r',pl,hz⟩:=I.tuple hq
  have hlen:=r'.length
  obtain ⟨o,ho,hc,n,hd⟩:=pl
  exact call_list_seq p (.inr rfl) ho hc hd (fun h' c' kp e=>fin its r' hz h' c' kp e) (by simp only [List.size_toArray] <;> omega)
def tyV (K:PySem.W.Frag) (T:String) (x:V) (H:Hp):Prop:=match x with
 | .str _=>T="str"
 | .int _=>T="int"
 | .ref p=>(T="list"∧∃ xs,SqL K H p xs)∨(T="tuple"∧∃ o,K.lookup p=some o∧o.cls= .type "tuple"∧o.dict=none)∨
   (T="dict"∧((∃ kvs,H p=some (.dK kvs))∨∃ kvs,H p=some (.dT kvs)))∨(T="set"∧∃ S n,H p=some (.set S n))
 | _=>False
theorem NB {pins:List (Addr×Obj)} {σ:St} {H:Hp} {s:Shared} {T:String} {x:V} {v:Value} (I:Inv X pins σ H s) (r:RelV x v) (ty:tyV X.K T x H):
  s.TypeIs v T∧∀ a,v= .ref a→∃ ob,s.heap.get? a=some ob∧ob.dict=none:=by
 cases x with
 | str z=>
  obtain ⟨t,rfl⟩:=r
  cases (show T="str" from ty)
  exact ⟨typeIs_str s z t,fun _ e=>nomatch e⟩
 | int i=>
  obtain ⟨t,rfl⟩:=r
  cases (show T="int" from ty)
  exact ⟨typeIs_int s i t,fun _ e=>nomatch e⟩
 | ref p=>
  cases r
  rcases ty with ⟨rfl,xs,hq⟩ | ⟨rfl,o,hk,hc,hd⟩ | ⟨rfl,hk⟩ | ⟨rfl,S,n,hk⟩
  ·obtain ⟨its,_,pl,_⟩:=I.list hq
   refine ⟨pl.isList.typeIs,fun a e=>?_⟩
   cases e
   obtain ⟨o,n,e,c,hd,_⟩:=pl
   exact ⟨o,e,hd⟩
  ·refine ⟨⟨o,I.kIn p o hk,hc⟩,fun a e=>?_⟩
   cases e
   exact ⟨o,I.kIn _ o hk,hd⟩
  ·have z:∃ o,s.heap.get? p=some o∧o.ExactDict:=by
    rcases hk with ⟨kvs,hk⟩ | ⟨kvs,hk⟩
    ·obtain ⟨_,_,_,_,o,_,_,e,ex,_⟩:=I.hok p _ hk
     exact ⟨o,e,ex⟩
    ·obtain ⟨_,_,_,_,o,_,_,e,ex,_⟩:=I.hok p _ hk
     exact ⟨o,e,ex⟩
   obtain ⟨o,e,ex⟩:=z
   refine ⟨⟨o,e,ex.1⟩,fun a e2=>?_⟩
   cases e2
   exact ⟨o,e,ex.2.1⟩
  ·obtain ⟨o,_,_,_,e,ex,_⟩:=I.hok p _ hk
   refine ⟨⟨o,e,ex.1⟩,fun a e2=>?_⟩
   cases e2
   exact ⟨o,e,ex.2.1⟩
 | _=>exact False.elim ty
def Rg (K:PySem.W.Frag) (T:String) (r:V→List V→Hp→VK→Prop) (to:TE) (t:TA):TE:=fun σ H Q=>to σ H fun x H1=>tyV K T x H1∧t σ H1 fun xs H2=>r x xs H2 Q
variable {o e:Expr} {es:List Expr} {to:TE} {t:TA} {name:Str} {apos cpos:Pos} {T id:String} {r:V→List V→Hp→VK→Prop}
theorem RP (pa:PlainAttrs T) (slot:Slot T name id) (hty:typeOf (.builtin id)=pure (.type "method_descriptor")) (hm:Rf X id r) (ho:PE X o to) (ha:PA X (e :: es) t)
  (hbase:autoParam (attributeBase o name X.env (eval o X.env)=eval o X.env) L2.auto4._auto_1)
  (hfew:((backTo cpos (starEach (e :: es) X.env)).all (fun x=>!x.1) && (backToKw cpos (keywordEach [] X.env)).all (fun x=>x.1.isSome)
   && decide ((e :: es).length+([]:List Keyword).length+(if ([]:List Keyword).isEmpty then 0 else 1) < 30))=true:=by rfl)
  (hline:autoParam ((apos.endLine == cpos.line)=true) L2.auto4._auto_1) (hs:autoParam (starEach (e :: es) X.env=(false,eval e X.env) :: starEach es X.env) L2.auto4._auto_1) (hplain:autoParam ((backTo cpos (starEach es X.env)).any (·.1)=false) L2.auto4._auto_1):
  PE X (.Call (.Attribute o name apos) (e :: es) [] cpos) (Rg X.K T r to t):=by
 intro pins s σ H Q I h
 refine wpAny_Call_method_late hbase hfew hline rfl (cZ (ho pins s σ H _ I h) fun v s1 qq0=>?_)
 obtain ⟨x,H1,I1,r1,ty,q1⟩:=qq0
 obtain ⟨h1,h2⟩:=NB I1 r1 ty
 refine ⟨T,id,pa,slot,hty,h1,h2,?_⟩
 have hA:=ha cpos pins s1 σ H1 _ I1 q1
 rw [hs] at hA ⊢
 refine Calls.callWith_builtin (by show (false || (backTo cpos (starEach es X.env)).any (·.1))=false;rw [hplain] <;> rfl) (Calls.evalArgs_plain ?_)
 exact cZ hA fun us s2 ⟨vs,H2,I2,r2,q2⟩=>hm pins s2 σ H2 x vs v us Q I2 r1 r2 q2
end
end L2
namespace L2
open PySem PySem.Spec PyProof.Rows
def MtM (X:Cx) (id:String) (r:V→List V→Hp→VK→Prop):Prop:=
 ∀ (pins:List (Addr×Obj)) (s:Shared) (σ:St) (H:Hp) (x:V) (xs:List V) (v:Value) (us:List Value) (Q:VK),Inv X pins σ H s→RelV x v→Vals xs us→r x xs H Q→
  wpAny (model X.prog X.w) X.A (call (.builtin id) (v :: us)) (EP X pins σ Q) X.xe s
theorem Vals.one:∀ {x:V} {us:List Value},Vals [x] us→∃ u,us=[u]∧RelV x u
 | _,_,.cons r .nil=>⟨_,rfl,r⟩
theorem Vals.rep {xs:List V} {us:List Value} (h:Vals xs us):∀ k:Nat,Vals (List.replicate k xs).flatten (List.replicate k us).flatten
 | 0=>.nil
 | k+1=>by
  rw [List.replicate_succ,List.replicate_succ,List.flatten_cons,List.flatten_cons]
  exact Vals.append h (Vals.rep h k)
theorem foldl_rep (its:List Value):∀ (k:Nat) (acc:List Value),
  List.foldl (fun x1 x2=>x1 ++ x2) acc.toArray (List.replicate k its.toArray)=(acc ++ (List.replicate k its).flatten).toArray
 | 0,acc=>by simp
 | k+1,acc=>by
  have e:acc.toArray ++ its.toArray=(acc ++ its).toArray:=by simp
  have e2:(acc ++ its) ++ (List.replicate k its).flatten=acc ++ (List.replicate (k+1) its).flatten:=by
   rw [List.replicate_succ,List.flatten_cons,List.append_assoc]
  rw [← e2,← foldl_rep its k (acc ++ its),← e,List.replicate_succ,List.foldl_cons]
section
variable {X:Cx} {pins:List (Addr×Obj)} {σ:St} {H:Hp} {s:Shared} {l b:Addr} {xs ys zs:List V}
theorem Inv.lset {its its':List Value} {n:Nat} {f:Array Value→Array Value} {t':Nat} (I:Inv X pins σ H s) (hH:H l=some (.lst xs))
  (e:s.heap.get? l=some {cls:=.type "list",data:=.seq its.toArray n}) (hf:f its.toArray=its'.toArray) (hv:Vals ys its') (hz:ys.length≤sizeLine):
  Inv X pins σ (upd H l (.lst ys)) {s with heap:=s.heap.update l (Obj.mapSeq f),toks:=t'}:=by
 have q:=PySem.IsL.update e f
 rw [hf] at q
 refine I.write (x:=l) (e:=l) (by rw [hH];exact trivial) (.inl rfl) (fun b' u hb hu=>(Heap.get?_update_other s.heap (Obj.mapSeq f) (Ne.symm hb)).trans hu) ⟨_,q⟩ ?_
 exact ⟨hz,its',_,hv,q⟩
theorem Inv.lnew {its:List Value} {t':Nat} (I:Inv X pins σ H s) (hv:Vals ys its) (hz:ys.length≤sizeLine):
  Inv X pins σ (upd H s.heap.objs.size (.lst ys)) {s with heap:=s.heap.push {cls:=.type "list",data:=.seq its.toArray},toks:=t'}:=
 I.laid (fun _ _ q=>Heap.get?_push_of_some _ q) (Nat.le_refl _) ⟨hz,its,0,hv,Heap.get?_push_size _ rfl⟩
theorem Inv.fresh (I:Inv X pins σ H s):H s.heap.objs.size=none:=I.hok.fresh (Nat.le_refl _)
theorem Inv.lstM (I:Inv X pins σ H s) (hH:H l=some (.lst xs)):xs.length≤sizeLine∧∃ (its:List Value) (n:Nat),Vals xs its∧xs.length=its.length∧s.heap.get? l=some {cls:=.type "list",data:=.seq its.toArray n}:=by
 obtain ⟨z,its,n,r,e⟩:=I.hok l _ hH
 exact ⟨z,its,n,r,r.length,e⟩
theorem Dt {n:Nat} (h:n≤sizeLine):Builtin.List.listTooLong n=false:=by
 unfold Builtin.List.listTooLong
 exact decide_eq_false (by omega)
end
section
variable {X:Cx}
def zg:V→List V→Hp→VK→Prop:=fun x vs H Q=>∃ l xs y,x= .ref l∧vs=[y]∧H l=some (.lst xs)∧xs.length < sizeLine∧Q .non (upd H l (.lst (xs ++ [y])))
theorem bN:MtM X "list.append" zg:=by
 intro pins s σ H x vs v us Q I rx rv h
 obtain ⟨l,xs,y,rfl,rfl,hH,hz,q⟩:=h
 cases rx
 obtain ⟨u,rfl,ru⟩:=rv.one
 obtain ⟨z,its,n,r,hl,e⟩:=I.lstM hH
 refine call_meets F.slot_list_append ⟨_,e,rfl⟩ F.entry_list_append (F.args_list_append_2 _ _) (PySem.list_append l its.toArray n u (by rw [List.size_toArray];omega)) ⟨e,?_⟩
 refine ⟨.non,_,I.lset (its':=its ++ [u]) hH e (by simp) (r.append (.cons ru .nil)) ?_,rfl,q⟩
 rw [List.length_append,List.length_singleton]
 omega
def RQ:R2:=fun x y H Q=>∃ l b xs zs,x= .ref l∧y= .ref b∧H l=some (.lst xs)∧H b=some (.lst zs)∧xs.length+zs.length≤sizeLine∧∀ p,H p=none→Q (.ref p) (upd H p (.lst (xs ++ zs)))
theorem NK:OpR X (binaryOp .Add) RQ:=by
 intro pins s σ H x y v u Q I rx ry h
 obtain ⟨l,b,xs,zs,rfl,rfl,hH,hB,hz,q⟩:=h
 cases rx
 cases ry
 obtain ⟨z,its,n,r,hl,e⟩:=I.lstM hH
 obtain ⟨z2,its2,n2,r2,hl2,e2⟩:=I.lstM hB
 refine PySem.P.add_list e e2 ?_ (by rw [List.size_toArray,List.size_toArray];omega)
 have ea:its.toArray ++ its2.toArray=(its ++ its2).toArray:=by simp
 rw [ea]
 exact ⟨.ref _,_,I.lnew (t':=s.toks) (r.append r2) (by rw [List.length_append];omega),rfl,q _ I.fresh⟩
def RV:R2:=fun x y H Q=>∃ l k xs,x= .ref l∧y= .int k∧H l=some (.lst xs)∧-(2 ^ 63)≤k∧k < 2 ^ 63∧xs.length*k.toNat≤sizeLine∧
 ∀ p,H p=none→Q (.ref p) (upd H p (.lst (List.replicate k.toNat xs).flatten))
theorem len_rep {α:Type} (xs:List α) (k:Nat):(List.replicate k xs).flatten.length=k*xs.length:=by
 induction k with
 | zero=>simp
 | succ k ih=>rw [List.replicate_succ,List.flatten_cons,List.length_append,ih,Nat.succ_mul,Nat.add_comm]
theorem NP:OpR X (binaryOp .Mult) RV:=by
 intro pins s σ H x y v u Q I rx ry h
 obtain ⟨l,k,xs,rfl,rfl,hH,h1,h2,hz,q⟩:=h
 cases rx
 obtain ⟨t,rfl⟩:=ry
 obtain ⟨z,its,n,r,hl,e⟩:=I.lstM hH
 have hlen:its.toArray.size*k.toNat≤sizeLine:=by rw [List.size_toArray,← hl];exact hz
 have hcap:¬ its.toArray.size*k.toNat > (2 ^ 63 - 1) / 8:=by
  have:(sizeLine:Nat)≤(2 ^ 63 - 1) / 8:=by decide
  omega
 have hfit:¬ (!Builtin.List.listFitsIndex k)=true:=by
  rw [fitsIndex_both h1 h2]
  exact Bool.false_ne_true
 have hlong:¬ Builtin.List.listTooLong (its.toArray.size*k.toNat)=true:=by
  rw [Dt hlen]
  exact Bool.false_ne_true
 have hnew:List.foldl (fun x1 x2=>x1 ++ x2) #[] (List.replicate (if its.toArray.isEmpty=true then 0 else k.toNat) its.toArray)=(List.replicate k.toNat its).flatten.toArray:=by
  have f0:∀ m:Nat,List.foldl (fun x1 x2=>x1 ++ x2) #[] (List.replicate m its.toArray)=(List.replicate m its).flatten.toArray:=fun m=>by
   have:=foldl_rep its m []
   rw [List.nil_append] at this
   exact this
  rw [f0]
  cases its with
  | nil=>simp
  | cons a r'=>rw [if_neg (by simp)]
 refine wpAny_binaryOp_repeat_ref (T:="list") (U:="int") (by decide) ⟨_,e,rfl⟩ (fun s'=>typeIs_int s' k t) noFill_list_mul F.fills_int_mul F.slot_int_rmul repeat_list F.slot_int_index.lookup
  (call_meets F.slot_int_rmul (typeIs_int s k t) F.entry_int_rmul (F.args_int_rmul_2 _ _) (int___rmul___int_list k t l its.toArray n)
   ⟨e,rfl,⟨_,e,rfl⟩,call_meets F.slot_list_mul ⟨_,e,rfl⟩ F.entry_list_mul (F.args_list_mul_2 _ _) (AutoListH.list___mul___list_int_3 l its.toArray n k t hfit hcap hlong) ⟨e,?_⟩⟩)
 rw [hnew]
 exact ⟨.ref _,_,I.lnew (t':=s.toks) (r.rep k.toNat) (by rw [len_rep,Nat.mul_comm];exact hz),rfl,q _ I.fresh⟩
end
section
variable {prog:Program} {w:World} {A:Around} {E:Value→Shared→Prop} {s:Shared}
end
section
variable {X:Cx}
end
end L2
namespace Att
open PySem PySem.W PySem.Calls PyProof.Rows
theorem pq {P:Params} {h:Heap}:∀ (ns:List Int) (vs:List Value),WellAll P h vs (ns.map WData.int)→IntsAre vs ns:=by
 intro ns
 induction ns with
 | nil=>
  intro vs w
  rw [List.map_nil] at w
  cases w
  exact .nil
 | cons n ns ih=>
  intro vs w
  rw [List.map_cons] at w
  cases w with
  | cons a b=>
   cases a
   exact .cons _ _ (ih _ b)
theorem Bc {l:OpenLaw} {n:Nat} (hn:l.most=some n) {P:Params} {h:Heap} {args:List WData} {vals:List Value}
  (hpre:l.row.toRowW.claim.pre args=true) (hwl:WellAll P h vals args):
  ∃ a vs ns,vals=[Value.ref a]∧args=[WData.list (ns.map WData.int)]∧h.get? a=some {cls:=.type "list",data:=.seq vs.toArray}∧IntsAre vs ns∧ns.length≤n:=by
 have hsh:WShape.hasAll [] args [.list .int]=true:=(pre_splitW hpre).1
 have hc:l.pre.holds [] {args:=args}=true:=(pre_splitW hpre).2
 obtain ⟨d,r,rfl,h1,h2⟩:=hasAllW_cons hsh
 obtain rfl:=hasAllW_nil h2
 obtain ⟨xs,rfl,h3⟩:=hasW_list h1
 obtain ⟨ns,rfl⟩:=items_int h3
 have hlen:ns.length≤n:=by
  unfold OpenLaw.pre at hc
  have h4:(WTm.not (.lt (.lit (.int (n:Int))) (.len (.arg 0)))).holds [] {args:=[.list (ns.map .int)]}=true:=by
   have h4:=(holds_andW hc).1
   rw [hn] at h4
   exact h4
  have h5:=condW_of h4 (w_not (w_lt w_lit (w_len_list (w_arg rfl))))
  rw [List.length_map] at h5
  refine Nat.le_of_not_lt fun q=>?_
  have q':(n:Int) < ((ns.length:Nat):Int):=by omega
  first
   | (rw [decide_eq_true q'] at h5;exact absurd h5 (by decide))
   | (simp at h5;omega)
 cases hwl with
 | cons w1 w2=>
  cases w2
  cases w1 with
  | list ho hall=>exact ⟨_,_,ns,rfl,rfl,ho,pq ns _ hall,hlen⟩
theorem Be (l:OpenLaw) (args:List WData):l.row.toRowW.claim.post args (.bool true) args=true:=
 postW_of (r:=l.row.toRowW) (X:=(true == true))
  (show WShape.has [] (.bool true) .bool=true by first | rfl | decide | simp [WShape.has,WShape.arms,WShape.armsAll])
  (show (WTm.eq .res (.lit (.bool true))).value [] {args:=args,res:=some (.bool true),after:=args}=some (.bool (true == true)) from w_eq_bool (w_res rfl) w_lit) rfl
theorem attach_call {l:OpenLaw} {n:Nat} {q:Program} {loose:List Str} {XP:(Str→Option Value)→Heap→Prop} {YP:World→Heap→Prop} {d:DefRec}
  (hn:l.most=some n) (hdf:d.params.defaults=[])
  (call:∀ (w:World) (s₀ s₁:Shared) (mg mb:Str→Option Value) (fa:Addr) (o:Obj) (pm cd doc:Value) (a:Addr) (vs:List Value) (ns:List Int),
   Ground q loose [] XP w s₀ mg mb s₁.heap→YP w s₁.heap→
   s₁.heap.get? fa=some o→o.data= .func (docDef d.name d.params d.body d.scope pm cd doc)→s₁.heap.CodeRec cd d.name→mg d.name=some (.ref fa)→
   s₁.heap.get? a=some {cls:=.type "list",data:=.seq vs.toArray}→IntsAre vs ns→ns.length≤n→s₁.gens= #[]→
   codeAny (model l.prog w) callerA (.call (.ref fa) ⟨[.ref a],[]⟩) (fun r s'=>r= .ok (.ret (.bool true))∧OldK s₁.heap s'.heap∧s'.os=s₁.os∧AllBare s'.gens) s₁):
  WalkO q loose XP YP l.row.toRowW d [] (fun f vs=>PySem.call f vs):=by
 intro w s₀ s₁ mg mb G Y fa o pm cd doc dV kV ho hd hcd hD hmg hg args vals as hpre hlay hrd hwl hlo
 obtain rfl:dV= .none:=Dflts.none hD hdf
 obtain rfl:kV= .none:=Dflts.noKw hD
 obtain ⟨a,vs,ns,rfl,rfl,hobj,hints,hlen⟩:=Bc hn hpre hwl
 refine enter_call (codeAny_mono (call w s₀ s₁ mg mb fa o pm cd doc a vs ns G Y ho (fd_plain hd) hcd hmg hobj hints hlen hg) fun r s' hq=>?_)
 obtain ⟨rfl,h2,h3,h4⟩:=hq
 exact ⟨.inl ⟨.bool true,.bool true,[],rfl,fun _=>rfl,.bool true,Be l _,fun _=>⟨List.Pairwise.nil,fun _ hm=>(nomatch hm)⟩⟩,h2,h3,h4⟩
section
variable {prog:Program} {w:World} {A:Around} {E:Value→Shared→Prop} {s:Shared} {K:Frag}
end
end Att
namespace L2
open PySem PySem.Spec PyProof.Rows
theorem sX:∀ {vs:List Value} {ns:List Int},IntsAre vs ns→Vals (ns.map V.int) vs
 | _,_,.nil=>.nil
 | _,_,.cons n t h=>.cons ⟨t,rfl⟩ (sX h)
def Only (H:Hp):Prop:=∀ b,H b=none∨∃ o xs,H b=some (.frz o (.lst xs))
theorem Du {P:Program} {w:World} {K:PySem.W.Frag} {mg mb:Str→Option Value} {CX:Cy} {k:Nat} {fa a:Addr} {fd:FuncData} {x:Str} {sp:Sp} {s₁:Shared} {vs:List Value} {ns:List Int}
  (KX:K.In s₁.heap) (hns:s₁.heap.Ns mainGlobals mg) (hb:s₁.heap.Ns builtinsNs mb) (hbb:∀ x:Str,x≠"__name__"→mb x=bootBuiltins x) (hlim:s₁.heap.NoLimit) (hsm:∃ mm,s₁.heap.Ns sysModules mm) (hg:s₁.gens= #[])
  (ha:s₁.heap.get? a=some {cls:=.type "list",data:=.seq vs.toArray}) (hi:IntsAre vs ns) (hl:ns.length≤sizeLine) (hr:Room k callerA)
  (F:∀ base:Heap,K.In base→base.Ns mainGlobals mg→mQ P w K mg base CX k fa fd [x] sp) (hbind:∀ (s:Shared) (u:Value),BindsTo s fd ⟨[u],[]⟩ [(x,u)])
  (hsp:∀ H:Hp,Only H→SqL K H a (ns.map V.int)→sp [.ref a] H (fun v _=>v= .bl true) fun _ _ _=>False)
  (hCX:∀ H e s',CX [] H s₁ (fun _ _ _=>False) e s'→False):
  codeAny (model P w) callerA (.call (.ref fa) ⟨[.ref a],[]⟩) (fun r s'=>r= .ok (.ret (.bool true))∧OldK s₁.heap s'.heap∧s'.os=s₁.os∧AllBare s'.gens) s₁:=by
 have rv:=sX hi
 have lenV:=hi.length
 have core:∀ H:Hp,Only H→SqL K H a (ns.map V.int)→HOk P w H s₁.heap→(∀ b,H b≠none→b=a)→(H a≠none→K.lookup a=none)→
   codeAny (model P w) callerA (.call (.ref fa) ⟨[.ref a],[]⟩) (fun r s'=>r= .ok (.ret (.bool true))∧OldK s₁.heap s'.heap∧s'.os=s₁.os∧AllBare s'.gens) s₁:=by
  intro H hO hS hok hA hK
  have base_of:∀ {b:Addr} {o:Obj},s₁.heap.get? b=some o→H b=none→(ud s₁.heap H).get? b=some o:=fun e n=>Cz e n
  have noA:∀ {b:Addr} {o:Obj} {es:Array DictEntry} {ep:Nat},s₁.heap.get? b=some o→o.data= .dict es ep→H b=none:=fun {b o es ep} e d=>by
   cases q:H b with
   | none=>rfl
   | some u=>
    have e':b=a:=hA b (by rw [q];simp)
    subst e'
    rw [ha] at e;cases e
    have d':Data.seq vs.toArray _=Data.dict es ep:=d
    cases d'
  have nsK:∀ {b:Addr} {m:Str→Option Value},s₁.heap.Ns b m→(ud s₁.heap H).Ns b m:=fun {b m} ⟨o,es,ep,e,d,r⟩=>⟨o,es,ep,base_of e (noA e d),d,r⟩
  have hKb:K.In (ud s₁.heap H):=fun b o e=>base_of (KX b o e) (by
   cases q:H b with
   | none=>rfl
   | some u=>
    have e':b=a:=hA b (by rw [q];simp)
    subst e'
    rw [hK (by rw [q];simp)] at e;cases e)
  have hM:Mod K mg (ud s₁.heap H):=⟨hKb,nsK hns,⟨mb,nsK hb,hbb⟩,(let ⟨mc,h1,h2⟩:=hlim;⟨mc,nsK h1,h2⟩),let ⟨mm,h1⟩:=hsm;⟨mm,nsK h1⟩⟩
  have e0:Env0 P w K mg (ud s₁.heap H) callerA [] s₁ H:=⟨rfl,hM,fun b o e=>Hq e,Nat.le_of_eq (Ak _ _),trivial,fun b hb=>absurd (show b∈([]:List Addr) from hb) (by simp),hok,.of_eq hg⟩
  refine codeAny_mono ((F _ hKb (nsK hns)).run callerA [] s₁ H ⟨[.ref a],[]⟩ [.ref a] [.ref a] _ _ hr e0 (hbind s₁ (.ref a)) (.cons rfl .nil) (hsp H hO hS)) fun r s' h=>?_
  cases r with
  | error e=>exact (hCX H e s' h).elim
  | ok fl=>
   cases fl with
   | next=>exact False.elim h
   | brk=>exact False.elim h
   | cont=>exact False.elim h
   | ret u=>
    obtain ⟨v,H',os,bare,un,hok',r',q⟩:=h
    have q':v= .bl true:=q
    subst q'
    obtain rfl:u=Value.bool true:=r'
    refine ⟨rfl,OldK.of_keep fun b o e=>?_,os,bare⟩
    cases q:H b with
    | none=>exact un.keep b o e q (by intro z;exact absurd (show b∈([]:List Addr) from z) (by simp)) (by simp)
    | some u=>
     rcases hO b with z | ⟨ob,xs,z⟩
     ·rw [q] at z;cases z
     ·have z2:=un.frzs b ob _ z
      obtain ⟨e1,_⟩:=hok b _ z
      obtain ⟨e2,_⟩:=hok' b _ z2
      rw [e] at e1;cases e1
      exact e2
 cases hk:K.lookup a with
 | some o=>
  have e:=KX a o hk
  rw [ha] at e
  cases e
  refine core (fun _=>none) (fun _=>.inl rfl) (.inr ⟨_,vs.toArray,_,hk,rfl,rfl,rfl,by rw [List.size_toArray,lenV];exact hl,by simpa using rv⟩) (fun b u z=>by have z':(none:Option HO)=some u:=z;cases z') (fun b z=>absurd rfl z) fun z=>absurd rfl z
 | none=>
  refine core (fun b=>if b=a then some (.frz {cls:=.type "list",data:=.seq vs.toArray} (.lst (ns.map V.int))) else none) (fun b=>?_) (.inl (.inr ⟨{cls:=.type "list",data:=.seq vs.toArray},if_pos rfl⟩)) (fun b u z=>?_) (fun b z=>?_) fun _=>hk
  ·by_cases hb:b=a
   ·exact .inr ⟨_,_,if_pos hb⟩
   ·exact .inl (if_neg hb)
  ·by_cases hb:b=a
   ·have z':=(if_pos hb).symm.trans z
    cases z'
    subst hb
    exact ⟨ha,by rw [List.length_map];exact hl,vs,_,rv,ha⟩
   ·have z':=(if_neg hb).symm.trans z
    cases z'
  ·by_cases hb:b=a
   ·exact hb
   ·exact absurd (if_neg hb) z
end L2
namespace L2
open PySem PySem.Spec PyProof.Rows
abbrev KOf {K:PySem.W.Frag} {h:Heap} (_:K.In h):PySem.W.Frag:=K
theorem Ii {l:PySem.W.OpenLaw} {n k:Nat} {q:Program} {loose:List Str} {XP:(Str→Option Value)→Heap→Prop} {YP:World→Heap→Prop} {d:DefRec} {K:Params→PySem.W.Frag} {CX:World→Cy} {sp:World→Sp} {x:Str}
  (hn:l.most=some n) (hn2:n≤sizeLine) (hdf:d.params.defaults=[]) (hr:Room k callerA)
  (hY:∀ (w:World) (h:Heap),YP w h→(K w.params).In h)
  (F:∀ (w:World) (mg:Str→Option Value) (fa:Addr) (h:Heap),(K w.params).In h→h.Ns mainGlobals mg→mg d.name=some (.ref fa)→
   ∃ fd:FuncData,(∀ (s:Shared) (u:Value),BindsTo s fd ⟨[u],[]⟩ [(x,u)])∧
    ∀ base:Heap,(K w.params).In base→base.Ns mainGlobals mg→mQ l.prog w (K w.params) mg base (CX w) k fa fd [x] (sp w))
  (hsp:∀ (w:World) (H:Hp) (a:Addr) (ns:List Int),ns.length≤n→Only H→SqL (K w.params) H a (ns.map V.int)→sp w [.ref a] H (fun v _=>v= .bl true) fun _ _ _=>False)
  (hCX:∀ (w:World) (H:Hp) (s:Shared) (e:Value) (s':Shared),CX w [] H s (fun _ _ _=>False) e s'→False) (him:importsNone q=true):
  PySem.W.WalkO q loose XP YP l.row.toRowW d [] (fun f vs=>PySem.call f vs):=by
 refine Att.attach_call hn hdf fun w s₀ s₁ mg mb fa o pm cd doc a vs ns G Y ho hd hcd hmg hobj hints hlen hg=>?_
 have KX:=hY w _ Y
 obtain ⟨fd,hb,hF⟩:=F w mg fa _ KX G.T.g hmg
 exact Du KX G.T.g G.T.b G.T.builtins G.T.nolimit (let ⟨mm,h1,_⟩:=(G.T.seer him).mods;⟨mm,h1⟩) hg hobj hints (Nat.le_trans hlen hn2) hr hF hb (fun H hO hS=>hsp w H a ns hlen hO hS) fun H e s'=>hCX w H s₁ e s'
end L2
namespace L2
open PySem PySem.Spec PyProof.Rows
def dM (s:Stmt):Arguments:=match s with
 | .FunctionDef _ a _ _ _ _ _ _ _ _=>a
 | _=>{posonlyargs:=[],args:=[],vararg:=none,kwonlyargs:=[],kw_defaults:=[],kwarg:=none,defaults:=[]}
def bY (s:Stmt):List Stmt:=match s with
 | .FunctionDef _ _ b _ _ _ _ _ _ _=>b
 | _=>[]
def au (s:Stmt):Scope:=match s with
 | .FunctionDef _ _ _ _ _ _ sc _ _ _=>sc
 | _=>{kind:=.function,names:=[],isGenerator:=false,isCoroutine:=false}
abbrev xK:Cy:=fun _ _ _ _ _ _=>False
abbrev E0:XK:=fun _ _ _=>False
theorem RW {X:Cx}:xF xK X E0:=fun _ _ _ _ _ _ _ h=>h.elim
structure Fun (K:PySem.W.Frag) (x qual:Str) (st:Stmt) (f:Addr) (fd:FuncData):Prop where
 ex:∃ (oc:Value) (od:Option Addr) (kV doc pm:Value) (an:Option Addr) (cdv ct:Value) (osl:Array (Option Value)),
  fd=PySem.W.fnOf x qual (dM st) (bY st) (au st) .none kV doc pm an cdv ct∧K.lookup f=some ⟨oc,od,.func fd,osl⟩∧PySem.W.codeIn K cdv qual=true
 kp:PySem.W.keepIn K (.ref f)=true
section
variable {P:Program} {w:World} {K:PySem.W.Frag} {mg:Str→Option Value} {base:Heap}
theorem Fun.ok {x qual:Str} {st:Stmt} {f:Addr} {fd:FuncData} {N ps:List Str} {k:Nat} {sp:Sp} (F:Fun K x qual st f fd) (S:aF N ps (au st)) (len:∀ vs H Q E,sp vs H Q E→vs.length=ps.length)
  (hbody:∀ (cdv:Value) (A:Around) (outer:List Env) (s:Shared) (H:Hp) (vs:List V) (Q:VK) (E:XK),Room k (A.deeper (envOfC qual (au st) s.heap.objs.size f cdv))→sp vs H Q E→
   ∃ t,PSs (mq xK P w K mg base N qual (au st) f cdv A outer s H E).nox (bY st) t∧t {nx:=fun _ H'=>Q .non H',rt:=Q} (start N vs) H):mQ P w K mg base xK (k+1) f fd ps sp:=by
 obtain ⟨oc,od,kV,doc,pm,an,cdv,ct,osl,rfl,lk,hcd⟩:=F.ex
 refine Dm lk hcd S len fun A outer s H vs Q E hr hsp=>?_
 obtain ⟨t,h,q⟩:=hbody cdv A outer s H vs Q E hr hsp
 exact ⟨t,h.nox,q⟩
theorem Fun.binds {x qual:Str} {st:Stmt} {f:Addr} {fd:FuncData} {ps:List Str} (F:Fun K x qual st f fd)
  (h:∀ (kV doc pm:Value) (an:Option Addr) (cdv ct:Value) (us:List Value),us.length=ps.length→bindArgs (PySem.W.fnOf x qual (dM st) (bY st) (au st) .none kV doc pm an cdv ct) ⟨us,[]⟩=pure (ps.zip us)):Binds K fd ps []:=by
 obtain ⟨oc,od,kV,doc,pm,an,cdv,ct,osl,rfl,lk,hcd⟩:=F.ex
 exact .all (h kV doc pm an cdv ct)
theorem xM {x qual:Str} {st:Stmt} {f:Addr} {oc:Value} {od an:Option Addr} {osl:Array (Option Value)} {kV doc pm cdv ct:Value} (l:K.lookup f=some ⟨oc,od,.func (PySem.W.fnOf x qual (dM st) (bY st) (au st) .none kV doc pm an cdv ct),osl⟩)
  (c:PySem.W.codeIn K cdv qual=true) (k:PySem.W.keepIn K (.ref f)=true):Fun K x qual st f (PySem.W.fnOf x qual (dM st) (bY st) (au st) .none kV doc pm an cdv ct):=⟨⟨oc,od,kV,doc,pm,an,cdv,ct,osl,rfl,l,c⟩,k⟩
end
section
variable {X:Cx}
end
theorem pA {A B:Prop} (h:B):if false=true then A else B:=by
 rw [if_neg Bool.false_ne_true]
 exact h
theorem mR {A B:Prop} (h:A):if true=true then A else B:=by
 rw [if_pos rfl]
 exact h
def Same (H H':Hp):Prop:=∀ b o,H b=some o→H' b=some o
theorem Same.refl (H:Hp):Same H H:=fun _ _ h=>h
theorem Same.trans {H H1 H2:Hp} (a:Same H H1) (b:Same H1 H2):Same H H2:=fun c o h=>b c o (a c o h)
theorem Same.free {H H':Hp} (e:Same H H') {l:Addr} (h:H' l=Option.none):H l=Option.none:=by
 cases q:H l with
 | none=>rfl
 | some o=>
  rw [e l o q] at h
  cases h
theorem Same.seq {K:PySem.W.Frag} {H H':Hp} {a:Addr} {xs:List V} (e:Same H H') (h:SqL K H a xs):SqL K H' a xs:=by
 rcases h with (h | ⟨o,h⟩) | h
 ·exact .inl (.inl (e _ _ h))
 ·exact .inl (.inr ⟨o,e _ _ h⟩)
 ·exact .inr h
end L2
set_option maxHeartbeats 4000000
namespace L2
open PySem PySem.Spec PyProof.Rows
def pB (env:Env):List (Str×NameKind)→List (Str×Addr)→List (Str×Addr)
 | [],acc=>acc
 | (n,k) :: r,acc=>pB env r (if k == .free then (match env.cells.lookup n with | some c=>(n,c) :: acc | none=>acc) else acc)
theorem qi {env:Env}:∀ {names:List (Str×NameKind)} {acc:List (Str×Addr)},(∀ x c,(x,c)∈acc→env.cells.lookup x=some c)→∀ x c,(x,c)∈pB env names acc→env.cells.lookup x=some c
 | [],_,h,x,c,m=>h x c m
 | (n,k) :: r,acc,h,x,c,m=>by
  refine qi (names:=r) ?_ x c m
  intro y d hm
  cases hk:(k == NameKind.free) with
  | false=>rw [hk] at hm;exact h y d hm
  | true=>
   rw [hk] at hm
   simp only [if_true] at hm
   cases e:env.cells.lookup n with
   | none=>rw [e] at hm;exact h y d hm
   | some c'=>
    rw [e] at hm
    rcases List.mem_cons.mp hm with z | z
    ·cases z;exact e
    ·exact h y d z
theorem vL {env:Env}:∀ {names:List (Str×NameKind)} {acc:List (Str×Addr)} {p:Str×Addr},p∈acc→p∈pB env names acc
 | [],_,_,h=>h
 | (n,k) :: r,acc,p,h=>by
  refine vL (names:=r) ?_
  split
  ·split
   ·exact List.mem_cons_of_mem _ h
   ·exact h
  ·exact h
theorem qj {env:Env} {x:Str} {c:Addr} (e:env.cells.lookup x=some c):∀ {names:List (Str×NameKind)} {acc:List (Str×Addr)},(x,NameKind.free)∈names→(x,c)∈pB env names acc
 | [],_,h=>by simp at h
 | (n,k) :: r,acc,h=>by
  rcases List.mem_cons.mp h with z | z
  ·cases z
   refine vL (names:=r) ?_
   rw [e]
   simp
  ·exact qj e (names:=r) z
theorem rJ {l:List (Str×Addr)} {x:Str} {c:Addr} (hm:(x,c)∈l) (ha:∀ d,(x,d)∈l→d=c):l.lookup x=some c:=by
 induction l with
 | nil=>simp at hm
 | cons p r ih=>
  obtain ⟨n,d⟩:=p
  by_cases e:x=n
  ·subst e
   have:d=c:=ha d (by simp)
   subst this
   simp [List.lookup_cons]
  ·have hb:(x == n)=false:=by simpa using e
   rw [List.lookup_cons,hb]
   refine ih ?_ fun d' h'=>ha d' (List.mem_cons_of_mem _ h')
   rcases List.mem_cons.mp hm with z | z
   ·cases z;exact absurd rfl e
   ·exact z
theorem vM {env:Env} {names:List (Str×NameKind)} {x:Str} {c:Addr} (e:env.cells.lookup x=some c) (h:(x,NameKind.free)∈names):(pB env names []).lookup x=some c:=
 rJ (qj e h) fun d hd=>by
  have q:=qi (names:=names) (acc:=[]) (env:=env) (by simp) x d hd
  rw [e] at q
  exact (Option.some.inj q).symm
theorem Bf {env:Env} {names:List (Str×NameKind)} {x:Str} {c:Addr} (e:(pB env names []).lookup x=some c):env.cells.lookup x=some c:=
 qi (names:=names) (acc:=[]) (env:=env) (by simp) x c (PySem.mem_of_lookup e)
theorem mz {env:Env}:∀ (names:List (Str×NameKind)) (acc:List (Str×Addr)),(∀ x∈names,x.2=NameKind.free→∃ c,env.cells.lookup x.1=some c)→
  (forIn (m:=Sem) names acc fun x r=>match x with
   | (name,kind)=>if (kind == NameKind.free)=true then do let c ← cellOf env name;pure (ForInStep.yield ((name,c) :: r)) else pure (ForInStep.yield r))=pure (pB env names acc)
 | [],acc,_=>rfl
 | (n,k) :: r,acc,h=>by
  rw [List.forIn_cons]
  cases hk:(k == NameKind.free) with
  | false=>
   simp only [hk,Bool.false_eq_true,if_false,pure_bind,pB]
   exact mz r acc fun x hx=>h x (List.mem_cons_of_mem _ hx)
  | true=>
   obtain ⟨c,e⟩:=h (n,k) List.mem_cons_self (by simpa using hk)
   simp only [hk,if_true,pure_bind,pB,cellOf,e]
   exact mz r ((n,c) :: acc) fun x hx=>h x (List.mem_cons_of_mem _ hx)
theorem lG {scope:Scope} {env:Env} (h:∀ x∈scope.names,x.2=NameKind.free→∃ c,env.cells.lookup x.1=some c):closureFor scope env=pure (pB env scope.names []):=by
 unfold closureFor
 have:=mz (env:=env) scope.names [] h
 simp only [this,pure_bind]
theorem sY {prog:Program} {w:World} {A:Around} {R:Result→Shared→Prop} {s:Shared} {elt target iter:Expr} {ifs:List Expr} {scope:Scope} {pos:Pos} {it acc:Value} {env:Env} (I:Nat→Shared→Prop)
  (turn:∀ n s,I n s→wpAny (model prog w) A (pyNext it) (fun r s₁=>match r with
   | none=>R (.ok .next) s₁
   | some v=>wpAny (model prog w) A (letOwnedTupleGo target it v) (fun _ s₁'=>wpAny (model prog w) A (assign target env v) (fun _ s₂=>
     wpAny (model prog w) A (forIn ifs true fun c r=>if r=true then do let ok ← isTrue c env (eval c env);pure (ForInStep.yield ok) else pure (ForInStep.yield r)) (fun ok s₃=>
      if ok=true then wpAny (model prog w) A (eval elt env) (fun x s₄=>
       wpAny (model prog w) A (call (.builtin "list.append") [acc,x]) (fun _ s₅=>∃ m,m < n∧I m s₅) (fun _ _=>False) s₄) (fun _ _=>False) s₃
      else ∃ m,m < n∧I m s₃) (fun _ _=>False) s₂) (fun _ _=>False) s₁') (fun _ _=>False) s₁) (fun _ _=>False) s)
  (n:Nat) (h:I n s):
  codeAny (model prog w) A (.compLoop (.ListComp elt [⟨target,iter,ifs,0⟩] scope pos) 0 it acc env) R s:=by
 refine codeAny_loop rfl I (fun n s hI=>?_) n h
 show wpAny _ A ((compTurn (.ListComp elt [⟨target,iter,ifs,0⟩] scope pos) 0 it acc env).onRaise (fun x=>do noteFrame x env;theTreesLotGoes x)) _ _ s
 refine wpAny_noted ?_
 rw [compTurn_list]
 refine wpAny_bind (wpAny_standAt (wpAny_bind (wpAny_mono (turn n s hI) (fun r s₁ h₁=>?_) fun _ _ h'=>h'.elim)))
 cases r with
 | none=>exact wpAny_pure h₁
 | some v=>
  refine wpAny_bind (wpAny_mono h₁ (fun _ s₁' h₁'=>?_) fun _ _ h'=>h'.elim)
  refine wpAny_bind (wpAny_mono h₁' (fun _ s₂ h₂=>wpAny_bind (wpAny_mono h₂ (fun ok s₃ h₃=>?_) fun _ _ h'=>h'.elim)) fun _ _ h'=>h'.elim)
  cases ok with
  | false=>exact wpAny_pure ⟨rfl,h₃⟩
  | true=>
   exact wpAny_bind (wpAny_bind (wpAny_mono h₃ (fun x s₄ h₄=>wpAny_bind (wpAny_mono h₄ (fun _ s₅ h₅=>wpAny_pure (wpAny_pure ⟨rfl,h₅⟩)) fun _ _ h'=>h'.elim)) fun _ _ h'=>h'.elim))
end L2
namespace L2
open PySem PySem.Spec PyProof.Rows
theorem cQ:∀ (names:List (Str×NameKind)) (n:Nat) (acc:List (Str×Addr)),cellsFrom n names acc=cellsFrom n names [] ++ acc
 | [],_,_=>rfl
 | (x,k) :: r,n,acc=>by
  unfold cellsFrom
  split
  ·rw [cQ r (n+1) ((x,n) :: acc),cQ r (n+1) [(x,n)],List.append_assoc];rfl
  ·exact cQ r n acc
theorem mU {α:Type}:∀ {A B:List (Str×α)} {x:Str},(A ++ B).lookup x=(match A.lookup x with | some c=>some c | none=>B.lookup x)
 | [],_,_=>rfl
 | (y,c) :: A,B,x=>by
  rw [List.cons_append,List.lookup_cons,List.lookup_cons]
  cases x == y with
  | true=>rfl
  | false=>exact mU (A:=A)
theorem ql:∀ {names:List (Str×NameKind)} {n:Nat} {acc:List (Str×Addr)} {x:Str} {c:Addr},(x,c)∈cellsFrom n names acc→(x,c)∈acc∨(x,NameKind.cell)∈names
 | [],_,_,_,_,h=>.inl h
 | (y,k) :: r,n,acc,x,c,h=>by
  unfold cellsFrom at h
  split at h
  ·rename_i hk
   rcases ql h with z | z
   ·rcases List.mem_cons.mp z with z | z
    ·cases z
     have:k= .cell:=by simpa using hk
     rw [this];exact .inr List.mem_cons_self
    ·exact .inl z
   ·exact .inr (List.mem_cons_of_mem _ z)
  ·exact (ql h).imp id (List.mem_cons_of_mem _)
theorem mV {α:Type}:∀ {l:List (Str×α)} {x:Str} {c:α},(x,c)∈l→∃ d,l.lookup x=some d
 | (y,d) :: r,x,c,h=>by
  by_cases e:x=y
  ·subst e;exact ⟨d,by simp [List.lookup_cons]⟩
  ·have hb:(x == y)=false:=by simpa using e
   rw [List.lookup_cons,hb]
   rcases List.mem_cons.mp h with z | z
   ·cases z;exact absurd rfl e
   ·exact mV z
theorem mW:∀ {names:List (Str×NameKind)} {n:Nat} {acc:List (Str×Addr)} {x:Str},(x,NameKind.cell)∈names∨(∃ c,(x,c)∈acc)→∃ c,(x,c)∈cellsFrom n names acc
 | [],_,_,_,h=>h.elim (fun h=>by simp at h) id
 | (y,k) :: r,n,acc,x,h=>by
  unfold cellsFrom
  split
  ·refine mW ?_
   rcases h with h | ⟨c,h⟩
   ·rcases List.mem_cons.mp h with z | z
    ·cases z;exact .inr ⟨n,List.mem_cons_self⟩
    ·exact .inl z
   ·exact .inr ⟨c,List.mem_cons_of_mem _ h⟩
  ·rename_i hk
   refine mW ?_
   rcases h with h | h
   ·rcases List.mem_cons.mp h with z | z
    ·cases z;exact absurd (by decide) hk
    ·exact .inl z
   ·exact .inr h
def Bg (X:Cx) (scope:Scope) (C:Addr):List (Str×Addr):=cellsFrom (C+1) scope.names (pB X.env scope.names [])
section
variable {M:Model} {A:Around} {E:Value→Shared→Prop} {s:Shared}
theorem eO {scope:Scope} {globals:Addr} {cl:List (Str×Addr)} {qual:Str} {env:Env} {Q:Env→Shared→Prop}
  (hQ:∀ h':Heap,h'.Ns s.heap.objs.size (fun _=>none)→(∀ b o,s.heap.get? b=some o→h'.get? b=some o)→CellsOk h' (s.heap.objs.size+1) (cellsFrom (s.heap.objs.size+1) scope.names [])→
   Q (newEnv scope s.heap.objs.size globals (cellsFrom (s.heap.objs.size+1) scope.names cl) qual none .none (some env) builtinsNs) {s with heap:=h',toks:=s.toks+([]:List (Str×Value)).length}):
  wpAny M A (newFunctionEnv scope globals cl [] qual none .none (some env)) Q E s:=by
 simp only [newFunctionEnv,Option.isSome_some,if_true]
 refine wpAny_bind (wpAny_alloc ?_)
 refine wpAny_bind (wpAny_layCells _ (fun name kind cells=>by cases hkc:kind == NameKind.cell <;> simp [hkc]) _ _ _ _ ?_)
 have ok:=cellsFrom_ok scope.names (s.heap.push {cls:=.type "dict",data:=.dict #[]}) (s.heap.objs.size+1) [] ⟨fun _ _ hm=>(nomatch hm),List.Pairwise.nil⟩ (by rw [Heap.size_push];exact Nat.le_refl _)
 rw [Heap.size_push] at ok
 rw [show ({s with heap:=s.heap.push {cls:=.type "dict",data:=.dict #[]}}:Shared).heap.objs.size=s.heap.objs.size+1 from Heap.size_push ..]
 exact wpAny_bind (wpAny_pure (wpAny_pure (hQ _ ((Heap.Ns.new s.heap (.type "dict")).keeps (pushCells_keeps _ _)) (fun b o e=>pushCells_keeps _ _ b o (Heap.get?_push_of_some _ e)) ok)))
end
def lB (X:Cx) (N':List Str) (scope:Scope) (C:Addr) (s₀:Shared) (H₀:Hp) (ex:List Addr):Cx:=
 {X with N:=N',s₀:=s₀,H₀:=H₀,env:=compEnvC scope (Bg X scope C) C X.env,outer:=X.stack,ex:=ex,fn:=fun x=>decide (scope.names.lookup x=some .cell),pn:=[],xe:=fun _ _=>False}
def c7 (sub:List (Option Nat)) (σ:St):St:=sub.map fun o=>o.bind fun j=>(σ[j]?).join
structure oX (N:List Str) (sc:Scope) (N':List Str) (scope:Scope) (sub:List (Option Nat)):Prop where
 kind:scope.kind= .function
 cel:∀ x∈scope.names,x.2= .cell→scope.names.lookup x.1=some .cell
 loc:∀ x∈scope.names,x.2= .local→scope.names.lookup x.1=some .local
 free:∀ x∈scope.names,x.2= .free→sc.names.lookup x.1=some .cell∨sc.names.lookup x.1=some .free
 len:sub.length=N'.length
 at_:∀ (i j:Nat) (x:Str),sub[i]?=some (some j)→N'[i]?=some x→N[j]?=some x∧(x,NameKind.free)∈scope.names∧scope.names.lookup x=some .free
def Dv (N:List Str) (sc:Scope) (N':List Str) (scope:Scope) (sub:List (Option Nat)):Bool:=
 decide (scope.kind= .function) && scope.names.all (fun x=>decide (x.2= .cell→scope.names.lookup x.1=some .cell)) && scope.names.all (fun x=>decide (x.2= .local→scope.names.lookup x.1=some .local)) &&
 scope.names.all (fun x=>decide (x.2= .free→sc.names.lookup x.1=some .cell∨sc.names.lookup x.1=some .free)) && decide (sub.length=N'.length) &&
 (List.range sub.length).all fun i=>match sub[i]?,N'[i]? with
  | some (some j),some x=>decide (N[j]?=some x∧(x,NameKind.free)∈scope.names∧scope.names.lookup x=some .free)
  | _,_=>true
theorem jx {N:List Str} {sc:Scope} {N':List Str} {scope:Scope} {sub:List (Option Nat)} (h:Dv N sc N' scope sub=true):oX N sc N' scope sub:=by
 simp only [Dv,Bool.and_eq_true,decide_eq_true_eq,List.all_eq_true] at h
 obtain ⟨⟨⟨⟨⟨h1,h2⟩,h3⟩,h4⟩,h5⟩,h6⟩:=h
 refine ⟨h1,h2,h3,h4,h5,fun i j x e1 e2=>?_⟩
 have hi:i < sub.length:=(List.getElem?_eq_some_iff.mp e1).1
 have q:=h6 i (List.mem_range.mpr hi)
 rw [e1,e2] at q
 simpa using q
def Dw:TT:=fun _ H Q=>Q true H
def uv (X:Cx) (ifs:List Expr) (t:TT):Prop:=
 ∀ (pins:List (Addr×Obj)) (s:Shared) (σ:St) (H:Hp) (Q:Bool→Hp→Prop),Inv X pins σ H s→t σ H Q→
  wpAny (model X.prog X.w) X.A (forIn ifs true fun c r=>if r=true then do let ok ← isTrue c X.env (eval c X.env);pure (ForInStep.yield ok) else pure (ForInStep.yield r)) (TP X pins σ Q) X.xe s
theorem Dy {X:Cx}:uv X [] Dw:=fun _ _ _ H _ I h=>wpAny_tests_nil ⟨H,I,h⟩
theorem Dz {X:Cx} {c:Expr} {t:TT} (hc:PT X c t):uv X [c] t:=fun pins s σ H Q I h=>wpAny_tests_one (hc pins s σ H Q I h)
def KeepSt (σ σ':St):Prop:=σ'.length=σ.length∧∀ (i:Nat) (v:V),σ[i]?=some (some v)→σ'[i]?=some (some v)
theorem KeepSt.set {σ:St} {i:Nat} {v:V} (h:σ[i]?=some none):KeepSt σ (σ.set i (some v)):=by
 refine ⟨by simp,fun j u e=>?_⟩
 by_cases hj:i=j
 ·subst hj;rw [h] at e;cases e
 ·rw [List.getElem?_set_ne hj];exact e
def qm (sub:List (Option Nat)) (wi:TI) (g:TG) (tt:TT) (te:TE):TE:=fun σ H Q=>wi σ H fun J H1=>∃ W:Nat→Nat→List V→Hp→Prop,(∃ m,W 0 m [] H1)∧∀ i m ys H,W i m ys H→
 (J.stop i H∧ys.length≤sizeLine∧∀ D,H D=none→Q (.ref D) (upd H D (.lst ys)))∨
 (J.go i H∧ys.length < sizeLine∧∃ N:List V→Hp→Prop,(∀ ys' H',N ys' H'→∃ m',m' < m∧W (i+1) m' ys' H')∧
  ∀ x H',J.yld i H x H'→g x (c7 sub σ) H' fun σ2 H2=>KeepSt (c7 sub σ) σ2∧tt σ2 H2 fun b H3=>if b=true then te σ2 H3 fun y H4=>N (ys ++ [y]) H4 else N ys H3)
theorem mX {scope:Scope} {env:Env} {x:Str} (hx:scope.names.lookup x=some .free):(relabel scope env).names.lookup x=some .cell∨(relabel scope env).names.lookup x=some .free:=by
 have:∀ names:List (Str×NameKind),names.lookup x=some .free→
  (names.map fun (n,k)=>if (k == NameKind.free && env.scope.kind == .function && env.kindOf n == some .cell) then (n,NameKind.cell) else (n,k)).lookup x=some .cell∨
  (names.map fun (n,k)=>if (k == NameKind.free && env.scope.kind == .function && env.kindOf n == some .cell) then (n,NameKind.cell) else (n,k)).lookup x=some .free:=by
  intro names
  induction names with
  | nil=>intro h;simp at h
  | cons p r ih=>
   obtain ⟨n,k⟩:=p
   intro h
   by_cases e:x=n
   ·subst e
    have hk:k= .free:=by simpa [List.lookup_cons] using h
    subst hk
    by_cases hc:((NameKind.free == NameKind.free && env.scope.kind == .function && env.kindOf x == some .cell)=true)
    ·left;simp only [List.map_cons];rw [if_pos hc];simp [List.lookup_cons]
    ·right;simp only [List.map_cons];rw [if_neg hc];simp [List.lookup_cons]
   ·have hb:(x == n)=false:=by simpa using e
    rw [List.lookup_cons,hb] at h
    have q:=ih h
    simp only [List.map_cons]
    split <;> (rw [List.lookup_cons,hb];exact q)
 exact this scope.names hx
theorem uw {scope:Scope} {env:Env} {x:Str} (h:(relabel scope env).names.lookup x=some .cell∨(relabel scope env).names.lookup x=some .free):(x,NameKind.cell)∈scope.names∨(x,NameKind.free)∈scope.names:=by
 have key:∀ k,(k=NameKind.cell∨k=NameKind.free)→(relabel scope env).names.lookup x=some k→(x,NameKind.cell)∈scope.names∨(x,NameKind.free)∈scope.names:=by
  intro k hk hl
  have hm:=PySem.mem_of_lookup hl
  unfold relabel at hm
  obtain ⟨⟨n,k'⟩,hm1,hm2⟩:=List.mem_map.mp hm
  dsimp only at hm2
  by_cases hc:(k' == NameKind.free && env.scope.kind == .function && env.kindOf n == some .cell)=true
  ·rw [if_pos hc] at hm2
   cases hm2
   simp only [Bool.and_eq_true,beq_iff_eq] at hc
   rw [← hc.1.1];exact .inr hm1
  ·rw [if_neg hc] at hm2
   cases hm2
   rcases hk with hk | hk
   ·subst hk;exact .inl hm1
   ·subst hk;exact .inr hm1
 rcases h with h | h
 ·exact key _ (.inl rfl) h
 ·exact key _ (.inr rfl) h
section
variable {X:Cx} {tg iter elt:Expr} {ifs:List Expr} {scope:Scope} {pos:Pos} {N':List Str} {sub:List (Option Nat)} {wi:TI} {g:TG} {tt:TT} {te:TE}
theorem sZ {pins:List (Addr×Obj)} {σ:St} {H:Hp} {s:Shared} {fp:List Addr} {D:Addr} {h':Heap} {tk:Nat} {N:List Str} {sc:Scope} (S:oX N sc N' scope sub) (hN:X.N=N) (hsc:X.env.scope=sc) (I:Inv X pins σ H s) (hf:∀ b∈fp,ik X pins H b) (hfo:∀ b∈fp,b < s.heap.objs.size)
  (hD:D < s.heap.objs.size) (fD:ik X pins H D) (hns:h'.Ns s.heap.objs.size fun _=>none) (hk:∀ b o,s.heap.get? b=some o→h'.get? b=some o) (hc:CellsOk h' (s.heap.objs.size+1) (cellsFrom (s.heap.objs.size+1) scope.names [])):
  Inv (lB X N' scope s.heap.objs.size s H (D :: fp)) [] (c7 sub σ) H {s with heap:=h',toks:=tk}:=by
 have hex:∀ b∈D :: fp,ik X pins H b∧b < s.heap.objs.size:=fun b hb=>by
  rcases List.mem_cons.mp hb with rfl | z
  ·exact ⟨fD,hD⟩
  ·exact ⟨hf b z,hfo b z⟩
 have spl:∀ {x c},(Bg X scope s.heap.objs.size).lookup x=some c→(h'.IsCell c none∧s.heap.objs.size+1≤c∧(x,c)∈cellsFrom (s.heap.objs.size+1) scope.names [])∨(X.env.cells.lookup x=some c∧∃ o,s.heap.get? c=some o):=fun {x c} h=>by
  unfold Bg at h
  rw [cQ,mU] at h
  cases e:(cellsFrom (s.heap.objs.size+1) scope.names []).lookup x with
  | some d=>
   rw [e] at h
   cases h
   have m:=PySem.mem_of_lookup e
   exact .inl ⟨(hc.empty _ _ m).1,(hc.empty _ _ m).2,m⟩
  | none=>
   rw [e] at h
   have z:=Bf h
   obtain ⟨v,o,ho,_⟩:=I.cell x c z
   exact .inr ⟨z,o,ho⟩
 have fre:∀ {x c},(x,NameKind.free)∈scope.names→scope.names.lookup x=some .free→X.env.cells.lookup x=some c→(Bg X scope s.heap.objs.size).lookup x=some c:=fun {x c} h1 h2 h3=>by
  unfold Bg
  rw [cQ,mU]
  cases e:(cellsFrom (s.heap.objs.size+1) scope.names []).lookup x with
  | some d=>
   rcases ql (PySem.mem_of_lookup e) with z | z
   ·cases z
   ·have:=S.cel _ z rfl
    rw [h2] at this;cases this
  | none=>exact vM h3 h1
 refine ⟨⟨I.ok.mod,S.kind,I.ok.glob,I.ok.blt,Nat.le_refl _,fun x y c h1 h2=>?_,fun x hx=>?_,fun x c hx h=>?_,I.ok.hd,I.ok.frames,.inl rfl,fun b hb=>?_,I.bs,Nat.le_trans I.ok.bsz I.sz,fun b o e hb=>?_,fun b hb=>?_,I.stack,I.stkFree⟩,
  rfl,I.bare,Un.kept hk,⟨_,hns,fun i x v h1 h2 h3=>?_⟩,fun x c h=>?_,I.hok.fresh (Nat.le_refl _),fun x c h=>?_,fun p hp=>(nomatch hp),I.hok.kept hk,?_⟩
 ·rcases spl h1 with ⟨_,l1,m1⟩ | ⟨z1,o1,q1⟩ <;> rcases spl h2 with ⟨_,l2,m2⟩ | ⟨z2,o2,q2⟩
  ·exact PySem.name_of_addr hc.apart m1 m2
  ·exact absurd (Nat.lt_of_lt_of_le (Heap.lt_size q2) (Nat.le_of_succ_le l1)) (Nat.lt_irrefl _)
  ·exact absurd (Nat.lt_of_lt_of_le (Heap.lt_size q1) (Nat.le_of_succ_le l2)) (Nat.lt_irrefl _)
  ·exact I.ok.inj x y c z1 z2
 ·rcases uw hx with z | z
  ·obtain ⟨c,m⟩:=mW (n:=s.heap.objs.size+1) (acc:=pB X.env scope.names []) (.inl z)
   exact mV m
  ·obtain ⟨c,e⟩:=I.ok.has x (by have:=S.free _ z rfl;rw [← hsc] at this;exact this)
   show ∃ c,(Bg X scope s.heap.objs.size).lookup x=some c
   unfold Bg
   rw [cQ]
   exact mV (c:=c) (List.mem_append_right _ (qj e z))
 ·have hx':scope.names.lookup x=some .cell:=by simpa [lB] using hx
  rcases spl h with ⟨_,l,_⟩ | ⟨z,o,q⟩
  ·exact Nat.le_of_succ_le l
  ·exfalso
   have m:(x,NameKind.cell)∈scope.names:=PySem.mem_of_lookup hx'
   obtain ⟨d,md⟩:=mW (n:=s.heap.objs.size+1) (acc:=[]) (.inl m)
   obtain ⟨d',e'⟩:=mV md
   have h:(Bg X scope s.heap.objs.size).lookup x=some c:=h
   unfold Bg at h
   rw [cQ,mU,e'] at h
   cases h
   exact absurd (Nat.lt_of_lt_of_le (Heap.lt_size q) (Nat.le_of_succ_le (hc.empty _ _ (PySem.mem_of_lookup e')).2)) (Nat.lt_irrefl _)
 ·obtain ⟨⟨f0,f1,f2,f3,f4,f5⟩,hlt⟩:=hex b hb
  refine ⟨Nat.ne_of_lt hlt,fun x c h=>?_⟩
  rcases spl h with ⟨_,l,_⟩ | ⟨z,_⟩
  ·exact fun z=>absurd (Nat.lt_of_lt_of_le hlt (Nat.le_of_succ_le (z ▸ l))) (Nat.lt_irrefl _)
  ·exact f4 x c z
 ·obtain ⟨⟨f0,f1,f2,f3,f4,f5⟩,hlt⟩:=hex b hb
  rcases f3 with z | z
  ·exact I.ok.noex b o e z
  ·exact absurd (Nat.lt_of_lt_of_le (Heap.lt_size (I.ok.bs b o e).1) z) (Nat.lt_irrefl _)
 ·obtain ⟨⟨f0,f1,f2,f3,f4,f5⟩,hlt⟩:=hex b hb
  intro z
  rcases List.mem_cons.mp (I.stkSub b z) with z | z
  ·exact f1 z
  ·exact f2 z
 ·have hs:∃ j,sub[i]?=some (some j)∧σ[j]?=some (some v):=by
   unfold c7 at h2
   rw [List.getElem?_map] at h2
   cases e:sub[i]? with
   | none=>rw [e] at h2;cases h2
   | some o=>
    rw [e] at h2
    cases o with
    | none=>cases h2
    | some j=>
     refine ⟨j,rfl,?_⟩
     have h3:(σ[j]?).join=some v:=Option.some.inj h2
     cases e2:σ[j]? with
     | none=>rw [e2] at h3;cases h3
     | some z=>rw [e2] at h3;cases z with
      | none=>cases h3
      | some z=>cases h3;rfl
  obtain ⟨j,e1,e2⟩:=hs
  obtain ⟨g1,g2,g3⟩:=S.at_ i j x e1 h1
  rw [← hN] at g1
  obtain ⟨m,hn,hl⟩:=I.loc
  have hkf:X.env.kindOf x=some .cell∨X.env.kindOf x=some .free:=by have:=S.free _ g2 rfl;rw [← hsc] at this;exact this
  have hvis:Vis X.env.scope x:=by
   rcases hkf with z | z
   ·exact .inr (.inl z)
   ·exact .inr (.inr z)
  obtain ⟨u,r,l⟩:=hl j x v g1 e2 hvis
  refine ⟨u,r,.inr ⟨mX g3,?_⟩⟩
  rcases l with ⟨k,_⟩ | ⟨_,c,e,o,ho,hd⟩
  ·have k':X.env.kindOf x=some .local:=k
   rcases hkf with z | z <;> (rw [k'] at z;cases z)
  ·exact ⟨c,fre g2 g3 e,o,hk _ _ ho,hd⟩
 ·rcases spl h with ⟨z,_⟩ | ⟨z,_⟩
  ·exact ⟨_,z⟩
  ·obtain ⟨v,o,ho,hd⟩:=I.cell x c z
   exact ⟨v,o,hk _ _ ho,hd⟩
 ·rcases spl h with ⟨_,l,_⟩ | ⟨z,_⟩
  ·exact I.hok.fresh (Nat.le_of_succ_le l)
  ·exact I.freeC x c z
 ·show (c7 sub σ).length=N'.length
  unfold c7
  rw [List.length_map]
  exact S.len
theorem zj {N:List Str} {sc:Scope} (S:oX N sc N' scope sub) (hc:X.calm=true) (hN:X.N=N) (hsc:X.env.scope=sc) (hi:PI X tg iter wi)
  (hg:∀ (C:Addr) (s₀:Shared) (H₀:Hp) (ex:List Addr),PG (lB X N' scope C s₀ H₀ ex) tg g)
  (ht:∀ (C:Addr) (s₀:Shared) (H₀:Hp) (ex:List Addr),uv (lB X N' scope C s₀ H₀ ex) ifs tt)
  (he:∀ (C:Addr) (s₀:Shared) (H₀:Hp) (ex:List Addr),PE (lB X N' scope C s₀ H₀ ex) elt te)
  (hs:autoParam (∀ x,foldedSetIterable iter X.env x=pure x) L2.auto3._auto_1):
  PE X (.ListComp elt [⟨tg,iter,ifs,0⟩] scope pos) (qm sub wi g tt te):=by
 intro pins s σ H Q I h
 rw [eval_ListComp]
 have hcl:∀ x∈scope.names,x.2=NameKind.free→∃ c,X.env.cells.lookup x.1=some c:=fun x hx hk=>I.ok.has x.1 (by have:=S.free x hx hk;rw [← hsc] at this;exact this)
 refine wpAny_comprehension_free (use:=none) rfl hs (lG hcl) S.kind S.loc ?_
 refine cZ (hi pins s σ H _ I h) fun v s1 h1=>cZ h1 fun itv s2 h2=>?_
 obtain ⟨it,fp,tn,J,H2,e,I2,T,st2,f2,W,⟨m0,w0⟩,turn⟩:=h2
 subst e
 refine wpAny_newObj_type (eO fun h₁ hns₁ hk31 hcl₁=>?_)
 dsimp only at hns₁ hk31 hcl₁ ⊢
 generalize hs3:({s2 with heap:=s2.heap.push {cls:=.type "list",dict:=none,data:=.seq ([]:List Value).toArray}}:Shared)=s3
 have e3:s2.heap.push {cls:=.type "list",dict:=none,data:=.seq ([]:List Value).toArray}=s3.heap:=by rw [← hs3]
 rw [e3] at hns₁ hk31 hcl₁ ⊢
 have hD3:s3.heap.get? s2.heap.objs.size=some {cls:=.type "list",dict:=none,data:=.seq ([]:List Value).toArray}:=by rw [← e3];exact Heap.get?_push_size _ rfl
 have I3:Inv X pins σ H2 s3:=by
  rw [← hs3]
  exact I2.kept (t':=s2.toks) fun b o e=>Heap.get?_push_of_some _ e
 have k23:∀ b o,s2.heap.get? b=some o→s3.heap.get? b=some o:=fun b o e=>by rw [← e3];exact Heap.get?_push_of_some _ e
 have hsz:s3.heap.objs.size=s2.heap.objs.size+1:=by rw [← e3,Heap.size_push]
 have hDn:H2 s2.heap.objs.size=none:=I2.hok.fresh (Nat.le_refl _)
 have fD:ik X pins H2 s2.heap.objs.size:=I2.fpOk (Nat.le_refl _) hDn
 have hfo:∀ b∈fp,b < s2.heap.objs.size:=fun b hb=>let ⟨o,e,_⟩:=T.obj _ _ st2 b hb;Heap.lt_size e
 have hDfp:s2.heap.objs.size ∉ fp:=fun z=>absurd (hfo _ z) (Nat.lt_irrefl _)
 have I4:=sZ (tk:=s3.toks+([]:List (Str×Value)).length) S hN hsc I3 f2 (fun b hb=>by rw [hsz];exact Nat.lt_succ_of_lt (hfo b hb)) (D:=s2.heap.objs.size) (by rw [hsz];exact Nat.lt_succ_self _) fD hns₁ hk31 hcl₁
 have stat:∀ {H':Hp} {ob:Obj},(∀ b∈fp,H' b=none)→∀ b∈fp,ik (lB X N' scope s3.heap.objs.size s3 H2 (s2.heap.objs.size :: fp)) [(s2.heap.objs.size,ob)] H' b:=fun {H' ob} hn b hb=>by
  obtain ⟨q1,q2⟩:=I4.ok.exf b (List.mem_cons_of_mem _ hb)
  refine ⟨hn b hb,q1,I4.ok.exfs b (List.mem_cons_of_mem _ hb),.inl (List.mem_cons_of_mem _ hb),q2,fun p hp z=>?_⟩
  have hp':p=(s2.heap.objs.size,ob):=by simpa [lB] using hp
  subst hp'
  have z':s2.heap.objs.size=b:=z
  exact hDfp (by rw [z'];exact hb)
 generalize hXC:lB X N' scope s3.heap.objs.size s3 H2 (s2.heap.objs.size :: fp)=XC at I4 stat
 have eP:XC.prog=X.prog:=by rw [← hXC];rfl
 have eW:XC.w=X.w:=by rw [← hXC];rfl
 have eK:XC.K=X.K:=by rw [← hXC];rfl
 have eA:XC.A=X.A:=by rw [← hXC];rfl
 have eE:XC.env=compEnvC scope (Bg X scope s3.heap.objs.size) s3.heap.objs.size X.env:=by rw [← hXC];rfl
 have eC:XC.calm=true:=by rw [← hXC];exact hc
 have eX:XC.xe=fun _ _=>False:=by rw [← hXC];rfl
 have eH:XC.H₀=H2:=by rw [← hXC];rfl
 have eS:XC.s₀=s3:=by rw [← hXC];rfl
 have eF:XC.fs=frs X.stack:=by rw [← hXC];rfl
 have eEx:XC.ex=s2.heap.objs.size :: fp:=by rw [← hXC];rfl
 have ePn:XC.pn=[]:=by rw [← hXC];rfl
 have hgC:PG XC tg g:=by rw [← hXC];exact hg _ _ _ _
 have htC:uv XC ifs tt:=by rw [← hXC];exact ht _ _ _ _
 have heC:PE XC elt te:=by rw [← hXC];exact he _ _ _ _
 have pinD:∀ {σ':St} {H':Hp} {s':Shared} {ob:Obj},Inv XC [] σ' H' s'→H' s2.heap.objs.size=none→s'.heap.get? s2.heap.objs.size=some ob→(∀ v,ob.data≠.cell v)→Inv XC [(s2.heap.objs.size,ob)] σ' H' s':=fun {σ' H' s' ob} J hn hg hd=>
  J.pins_of fun p hp=>by
   have hp':p=(s2.heap.objs.size,ob):=by simpa using hp
   subst hp'
   refine ⟨hg,hn,(J.ok.exf _ (by rw [eEx];exact List.mem_cons_self)).1,J.ok.exfs _ (by rw [eEx];exact List.mem_cons_self),hd⟩
 have loop:codeAny (model X.prog X.w) X.A (.compLoop (.ListComp elt [⟨tg,iter,ifs,0⟩] scope pos) 0 (.ref it) (.ref s2.heap.objs.size) (compEnvC scope (Bg X scope s3.heap.objs.size) s3.heap.objs.size X.env))
   (compPost (model X.prog X.w) X.A X.xe none (EP X pins σ Q) (.ref s2.heap.objs.size) s3.heap.objs.size) {s3 with heap:=h₁,toks:=s3.toks+([]:List (Str×Value)).length}:=by
  refine sY (fun n s'=>∃ (i:Nat) (ys:List V) (its:List Value) (nn:Nat) (H':Hp),Inv XC [] (c7 sub σ) H' s'∧tn i s'.heap∧(∀ b∈fp,H' b=none)∧H' s2.heap.objs.size=none∧
   s'.heap.get? s2.heap.objs.size=some {cls:=.type "list",data:=.seq its.toArray nn}∧Vals ys its∧W i n ys H') ?_ m0
   ⟨0,[],[],_,H2,I4,T.keep _ _ _ st2 fun b _ o e=>hk31 b o (k23 b o e),fun b hb=>(f2 b hb).1,hDn,hk31 _ _ hD3,.nil,w0⟩
  rintro n s4 ⟨i,ys,its,nn,H4,J4,st4,fr4,dn4,dg4,rv4,w4⟩
  have P4:=pinD J4 dn4 dg4 (fun v z=>by cases z)
  rcases turn i n ys H4 w4 with ⟨stop,hyl,qn⟩ | ⟨go,hyl,N,hN,step⟩
  ·have hdone:=T.done XC eP eW eK eC i _ s4 _ H4 (fun _ _=>False) P4 (stat fr4) st4 stop
   rw [eA] at hdone
   refine wpAny_mono hdone (fun r s5 ⟨hr,I5⟩=>?_) fun _ _ z=>z
   subst hr
   obtain ⟨m,hn,_⟩:=id I5.loc
   have hCe:XC.env.locals=s3.heap.objs.size:=by rw [eE];rfl
   rw [hCe] at hn
   refine ⟨m,hn,fun h6 hs6=>?_⟩
   have hDg:=(I5.pin (s2.heap.objs.size,_) (by rw [ePn];exact List.mem_cons_self)).1
   have hDne:s2.heap.objs.size≠s3.heap.objs.size:=by rw [hsz];exact Nat.ne_of_lt (Nat.lt_succ_self _)
   have hHC:H4 s3.heap.objs.size=none:=by have:=I5.free;rw [hCe] at this;exact this
   have k56:∀ b o,b≠s3.heap.objs.size→s5.heap.get? b=some o→h6.get? b=some o:=fun b o hb e=>hs6.extBut b o hb e
   have un:=I5.base
   rw [eF,eEx,eH,eS] at un
   have nC:∀ b o,s3.heap.get? b=some o→b≠s3.heap.objs.size:=fun b o e=>Nat.ne_of_lt (Heap.lt_size e)
   have hok6:HOk X.prog X.w (upd H4 s2.heap.objs.size (.lst ys)) h6:=by
    have h5:=I5.hok
    rw [eP,eW] at h5
    have Hj:∀ b u,H4 b=some u→b≠s3.heap.objs.size:=fun b u e z=>by rw [z,hHC] at e;cases e
    intro b u e
    by_cases hb:b=s2.heap.objs.size
    ·subst hb
     rw [ak] at e;cases e
     exact ⟨hyl,its,nn,rv4,k56 _ _ hDne hDg⟩
    ·rw [az hb] at e
     have nD:∀ c u,H4 c=some u→c≠s2.heap.objs.size:=fun c u e z=>by rw [z,dn4] at e;cases e
     refine (h5 b u e).stay (fun c v hc' q=>k56 c v ?_ q) (fun c q=>by rw [az (nD c _ q)];exact q) fun c xs q=>by rw [az (nD c _ q)];exact q
     rcases hc' with z | z
     ·rw [z];exact Hj b u e
     ·exact Hj c _ z
   have nD2:∀ c u,H4 c=some u→c≠s2.heap.objs.size:=fun c u e z=>by rw [z,dn4] at e;cases e
   have un6:Un (frs X.stack) (s2.heap.objs.size :: fp) H2 (upd H4 s2.heap.objs.size (.lst ys)) s3.heap h6:=
    ⟨fun b o e nn' hb hx=>k56 b o (nC b o e) (un.keep b o e nn' hb hx),fun b o e nn' hb hx=>let ⟨sl,q⟩:=un.slot b o e nn' hb hx;⟨sl,k56 b _ (nC b o e) q⟩,
     fun b o e nn' hx=>by rw [az (fun z=>hx (by rw [z];exact List.mem_cons_self))];exact un.free b o e nn' hx,
     fun b o e hx=>let ⟨o',q⟩:=un.there b o e hx;⟨o',k56 b o' (nC b o e) q⟩,
     fun b xs e=>by have q:=un.tups b xs e;rw [az (nD2 b _ q)];exact q,
     fun b o u e=>by have q:=un.frzs b o u e;rw [az (nD2 b _ q)];exact q,
     fun b ps e=>let ⟨more,q⟩:=un.tbls b ps e;⟨more,by rw [az (nD2 b _ q)];exact q⟩⟩
   have I6:Inv X pins σ (upd H4 s2.heap.objs.size (.lst ys)) {s5 with heap:=h6}:=by
    refine I3.call' (s':={s5 with heap:=h6}) (ch:=s2.heap.objs.size :: fp) ?_ un6 hok6 I5.bare fun b hb=>?_
    ·show s5.os=s3.os
     have:=I5.os
     rw [eS] at this
     exact this
    ·have q:ik X pins H2 b:=by
      rcases List.mem_cons.mp hb with rfl | z
      ·exact fD
      ·exact f2 b z
     obtain ⟨f0,f1,f2',f3,f4,f5⟩:=q
     exact ⟨f3,f1,f4,f5⟩
   exact ⟨.ref s2.heap.objs.size,_,I6,rfl,qn _ dn4⟩
  ·have hitem:=T.item XC eP eW eK eC i _ s4 _ H4 (fun _ _=>False) P4 (stat fr4) st4 go
   rw [eA] at hitem
   refine wpAny_mono hitem (fun r s5 ⟨u,hr,h5⟩=>?_) fun _ _ z=>z
   subst hr
   dsimp only
   refine wpAny_mono h5 (fun _ s6 ⟨x,H6,I6,r6,y6,st6,fr6⟩=>?_) fun _ _ z=>z
   have P6:=I6.pinned (stat fr6) (T.obj _ _ st6)
   rw [← eE,← eP,← eW,← eA]
   refine wpAny_mono (hgC _ s6 _ H6 x u _ P6 r6 (step x H6 y6)) (fun _ s7 ⟨σ7,H7,I7,kp7,q7⟩=>?_) fun _ _ z=>by rw [eX] at z;exact z
   refine wpAny_mono (htC _ s7 σ7 H7 _ I7 q7) (fun ok s8 ⟨H8,I8,q8⟩=>?_) fun _ _ z=>by rw [eX] at z;exact z
   have fin:∀ {H9:Hp} {s9:Shared},Inv XC ([(s2.heap.objs.size,({cls:=.type "list",data:=.seq its.toArray nn}:Obj))] ++ nP fp s6.heap) σ7 H9 s9→Inv XC [] (c7 sub σ) H9 s9∧tn (i+1) s9.heap∧(∀ b∈fp,H9 b=none)∧H9 s2.heap.objs.size=none∧
     s9.heap.get? s2.heap.objs.size=some {cls:=.type "list",data:=.seq its.toArray nn}:=fun {H9 s9} J=>by
    have pD:=J.pin (s2.heap.objs.size,({cls:=.type "list",data:=.seq its.toArray nn}:Obj)) (by rw [ePn];simp)
    have pF:∀ b∈fp,∀ o,s6.heap.get? b=some o→s9.heap.get? b=some o∧H9 b=none:=fun b hb o e=>by
     have q:=J.pin (b,o) (by rw [ePn];exact List.mem_append_right _ (List.mem_append_right _ (jD hb e)))
     exact ⟨q.1,q.2.1⟩
    refine ⟨?_,T.keep _ _ _ st6 fun b hb o e=>(pF b hb o e).1,fun b hb=>?_,pD.2.1,pD.1⟩
    ·have J0:Inv XC [] σ7 H9 s9:=J.pins_of fun p hp=>nomatch hp
     exact J0.weak kp7.1.symm fun j v e=>kp7.2 j v e
    ·obtain ⟨o,e,_⟩:=T.obj _ _ st6 b hb
     exact (pF b hb o e).2
   cases ok with
   | false=>
    rw [if_neg (by simp)]
    rw [if_neg (by simp)] at q8
    obtain ⟨m',hm,w8⟩:=hN _ _ q8
    obtain ⟨a1,a2,a3,a4,a5⟩:=fin I8
    exact ⟨m',hm,i+1,ys,its,nn,H8,a1,a2,a3,a4,a5,rv4,w8⟩
   | true=>
    rw [if_pos rfl]
    rw [if_pos rfl] at q8
    refine wpAny_mono (heC _ s8 σ7 H8 _ I8 q8) (fun xv s9 ⟨y,H9,I9,r9,n9⟩=>?_) fun _ _ z=>by rw [eX] at z;exact z
    obtain ⟨m',hm,w9⟩:=hN _ _ n9
    obtain ⟨a1,a2,a3,a4,a5⟩:=fin I9
    refine wpAny_list_append_plain (items:=its.toArray) ⟨nn,a5⟩ (fun h' ⟨n',hp'⟩ sb=>?_) (by simp;rw [← rv4.length];omega)
    obtain ⟨q1,q2⟩:=I4.ok.exf s2.heap.objs.size (by rw [eEx];exact List.mem_cons_self)
    have a1':Inv XC [] (c7 sub σ) H9 {s9 with heap:=h'}:=a1.turned (t':=s9.toks) (fun b o hb e=>(sb.2 b hb).trans e) a4 q1 (.inl (by rw [eEx];exact List.mem_cons_self)) q2 (fun p hp=>by rw [ePn] at hp;exact nomatch hp)
    refine ⟨m',hm,i+1,ys ++ [y],its ++ [xv],n',H9,a1',T.keep _ _ _ a2 fun b hb o e=>(sb.2 b (fun z=>hDfp (by rw [← z];exact hb))).trans e,a3,a4,?_,rv4.append (.cons r9 .nil),w9⟩
    rw [hp']
    simp
 subst hs3
 exact codeAny_compStart_list loop (T.self _ 0 _ _ _ (T.keep _ _ _ st2 fun b _ o e=>hk31 b o (k23 b o e)) loop)
end
abbrev qp (sub:List (Option Nat)) (g:TG) (tt:TT) (te:TE) (σ:St) (Q:VK) (J:It) (H1:Hp):Prop:=∃ W:Nat→Nat→List V→Hp→Prop,(∃ m,W 0 m [] H1)∧∀ i m ys H,W i m ys H→
 (J.stop i H∧ys.length≤sizeLine∧∀ D,H D=none→Q (.ref D) (upd H D (.lst ys)))∨
 (J.go i H∧ys.length < sizeLine∧∃ N:List V→Hp→Prop,(∀ ys' H',N ys' H'→∃ m',m' < m∧W (i+1) m' ys' H')∧
  ∀ x H',J.yld i H x H'→g x (c7 sub σ) H' fun σ2 H2=>KeepSt (c7 sub σ) σ2∧tt σ2 H2 fun b H3=>if b=true then te σ2 H3 fun y H4=>N (ys ++ [y]) H4 else N ys H3)
theorem ux {sub:List (Option Nat)} {g:TG} {tt:TT} {te:TE} {σ:St} {Q:VK} {J:It} {H:Hp} {n:Nat} (Pv:Nat→List V→Hp→Prop) (hn:n≤sizeLine) (h0:Pv 0 [] H) (hl:∀ i ys H,Pv i ys H→ys.length≤i)
  (hgo:∀ i ys H,i < n→Pv i ys H→J.go i H) (hstop:∀ ys H,Pv n ys H→J.stop n H)
  (hs:∀ i ys H x H',i < n→Pv i ys H→J.yld i H x H'→g x (c7 sub σ) H' fun σ2 H2=>KeepSt (c7 sub σ) σ2∧tt σ2 H2 fun b H3=>if b=true then te σ2 H3 fun y H4=>Pv (i+1) (ys ++ [y]) H4 else Pv (i+1) ys H3)
  (hd:∀ ys H,Pv n ys H→∀ D,H D=none→Q (.ref D) (upd H D (.lst ys))):qp sub g tt te σ Q J H:=by
 refine ⟨fun i m ys H=>m=n - i∧i≤n∧Pv i ys H,⟨n,by simp,Nat.zero_le _,h0⟩,?_⟩
 rintro i m ys H ⟨rfl,hi,p⟩
 have hl':=hl i ys H p
 by_cases hlt:i < n
 ·exact .inr ⟨hgo i ys H hlt p,by omega,fun ys' H'=>Pv (i+1) ys' H',fun ys' H' p'=>⟨n - (i+1),by omega,rfl,hlt,p'⟩,fun x H' y=>hs i ys H x H' hlt p y⟩
 ·have e:i=n:=by omega
  subst e
  exact .inl ⟨hstop ys H p,by omega,hd ys H p⟩
end L2
namespace L2
open PySem PySem.Spec PyProof.Rows
section
variable {κ:Type} [DecidableEq κ]
def cX (kvs:List (κ×V)) (k:κ):Option V:=(kvs.find? fun kv=>decide (kv.1=k)).map (·.2)
def putK (kvs:List (κ×V)) (k:κ) (v:V):List (κ×V):=
 if (kvs.any fun kv=>decide (kv.1=k))=true then kvs.map (fun kv=>if kv.1=k then (kv.1,v) else kv) else kvs ++ [(k,v)]
theorem dj {p:κ×V} {r:List (κ×V)} {k:κ} (e:p.1=k):cX (p :: r) k=some p.2:=by simp [cX,List.find?_cons,e]
theorem dm {p:κ×V} {r:List (κ×V)} {k:κ} (e:¬ p.1=k):cX (p :: r) k=cX r k:=by simp [cX,List.find?_cons,e]
theorem jR (k:κ):∀ kvs:List (κ×V),(kvs.any fun kv=>decide (kv.1=k))=(cX kvs k).isSome
 | []=>rfl
 | p :: r=>by
  rw [List.any_cons]
  by_cases e:p.1=k
  ·simp only [dj e,decide_eq_true e,Bool.true_or,Option.isSome_some]
  ·rw [dm e,decide_eq_false e,Bool.false_or];exact jR k r
theorem vN (k j:κ) (y:V):∀ kvs:List (κ×V),cX (kvs.map fun kv=>if kv.1=k then (kv.1,y) else kv) j=(cX kvs j).map fun x=>if j=k then y else x
 | []=>rfl
 | p :: r=>by
  have ih:=vN k j y r
  rw [List.map_cons]
  by_cases h:p.1=k
  ·rw [if_pos h]
   by_cases e:p.1=j
   ·rw [dj (p:=(p.1,y)) e,dj e,Option.map_some,if_pos (e.symm.trans h)]
   ·rw [dm (p:=(p.1,y)) e,dm e,ih]
  ·rw [if_neg h]
   by_cases e:p.1=j
   ·rw [dj (p:=p) e,dj e,Option.map_some,if_neg (fun z=>h (e.trans z))]
   ·rw [dm (p:=p) e,dm e,ih]
theorem tD (k j:κ) (y:V):∀ kvs:List (κ×V),cX kvs k=none→cX (kvs ++ [(k,y)]) j=if j=k then some y else cX kvs j
 | [],_=>by
  by_cases e:k=j
  ·rw [if_pos e.symm];exact dj (p:=(k,y)) e
  ·rw [if_neg (fun z=>e z.symm)];exact dm (p:=(k,y)) e
 | p :: r,hn=>by
  rw [List.cons_append]
  have hk:¬ p.1=k:=fun z=>by rw [dj z] at hn;cases hn
  rw [dm hk] at hn
  have ih:=tD k j y r hn
  by_cases e:p.1=j
  ·rw [dj e,dj e,if_neg (fun z=>hk (e.trans z))]
  ·rw [dm e,dm e,ih]
theorem DG (kvs:List (κ×V)) (k j:κ) (y:V):cX (putK kvs k y) j=if j=k then some y else cX kvs j:=by
 unfold putK
 by_cases a:(kvs.any fun kv=>decide (kv.1=k))=true
 ·rw [if_pos a,vN]
  rw [jR] at a
  by_cases e:j=k
  ·obtain ⟨x,hx⟩:=Option.isSome_iff_exists.mp a
   rw [if_pos e,e,hx,Option.map_some,if_pos rfl]
  ·rw [if_neg e]
   cases cX kvs j with
   | none=>rfl
   | some x=>rw [Option.map_some,if_neg e]
 ·rw [if_neg a]
  refine tD k j y kvs ?_
  rw [jR] at a
  cases q:cX kvs k with
  | none=>rfl
  | some x=>rw [q] at a;exact (a rfl).elim
theorem vO {kvs:List (κ×V)} {k:κ} (v:V) (h:cX kvs k=none):putK kvs k v=kvs ++ [(k,v)]:=by
 unfold putK
 rw [jR,h]
 exact if_neg (by decide)
theorem RelO.isSome_eq {o:Option V} {u:Option Value} (r:RelO o u):o.isSome=u.isSome:=by
 cases o with
 | none=>cases u with
  | none=>rfl
  | some _=>exact (show False from r).elim
 | some _=>cases u with
  | none=>exact (show False from r).elim
  | some _=>rfl
theorem RelO.getD {o:Option V} {u:Option Value} {d:V} {d':Value} (r:RelO o u) (rd:RelV d d'):RelV (o.getD d) (u.getD d'):=by
 cases o with
 | none=>cases u with
  | none=>exact rd
  | some _=>exact (show False from r).elim
 | some _=>cases u with
  | none=>exact (show False from r).elim
  | some _=>exact r
theorem KV.val {kvs:List (κ×V)} {vs:List (κ×Value)} (r:KV kvs vs) (k:κ):RelO (cX kvs k) (valueAt vs k):=by
 unfold KV at r
 induction r with
 | nil=>exact True.intro
 | @cons p q ps qs h t ih=>
  obtain ⟨h1,h2⟩:=h
  by_cases e:p.1=k
  ·have e':q.1=k:=h1.symm.trans e
   have b:valueAt (q :: qs) k=some q.2:=by simp [valueAt,List.find?_cons,e']
   rw [dj e,b];exact h2
  ·have e':¬ q.1=k:=fun z=>e (h1.trans z)
   have b:valueAt (q :: qs) k=valueAt qs k:=by simp [valueAt,List.find?_cons,e']
   rw [dm e,b];exact ih
end
theorem zm {P:Program} {w:World} {k:Key} {u:Value} (r:RelV (kV k) u):(bK P w).is k u=true:=by
 cases k with
 | inl i=>obtain ⟨t,e⟩:=(show ∃ t,u=Value.int i t from r);subst e;exact vB P w i t
 | inr x=>obtain ⟨t,e⟩:=(show ∃ t,u=Value.str x t from r);subst e;exact vC P w x t
theorem tE {P:Program} {w:World}:∀ {ks:List Key} {us:List Value},Vals (ks.map kV) us→ItemsAre (bK P w) ks us
 | [],_,r=>by rw [List.map_nil] at r;cases r;exact .nil
 | k :: ks,_,r=>by
  rw [List.map_cons] at r
  cases r with
  | cons h t=>exact .cons (zm h) (tE t)
abbrev KT (H:Hp):List (List Key×V)→List (List Key×Addr×Value)→Prop:=Paired fun p q=>p.1=q.1∧H q.2.1=some (.tup (p.1.map kV))∧RelV p.2 q.2.2
theorem KT.val {H:Hp} {kvs:List (List Key×V)} {xs:List (List Key×Addr×Value)} (r:KT H kvs xs) (k:List Key):RelO (cX kvs k) ((atKey xs k).map (·.2)):=by
 induction r with
 | nil=>exact True.intro
 | @cons p q ps qs h t ih=>
  obtain ⟨h1,_,h2⟩:=h
  by_cases e:p.1=k
  ·have e':q.1=k:=h1.symm.trans e
   have b:atKey (q :: qs) k=some q.2:=by simp [atKey,List.find?_cons,e']
   rw [dj e,b];exact h2
  ·have e':¬ q.1=k:=fun z=>e (h1.trans z)
   have b:atKey (q :: qs) k=atKey qs k:=by simp [atKey,List.find?_cons,e']
   rw [dm e,b];exact ih
theorem KT.repl {H:Hp} {kvs:List (List Key×V)} {xs:List (List Key×Addr×Value)} (r:KT H kvs xs) (k:List Key) {y:V} {u:Value} (ry:RelV y u):
  KT H (kvs.map fun kv=>if kv.1=k then (kv.1,y) else kv) (xs.map (putAt k u)):=by
 induction r with
 | nil=>exact .nil
 | @cons p q ps qs h t ih=>
  rw [List.map_cons,List.map_cons]
  refine .cons ?_ ih
  obtain ⟨h1,h2,h3⟩:=h
  unfold putAt
  by_cases e:p.1=k
  ·rw [if_pos e,if_pos (h1.symm.trans e)];exact ⟨h1,h2,ry⟩
  ·rw [if_neg e,if_neg (fun z=>e (h1.trans z))];exact ⟨h1,h2,h3⟩
theorem KT.put {H:Hp} {kvs:List (List Key×V)} {xs:List (List Key×Addr×Value)} (r:KT H kvs xs) (k:List Key) {b:Addr} {y:V} {u:Value} (hb:H b=some (.tup (k.map kV))) (ry:RelV y u):
  KT H (putK kvs k y) (storedH xs k b u):=by
 have e:(kvs.any fun kv=>decide (kv.1=k))=(atKey xs k).isSome:=by
  rw [jR,(r.val k).isSome_eq,Option.isSome_map]
 unfold putK storedH
 rw [e]
 by_cases q:(atKey xs k).isSome=true
 ·rw [if_pos q,if_pos q];exact r.repl k ry
 ·rw [if_neg q,if_neg q];exact Paired.snoc r ⟨rfl,hb,ry⟩
theorem KT.keeps {H H':Hp} {kvs:List (List Key×V)} {xs:List (List Key×Addr×Value)} (r:KT H kvs xs) (ht:∀ b ys,H b=some (.tup ys)→H' b=some (.tup ys)):KT H' kvs xs:=
 Paired.mapP r fun _ _ z=>⟨z.1,ht _ _ z.2.1,z.2.2⟩
section
variable {P:Program} {w:World} {H:Hp} {h:Heap} {a:Addr}
theorem Le {u:HO} (ok:HOk P w H h) (e:Rd H a u):ObjOk P w H h a u:=e.ok ok
theorem vP {kvs:List (Key×V)} (ok:HOk P w H h) (e:Rd H a (.dK kvs)):kvs.length≤sizeLine∧(a == sysModules)=false∧∃ vs,KV kvs vs∧h.DictOf (bK P w) a vs:=
 show ObjOk P w H h a (.dK kvs) from Le ok e
theorem qt {ks:List Key} (ok:HOk P w H h) (e:H a=some (.tup (ks.map kV))):(tupleKind (bK P w)).is h ks a:=by
 obtain ⟨_,its,r,o,h1,h2,n,h3⟩:=(show ObjOk P w H h a (.tup (ks.map kV)) from ok a _ e)
 exact ⟨o,its.toArray,n,h1,h2,h3,by simpa using tE r⟩
theorem tG {kvs:List (List Key×V)} (ok:HOk P w H h) (e:Rd H a (.dT kvs)):kvs.length≤sizeLine∧(a == sysModules)=false∧
  ∃ xs,KT H kvs xs∧h.DictOfH (tupleKind (bK P w)) a xs:=by
 obtain ⟨z,y,xs,r,o,es,ep,h1,h2,h3,h4,h5⟩:=(show ObjOk P w H h a (.dT kvs) from Le ok e)
 refine ⟨z,y,xs,r,o,es,ep,h1,h2,h3,h4,fun x hx=>?_,h5⟩
 have all:∀ {l:List (List Key×V)} {m:List (List Key×Addr×Value)},KT H l m→∀ x∈m,(tupleKind (bK P w)).is h x.1 x.2.1:=by
  intro l m q
  induction q with
  | nil=>intro x hx;exact nomatch hx
  | @cons p q ps qs hq t ih=>
   intro x hx
   rcases List.mem_cons.mp hx with e | hx
   ·subst e
    exact qt ok (by rw [← hq.1];exact hq.2.1)
   ·exact ih x hx
 exact all r x hx
theorem RX {kvs:List (List Key×V)} (ok:HOk P w H h) (e:H a=some (.dT kvs)):kvs.length≤sizeLine∧(a == sysModules)=false∧
  ∃ xs,KT H kvs xs∧h.DictOfH (tupleKind (bK P w)) a xs:=tG ok (.inl e)
end
def DGet (H:Hp) (a:Addr) (y:V) (r:Option V):Prop:=
 (∃ kvs k,Rd H a (.dK kvs)∧y=kV k∧r=cX kvs k)∨∃ kvs k b,Rd H a (.dT kvs)∧y= .ref b∧H b=some (.tup (k.map kV))∧r=cX kvs k
theorem DGet.t {H:Hp} {a b:Addr} {kvs:List (List Key×V)} {k:List Key} (e:H a=some (.dT kvs)) (eb:H b=some (.tup (k.map kV))):DGet H a (.ref b) (cX kvs k):=.inr ⟨kvs,k,b,.inl e,rfl,eb,rfl⟩
section
variable {X:Cx} {pins:List (Addr×Obj)} {σ:St} {H:Hp} {s:Shared} {a:Addr} {y v:V} {u r:Value} {o:Option V} {A:Around} {E:Value→Shared→Prop}
theorem Inv.big (I:Inv X pins σ H s):sysModules < s.heap.objs.size:=by
 have h:mainGlobals < s.heap.objs.size:=(I.mod.glob.keeps I.bk).lt
 exact Nat.lt_trans (by decide) h
theorem Bh {Q:Value→Shared→Prop} (hu:A.units+1 < cLine) (I:Inv X pins σ H s) (g:DGet H a y (some v)) (ry:RelV y u) (h:∀ w' s',Inv X pins σ H s'→RelV v w'→Q w' s'):
  wpAny (model X.prog X.w) A (getItem (.ref a) u) Q E s:=by
 rcases g with ⟨kvs,k,e,ey,l⟩ | ⟨kvs,k,b,e,ey,eb,l⟩
 ·subst ey
  obtain ⟨z,hd,vs,rel,dd⟩:=vP I.hok e
  obtain ⟨w',hw,rw'⟩:=RelO.some_of (v:=v) (o:=valueAt vs k) (by rw [l];exact rel.val k)
  exact wpAny_getItem_of (zm ry) dd.mapOf hw (h w' _ (I.tok _) rw')
 ·subst ey
  cases (show u=Value.ref b from ry)
  obtain ⟨z,hd,xs,rel,dd⟩:=tG I.hok e
  obtain ⟨w',hw,rw'⟩:=RelO.some_of (v:=v) (o:=(atKey xs k).map (·.2)) (by rw [l];exact rel.val k)
  obtain ⟨p,hp,hp2⟩:=Option.map_eq_some_iff.mp hw
  refine wpAny_getItem_heap (tupleKind_room_in1 hu) (qt I.hok eb) dd hp ?_
  rw [hp2]
  exact h w' _ (I.tok _) rw'
theorem d_in {Q:Value→Shared→Prop} (hu:A.units+1 < cLine) (I:Inv X pins σ H s) (g:DGet H a y o) (ry:RelV y u) (h:∀ s',Inv X pins σ H s'→Q (.bool o.isSome) s'):
  wpAny (model X.prog X.w) A (compareOp .In u (.ref a)) Q E s:=by
 rcases g with ⟨kvs,k,e,ey,l⟩ | ⟨kvs,k,b,e,ey,eb,l⟩
 ·subst ey
  obtain ⟨z,hd,vs,rel,dd⟩:=vP I.hok e
  refine wpAny_in_of (zm ry) hd dd.mapOf ?_
  rw [← (rel.val k).isSome_eq,← l]
  exact h _ (I.tok _)
 ·subst ey
  cases (show u=Value.ref b from ry)
  obtain ⟨z,hd,xs,rel,dd⟩:=tG I.hok e
  refine wpAny_in_heap (tupleKind_room_in1 hu) (qt I.hok eb) hd dd ?_
  have q:=(rel.val k).isSome_eq
  rw [Option.isSome_map] at q
  rw [← q,← l]
  exact h _ (I.tok _)
theorem Ij {h':Heap} {t':Nat} {ob:HO} (I:Inv X pins σ H s) (mu:Rp (H a)) (hs:Heap.SameBut a s.heap h') (he:∃ q,h'.get? a=some q) (new:ObjOk X.prog X.w (upd H a ob) h' a ob):
  Inv X pins σ (upd H a ob) {s with heap:=h',toks:=t'}:=
 I.write (x:=a) (e:=a) mu (.inl rfl) (fun b q hb z=>(hs.2 b hb).trans z) he new
end
section
variable {X:Cx} {pins:List (Addr×Obj)} {σ:St} {H:Hp} {s:Shared} {a:Addr} {kvs:List (Key×V)} {k:Key} {u:Value} {A:Around} {E:Value→Shared→Prop}
end
def RZ (i:Expr):Prop:=∀ ov iv,subscripted i false ov iv=operate [ov,iv] (getItem ov iv)
theorem Ik {prog:Program} {w:World} {A:Around} {E:Value→Shared→Prop} {s:Shared} {env:Env} {value slice:Expr} {pos:Pos} {T id:String} {Q:Value→Shared→Prop}
  (hl:typeLookup (.type T) "__getitem__"=pure (some (.builtin id))) (hs:RZ slice)
  (h:wpAny (model prog w) A (eval value env) (fun o s₁=>wpAny (model prog w) A (eval slice env) (fun i s₂=>s₂.TypeIs o T∧wpAny (model prog w) A (getItem o i) Q E s₂) E s₁) E s):
  wpAny (model prog w) A (eval (.Subscript value slice pos) env) Q E s:=by
 refine Subscript_ (wpAny_mono h (fun o s₁ h₁=>wpAny_mono h₁ (fun i s₂ h₂=>?_) fun _ _ x=>x) fun _ _ x=>x)
 obtain ⟨hT,h₂⟩:=h₂
 unfold subscriptTail
 refine wpAny_bind ?_
 rw [getitemInPython_of_ne hT.not_modules]
 refine wpAny_bind (wpAny_specialOf hT hl ?_)
 have fin:wpAny (model prog w) A (subscripted slice false o i) (fun r s₃=>wpAny (model prog w) A (letTemporaryGo value o r >>=fun _=>pure r) Q E s₃) E s₂:=by
  rw [hs o i]
  exact wpAny_operating (wpAny_mono h₂ (fun r s₃ h₃=>wpAny_bind (wpAny_letTemporaryGo (wpAny_pure h₃))) fun _ _ x=>x)
 first
  | exact wpAny_pure (wpAny_bind fin)
  | exact wpAny_bind (wpAny_pure (wpAny_bind fin))
  | exact wpAny_bind fin
theorem vQ {X:Cx} {pins:List (Addr×Obj)} {σ:St} {H:Hp} {s:Shared} {a:Addr} {y:V} {o:Option V} (I:Inv X pins σ H s) (g:DGet H a y o):s.TypeIs (.ref a) "dict":=by
 rcases g with ⟨kvs,k,e,_,_⟩ | ⟨kvs,k,b,e,_,_,_⟩
 ·obtain ⟨_,_,vs,_,dd⟩:=vP I.hok e
  exact dd.typeIs
 ·obtain ⟨_,_,xs,_,dd⟩:=tG I.hok e
  exact dd.typeIs
def DK (td ty:TE):TE:=fun σ H Q=>td σ H fun x H1=>ty σ H1 fun y H2=>∃ a v,x= .ref a∧DGet H2 a y (some v)∧Q v H2
section
variable {X:Cx} {o i e value:Expr} {pos pos' tpos:Pos} {td ty tv:TE}
theorem Il (hu:X.A.units+1 < cLine) (ho:PE X o td) (hi:PE X i ty) (hs:RZ i):PE X (.Subscript o i pos) (DK td ty):=by
 intro pins s σ H Q I h
 refine Ik PySem.F.slot_dict_getitem.lookup hs (cZ (ho pins s σ H _ I h) fun u s1 ⟨x,H1,I1,rx,q1⟩=>cZ (hi pins s1 σ H1 _ I1 q1) fun iv s2 qq0=>?_)
 obtain ⟨y,H2,I2,ry,a,v,ex,g,q2⟩:=qq0
 subst ex
 obtain rfl:u=Value.ref a:=rx
 exact ⟨vQ I2 g,Bh hu I2 g ry fun w' s3 I3 rw'=>⟨v,H2,I3,rw',q2⟩⟩
end
theorem DN {P:Program} {w:World} {H:Hp} (h:Heap) (hb:sysModules < h.objs.size):ObjOk P w H (h.push {cls:=.type "dict",data:=.dict #[]}) h.objs.size (.dT []):=
 ⟨Nat.zero_le _,beq_eq_false_iff_ne.mpr (Ne.symm (Nat.ne_of_lt hb)),[],.nil,_,#[],0,Heap.get?_push_size _ rfl,⟨rfl,rfl,rfl⟩,rfl,rfl,List.nodup_nil⟩
def xN:TE:=fun _ H Q=>∀ p,H p=none→Q (.ref p) (upd H p (.dT []))
section
variable {X:Cx} {pos:Pos}
theorem DP:PE X (.Dict [] [] pos) xN:=fun pins s σ H Q I h=>
 wpAny_Dict_empty ⟨.ref s.heap.objs.size,_,I.laid (a:=s.heap.objs.size) (o:=.dT []) (t':=s.toks) (fun _ _ q=>Heap.get?_push_of_some _ q) (Nat.le_refl _) (DN s.heap I.big),rfl,h _ (I.hok.fresh (Nat.le_refl _))⟩
end
def DQ:List (TE×TE)→St→Hp→(List (V×V)→Hp→Prop)→Prop
 | [],_,H,Q=>Q [] H
 | (tk,tv) :: r,σ,H,Q=>tk σ H fun x H1=>tv σ H1 fun y H2=>DQ r σ H2 fun ps H3=>Q ((x,y) :: ps) H3
abbrev VV:List (V×V)→List (Value×Value)→Prop:=Paired fun p q=>RelV p.1 q.1∧RelV p.2 q.2
def PPs (X:Cx) (pos:Pos) (keys:List (Option Expr)) (values:List Expr) (trs:List (TE×TE)):Prop:=
 ∀ (pins:List (Addr×Obj)) (s:Shared) (σ:St) (H:Hp) (Q:List (V×V)→Hp→Prop),Inv X pins σ H s→DQ trs σ H Q→
  wpAny (model X.prog X.w) X.A (evalPairs (pairTrees keys values X.env pos)) (fun vs s'=>∃ ps H',Inv X pins σ H' s'∧VV ps vs∧Q ps H') X.xe s
structure M1 (X:Cx) (o:Expr) (m:Str) (apos:Pos) (e:Expr) (cpos:Pos):Prop where
 base:attributeBase o m X.env (eval o X.env)=eval o X.env
 few:((backTo cpos (starEach [e] X.env)).all (fun x=>!x.1) && (backToKw cpos (keywordEach [] X.env)).all (fun x=>x.1.isSome)
  && decide (([e]:List Expr).length+([]:List Keyword).length+(if ([]:List Keyword).isEmpty then 0 else 1) < 30))=true
 line:(apos.endLine == cpos.line)=true
 trees:backTo cpos (starEach [e] X.env)=[(false,eval e X.env)]
structure M2 (X:Cx) (o:Expr) (m:Str) (apos:Pos) (e f:Expr) (cpos:Pos):Prop where
 base:attributeBase o m X.env (eval o X.env)=eval o X.env
 few:((backTo cpos (starEach [e,f] X.env)).all (fun x=>!x.1) && (backToKw cpos (keywordEach [] X.env)).all (fun x=>x.1.isSome)
  && decide (([e,f]:List Expr).length+([]:List Keyword).length+(if ([]:List Keyword).isEmpty then 0 else 1) < 30))=true
 line:(apos.endLine == cpos.line)=true
 trees:backTo cpos (starEach [e,f] X.env)=[(false,eval e X.env),(false,eval f X.env)]
def R0 (H:Hp) (a:Addr):Prop:=(∃ kvs,Rd H a (.dK kvs))∨∃ kvs,Rd H a (.dT kvs)
theorem DW {X:Cx} {pins:List (Addr×Obj)} {σ:St} {H:Hp} {s:Shared} {a:Addr} (I:Inv X pins σ H s) (d:R0 H a):
  s.TypeIs (.ref a) "dict"∧(∀ b,Value.ref a= .ref b→∃ ob,s.heap.get? b=some ob∧ob.dict=none)∧(a == sysModules)=false:=by
 rcases d with ⟨kvs,e⟩ | ⟨kvs,e⟩
 ·obtain ⟨_,hd,vs,_,dd⟩:=vP I.hok e
  refine ⟨dd.typeIs,fun b q=>?_,hd⟩
  cases q
  obtain ⟨ob,_,_,h1,h2,_⟩:=dd
  exact ⟨ob,h1,h2.2.1⟩
 ·obtain ⟨_,hd,xs,_,dd⟩:=tG I.hok e
  refine ⟨dd.typeIs,fun b q=>?_,hd⟩
  cases q
  obtain ⟨ob,_,_,h1,h2,_⟩:=dd
  exact ⟨ob,h1,h2.2.1⟩
section
variable {X:Cx} {pins:List (Addr×Obj)} {σ:St} {H:Hp} {s:Shared} {a:Addr} {y d:V} {u r:Value} {o:Option V} {A:Around} {E:Value→Shared→Prop}
theorem NQ {Q:Value→Shared→Prop} (hu:A.units+1 < cLine) (I:Inv X pins σ H s) (g:DGet H a y o) (ry:RelV y u) (rd:RelV d r) (h:∀ w' s',Inv X pins σ H s'→RelV (o.getD d) w'→Q w' s'):
  wpAny (model X.prog X.w) A (call (.builtin "dict.get") [.ref a,u,r]) Q E s:=by
 rcases g with ⟨kvs,k,e,ey,l⟩ | ⟨kvs,k,b,e,ey,eb,l⟩
 ·subst ey
  obtain ⟨z,hd,vs,rel,dd⟩:=vP I.hok e
  refine call_meetsIn PySem.F.slot_dict_get dd.typeIs PySem.F.entry_dict_get (PySem.F.args_dict_get_3 _ _ _) (meets_dict_get_default (bK X.prog X.w) a (zm ry) hd r) ⟨_,dd.mapOf,h _ _ (I.tok _) ?_⟩
  rw [l]
  exact (rel.val k).getD rd
 ·subst ey
  cases (show u=Value.ref b from ry)
  obtain ⟨z,hd,xs,rel,dd⟩:=tG I.hok e
  refine call_meetsIn PySem.F.slot_dict_get dd.typeIs PySem.F.entry_dict_get (PySem.F.args_dict_get_3 _ _ _) (meetsH_dict_get_default (tupleKind (bK X.prog X.w)) a b hd r) ⟨tupleKind_room_in1 hu,k,xs,qt I.hok eb,dd,h _ _ (I.tok _) ?_⟩
  rw [l]
  exact (rel.val k).getD rd
end
def xO (td ty tx:TE):TE:=fun σ H Q=>td σ H fun x H1=>∃ a,x= .ref a∧R0 H1 a∧ty σ H1 fun y H2=>tx σ H2 fun z H3=>∃ o,DGet H3 a y o∧Q (o.getD z) H3
section
variable {X:Cx} {o e f:Expr} {apos cpos:Pos} {td ty tx:TE}
theorem DX (hu:X.A.units+1 < cLine) (ho:PE X o td) (he:PE X e ty) (hf:PE X f tx) (m:M2 X o "get" apos e f cpos):PE X (.Call (.Attribute o "get" apos) [e,f] [] cpos) (xO td ty tx):=by
 intro pins s σ H Q I h
 refine wpAny_Call_method m.base m.few m.line PySem.F.plainAttrs_dict PySem.F.slot_dict_get PySem.F.type_dict_get (cZ (ho pins s σ H _ I h) fun u s1 qq0=>?_)
 obtain ⟨x,H1,I1,rx,a,ex,d,q1⟩:=qq0
 subst ex
 obtain rfl:u=Value.ref a:=rx
 obtain ⟨t1,t2,_⟩:=DW I1 d
 refine ⟨t1,t2,?_⟩
 rw [m.trees]
 refine Calls.callWith_builtin rfl (Calls.evalArgs_plain (Calls.spliced_cons (cZ (he pins s1 σ H1 _ I1 q1) fun iv s2 ⟨y,H2,I2,ry,q2⟩=>
  Calls.spliced_cons (cZ (hf pins s2 σ H2 _ I2 q2) fun fv s3 ⟨z,H3,I3,rz,ov,g,q3⟩=>Calls.spliced_nil ?_))))
 exact NQ hu I3 g ry rz fun w' s4 I4 rw'=>⟨_,H3,I4,rw',q3⟩
end
section
variable {X:Cx} {pins:List (Addr×Obj)} {σ:St} {H:Hp} {s:Shared} {a:Addr} {kvs:List (Key×V)} {A:Around} {E:Value→Shared→Prop}
end
section
variable {X:Cx} {pins:List (Addr×Obj)} {σ:St} {H:Hp} {s:Shared} {a:Addr} {y:V} {u:Value} {A:Around} {E:Value→Shared→Prop}
end
end L2
namespace L2
open PySem PySem.Spec PyProof.Rows
section
variable {X:Cx}
end
section
variable {κ:Type} [DecidableEq κ]
theorem pM:∀ {l:List κ} {k:κ},l.Nodup→¬ k∈l→(l ++ [k]).Nodup
 | [],k,_,_=>by simp
 | a :: r,k,h,hk=>by
  obtain ⟨h1,h2⟩:=List.nodup_cons.mp h
  show (a :: (r ++ [k])).Nodup
  refine List.nodup_cons.mpr ⟨fun m=>?_,pM h2 fun m=>hk (List.mem_cons.mpr (Or.inr m))⟩
  rcases List.mem_append.mp m with q | q
  ·exact h1 q
  ·exact hk (List.mem_cons.mpr (Or.inl (List.mem_singleton.mp q).symm))
end
end L2
namespace L2
open PySem PySem.Spec PyProof.Rows
def Rh (x:Str):It:=⟨fun i _=>i < x.cps.size,fun i H v H'=>H'=H∧∃ c,x.cps[i]?=some c∧v= .str ⟨#[c]⟩,fun i _=>i=x.cps.size⟩
theorem vR {P:Program} {w:World} {K:PySem.W.Frag} {tg:Expr} (it:Addr) (x:Str) (t:Tok) (ty:String)
  (hty:["enumerate","zip","dict_itemiterator","dict_reverseitemiterator","odict_iterator","itertools.zip_longest","itertools.pairwise"].contains ty=false)
  (W:∀ A:Around,A.handled=none→Walks P w A it [it] [it] x.cps.size (SignAt x) fun i h=>h.IsStrIter it ty x t i)
  (hself:∀ (A:Around) (i:Nat) (s:Shared) (Q:Value→Shared→Prop) (E:Value→Shared→Prop),s.heap.IsStrIter it ty x t i→Q (.ref it) s→wpAny (model P w) A (pyIter (.ref it)) Q E s):Turn P w K tg (Rh x) [it] it (fun i h=>h.IsStrIter it ty x t i) where
 mem:=by simp
 obj:=fun i h st b hb=>by
  have e:b=it:=by simpa using hb
  subst e
  obtain ⟨o,e,c,d⟩:=st
  exact ⟨o,e,fun v z=>by rw [d] at z;cases z⟩
 keep:=fun i h h' st k=>by
  obtain ⟨o,e,r⟩:=st
  exact ⟨o,k it (by simp) o e,r⟩
 item:=by
  intro X hP hw hK hc i pins s σ H E I hf st hg
  subst hP hw hK
  obtain ⟨f0,f1,f2,f3,f4,f5⟩:=hf it (by simp)
  refine (W X.A (I.ok.hd hc)).item i s _ _ hg st fun v h' tk hv st' kk=>?_
  obtain ⟨c,u,e1,rfl⟩:=hv
  have I1:Inv X pins σ H {s with heap:=h',toks:=tk}:=I.turned (fun b o hb e=>kk b o (by simpa using hb) e) f0 f1 f3 f4 f5
  obtain ⟨o,e,cl,d⟩:=id st'
  exact ⟨_,rfl,yS (s:={s with heap:=h',toks:=tk}) e cl d hty ⟨.str ⟨#[c]⟩,H,I1,⟨u,rfl⟩,⟨rfl,c,e1,rfl⟩,st',fun b hb=>(hf b hb).1⟩⟩
 done:=by
  intro X hP hw hK hc i pins s σ H E I hf st hg
  subst hP hw hK
  obtain ⟨f0,f1,f2,f3,f4,f5⟩:=hf it (by simp)
  have hg:i=x.cps.size:=hg
  subst hg
  exact (W X.A (I.ok.hd hc)).done s _ _ st fun h' tk kk=>⟨rfl,I.turned (fun b o hb e=>kk b o (by simpa using hb) e) f0 f1 f3 f4 f5⟩
 self:=hself
section
variable {X:Cx}
theorem all_range {bs:List Bool}:(List.range bs.length).all (fun i=>bs.getD i false)=bs.all id:=by
 rw [Bool.eq_iff_iff]
 simp only [List.all_eq_true,List.mem_range]
 constructor
 ·intro h b hb
  obtain ⟨i,hi,e⟩:=List.mem_iff_getElem.mp hb
  have:=h i hi
  rw [List.getD_eq_getElem?_getD,List.getElem?_eq_getElem hi] at this
  simp only [Option.getD_some] at this
  rw [← e];exact this
 ·intro h i hi
  rw [List.getD_eq_getElem?_getD,List.getElem?_eq_getElem hi]
  exact h _ (List.getElem_mem hi)
theorem oY:∀ {bs:List Bool} {us:List Value} {i:Nat} {v:Value},Vals (bs.map V.bl) us→us[i]?=some v→v= .bool (bs.getD i false)
 | [],_,i,v,.nil,e=>by simp at e
 | b :: bs,_,0,v,.cons r t,e=>by simp at e;subst e;exact r
 | b :: bs,_,i+1,v,.cons r t,e=>by
  simp at e
  have:=oY (bs:=bs) t e
  simpa using this
def rAll:List V→Hp→VK→Prop:=fun xs H Q=>∃ (p:Addr) (bs:List Bool),xs=[.ref p]∧H p=some (.lst (bs.map V.bl))∧Q (.bl (bs.all id)) H
theorem vU (hc:X.calm=true):CallR X (.builtin "all") rAll:=by
 intro pins s σ H xs us Q I r h
 obtain ⟨p,bs,rfl,hp,q⟩:=h
 obtain ⟨u,rfl,ru⟩:=vals1 r
 cases ru
 obtain ⟨hz,its,n,rv,e⟩:=I.hok p _ hp
 refine call_all_walk (wpAny_pyIter_list (items:=its.toArray) ⟨_,e,rfl,n,rfl⟩ ?_)
 refine ⟨s.heap.objs.size,_,_,_,_,_,fun i=>bs.getD i false,rfl,Walks.list (A:=X.A.in1) (I.ok.hd hc) s.heap.objs.size p (Nat.ne_of_lt (Heap.lt_size e)) its.toArray,⟨⟨_,Heap.get?_push_size _ rfl,rfl,rfl⟩,⟨_,Heap.get?_push_of_some _ e,rfl,n,rfl⟩⟩,?_,fun h' tk hk=>?_⟩
 ·intro i v s' Q' E' hv hq
  have:=oY rv (by simpa using hv)
  subst this
  exact wpAny_truthy_bool hq
 ·have hl:its.toArray.size=bs.length:=by have:=rv.length;simpa using this.symm
  rw [hl,all_range]
  refine ⟨.bl _,H,?_,rfl,q⟩
  exact I.kept fun b o e=>hk b o (by simp;exact Nat.ne_of_lt (Heap.lt_size e)) (Heap.get?_push_of_some _ e)
theorem qu:∀ {ys:List Str} {us:List Value},Vals (ys.map V.str) us→StrsAre us ys
 | [],_,.nil=>.nil
 | y :: ys,_,.cons r t=>by
  obtain ⟨k,e⟩:=(show ∃ t,_=Value.str y t from r)
  subst e
  exact .cons y k (qu t)
def rJoin:V→List V→Hp→VK→Prop:=fun x xs H Q=>∃ (sep:Str) (p:Addr) (ys:List Str),x= .str sep∧xs=[.ref p]∧H p=some (.lst (ys.map V.str))∧(ys.map (·.length)).sum+ys.length*sep.length≤16777216∧Q (.str (Txt.join sep ys)) H
theorem Im:Rf X "str.join" rJoin:=by
 intro pins s σ H x xs v us Q I rx r h
 obtain ⟨sep,p,ys,rfl,rfl,hp,hz,q⟩:=h
 obtain ⟨u,rfl,ru⟩:=vals1 r
 cases ru
 obtain ⟨t,rfl⟩:=rx
 obtain ⟨hz',its,n,rv,e⟩:=I.hok p _ hp
 exact join_list (items:=its.toArray) ⟨_,e,rfl,n,rfl⟩ (by simpa using qu rv) hz fun t' k=>⟨.str _,H,I.tok _,⟨_,rfl⟩,q⟩
def R1:V→Option Int→Option Int→Hp→VK→Prop:=fun v lo hi H Q=>∃ x,v= .str x∧x.length≤sizeLine∧Q (.str (Txt.slice x lo hi)) H
theorem NT:SlR X R1:=by
 intro pins s σ H x v vl vu lo hi sl Q I rx hs pl pu h
 obtain ⟨z,rfl,hz,q⟩:=h
 obtain ⟨t,rfl⟩:=rx
 refine ⟨"str",_,F.slot_str_getitem.lookup,typeIs_str _ _ _,?_⟩
 have fin:∀ (t' k:Nat),EP X pins σ Q (.str (Txt.slice z lo hi) t') {s with toks:=k}:=fun t' k=>⟨.str _,H,I.tok _,⟨_,rfl⟩,q⟩
 have sz:=Nat.le_trans (Txt.slice_le z lo hi) hz
 obtain ⟨o,ho,hc,hd⟩:=hs
 cases pl with
 | none=>
  cases pu with
  | none=>exact wpAny_getItem_str_slice (l:=none) (u:=none) (st:=none) ⟨o,ho,hc,hd⟩ rfl (post_val_or_str ⟨sz,fin⟩)
  | int j tj=>exact wpAny_getItem_str_slice (l:=none) (u:=some (j,tj)) (st:=none) ⟨o,ho,hc,hd⟩ rfl (post_val_or_str ⟨sz,fin⟩)
 | int i ti=>
  cases pu with
  | none=>exact wpAny_getItem_str_slice (l:=some (i,ti)) (u:=none) (st:=none) ⟨o,ho,hc,hd⟩ rfl (post_val_or_str ⟨sz,fin⟩)
  | int j tj=>exact wpAny_getItem_str_slice (l:=some (i,ti)) (u:=some (j,tj)) (st:=none) ⟨o,ho,hc,hd⟩ rfl (post_val_or_str ⟨sz,fin⟩)
def Lf:R2:=fun x y H Q=>∃ i n,x= .str i∧y= .int n∧MulOk i n∧Q (.str (Txt.mul i n)) H
theorem xP:OpR X (binaryOp .Mult) Lf:=by
 intro pins s σ H x y v u Q I rx ry h
 obtain ⟨i,n,rfl,rfl,hk,q⟩:=h
 obtain ⟨t,rfl⟩:=rx
 obtain ⟨t',rfl⟩:=ry
 exact SB.mul hk fun t' k=>⟨.str _,H,I.tok _,⟨_,rfl⟩,q⟩
def sgn (x:Str):List V:=x.cps.toList.map fun c=>V.str ⟨#[c]⟩
theorem Bj {x:Str} {acc:Array Value} (h:ItemsOf (SignAt x) acc x.cps.size):Vals (sgn x) acc.toList:=by
 obtain ⟨h1,h2⟩:=h
 have key:∀ (l:List Nat) (a:List Value),l.length=a.length→(∀ (j:Nat) (v:Value),a[j]?=some v→∃ (c:Nat) (u:Tok),l[j]?=some c∧v=Value.str ⟨#[c]⟩ u)→Vals (l.map fun c=>V.str ⟨#[c]⟩) a:=by
  intro l
  induction l with
  | nil=>intro a hl _;cases a with
   | nil=>exact .nil
   | cons _ _=>simp at hl
  | cons c l ih=>
   intro a hl hh
   cases a with
   | nil=>simp at hl
   | cons v a=>
    obtain ⟨c',u,e1,e2⟩:=hh 0 v (by simp)
    simp at e1;subst e1
    refine .cons ⟨u,e2⟩ (ih a (by simpa using hl) fun j v' e=>?_)
    obtain ⟨c',u,e1,e2⟩:=hh (j+1) v' (by simpa using e)
    exact ⟨c',u,by simpa using e1,e2⟩
 refine key x.cps.toList acc.toList (by simp [h1]) fun j v e=>?_
 obtain ⟨c,u,e1,e2⟩:=h2 j v (by simpa using e)
 exact ⟨c,u,by simpa using e1,e2⟩
theorem vV (hc:X.calm=true):CallR X (.type "list") (fun xs H Q=>∃ x,xs=[.str x]∧x.cps.size≤sizeLine∧∀ p,H p=none→Q (.ref p) (upd H p (.lst (sgn x)))):=by
 intro pins s σ H xs us Q I r h
 obtain ⟨x,rfl,hz,q⟩:=h
 obtain ⟨u,rfl,t,rfl⟩:=vals1 r
 refine call_list_str (I.ok.hd hc) x t (hn:=hz) fun h' tk acc' c' hk hS hacc=>?_
 refine ⟨.ref s.heap.objs.size,_,I.laid (o:=.lst (sgn x)) hk (Nat.le_refl _) ⟨by simp [sgn];exact hz,acc'.toList,c',Bj hacc,by simpa using hS⟩,rfl,q _ I.fresh⟩
def NZ (K:PySem.W.Frag):List V→Hp→VK→Prop:=fun xs H Q=>∃ x T t b,xs=[x,.ty T]∧TyOf K H x t∧PySem.W.kitOne K t (.type T)=some b∧Q (.bl b) H
theorem DY:CallR X (.builtin "isinstance") (NZ X.K):=by
 intro pins s σ H xs us Q I r h
 obtain ⟨x,T,t,b,rfl,ty,e,q⟩:=h
 obtain ⟨u,v,rfl,ru,rv⟩:=vals2 r
 cases rv
 exact Ay I ru ty e fun tk=>⟨.bl b,H,I.tok _,rfl,q⟩
def xQ:List V→List V→Bool
 | [],[]=>true
 | x :: xs,y :: ys=>vK x y && xQ xs ys
 | _,_=>false
theorem qw:∀ (xs ys:List V),xs.length=ys.length→(List.range xs.length).all (fun j=>vK (xs.getD j .non) (ys.getD j .non))=xQ xs ys
 | [],[],_=>rfl
 | x :: xs,y :: ys,h=>by
  have ih:=qw xs ys (by simpa using h)
  rw [List.length_cons,List.range_succ_eq_map,List.all_cons,List.all_map]
  simp only [xQ]
  rw [← ih]
  rfl
 | [],y :: ys,h=>by simp at h
 | x :: xs,[],h=>by simp at h
theorem vW:∀ {xs ys:List V},xs.length≠ys.length→xQ xs ys=false
 | [],[],h=>absurd rfl h
 | [],y :: ys,_=>rfl
 | x :: xs,[],_=>rfl
 | x :: xs,y :: ys,h=>by simp [xQ,vW (xs:=xs) (ys:=ys) (by simpa using h)]
def R3 (K:PySem.W.Frag) (neg:Bool):R2:=fun x y H Q=>∃ a b xs ys,x= .ref a∧y= .ref b∧SqL K H a xs∧SqL K H b ys∧xs.all jw=true∧ys.all jw=true∧Q (.bl (if neg then !xQ xs ys else xQ xs ys)) H
theorem Bk (hu:X.A.units < cLine):OpR X (compareOp .Eq) (R3 X.K false):=by
 intro pins s σ H x y v u Q I rx ry h
 obtain ⟨a,b,xs,ys,rfl,rfl,ha,hb,fx,fy,q⟩:=h
 cases rx
 cases ry
 obtain ⟨its,r1,p1,z1⟩:=I.list ha
 obtain ⟨jts,r2,p2,z2⟩:=I.list hb
 have l1:its.toArray.size=xs.length:=by simpa using r1.length.symm
 have l2:jts.toArray.size=ys.length:=by simpa using r2.length.symm
 by_cases hl:xs.length=ys.length
 ·refine SeqAt.eq_listAt (e:=fun j=>vK (xs.getD j .non) (ys.getD j .non)) p1.isList p2.isList (by rw [l1,l2];exact hl) hu (fun j h1 h2=>?_) ?_
  ·have h1':j < xs.length:=by omega
   have h2':j < ys.length:=by omega
   obtain ⟨u1,e1,q1⟩:=r1.get (List.getElem?_eq_getElem h1')
   obtain ⟨u2,e2,q2⟩:=r2.get (List.getElem?_eq_getElem h2')
   have e1':its.toArray[j]=u1:=by
    have:=List.getElem?_eq_some_iff.mp e1
    obtain ⟨_,z⟩:=this
    simpa using z
   have e2':jts.toArray[j]=u2:=by
    have:=List.getElem?_eq_some_iff.mp e2
    obtain ⟨_,z⟩:=this
    simpa using z
   rw [e1',e2']
   have g1:xs.getD j .non=xs[j]:=by rw [List.getD_eq_getElem?_getD,List.getElem?_eq_getElem h1'];rfl
   have g2:ys.getD j .non=ys[j]:=by rw [List.getD_eq_getElem?_getD,List.getElem?_eq_getElem h2'];rfl
   show SeqAt.EqAt X.A.in1 s u1 u2 (vK (xs.getD j .non) (ys.getD j .non))
   rw [g1,g2]
   exact uq q1 q2 (List.all_eq_true.mp fx _ (List.getElem_mem h1')) (List.all_eq_true.mp fy _ (List.getElem_mem h2'))
  ·rw [l1,qw xs ys hl]
   exact ⟨.bl _,H,I,rfl,q⟩
 ·refine SeqAt.eq_list_lengthsAt p1.isList p2.isList (by rw [l1,l2];simpa using hl) hu ?_
  rw [if_neg (by simp),vW hl] at q
  exact ⟨.bl false,H,I,rfl,q⟩
end
end L2
namespace L2
open PySem PySem.Spec PyProof.Rows
def gj (K:PySem.W.Frag) (mg:Str→Option Value) (x:Str) (st:Stmt):Prop:=∃ f fd,Fun K x x st f fd∧mg x=some (.ref f)
theorem cj {K:PySem.W.Frag} {mg:Str→Option Value} {h:Heap} (X:K.In h) (G:h.Ns mainGlobals mg) {x:Str} {st:Stmt} {f:Addr} {oc:Value} {od an:Option Addr} {osl:Array (Option Value)} {kV doc pm cdv ct:Value}
  (a:PySem.W.nsIn K mainGlobals x=some (some (.ref f)))
  (l:K.lookup f=some ⟨oc,od,.func (PySem.W.fnOf x x (dM st) (bY st) (au st) .none kV doc pm an cdv ct),osl⟩)
  (c:PySem.W.codeIn K cdv x=true) (k:PySem.W.keepIn K (.ref f)=true):gj K mg x st:=⟨f,_,xM l c k,PySem.W.mg_of X G a⟩
def pC (P:Program) (w:World) (K:PySem.W.Frag) (mg:Str→Option Value) (base:Heap) (k:Nat) (x:Str) (ps:List Str) (sp:Sp):Prop:=
 ∃ f fd,mg x=some (.ref f)∧PySem.W.keepIn K (.ref f)=true∧Binds K fd ps []∧mQ P w K mg base xK k f fd ps sp
section
variable {P:Program} {w:World} {K:PySem.W.Frag} {mg:Str→Option Value} {base:Heap}
theorem N5 {x:Str} {st:Stmt} {N ps:List Str} {k:Nat} {sp:Sp} (D:gj K mg x st) (S:aF N ps (au st))
  (hb:∀ (kV doc pm:Value) (an:Option Addr) (cdv ct:Value) (us:List Value),us.length=ps.length→bindArgs (PySem.W.fnOf x x (dM st) (bY st) (au st) .none kV doc pm an cdv ct) ⟨us,[]⟩=pure (ps.zip us))
  (len:∀ vs H Q E,sp vs H Q E→vs.length=ps.length)
  (hbody:∀ (f:Addr) (cdv:Value) (A:Around) (outer:List Env) (s:Shared) (H:Hp) (vs:List V) (Q:VK) (E:XK),Room k (A.deeper (envOfC x (au st) s.heap.objs.size f cdv))→sp vs H Q E→
   ∃ t,PSs (mq xK P w K mg base N x (au st) f cdv A outer s H E).nox (bY st) t∧t {nx:=fun _ H'=>Q .non H',rt:=Q} (start N vs) H):pC P w K mg base (k+1) x ps sp:=by
 obtain ⟨f,fd,F,hm⟩:=D
 exact ⟨f,fd,hm,F.kp,F.binds hb,F.ok S len fun cdv A outer s H vs Q E hr h=>hbody f cdv A outer s H vs Q E hr h⟩
end
section
variable {X:Cx}
theorem Ea {k:Nat} {x:Str} {ps:List Str} {sp:Sp} {p pos:Pos} {e:Expr} {es:List Expr} {t:TA} (F:pC X.prog X.w X.K X.mg X.base k x ps sp) (hr:Room k X.A) (hg:Gl X x)
  (ha:PA X (e :: es) t) (hdb:autoParam ((x == ("__debug__":Str))=false) L2.auto2._auto_1) (he:autoParam (starEach (e :: es) X.env=(false,eval e X.env) :: starEach es X.env) L2.auto4._auto_1) (hpl:autoParam ((backTo pos (starEach es X.env)).any (·.1)=false) L2.auto4._auto_1):
  PE X (.Call (.Name x p) (e :: es) [] pos) (sO sp [] E0 t):=by
 obtain ⟨f,fd,a,b,c,d⟩:=F
 exact HY d hr hg a b c .nil RW ha hdb he hpl
def Eb:R2:=fun x y H Q=>(∃ i j,x= .int i∧y= .int j∧Q (.int (i+j)) H)∨(∃ i j,x= .str i∧y= .str j∧i.length+j.length≤sizeLine∧Q (.str (i ++ j)) H)∨RQ x y H Q
theorem aY:OpR X (binaryOp .Add) Eb:=M6.or (xn.or NK)
def Ec:R2:=fun x y H Q=>(∃ i j,x= .int i∧y= .int j∧CMul i j∧Q (.int (i*j)) H)∨Lf x y H Q∨RV x y H Q
theorem jE:OpR X (binaryOp .Mult) Ec:=M9.or (xP.or NP)
theorem Ed {x:Str} {z:Str} {pos:Pos} (hg:Gl X x) (hm:∃ t,X.mg x=some (.str z t)) (hd:autoParam ((x == ("__debug__":Str))=false) L2.auto2._auto_1):PE X (.Name x pos) (tC (.str z)):=
 let ⟨t,e⟩:=hm;yP hg e ⟨t,rfl⟩ hd
theorem Ef {x:Str} {z:Int} {pos:Pos} (hg:Gl X x) (hm:∃ t,X.mg x=some (.int z t)) (hd:autoParam ((x == ("__debug__":Str))=false) L2.auto2._auto_1):PE X (.Name x pos) (tC (.int z)):=
 let ⟨t,e⟩:=hm;yP hg e ⟨t,rfl⟩ hd
theorem R4 {x:Str} {T:String} {pos:Pos} (hg:Gl X x) (hm:X.mg x=none) (hv:bootBuiltins x=some (.type T)) (hn:autoParam (x≠"__name__") L2.auto2._auto_1) (hd:autoParam ((x == ("__debug__":Str))=false) L2.auto2._auto_1):PE X (.Name x pos) (tC (.ty T)):=
 Hr hg hm hv rfl hn hd
def Io (K:PySem.W.Frag):R2:=fun x y H Q=>(∃ i j,x= .str i∧y= .str j∧Q (.bl (!(Builtin.Str.occurrences j i 0 j.length 1).isEmpty)) H)∨rIn K false x y H Q
theorem N6:OpR X (compareOp .In) (Io X.K):=Ar.or Bb
def N7 (K:PySem.W.Frag):R2:=fun x y H Q=>rEq x y H Q∨R3 K false x y H Q
theorem N8 (hu:X.A.units < cLine):OpR X (compareOp .Eq) (N7 X.K):=Ry.or (Bk hu)
def Vk (K:PySem.W.Frag):V→Option Int→Option Int→Hp→VK→Prop:=fun x lo hi H Q=>RN K x lo hi H Q∨RG K x lo hi H Q∨R1 x lo hi H Q
theorem Oa:SlR X (Vk X.K):=Ig.or (Nt.or NT)
def Ip (K:PySem.W.Frag) (tl:TE):TI:=fun σ H R=>tl σ H fun x H1=>(∃ a,x= .ref a∧(∃ xs,SqL K H1 a xs)∧R (La K a) H1)∨(∃ a,x= .ref a∧(∃ xs,SqT K H1 a xs)∧R (Itt K a) H1)∨(∃ z,x= .str z∧R (Rh z) H1)
theorem Ob {tg l:Expr} {tl:TE} (hl:PE X l tl):PI X tg l (Ip X.K tl):=by
 intro pins s σ H R I h
 refine cZ (hl pins s σ H _ I h) fun v s1 qq0=>?_
 obtain ⟨x,H1,I1,r1,q1⟩:=qq0
 rcases q1 with ⟨a,rfl,⟨xs,hq⟩,q⟩ | ⟨a,rfl,⟨xs,hq⟩,q⟩ | ⟨z,rfl,q⟩
 ·cases r1
  obtain ⟨its,rv,p,hz⟩:=I1.list hq
  refine wpAny_pyIter_list p.isList ?_
  refine ⟨s1.heap.objs.size,[s1.heap.objs.size],_,_,H1,rfl,I1.kept (t':=s1.toks) fun b o e=>Heap.get?_push_of_some _ e,An a _,⟨_,Heap.get?_push_size _ rfl,rfl,rfl⟩,fun b hb=>?_,q⟩
  have e:b=s1.heap.objs.size:=by simpa using hb
  subst e
  exact I1.fpOk (Nat.le_refl _) (I1.hok.fresh (Nat.le_refl _))
 ·cases r1
  obtain ⟨its,rv,p,hz⟩:=I1.tuple hq
  refine wpAny_pyIter_tuple (show s1.heap.IsTuple a its.toArray from p) ?_
  refine ⟨s1.heap.objs.size,[s1.heap.objs.size],_,_,H1,rfl,I1.kept (t':=s1.toks) fun b o e=>Heap.get?_push_of_some _ e,xg a _,⟨_,Heap.get?_push_size _ rfl,rfl,rfl⟩,fun b hb=>?_,q⟩
  have e:b=s1.heap.objs.size:=by simpa using hb
  subst e
  exact I1.fpOk (Nat.le_refl _) (I1.hok.fresh (Nat.le_refl _))
 ·obtain ⟨t,rfl⟩:=r1
  have fin:∀ (ty:String) (T:Turn X.prog X.w X.K tg (Rh z) [s1.heap.objs.size] s1.heap.objs.size (fun i h=>h.IsStrIter s1.heap.objs.size ty z t i)) (o:Obj),(s1.heap.push o).IsStrIter s1.heap.objs.size ty z t 0→PIE X pins σ tg R (.ref s1.heap.objs.size) {s1 with heap:=s1.heap.push o}:=
   fun ty T o st=>⟨s1.heap.objs.size,[s1.heap.objs.size],_,_,H1,rfl,I1.kept (t':=s1.toks) fun b o e=>Heap.get?_push_of_some _ e,T,st,fun b hb=>by
    have e:b=s1.heap.objs.size:=by simpa using hb
    subst e
    exact I1.fpOk (Nat.le_refl _) (I1.hok.fresh (Nat.le_refl _)),q⟩
  cases ha:z.cps.all (· < 128)
  ·exact wpAny_pyIter_wide ha (fin "str_iterator" (vR _ z t _ (by decide) (fun A' hA=>Walks.strWide hA _ z t) fun A i s Q E st h=>wpAny_pyIter_striter_wide st h) _ ⟨_,Heap.get?_push_size _ rfl,rfl,rfl⟩)
  ·exact wpAny_pyIter_ascii ha (fin "str_ascii_iterator" (vR _ z t _ (by decide) (fun A' hA=>Walks.strAscii hA _ z t) fun A i s Q E st h=>wpAny_pyIter_striter_ascii st h) _ ⟨_,Heap.get?_push_size _ rfl,rfl,rfl⟩)
end
section
variable {X:Cx} {K:PySem.W.Frag}
theorem Ir (hK:X.K=K):IxR X (Ny K):=hK ▸ Nz
theorem xR (hK:X.K=K):OpR X (compareOp .In) (Io K):=hK ▸ N6
theorem Oc (hK:X.K=K) (hu:X.A.units < cLine):OpR X (compareOp .Eq) (N7 K):=hK ▸ N8 hu
theorem pN (hK:X.K=K):SlR X (Vk K):=hK ▸ Oa
theorem Iu {tg l:Expr} {tl:TE} (hK:X.K=K) (hl:PE X l tl):PI X tg l (Ip K tl):=hK ▸ Ob hl
def Iv (K:PySem.W.Frag):List V→Hp→VK→Prop:=fun xs H Q=>∃ x n,xs=[x]∧RD K x H n∧Q (.int n) H
theorem aJ (hK:X.K=K):CallR X (.builtin "len") (Iv K):=hK ▸ Di
theorem cH (hK:X.K=K):CallR X (.builtin "isinstance") (NZ K):=hK ▸ DY
def Eg (K:PySem.W.Frag):List V→Hp→VK→Prop:=fun xs H Q=>(∃ p ys,xs=[.ref p]∧(SqL K H p ys∨SqT K H p ys)∧∀ l,H l=none→Q (.ref l) (upd H l (.lst ys)))∨(∃ x,xs=[.str x]∧x.cps.size≤sizeLine∧∀ p,H p=none→Q (.ref p) (upd H p (.lst (sgn x))))
theorem mC (hK:X.K=K) (hc:X.calm=true):CallR X (.type "list") (Eg K):=hK ▸ ut.or (vV hc)
variable {o e:Expr} {es:List Expr} {to:TE} {t:TA} {name:Str} {apos cpos:Pos} {T id:String} {r:V→List V→Hp→VK→Prop}
theorem Eh (hK:X.K=K) (pa:PlainAttrs T) (slot:Slot T name id) (hty:typeOf (.builtin id)=pure (.type "method_descriptor")) (hm:Rf X id r) (ho:PE X o to) (ha:PA X (e :: es) t)
  (hbase:autoParam (attributeBase o name X.env (eval o X.env)=eval o X.env) L2.auto4._auto_1)
  (hfew:((backTo cpos (starEach (e :: es) X.env)).all (fun x=>!x.1) && (backToKw cpos (keywordEach [] X.env)).all (fun x=>x.1.isSome)
   && decide ((e :: es).length+([]:List Keyword).length+(if ([]:List Keyword).isEmpty then 0 else 1) < 30))=true:=by rfl)
  (hline:autoParam ((apos.endLine == cpos.line)=true) L2.auto4._auto_1) (hs:autoParam (starEach (e :: es) X.env=(false,eval e X.env) :: starEach es X.env) L2.auto4._auto_1) (hplain:autoParam ((backTo cpos (starEach es X.env)).any (·.1)=false) L2.auto4._auto_1):
  PE X (.Call (.Attribute o name apos) (e :: es) [] cpos) (Rg K T r to t):=by
 subst hK;exact RP pa slot hty hm ho ha hbase hfew hline hs hplain
theorem Iw {ts:List Expr} {k:Nat} {gs:w5} {n:Nat} {pos:Pos} (hK:X.K=K) (hc:X.calm=true) (h:Rc X ts gs)
  (hn:autoParam ((assignEach ts X.env).length=n) L2.auto4._auto_1) (hst:autoParam ((assignEach ts X.env).findIdx? (·.1)=none) L2.auto4._auto_1):PG X (.Tuple ts k pos) (Hy K n gs):=by
 subst hK;exact CT hc h hn hst
end
section
variable {X:Cx} {sc scope:Scope} {N':List Str} {C:Addr} {s₀:Shared} {H₀:Hp} {ex:List Addr} {x:Str} {pos:Pos}
theorem pvL (i:Nat) (h:sc.names.lookup x=some .local) (hN:autoParam (X.N[i]?=some x) L2.auto4._auto_1) (hsc:autoParam (X.env.scope=sc) L2.auto4._auto_1) (hd:autoParam ((x == ("__debug__":Str))=false) L2.auto6._auto_1) (hcd:autoParam ((x == ("__classdict__":Str))=false) L2.auto6._auto_1):
  PE X (.Name x pos) (lA i):=ue hN (.inl (by rw [hsc];exact h)) hd hcd
theorem pvC (i:Nat) (h:sc.names.lookup x=some .cell) (hN:autoParam (X.N[i]?=some x) L2.auto4._auto_1) (hsc:autoParam (X.env.scope=sc) L2.auto4._auto_1) (hd:autoParam ((x == ("__debug__":Str))=false) L2.auto6._auto_1) (hcd:autoParam ((x == ("__classdict__":Str))=false) L2.auto6._auto_1):
  PE X (.Name x pos) (lA i):=ue hN (.inr (.inl (by rw [hsc];exact h))) hd hcd
theorem pvBL (i:Nat) (h:scope.names.lookup x=some .local) (hN:autoParam (N'[i]?=some x) L2.auto4._auto_1) (hd:autoParam ((x == ("__debug__":Str))=false) L2.auto6._auto_1) (hcd:autoParam ((x == ("__classdict__":Str))=false) L2.auto6._auto_1):
  PE (lB X N' scope C s₀ H₀ ex) (.Name x pos) (lA i):=ue hN (.inl (lookup_relabel_local h)) hd hcd
theorem pvBF (i:Nat) (h:scope.names.lookup x=some .free) (hN:autoParam (N'[i]?=some x) L2.auto4._auto_1) (hd:autoParam ((x == ("__debug__":Str))=false) L2.auto6._auto_1) (hcd:autoParam ((x == ("__classdict__":Str))=false) L2.auto6._auto_1):
  PE (lB X N' scope C s₀ H₀ ex) (.Name x pos) (lA i):=ue hN (by
   rcases mX (env:=X.env) h with z | z
   ·exact .inr (.inl z)
   ·exact .inr (.inr z)) hd hcd
theorem bB (h:sc.names.lookup x=some .globalImplicit) (hsc:autoParam (X.env.scope=sc) L2.auto4._auto_1):Gl X x:=by
 show X.env.scope.names.lookup x=_
 rw [hsc];exact h
theorem gr {env:Env}:∀ {names:List (Str×NameKind)} {x:Str},names.lookup x=some .globalImplicit→
  (names.map fun (n,k)=>if (k == NameKind.free && env.scope.kind == .function && env.kindOf n == some .cell) then (n,NameKind.cell) else (n,k)).lookup x=some .globalImplicit
 | [],_,h=>by simp at h
 | (n,k) :: r,x,h=>by
  have ih:=@gr env r x
  show List.lookup x ((if (k == NameKind.free && env.scope.kind == .function && env.kindOf n == some .cell)=true then (n,NameKind.cell) else (n,k)) :: _)=_
  cases hx:x == n with
  | true=>
   simp only [List.lookup_cons,hx] at h
   cases h
   simp [List.lookup_cons,hx]
  | false=>
   simp only [List.lookup_cons,hx] at h
   by_cases hc:(k == NameKind.free && env.scope.kind == .function && env.kindOf n == some .cell)=true
   ·rw [if_pos hc];simp only [List.lookup_cons,hx];exact ih h
   ·rw [if_neg hc];simp only [List.lookup_cons,hx];exact ih h
theorem glB (h:scope.names.lookup x=some .globalImplicit):Gl (lB X N' scope C s₀ H₀ ex) x:=gr h
theorem pgB (i:Nat) (h:scope.names.lookup x=some .local) (hN:N'.Nodup) (hi:autoParam (N'[i]?=some x) L2.auto4._auto_1):PG (lB X N' scope C s₀ H₀ ex) (.Name x pos) (lF i):=
 yR hN hi (.inl (lookup_relabel_local h)) (.inr (lookup_relabel_local h))
end
def gB:Expr→Bool
 | .ListComp ..=>false | .SetComp ..=>false | .DictComp ..=>false | _=>true
theorem tH {value:Expr} {target:Option Expr} {line:Nat} {env:Env} (h:gB value=true):swapsWith value target line env=pure false:=by
 cases value <;> first | rfl | cases h
def jT:Expr→Bool
 | .Slice ..=>false | _=>true
theorem pix {b:Expr} (h:jT b=true):zf b:=by
 intro o i
 cases b <;> first | rfl | cases h
def nY:Expr→Bool
 | .Set ..=>false | _=>true
theorem Ei {e:Expr} {env:Env} (h:nY e=true):∀ x,foldedSetIterable e env x=pure x:=by
 intro x
 cases e <;> first | rfl | cases h
def notStar:Expr→Bool
 | .Starred ..=>false | _=>true
theorem bj {e:Expr} {es:List Expr} {env:Env} (h:notStar e=true):starEach (e :: es) env=(false,eval e env) :: starEach es env:=by
 cases e <;> first | rfl | cases h
theorem iH {env:Env} {pos:Pos}:∀ {es:List Expr},es.all notStar=true→(backTo pos (starEach es env)).any (·.1)=false
 | [],_=>rfl
 | e :: es,h=>by
  simp only [List.all_cons,Bool.and_eq_true] at h
  rw [bj h.1]
  show (false || (backTo pos (starEach es env)).any (·.1))=false
  rw [iH h.2];rfl
theorem xT {env:Env} {pos:Pos}:∀ {es:List Expr},es.all notStar=true→(backTo pos (starEach es env)).all (fun x=>!x.1)=true
 | [],_=>rfl
 | e :: es,h=>by
  simp only [List.all_cons,Bool.and_eq_true] at h
  rw [bj h.1]
  show (true && (backTo pos (starEach es env)).all (fun x=>!x.1))=true
  rw [xT h.2];rfl
section
variable {X:Cx} {K:PySem.W.Frag} {e:Expr} {es:List Expr} {te:TE} {t:TA} {pos p:Pos}
theorem paC (ha:PE X e te) (hr:PA X es t) (h:autoParam (notStar e=true) L2.auto4._auto_1):PA X (e :: es) (sJ te t):=HS ha hr (bj h)
theorem R5 {k:Nat} {x:Str} {ps:List Str} {sp:Sp} (F:pC X.prog X.w X.K X.mg X.base k x ps sp) (hr:Room k X.A) (hg:Gl X x) (ha:PA X (e :: es) t) (hdb:(x == ("__debug__":Str))=false) (h:autoParam ((e :: es).all notStar=true) L2.auto4._auto_1):
  PE X (.Call (.Name x p) (e :: es) [] pos) (sO sp [] E0 t):=by
 simp only [List.all_cons,Bool.and_eq_true] at h
 exact Ea F hr hg ha hdb (bj h.1) (iH h.2)
theorem R6 {x:Str} {id:String} {r:List V→Hp→VK→Prop} (hc:CallR X (.builtin id) r) (hg:Gl X x) (hm:X.mg x=none) (hv:bootBuiltins x=some (.builtin id)) (ha:PA X (e :: es) t) (hn:x≠"__name__") (hdb:(x == ("__debug__":Str))=false) (h:autoParam ((e :: es).all notStar=true) L2.auto4._auto_1):
  PE X (.Call (.Name x p) (e :: es) [] pos) (Nr r t):=by
 simp only [List.all_cons,Bool.and_eq_true] at h
 exact Dn hc hg hm hv ha hn hdb (bj h.1) (iH h.2)
theorem Od {x:Str} {T:String} {r:List V→Hp→VK→Prop} (hc:CallR X (.type T) r) (hg:Gl X x) (hm:X.mg x=none) (hv:bootBuiltins x=some (.type T)) (ha:PA X (e :: es) t) (hn:x≠"__name__") (hdb:(x == ("__debug__":Str))=false) (h:autoParam ((e :: es).all notStar=true) L2.auto4._auto_1):
  PE X (.Call (.Name x p) (e :: es) [] pos) (Nr r t):=by
 simp only [List.all_cons,Bool.and_eq_true] at h
 exact Ba hc hg hm hv ha hn hdb (bj h.1) (iH h.2)
def kh:Expr→Bool
 | .Call ..=>false | _=>true
theorem Ej {o:Expr} {f:Str} {env:Env} {w:Sem Value} (h:kh o=true):attributeBase o f env w=w:=by
 cases o <;> first | rfl | cases h
theorem R7 {o:Expr} {to:TE} {name:Str} {apos cpos:Pos} {T id:String} {r:V→List V→Hp→VK→Prop} (hK:X.K=K) (pa:PlainAttrs T) (slot:Slot T name id) (hty:typeOf (.builtin id)=pure (.type "method_descriptor")) (hm:Rf X id r) (ho:PE X o to) (ha:PA X (e :: es) t)
  (hbase:autoParam (kh o=true) L2.auto4._auto_1) (hl:autoParam (es.length < 20) L2.auto2._auto_1) (hline:autoParam ((apos.endLine == cpos.line)=true) L2.auto4._auto_1) (h:autoParam ((e :: es).all notStar=true) L2.auto4._auto_1):
  PE X (.Call (.Attribute o name apos) (e :: es) [] cpos) (Rg K T r to t):=by
 have hA:=xT (env:=X.env) (pos:=cpos) h
 simp only [List.all_cons,Bool.and_eq_true] at h
 refine Eh hK pa slot hty hm ho ha (Ej hbase) ?_ hline (bj h.1) (iH h.2)
 rw [hA]
 have:(e :: es).length+([]:List Keyword).length+(if ([]:List Keyword).isEmpty then 0 else 1) < 30:=by simp;omega
 rw [decide_eq_true this];rfl
theorem R8 {i:Nat} {x:Str} {pos':Pos} (hN:X.N.Nodup) (hi:X.N[i]?=some x) (hx:Loc X.env.scope x) (he:PE X e te) (hf:X.fn x=true) (h:autoParam (gB e=true) L2.auto4._auto_1):PS X (.Assign [.Name x pos'] e pos) (uf te (lF i)):=
 CW hN hi hx he (tH h) (.inl hf)
theorem Oe (he:PE X e te) (h:autoParam (gB e=true) L2.auto4._auto_1):PS X (.Expr e pos) (yQ te):=Hw he (tH h)
theorem ixE {a b:Expr} {ta tb:TE} (hK:X.K=K) (ha:PE X a ta) (hb:PE X b tb) (h:autoParam (jT b=true) L2.auto4._auto_1):PE X (.Subscript a b pos) (Df (Ny K) ta tb):=RJ (Ir hK) ha hb (pix h)
theorem R9 {tg iter:Expr} {body:List Stmt} {wi:TI} {g:TG} {tb:TS} (hp:PassesOwn (model X.prog X.w) X.A X.env X.xe) (hc:X.calm=true) (hi:PI X tg iter wi) (hg:PG X tg g) (hb:PSs X body tb) (h:autoParam (nY iter=true) L2.auto4._auto_1):PS X (.For tg iter body [] pos) (Hz wi g tb):=
 MP hp hc hi hg hb (Ei h)
end
section
variable {X:Cx} {tg iter elt:Expr} {ifs:List Expr} {scope:Scope} {pos:Pos} {N':List Str} {sub:List (Option Nat)} {wi:TI} {g:TG} {tt:TT} {te:TE} {N:List Str} {sc:Scope}
theorem Sd (S:oX N sc N' scope sub) (hc:X.calm=true) (hN:X.N=N) (hsc:X.env.scope=sc) (hi:PI X tg iter wi)
  (hg:∀ (C:Addr) (s₀:Shared) (H₀:Hp) (ex:List Addr),PG (lB X N' scope C s₀ H₀ ex) tg g)
  (ht:∀ (C:Addr) (s₀:Shared) (H₀:Hp) (ex:List Addr),uv (lB X N' scope C s₀ H₀ ex) ifs tt)
  (he:∀ (C:Addr) (s₀:Shared) (H₀:Hp) (ex:List Addr),PE (lB X N' scope C s₀ H₀ ex) elt te) (h:autoParam (nY iter=true) L2.auto4._auto_1):
  PE X (.ListComp elt [⟨tg,iter,ifs,0⟩] scope pos) (qm sub wi g tt te):=zj S hc hN hsc hi hg ht he (Ei h)
end
theorem bU:bootBuiltins "len"=some (.builtin "len"):=by decide+kernel
theorem El:bootBuiltins "max"=some (.builtin "max"):=by decide+kernel
theorem Og:bootBuiltins "min"=some (.builtin "min"):=by decide+kernel
theorem bh:bootBuiltins "isinstance"=some (.builtin "isinstance"):=by decide+kernel
theorem Em:bootBuiltins "all"=some (.builtin "all"):=by decide+kernel
theorem Bl:bootBuiltins "sorted"=some (.builtin "sorted"):=by decide+kernel
theorem il:bootBuiltins "list"=some (.type "list"):=by decide+kernel
theorem En:bootBuiltins "tuple"=some (.type "tuple"):=by decide+kernel
theorem xU:bootBuiltins "int"=some (.type "int"):=by decide+kernel
theorem Eo:bootBuiltins "str"=some (.type "str"):=by decide+kernel
theorem mY:bootBuiltins "enumerate"=some (.type "enumerate"):=by decide+kernel
theorem Oh:bootBuiltins "zip"=some (.type "zip"):=by decide+kernel
theorem vX:bootBuiltins "reversed"=some (.type "reversed"):=by decide+kernel
theorem uy:bootBuiltins "bool"=some (.type "bool"):=by decide+kernel
theorem uz {c A B:Prop} [Decidable c] (h1:c→A) (h2:¬ c→B):if decide c=true then A else B:=by
 by_cases h:c
 ·rw [if_pos (decide_eq_true h)];exact h1 h
 ·rw [if_neg (by rw [decide_eq_false h];exact Bool.false_ne_true)];exact h2 h
theorem zp {α:Type} {xs:List α} {k:Int} {v:α} (h0:0≤k) (h:xs[k.toNat]?=some v):uh xs k=some v:=by
 have e:((k.toNat:Nat):Int)=k:=by omega
 rw [← e]
 exact bF h
end L2
namespace L2
open PySem PySem.Spec PyProof.Rows
section
variable {σ:St} {H:Hp} {D:Ends} {ta tb te tc:TE} {tt tu:TT} {Q:VK} {t u:TS} {g:TG}
theorem tK (h:t {D with nx:=u D} σ H):Al t u D σ H:=h
theorem iI (h:D.nx σ H):CK D σ H:=h
theorem lH (h:te σ H fun x H1=>g x σ H1 D.nx):uf te g D σ H:=h
theorem iJ {i:Nat} {v:V} {R:St→Hp→Prop} (h:R (σ.set i (some v)) H):lF i v σ H R:=h
theorem lJ {to ti:TE} {ts:Am} {v:V} {R:St→Hp→Prop} (h:to σ H fun o H1=>ti σ H1 fun i H2=>ts o i v H2 fun H3=>R σ H3):MK to ti ts v σ H R:=h
theorem lK (h:te σ H D.rt):Mw te D σ H:=h
theorem iK (h:te σ H fun _ H1=>D.nx σ H1):yQ te D σ H:=h
theorem rK (h:tt σ H fun b H1=>if b=true then t D σ H1 else u D σ H1):Mz tt t u D σ H:=h
theorem iM {R:Bool→Hp→Prop} (h:te σ H fun x H1=>∃ k,x= .bl k∧R k H1):zb te σ H R:=h
theorem rM {R:Bool→Hp→Prop} (h:te σ H fun x H1=>∃ k,x= .bl k∧R k H1):tB te σ H R:=h
theorem lL {R:Bool→Hp→Prop} (h:tt σ H fun c H1=>R (!c) H1):Mp tt σ H R:=h
theorem lM {R:Bool→Hp→Prop} (h:tt σ H fun c H1=>if c=true then tu σ H1 R else R false H1):Hs tt tu σ H R:=h
theorem rN {R:Bool→Hp→Prop} (h:tt σ H fun c H1=>if c=true then R true H1 else tu σ H1 R):tOr tt tu σ H R:=h
theorem iQ (h:ta σ H fun x H1=>∃ c,x= .bl c∧if c=true then tb σ H1 Q else Q (.bl false) H1):CG ta tb σ H Q:=h
theorem iR (h:ta σ H fun x H1=>∃ c,x= .bl c∧Q (.bl (!c)) H1):CJ ta σ H Q:=h
theorem lN {i:Nat} {v:V} (e:σ[i]?=some (some v)) (h:Q v H):lA i σ H Q:=⟨v,e,h⟩
theorem Hm {v:V} (h:Q v H):tC v σ H Q:=h
theorem rO {r:R2} (h:ta σ H fun x H1=>tb σ H1 fun y H2=>r x y H2 Q):Df r ta tb σ H Q:=h
theorem rP {r:List V→Hp→VK→Prop} {a:TA} (h:a σ H fun vs H1=>r vs H1 Q):Nr r a σ H Q:=h
theorem iT {a:TA} {R:List V→Hp→Prop} (h:te σ H fun x H1=>a σ H1 fun xs H2=>R (x :: xs) H2):sJ te a σ H R:=h
theorem lO {R:List V→Hp→Prop} (h:R [] H):Dl σ H R:=h
theorem iU {sp:Sp} {E:XK} {a:TA} (h:a σ H fun vs H1=>sp vs H1 Q E):sO sp [] E a σ H Q:=by
 unfold sO
 simpa only [List.append_nil] using h
theorem tL {a:TA} (h:a σ H fun xs H1=>xs.length≤sizeLine∧∀ p,H1 p=none→Q (.ref p) (upd H1 p (.tup xs))):HW a σ H Q:=h
theorem tM {a:TA} (h:a σ H fun xs H1=>xs.length≤sizeLine∧∀ p,H1 p=none→Q (.ref p) (upd H1 p (.lst xs))):HX a σ H Q:=h
theorem rQ {K:PySem.W.Frag} {T:String} {r:V→List V→Hp→VK→Prop} {a:TA} (h:te σ H fun x H1=>tyV K T x H1∧a σ H1 fun xs H2=>r x xs H2 Q):Rg K T r te a σ H Q:=h
theorem rR {r:V→Option Int→Option Int→Hp→VK→Prop} {tl th:TO} (h:te σ H fun x H1=>tl σ H1 fun l H2=>th σ H2 fun u H3=>r x l u H3 Q):tSl r te tl th σ H Q:=h
theorem lQ {R:Option Int→Hp→Prop} (h:R none H):ug σ H R:=h
theorem iV {R:Option Int→Hp→Prop} (h:te σ H fun x H1=>∃ i,x= .int i∧R (some i) H1):Dp te σ H R:=h
theorem iW {R:Bool→Hp→Prop} (h:R true H):Dw σ H R:=h
theorem iY {a:TA} {R:It→Hp→Prop} (h:a σ H fun vs H1=>∃ j:Int,vs=[.int j]∧-(2 ^ 62)≤j∧j < 2 ^ 62∧R (Lb 0 j.toNat) H1):Dd a σ H R:=h
theorem iZ {K:PySem.W.Frag} {R:It→Hp→Prop} (h:te σ H fun x H1=>(∃ a,x= .ref a∧(∃ xs,SqL K H1 a xs)∧R (La K a) H1)∨(∃ a,x= .ref a∧(∃ xs,SqT K H1 a xs)∧R (Itt K a) H1)∨(∃ z,x= .str z∧R (Rh z) H1)):Ip K te σ H R:=h
theorem jb {sub:List (Option Nat)} {wi:TI} (h:wi σ H fun J H1=>qp sub g tt te σ Q J H1):qm sub wi g tt te σ H Q:=h
theorem lU {wi:TI} {tbd:TS} (h:wi σ H fun J H1=>∃ W:Nat→Nat→St→Hp→Prop,(∃ m,W 0 m σ H1)∧∀ i m σ H,W i m σ H→
 (J.stop i H∧D.nx σ H)∨(J.go i H∧∃ N:St→Hp→Prop,(∀ σ' H',N σ' H'→∃ m',m' < m∧W (i+1) m' σ' H')∧∀ x H',J.yld i H x H'→g x σ H' fun σ2 H2=>tbd {D with nx:=N,ct:=N,bk:=D.nx} σ2 H2)):Hz wi g tbd D σ H:=h
variable {i j:Int} {x y:Str} {f:Int→Int→V} {C:Int→Int→Prop} {K:PySem.W.Frag}
theorem rT (h:Q (f i j) H):Hk f (.int i) (.int j) H Q:=⟨_,_,rfl,rfl,h⟩
theorem Hn (c:C i j) (h:Q (f i j) H):rI C f (.int i) (.int j) H Q:=⟨_,_,rfl,rfl,c,h⟩
theorem jc (h:Q (.int (i+j)) H):Eb (.int i) (.int j) H Q:=.inl ⟨_,_,rfl,rfl,h⟩
theorem qy (c:x.length+y.length≤sizeLine) (h:Q (.str (x ++ y)) H):Eb (.str x) (.str y) H Q:=.inr (.inl ⟨_,_,rfl,rfl,c,h⟩)
theorem jd (c:CMul i j) (h:Q (.int (i*j)) H):Ec (.int i) (.int j) H Q:=.inl ⟨_,_,rfl,rfl,c,h⟩
theorem bT {p:Addr} {xs:List V} {v:V} (s:SqL K H p xs) (e:uh xs i=some v) (h:Q v H):Ny K (.ref p) (.int i) H Q:=.inl ⟨p,xs,i,v,rfl,rfl,s,e,h⟩
theorem fG {p:Addr} {xs:List V} {v:V} (s:SqT K H p xs) (e:uh xs i=some v) (h:Q v H):Ny K (.ref p) (.int i) H Q:=.inr (.inl ⟨p,xs,i,v,rfl,rfl,s,e,h⟩)
theorem oZ {c:Nat} (s:x.length≤sizeLine) (e:uh x.cps.toList i=some c) (h:Q (.str ⟨#[c]⟩) H):Ny K (.str x) (.int i) H Q:=.inr (.inr ⟨x,i,c,rfl,rfl,s,e,h⟩)
theorem eZ {p:Addr} {xs:List V} {n:Nat} {v:V} {R:Hp→Prop} (hp:H p=some (.lst xs)) (e:Hl xs.length i=some n) (h:R (upd H p (.lst (xs.set n v)))):vJ (.ref p) (.int i) v H R:=⟨p,xs,i,n,rfl,rfl,hp,e,h⟩
theorem jU (h:Q (.bl (!(Builtin.Str.occurrences y x 0 y.length 1).isEmpty)) H):Io K (.str x) (.str y) H Q:=.inl ⟨_,_,rfl,rfl,h⟩
theorem rU {b:Bool} {R:Bool→Prop} (h:R b):∃ k,V.bl b= .bl k∧R k:=⟨b,rfl,h⟩
theorem je {n:Int} {R:Int→Prop} (h:R n):∃ k,V.int n= .int k∧R k:=⟨n,rfl,h⟩
end
theorem Same.upd {H H':Hp} {p:Addr} {o:HO} (s:Same H H') (hn:H' p=none):Same H (upd H' p o):=fun b u e=>by
 have q:=s b u e
 rw [az (fun z=>by rw [z,hn] at q;cases q)]
 exact q
end L2
namespace L2
open PySem PySem.Spec PyProof.Rows
def Chg (p:Addr) (H H':Hp):Prop:=∀ b o,b≠p→H b=some o→H' b=some o
theorem Chg.refl (p:Addr) (H:Hp):Chg p H H:=fun _ _ _ e=>e
theorem Chg.trans {p:Addr} {H H1 H2:Hp} (a:Chg p H H1) (b:Chg p H1 H2):Chg p H H2:=fun c o n e=>b c o n (a c o n e)
theorem aX {H:Hp} {q b:Addr} {o u:HO} (hq:H q=none) (hb:H b=some u):upd H q o b=some u:=by
 rw [az (fun z=>by rw [z,hq] at hb;cases hb)];exact hb
theorem Lg {vs:List V} {d:Int} (h0:0≤d) (h1:d < vs.length):∃ v,v∈vs∧uh vs d=some v:=by
 have hl:d.toNat < vs.length:=by omega
 exact ⟨vs[d.toNat],List.getElem_mem hl,zp h0 (List.getElem?_eq_getElem hl)⟩
theorem xV (sep:Str) (ys:List Str):Txt.join sep ys=Str.join sep ys:=by
 show Builtin.Str.glued sep ys=Str.join sep ys
 exact PySem.StrLaws.glued_eq_join sep ys
theorem Ep (ys:List Str):(Txt.join (Str.ofString "") ys).cps.toList=(ys.map fun y=>y.cps.toList).flatten:=by
 rw [xV]
 have e0:(Str.ofString "").cps= #[]:=by decide+kernel
 have key:∀ ys:List Str,(Str.join (Str.ofString "") ys).cps.toList=(ys.map fun y=>y.cps.toList).flatten:=by
  intro ys
  induction ys with
  | nil=>rfl
  | cons y r ih=>
   cases r with
   | nil=>simp [Str.join]
   | cons z r=>
    show ((y ++ Str.ofString "") ++ Str.join (Str.ofString "") (z :: r)).cps.toList=_
    rw [Str.cps_append,Str.cps_append,e0]
    simp only [Array.append_empty,Array.toList_append,ih,List.map_cons,List.flatten_cons]
 exact key ys
theorem Er {ys:List Str} (h:∀ y∈ys,y.length=1):(ys.map (·.length)).sum=ys.length:=by
 induction ys with
 | nil=>rfl
 | cons y r ih=>
  simp only [List.map_cons,List.sum_cons,List.length_cons,h y (by simp),ih fun z hz=>h z (by simp [hz])]
  omega
theorem Iz (c:Nat):(⟨#[c]⟩:Str).length=1:=by simp [Str.length]
section
variable {H:Hp} {Q:VK} {K:PySem.W.Frag}
theorem gn {p:Addr} {xs:List V} (s:SqL K H p xs) (h:Q (.int xs.length) H):Iv K [V.ref p] H Q:=⟨_,_,rfl,.inl ⟨_,s,rfl⟩,h⟩
theorem Oi {p:Addr} {xs:List V} (s:SqT K H p xs) (h:Q (.int xs.length) H):Iv K [V.ref p] H Q:=⟨_,_,rfl,.inr ⟨_,s,rfl⟩,h⟩
theorem gq {z:Str} (s:z.length≤sizeLine) (h:Q (.int z.length) H):Iv K [V.str z] H Q:=⟨_,_,rfl,⟨s,rfl⟩,h⟩
theorem rW {i j:Int} {R:Int→Int→Prop} (h:R i j):∃ a b,[V.int i,V.int j]=[.int a,.int b]∧R a b:=⟨_,_,rfl,h⟩
theorem gw {x:V} {T:String} {t:Value} {b:Bool} (ty:TyOf K H x t) (e:PySem.W.kitOne K t (.type T)=some b) (h:Q (.bl b) H):NZ K [x,.ty T] H Q:=⟨x,T,t,b,rfl,ty,e,h⟩
theorem Oj {sep:Str} {p:Addr} {ys:List Str} (hp:H p=some (.lst (ys.map V.str))) (hz:(ys.map (·.length)).sum+ys.length*sep.length≤16777216) (h:Q (.str (Txt.join sep ys)) H):rJoin (.str sep) [.ref p] H Q:=⟨sep,p,ys,rfl,rfl,hp,hz,h⟩
theorem Es {x:Str} {lo hi:Option Int} (hz:x.length≤sizeLine) (h:Q (.str (Txt.slice x lo hi)) H):Vk K (.str x) lo hi H Q:=.inr (.inr ⟨x,rfl,hz,h⟩)
theorem Sg {p:Addr} {xs:List V} {lo hi:Option Int} (s:SqL K H p xs) (h:∀ q,H q=none→Q (.ref q) (upd H q (.lst (my xs lo hi)))):Vk K (.ref p) lo hi H Q:=.inl ⟨p,xs,rfl,s,h⟩
end
section
variable {σ:St} {H:Hp} {Q:VK}
theorem uA {K:PySem.W.Frag} {a:Addr} {xs:List V} (s:SqL K H a xs) (h:∀ p,H p=none→Q (.ref p) (upd H p (.lst xs))):Eg K [.ref a] H Q:=.inl ⟨a,xs,rfl,.inl s,h⟩
end
theorem TyOf.mono {K:PySem.W.Frag} {H H':Hp} {v:V} {T:String} (h:TyOf K H v (.type T)) (s:∀ b o,H b=some o→v= .ref b→H' b=some o):TyOf K H' v (.type T):=by
 generalize e:(Value.type T)=t at h
 cases h with
 | non=>exact .non
 | bl x=>exact .bl x
 | int i=>exact .int i
 | str x=>exact .str x
 | flt x=>exact .flt x
 | lst z=>exact .lst (s _ _ z rfl)
 | frz z=>exact .frz (s _ _ z rfl)
 | tup z=>exact .tup (s _ _ z rfl)
 | dK z=>exact .dK (s _ _ z rfl)
 | dT z=>exact .dT (s _ _ z rfl)
 | ins=>cases e
theorem vY {sub:List (Option Nat)} {g:TG} {tt:TT} {te:TE} {σ:St} {Q:VK} {H:Hp} {lo:Int} {n:Nat} (Pv:Nat→List V→Hp→Prop) (hn:n≤sizeLine) (h0:Pv 0 [] H) (hl:∀ i ys H,Pv i ys H→ys.length≤i)
  (hs:∀ i ys H,i < n→Pv i ys H→g (.int (lo+i)) (c7 sub σ) H fun σ2 H2=>KeepSt (c7 sub σ) σ2∧tt σ2 H2 fun b H3=>if b=true then te σ2 H3 fun y H4=>Pv (i+1) (ys ++ [y]) H4 else Pv (i+1) ys H3)
  (hd:∀ ys H,Pv n ys H→∀ D,H D=none→Q (.ref D) (upd H D (.lst ys))):qp sub g tt te σ Q (Lb lo n) H:=
 ux (n:=n) Pv hn h0 hl (fun i ys H hi _=>hi) (fun ys H _=>Nat.le_refl _) (fun i ys H x H' hi p y=>by
  obtain ⟨e1,e2⟩:=y
  subst e1 e2
  exact hs i ys _ hi p) hd
theorem vZ {sub:List (Option Nat)} {g:TG} {tt:TT} {te:TE} {σ:St} {Q:VK} {H:Hp} {z:Str} (Pv:Nat→List V→Hp→Prop) (hn:z.cps.size≤sizeLine) (h0:Pv 0 [] H) (hl:∀ i ys H,Pv i ys H→ys.length≤i)
  (hs:∀ i ys H c,z.cps.toList[i]?=some c→Pv i ys H→g (.str ⟨#[c]⟩) (c7 sub σ) H fun σ2 H2=>KeepSt (c7 sub σ) σ2∧tt σ2 H2 fun b H3=>if b=true then te σ2 H3 fun y H4=>Pv (i+1) (ys ++ [y]) H4 else Pv (i+1) ys H3)
  (hd:∀ ys H,Pv z.cps.size ys H→∀ D,H D=none→Q (.ref D) (upd H D (.lst ys))):qp sub g tt te σ Q (Rh z) H:=
 ux (n:=z.cps.size) Pv hn h0 hl (fun i ys H hi _=>hi) (fun ys H _=>rfl) (fun i ys H x H' hi p y=>by
  obtain ⟨e1,c,e2,e3⟩:=y
  subst e1 e3
  exact hs i ys _ c (by simpa using e2) p) hd
theorem tO {sub:List (Option Nat)} {g:TG} {tt:TT} {te:TE} {σ:St} {Q:VK} {H:Hp} {K:PySem.W.Frag} {a:Addr} {xs:List V} (Pv:Nat→List V→Hp→Prop) (hn:xs.length≤sizeLine) (h0:Pv 0 [] H) (hl:∀ i ys H,Pv i ys H→ys.length≤i)
  (hq:∀ i ys H,Pv i ys H→SqL K H a xs)
  (hs:∀ i ys H x,xs[i]?=some x→Pv i ys H→g x (c7 sub σ) H fun σ2 H2=>KeepSt (c7 sub σ) σ2∧tt σ2 H2 fun b H3=>if b=true then te σ2 H3 fun y H4=>Pv (i+1) (ys ++ [y]) H4 else Pv (i+1) ys H3)
  (hd:∀ ys H,Pv xs.length ys H→∀ D,H D=none→Q (.ref D) (upd H D (.lst ys))):qp sub g tt te σ Q (La K a) H:=
 ux (n:=xs.length) Pv hn h0 hl (fun i ys H hi p=>⟨xs,xs[i],hq i ys H p,List.getElem?_eq_getElem hi⟩) (fun ys H p=>⟨xs,hq _ ys H p,Nat.le_refl _⟩) (fun i ys H x H' hi p y=>by
  obtain ⟨e1,e2⟩:=y
  subst e1
  exact hs i ys _ x (e2 xs (hq i ys _ p)) p) hd
end L2
namespace L2
open PySem PySem.Spec PyProof.Rows
structure JE (X:Cx) (e:Expr) (t:TE):Prop where
 run:PE X e t
structure JT (X:Cx) (e:Expr) (t:TT):Prop where
 run:PT X e t
structure JW (X:Cx) (e:Expr) (t:TT):Prop where
 run:PW X e t
structure JA (X:Cx) (es:List Expr) (t:TA):Prop where
 run:PA X es t
structure JS (X:Cx) (s:Stmt) (t:TS):Prop where
 run:PS X s t
structure JB (X:Cx) (s:List Stmt) (t:TS):Prop where
 run:PSs X s t
structure JI (X:Cx) (tg iter:Expr) (t:TI):Prop where
 run:PI X tg iter t
structure JG (X:Cx) (tg:Expr) (t:TG):Prop where
 run:PG X tg t
structure Sh (X:Cx) (tg:List Expr) (t:w5):Prop where
 run:Rc X tg t
structure JO (X:Cx) (e:Option Expr) (t:TO):Prop where
 run:PO X e t
structure JPs (X:Cx) (pos:Pos) (keys:List (Option Expr)) (values:List Expr) (t:List (TE×TE)):Prop where
 run:PPs X pos keys values t
structure IK (X:Cx) (ifs:List Expr) (t:TT):Prop where
 run:uv X ifs t
section
variable {X:Cx} {K:PySem.W.Frag} {sc scope:Scope} {N':List Str} {C:Addr} {s₀:Shared} {H₀:Hp} {ex:List Addr} {x:Str} {pos p p2 pos' apos cpos tpos:Pos} {a b c e o:Expr} {es:List Expr} {ta tb tc te to ti:TE} {t:TA} {tA tB' tt:TT} {rest:List Expr}
theorem aj (i:Nat) (h:sc.names.lookup x=some .local) (hN:autoParam (X.N[i]?=some x) L2.auto4._auto_1) (hsc:autoParam (X.env.scope=sc) L2.auto4._auto_1) (hd:autoParam ((x == ("__debug__":Str))=false) L2.auto6._auto_1) (hcd:autoParam ((x == ("__classdict__":Str))=false) L2.auto6._auto_1):JE X (.Name x pos) (lA i):=⟨pvL i h hN hsc hd hcd⟩
theorem xW (i:Nat) (h:sc.names.lookup x=some .cell) (hN:autoParam (X.N[i]?=some x) L2.auto4._auto_1) (hsc:autoParam (X.env.scope=sc) L2.auto4._auto_1) (hd:autoParam ((x == ("__debug__":Str))=false) L2.auto6._auto_1) (hcd:autoParam ((x == ("__classdict__":Str))=false) L2.auto6._auto_1):JE X (.Name x pos) (lA i):=⟨pvC i h hN hsc hd hcd⟩
theorem mZ (i:Nat) (h:scope.names.lookup x=some .local) (hN:autoParam (N'[i]?=some x) L2.auto4._auto_1) (hd:autoParam ((x == ("__debug__":Str))=false) L2.auto6._auto_1) (hcd:autoParam ((x == ("__classdict__":Str))=false) L2.auto6._auto_1):JE (lB X N' scope C s₀ H₀ ex) (.Name x pos) (lA i):=⟨pvBL i h hN hd hcd⟩
theorem zq (i:Nat) (h:scope.names.lookup x=some .free) (hN:autoParam (N'[i]?=some x) L2.auto4._auto_1) (hd:autoParam ((x == ("__debug__":Str))=false) L2.auto6._auto_1) (hcd:autoParam ((x == ("__classdict__":Str))=false) L2.auto6._auto_1):JE (lB X N' scope C s₀ H₀ ex) (.Name x pos) (lA i):=⟨pvBF i h hN hd hcd⟩
theorem aB {i j}:JE X (.Constant (.int i) j pos) (tC (.int i)):=⟨Mi⟩
theorem jf {i j}:JE X (.Constant (.bool i) j pos) (tC (.bl i)):=⟨Rq⟩
theorem jy {j}:JE X (.Constant .none j pos) (tC .non):=⟨Mj⟩
theorem m5 {i j}:JE X (.Constant (.str i) j pos) (tC (.str i)):=⟨Ml⟩
theorem nZ {z:Str} (hg:Gl X x) (hm:∃ t,X.mg x=some (.str z t)) (hd:(x == ("__debug__":Str))=false):JE X (.Name x pos) (tC (.str z)):=⟨Ed hg hm hd⟩
theorem Ol {z:Int} (hg:Gl X x) (hm:∃ t,X.mg x=some (.int z t)) (hd:(x == ("__debug__":Str))=false):JE X (.Name x pos) (tC (.int z)):=⟨Ef hg hm hd⟩
theorem pG {T:String} (hg:Gl X x) (hm:X.mg x=none) (hv:bootBuiltins x=some (.type T)) (hn:x≠"__name__") (hd:(x == ("__debug__":Str))=false):JE X (.Name x pos) (tC (.ty T)):=⟨R4 hg hm hv hn hd⟩
theorem aU {op:Operator} {r:R2} (ho:OpR X (binaryOp op) r) (ha:JE X a ta) (hb:JE X b tb):JE X (.BinOp a op b pos) (Df r ta tb):=⟨Ru ho ha.run hb.run⟩
theorem lV {op:CmpOp} {r:R2} (ho:OpR X (compareOp op) r) (ha:JE X a ta) (hb:JE X b tb) (hm:behindInMarks op b=false):JE X (.Compare a [op] [b] pos) (Df r ta tb):=⟨HH ho ha.run hb.run hm⟩
theorem bc {op:CmpOp} {r:R2} (ho:OpR X (compareOp op) r) (ha:JE X a ta) (hb:JE X b tb) (hm:behindInMarks op b=false):JT X (.Compare a [op] [b] pos) (zb (Df r ta tb)):=⟨HJ ho ha.run hb.run hm⟩
theorem m6 (ha:JT X a tA):JW X (.BoolOp .And [a] pos) tA:=⟨Ht ha.run⟩
theorem jg (ha:JT X a tA):JW X (.BoolOp .Or [a] pos) tA:=⟨Mq ha.run⟩
theorem qz (ha:JT X a tA) (hb:JW X (.BoolOp .And (b :: rest) pos) tB'):JW X (.BoolOp .And (a :: b :: rest) pos) (Hs tA tB'):=⟨Mr ha.run hb.run⟩
theorem ir (ha:JT X a tA) (hb:JW X (.BoolOp .Or (b :: rest) pos) tB'):JW X (.BoolOp .Or (a :: b :: rest) pos) (tOr tA tB'):=⟨Rr ha.run hb.run⟩
theorem gG (h:JW X e tt):JT X e tt:=⟨h.run.pt⟩
theorem dB (ha:JT X a tA):JT X (.UnaryOp .Not a pos) (Mp tA):=⟨Ms ha.run⟩
def plainT:Expr→Bool
 | .BoolOp ..=>false | .UnaryOp ..=>false | .Compare ..=>false | .IfExp ..=>false | _=>true
theorem cG (h:JE X e te) (hp:autoParam (plainT e=true) L2.auto4._auto_1):JT X e (tB te):=⟨Mm h.run (by
 intro whole
 cases e <;> first | rfl | cases hp)⟩
theorem Et {op} (h:JE X a te):JE X (.BoolOp op [a] pos) te:=⟨Mt h.run⟩
theorem Eu (ha:JE X a ta) (hb:JE X (.BoolOp .And (b :: rest) pos) tb):JE X (.BoolOp .And (a :: b :: rest) pos) (CG ta tb):=⟨Mu ha.run hb.run⟩
theorem Lh (ha:JE X a ta):JE X (.UnaryOp .Not a pos) (CJ ta):=⟨Mv ha.run⟩
theorem iu {x1} (h:JA X es t):JE X (.Tuple es x1 pos) (HW t):=⟨Nm h.run⟩
theorem fc (h:JA X es t):JE X (.List es pos) (HX t):=⟨Np h.run⟩
theorem ao:JA X [] Dl:=⟨Nk⟩
theorem aa (ha:JE X e te) (hr:JA X es t) (h:autoParam (notStar e=true) L2.auto4._auto_1):JA X (e :: es) (sJ te t):=⟨paC ha.run hr.run h⟩
theorem uB:JO X none ug:=⟨Ia⟩
theorem m7 (h:JE X e te):JO X (some e) (Dp te):=⟨Ib h.run⟩
theorem pO {r:V→Option Int→Option Int→Hp→VK→Prop} {lo hi:Option Expr} {tl th:TO} (hr:SlR X r) (he:JE X e te) (hl:JO X lo tl) (hu:JO X hi th):JE X (.Subscript e (.Slice lo hi none p2) pos) (tSl r te tl th):=⟨Dq hr he.run hl.run hu.run⟩
theorem bO (hK:X.K=K) (ha:JE X a ta) (hb:JE X b tb) (h:autoParam (jT b=true) L2.auto4._auto_1):JE X (.Subscript a b pos) (Df (Ny K) ta tb):=⟨ixE hK ha.run hb.run h⟩
theorem bx {k:Nat} {ps:List Str} {sp:Sp} (F:pC X.prog X.w X.K X.mg X.base k x ps sp) (hr:Room k X.A) (hg:Gl X x) (ha:JA X (e :: es) t) (hdb:(x == ("__debug__":Str))=false) (h:autoParam ((e :: es).all notStar=true) L2.auto4._auto_1):
  JE X (.Call (.Name x p) (e :: es) [] pos) (sO sp [] E0 t):=⟨R5 F hr hg ha.run hdb h⟩
theorem aD {id:String} {r:List V→Hp→VK→Prop} (hc:CallR X (.builtin id) r) (hg:Gl X x) (hm:X.mg x=none) (hv:bootBuiltins x=some (.builtin id)) (ha:JA X (e :: es) t) (hn:x≠"__name__") (hdb:(x == ("__debug__":Str))=false) (h:autoParam ((e :: es).all notStar=true) L2.auto4._auto_1):
  JE X (.Call (.Name x p) (e :: es) [] pos) (Nr r t):=⟨R6 hc hg hm hv ha.run hn hdb h⟩
theorem m8 {T:String} {r:List V→Hp→VK→Prop} (hc:CallR X (.type T) r) (hg:Gl X x) (hm:X.mg x=none) (hv:bootBuiltins x=some (.type T)) (ha:JA X (e :: es) t) (hn:x≠"__name__") (hdb:(x == ("__debug__":Str))=false) (h:autoParam ((e :: es).all notStar=true) L2.auto4._auto_1):
  JE X (.Call (.Name x p) (e :: es) [] pos) (Nr r t):=⟨Od hc hg hm hv ha.run hn hdb h⟩
theorem fJ {name:Str} {T id:String} {r:V→List V→Hp→VK→Prop} (hK:X.K=K) (pa:PlainAttrs T) (slot:Slot T name id) (hty:typeOf (.builtin id)=pure (.type "method_descriptor")) (hm:Rf X id r) (ho:JE X o to) (ha:JA X (e :: es) t)
  (hbase:autoParam (kh o=true) L2.auto4._auto_1) (hl:autoParam (es.length < 20) L2.auto2._auto_1) (hline:autoParam ((apos.endLine == cpos.line)=true) L2.auto4._auto_1) (h:autoParam ((e :: es).all notStar=true) L2.auto4._auto_1):JE X (.Call (.Attribute o name apos) (e :: es) [] cpos) (Rg K T r to t):=⟨R7 hK pa slot hty hm ho.run ha.run hbase hl hline h⟩
theorem pP:IK X [] Dw:=⟨Dy⟩
theorem zu (hc:JT X c tt):IK X [c] tt:=⟨Dz hc.run⟩
variable {tg iter elt:Expr} {ifs:List Expr} {sub:List (Option Nat)} {wi:TI} {g:TG} {N:List Str}
theorem cA {ta:TA} (hg:Gl X "range") (hm:X.mg "range"=none) (ha:JA X [a] ta) (h:autoParam (notStar a=true) L2.auto4._auto_1):JI X tg (.Call (.Name "range" p) [a] [] pos) (Dd ta):=⟨Ao hg hm ha.run (bj h)⟩
theorem jh (hK:X.K=K) (hl:JE X e te):JI X tg e (Ip K te):=⟨Iu hK hl.run⟩
theorem aH {i:Nat} (hN:X.N.Nodup) (hi:X.N[i]?=some x) (hx:Loc X.env.scope x) (hf:X.fn x=true):JG X (.Name x pos) (lF i):=⟨yR hN hi hx (.inl hf)⟩
theorem Bm (i:Nat) (h:scope.names.lookup x=some .local) (hN:N'.Nodup) (hi:autoParam (N'[i]?=some x) L2.auto4._auto_1):JG (lB X N' scope C s₀ H₀ ex) (.Name x pos) (lF i):=⟨pgB i h hN hi⟩
theorem fj:Sh X [] MJ:=⟨Hx⟩
theorem bu {gs:w5} (h1:JG X e g) (h2:Sh X es gs) (hs:autoParam ((assignEach (e :: es) X.env).map (·.2)=assign e X.env :: (assignEach es X.env).map (·.2)) L2.auto4._auto_1):Sh X (e :: es) (CP g gs):=⟨CQ h1.run h2.run hs⟩
theorem jF {ts:List Expr} {k:Nat} {gs:w5} {n:Nat} (hK:X.K=K) (hc:X.calm=true) (h:Sh X ts gs) (hn:autoParam ((assignEach ts X.env).length=n) L2.auto4._auto_1) (hst:autoParam ((assignEach ts X.env).findIdx? (·.1)=none) L2.auto4._auto_1):JG X (.Tuple ts k pos) (Hy K n gs):=⟨Iw hK hc h.run hn hst⟩
theorem xX {ts:Am} (ho:JE X a ta) (hi:JE X b tb) (hs:MF X ts) (h:autoParam (jT b=true) L2.auto4._auto_1):JG X (.Subscript a b pos) (MK ta tb ts):=⟨MN ho.run hi.run hs (by
 intro v
 cases b <;> first | rfl | cases h)⟩
theorem uC (S:oX N sc N' scope sub) (hc:X.calm=true) (hN:X.N=N) (hsc:X.env.scope=sc) (hi:JI X tg iter wi)
  (hg:∀ (C:Addr) (s₀:Shared) (H₀:Hp) (ex:List Addr),JG (lB X N' scope C s₀ H₀ ex) tg g)
  (ht:∀ (C:Addr) (s₀:Shared) (H₀:Hp) (ex:List Addr),IK (lB X N' scope C s₀ H₀ ex) ifs tt)
  (he:∀ (C:Addr) (s₀:Shared) (H₀:Hp) (ex:List Addr),JE (lB X N' scope C s₀ H₀ ex) elt te) (h:autoParam (nY iter=true) L2.auto4._auto_1):
  JE X (.ListComp elt [⟨tg,iter,ifs,0⟩] scope pos) (qm sub wi g tt te):=⟨Sd S hc hN hsc hi.run (fun C s₀ H₀ ex=>(hg C s₀ H₀ ex).run) (fun C s₀ H₀ ex=>(ht C s₀ H₀ ex).run) (fun C s₀ H₀ ex=>(he C s₀ H₀ ex).run) h⟩
variable {st:Stmt} {sts:List Stmt} {u v:TS}
theorem aC {i:Nat} (hN:X.N.Nodup) (hi:X.N[i]?=some x) (hx:Loc X.env.scope x) (he:JE X e te) (hf:X.fn x=true) (h:autoParam (gB e=true) L2.auto4._auto_1):JS X (.Assign [.Name x pos'] e pos) (uf te (lF i)):=⟨R8 hN hi hx he.run hf h⟩
theorem uD {ts:Am} (he:JE X e te) (hg:JG X (.Subscript a b pos') g) (h:autoParam (gB e=true) L2.auto4._auto_1):JS X (.Assign [.Subscript a b pos'] e pos) (uf te g):=⟨CV he.run hg.run (by show swapsWith e (some (.Subscript a b pos')) pos.line X.env=pure false;exact tH h) (by cases e <;> rfl) rfl⟩
theorem aG (he:JE X e te):JS X (.Return (some e) pos) (Mw te):=⟨Mx he.run⟩
theorem bL (he:JE X e te) (h:autoParam (gB e=true) L2.auto4._auto_1):JS X (.Expr e pos) (yQ te):=⟨Oe he.run h⟩
theorem bV {sa sb:List Stmt} (hc:JT X c tt) (ha:JB X sa u) (hb:JB X sb v):JS X (.If c sa sb pos) (Mz tt u v):=⟨Rt hc.run ha.run hb.run⟩
theorem bZ {body:List Stmt} (hp:PassesOwn (model X.prog X.w) X.A X.env X.xe) (hc:X.calm=true) (hi:JI X tg iter wi) (hg:JG X tg g) (hb:JB X body u) (h:autoParam (nY iter=true) L2.auto4._auto_1):JS X (.For tg iter body [] pos) (Hz wi g u):=⟨R9 hp hc hi.run hg.run hb.run h⟩
theorem Ew {body:List Stmt} (hp:PassesOwn (model X.prog X.w) X.A X.env X.xe) (hc:JT X c tt) (hb:JB X body u):JS X (.While c body [] pos) (xf tt u):=⟨CZ hp hc.run hb.run⟩
theorem bC:JB X [] CK:=⟨Hu⟩
theorem aA (h:JS X st u):JB X [st] u:=⟨Hv h.run⟩
theorem aq (h:JS X st u) (h2:JB X sts v):JB X (st :: sts) (Al u v):=⟨CN h.run h2.run⟩
end
section
variable {P:Program} {w:World} {K:PySem.W.Frag} {mg:Str→Option Value} {base:Heap}
theorem jz {x:Str} {st:Stmt} {N ps:List Str} {k:Nat} {sp:Sp} (D:gj K mg x st) (S:aF N ps (au st))
  (hb:∀ (kV doc pm:Value) (an:Option Addr) (cdv ct:Value) (us:List Value),us.length=ps.length→bindArgs (PySem.W.fnOf x x (dM st) (bY st) (au st) .none kV doc pm an cdv ct) ⟨us,[]⟩=pure (ps.zip us))
  (len:∀ vs H Q E,sp vs H Q E→vs.length=ps.length)
  (hbody:∀ (f:Addr) (cdv:Value) (A:Around) (outer:List Env) (s:Shared) (H:Hp) (vs:List V) (Q:VK) (E:XK),Room k (A.deeper (envOfC x (au st) s.heap.objs.size f cdv))→sp vs H Q E→
   ∃ t,JB (mq xK P w K mg base N x (au st) f cdv A outer s H E).nox (bY st) t∧t {nx:=fun _ H'=>Q .non H',rt:=Q} (start N vs) H):pC P w K mg base (k+1) x ps sp:=
 N5 D S hb len fun f cdv A outer s H vs Q E hr h=>let ⟨t,j,q⟩:=hbody f cdv A outer s H vs Q E hr h;⟨t,j.run,q⟩
theorem okJ {x:Str} {st:Stmt} {N ps:List Str} {k:Nat} {sp:Sp} {f:Addr} {fd:FuncData} (F:Fun K x x st f fd) (S:aF N ps (au st)) (len:∀ vs H Q E,sp vs H Q E→vs.length=ps.length)
  (hbody:∀ (f:Addr) (cdv:Value) (A:Around) (outer:List Env) (s:Shared) (H:Hp) (vs:List V) (Q:VK) (E:XK),Room k (A.deeper (envOfC x (au st) s.heap.objs.size f cdv))→sp vs H Q E→
   ∃ t,JB (mq xK P w K mg base N x (au st) f cdv A outer s H E).nox (bY st) t∧t {nx:=fun _ H'=>Q .non H',rt:=Q} (start N vs) H):mQ P w K mg base xK (k+1) f fd ps sp:=
 F.ok S len fun cdv A outer s H vs Q E hr h=>let ⟨t,j,q⟩:=hbody f cdv A outer s H vs Q E hr h;⟨t,j.run,q⟩
end
theorem jV {K:PySem.W.Frag} {mg:Str→Option Value} {h:Heap} (X:K.In h) (G:h.Ns mainGlobals mg) {x:Str} {v:Value} {f:Tok→Value} (a:PySem.W.nsIn K mainGlobals x=some (some v)) (e:∃ t,v=f t):∃ t,mg x=some (f t):=by
 obtain ⟨t,rfl⟩:=e
 exact ⟨t,PySem.W.mg_of X G a⟩
theorem Sq {l:PySem.W.OpenLaw} {q:Program} {loose:List Str} {XP:(Str→Option Value)→Heap→Prop} {YP:World→Heap→Prop} {d:DefRec} {K:Params→PySem.W.Frag} {st:Stmt} {k:Nat} {sp:PySem.W.Frag→Sp} {x:Str}
  (hn:l.most=some 63) (hdf:d.params.defaults=[]) (hdn:d.name="law") (hk:Room k callerA) (hY:∀ (w:World) (h:Heap),YP w h→(K w.params).In h)
  (hb:∀ (kV doc pm:Value) (an:Option Addr) (cdv ct:Value) (us:List Value),us.length=[x].length→bindArgs (PySem.W.fnOf "law" "law" (dM st) (bY st) (au st) .none kV doc pm an cdv ct) ⟨us,[]⟩=pure ([x].zip us))
  (F:∀ (w:World) (mg:Str→Option Value) (h:Heap),(K w.params).In h→h.Ns mainGlobals mg→gj (K w.params) mg "law" st∧∀ (base:Heap) (f:Addr) (fd:FuncData),Fun (K w.params) "law" "law" st f fd→mQ l.prog w (K w.params) mg base xK k f fd [x] (sp (K w.params)))
  (hsp:∀ (K:PySem.W.Frag) (H:Hp) (a:Addr) (ns:List Int),ns.length≤63→SqL K H a (ns.map V.int)→sp K [.ref a] H (fun v _=>v= .bl true) fun _ _ _=>False) (him:autoParam (importsNone q=true) L2.auto6._auto_1):
  PySem.W.WalkO q loose XP YP l.row.toRowW d [] (fun f vs=>PySem.call f vs):=
 L2.Ii (n:=63) (k:=k) (x:=x) (CX:=fun _=>xK) (sp:=fun w=>sp (K w.params)) hn (by decide) hdf hk hY (fun w mg fa h X G e=>by
  obtain ⟨⟨f,fd,Fn,hm⟩,ok⟩:=F w mg h X G
  rw [hdn,hm] at e
  have ef:f=fa:=by injection (Option.some.inj e)
  subst ef
  refine ⟨fd,fun s u=>?_,fun base _ _=>ok base f fd Fn⟩
  obtain ⟨oc,od,kV,doc,pm,an,cdv,ct,osl,rfl,lk,hcd⟩:=Fn.ex
  exact .of_eq (hb kV doc pm an cdv ct [u] rfl)) (fun w H a ns hl _ hS=>hsp _ H a ns hl hS) (fun _ _ _ _ _ z=>z) him
end L2
namespace L2
open PySem PySem.Spec PyProof.Rows
def Om (xs:Nat→List V) (n:Nat):It:=⟨fun i _=>i < n,fun i H v H'=>∃ T,H T=none∧v= .ref T∧H'=upd H T (.tup (xs i)),fun i _=>i=n⟩
theorem Oo {P:Program} {w:World} {K:PySem.W.Frag} {elts:List Expr} {k:Nat} {pos:Pos} {it:Addr} {fp wr:List Addr} {n:Nat} {xs:Nat→List V} {Pt:Nat→Array Value→Prop} {St:Nat→Heap→Prop} {Mid:Nat→Addr→Heap→Prop}
  (W:∀ A:Around,A.handled=none→WalksT P w A it fp wr n Pt St Mid) (hxs:∀ i,(xs i).length≤sizeLine) (hPt:∀ i vals,Pt i vals→Vals (xs i) vals.toList) (hmem:it∈fp)
  (hobj:∀ i h,St i h→∀ b∈fp,∃ o,h.get? b=some o∧∀ v,o.data≠.cell v)
  (hself:∀ (A:Around) (i:Nat) (s:Shared) (Q:Value→Shared→Prop) (E:Value→Shared→Prop),St i s.heap→Q (.ref it) s→wpAny (model P w) A (pyIter (.ref it)) Q E s):
  Turn P w K (.Tuple elts k pos) (Om xs n) fp it St where
 mem:=hmem
 obj:=hobj
 keep:=fun i h h' st kk=>(W {} rfl).frame i h h' st kk
 item:=by
  intro X hP hw hK hc i pins s σ H E I hf st hg
  subst hP hw hK
  have W':=W X.A (I.ok.hd hc)
  refine W'.item i s _ _ hg st fun T vals h' tk hPv hT isT mid kk=>?_
  refine ⟨.ref T,rfl,W'.go elts k pos i T _ _ _ mid fun h'' st'' kk2=>?_⟩
  have hTn:H T=none:=I.hok.fresh hT
  have hTw:T ∉ wr:=W'.apart i T h' mid
  have kall:∀ b o,b ∉ wr→s.heap.get? b=some o→h''.get? b=some o:=fun b o hb e=>kk2 b o hb (kk b o hb e)
  have nT:∀ b o,s.heap.get? b=some o→b≠T:=fun b o e=>Nat.ne_of_lt (Nat.lt_of_lt_of_le (Heap.lt_size e) hT)
  have nTH:∀ b u,H b=some u→b≠T:=fun b u e z=>by rw [z,hTn] at e;cases e
  have nW:∀ b u,H b=some u→b ∉ wr:=fun b u e hb=>by rw [(hf b (W'.sub b hb)).1] at e;cases e
  have isT':h''.IsTuple T vals:=by
   obtain ⟨o,ho,r⟩:=isT
   exact ⟨o,kk2 T o hTw ho,r⟩
  have hlT:∃ o,h''.get? T=some o:=let ⟨o,ho,_⟩:=isT';⟨o,ho⟩
  have I':Inv X pins σ (upd H T (.tup (xs i))) {s with heap:=h'',toks:=tk}:=by
   refine I.step (g':=s.gens) (d':=s.drawn) (ch:=wr) (fun b hb=>?_) (fun b o _ _ hc e _=>kall b o hc e) (fun b o _ _ hc e _=>⟨o.slots,kall b o hc e⟩) (fun b o _ e hn=>by rw [az (nT b o e)];exact hn)
    (fun b o hc e=>⟨o,kall b o hc e⟩) (fun b ys e=>by rw [az (nTH b _ e)];exact e) (fun b o u e=>by rw [az (nTH b _ e)];exact e) (fun b ps e=>⟨#[],by rw [az (nTH b _ e),e];simp⟩) (fun m hm=>?_) (fun b u e=>?_) I.bare
   ·obtain ⟨f0,f1,f2,f3,f4,f5⟩:=hf b (W'.sub b hb)
    exact ⟨f3,f1,f4,f5⟩
   ·obtain ⟨o,es,ep,ho,r⟩:=hm
    exact ⟨o,es,ep,kall _ o (fun hb=>(hf _ (W'.sub _ hb)).2.1 rfl) ho,r⟩
   ·by_cases hb:b=T
    ·subst hb
     rw [ak] at e;cases e
     obtain ⟨o,ho,hcl,nn,hd⟩:=isT'
     exact ⟨hxs i,vals.toList,hPt i vals hPv,o,ho,hcl,nn,by simpa using hd⟩
    ·rw [az hb] at e
     refine (I.hok b u e).stay (fun c v hc' q=>kall c v ?_ q) (fun c q=>by rw [az (nTH c _ q)];exact q) fun c ys q=>by rw [az (nTH c _ q)];exact q
     rcases hc' with z | z
     ·rw [z];exact nW b u e
     ·exact nW c _ z
  refine ⟨.ref T,upd H T (.tup (xs i)),I',rfl,⟨T,hTn,rfl,rfl⟩,st'',fun b hb=>?_⟩
  obtain ⟨o,e,_⟩:=hobj i _ st b hb
  rw [az (nT b o e)]
  exact (hf b hb).1
 done:=by
  intro X hP hw hK hc i pins s σ H E I hf st hg
  subst hP hw hK
  have W':=W X.A (I.ok.hd hc)
  have hg:i=n:=hg
  subst hg
  refine W'.done s _ _ st fun h' tk kk=>⟨rfl,?_⟩
  have nW:∀ b u,H b=some u→b ∉ wr:=fun b u e hb=>by rw [(hf b (W'.sub b hb)).1] at e;cases e
  refine I.step (g':=s.gens) (d':=s.drawn) (ch:=wr) (fun b hb=>?_) (fun b o _ _ hc e _=>kk b o hc e) (fun b o _ _ hc e _=>⟨o.slots,kk b o hc e⟩) (fun b o _ e hn=>hn)
    (fun b o hc e=>⟨o,kk b o hc e⟩) (fun b ys e=>e) (fun b o u e=>e) (fun b ps e=>⟨#[],by rw [e];simp⟩) (fun m hm=>?_) (fun b u e=>?_) I.bare
  ·obtain ⟨f0,f1,f2,f3,f4,f5⟩:=hf b (W'.sub b hb)
   exact ⟨f3,f1,f4,f5⟩
  ·obtain ⟨o,es,ep,ho,r⟩:=hm
   exact ⟨o,es,ep,kk _ o (fun hb=>(hf _ (W'.sub _ hb)).2.1 rfl) ho,r⟩
  ·refine (I.hok b u e).stay (fun c v hc' q=>kk c v ?_ q) (fun c q=>q) fun c ys q=>q
   rcases hc' with z | z
   ·rw [z];exact nW b u e
   ·exact nW c _ z
 self:=hself
def jO (x:Str) (i:Nat):List V:=[.int i,.str ⟨#[x.cps.getD i 0]⟩]
end L2
namespace L2
open PySem PySem.Spec PyProof.Rows
section
variable {prog:Program} {w:World} {A:Around} {E:Value→Shared→Prop} {s:Shared}
theorem qC {it l:Addr} {items:Array Value} (hne:l≠it):∀ (n i:Nat) (s:Shared) (Q:List Value→Shared→Prop),s.heap.IsListIter it l i→s.heap.IsList l items→i+n≤items.size→
  (∀ h',h'.IsListIter it l (i+n)→Heap.SameBut it s.heap h'→Q ((items.toList.drop i).take n) {s with heap:=h'})→wpAny (model prog w) A (draw (.ref it) n) Q E s
 | 0,i,s,Q,hit,_,_,hQ=>by
  show wpAny _ _ (pure []) Q E s
  exact wpAny_pure (by simpa using hQ s.heap hit (Heap.SameBut.refl ..))
 | n+1,i,s,Q,hit,ht,hle,hQ=>by
  have hlt:i < items.size:=by omega
  show wpAny _ _ (pyNext (.ref it) >>=_) Q E s
  refine wpAny_bind (wpAny_pyNext_list_item hit ht (x:=items[i]) (by simp [hlt]) fun h₁ hit₁ hs₁=>?_)
  refine wpAny_bind (wpAny_holding (qC hne n (i+1) _ _ hit₁ (ht.extBut hs₁.extBut hne) (by omega) fun h₂ hit₂ hs₂=>wpAny_pure ?_))
  have hd:items.toList.drop i=items[i] :: items.toList.drop (i+1):=by simp [List.drop_eq_getElem_cons,hlt]
  have:=hQ h₂ (by rw [show i+(n+1)=i+1+n by omega];exact hit₂) (hs₁.trans hs₂)
  rw [hd,List.take_succ_cons] at this
  exact this
theorem m9 {l:Addr} {items:Array Value} {Q:List Value→Shared→Prop} (hh:A.handled=none) (ht:s.heap.IsList l items)
  (hQ:∀ h',Heap.ExtBut s.heap.objs.size s.heap h'→Q items.toList {s with heap:=h'}):wpAny (model prog w) A (unpackItems (.ref l) items.size none) Q E s:=by
 have hlt:l≠s.heap.objs.size:=by obtain ⟨o,ho,_⟩:=ht;exact Nat.ne_of_lt (Heap.lt_size ho)
 unfold unpackItems
 refine wpAny_bind ?_
 ·unfold notIterableAtAll
  refine wpAny_bind (wpAny_specialOf ht.typeIs slot_list_iter.lookup ?_)
  refine wpAny_pure ?_
  simp only [Bool.false_eq_true,if_false]
  refine wpAny_bind (wpAny_holding (wpAny_pyIter_list ht ?_))
  refine wpAny_bind (wpAny_holding (qC hlt items.size 0 _ _ ⟨_,Heap.get?_push_size _ rfl,rfl,rfl⟩ (let ⟨o,ho,r⟩:=ht;⟨o,Heap.get?_push_of_some _ ho,r⟩) (by omega) fun h₁ hit₁ hs₁=>?_))
  have hall:List.take items.size (List.drop 0 items.toList)=items.toList:=by
   rw [List.drop_zero];exact List.take_of_length_le (by simp)
  rw [hall]
  rw [if_neg (by simp)]
  have ht₁:h₁.IsList l items:=by
   have:(s.heap.push {cls:=.type "list_iterator",data:=.fields #[.ref l,.int 0 0]}).IsList l items:=let ⟨o,ho,r⟩:=ht;⟨o,Heap.get?_push_of_some _ ho,r⟩
   exact this.extBut hs₁.extBut hlt
  refine wpAny_bind (wpAny_holding (wpAny_pyNext_list_end hh hit₁ ht₁ (by simp) fun h₂ he₂=>?_))
  simp only [Option.isSome_none,Bool.false_eq_true,if_false]
  refine wpAny_pure (hQ h₂ fun b o hb e=>he₂ b o hb (hs₁.extBut b o hb (Heap.get?_push_of_some _ e)))
theorem mD {env:Env} {elts:List Expr} {x1} {pos:Pos} {l:Addr} {items:Array Value} {Q:Unit→Shared→Prop} (hh:A.handled=none) (ht:s.heap.IsList l items)
  (hn:(assignEach elts env).length=items.size) (hstar:(assignEach elts env).findIdx? (·.1)=none)
  (h:∀ h',Heap.ExtBut s.heap.objs.size s.heap h'→wpAny (model prog w) A (assignInOrder ((assignEach elts env).map (·.2)) items.toList) Q E {s with heap:=h'}):
  wpAny (model prog w) A (assign (.Tuple elts x1 pos) env (.ref l)) Q E s:=by
 rw [assign_Tuple]
 refine wpAny_bind (wpAny_standAt ?_)
 unfold unpack
 rw [hn,hstar]
 exact wpAny_bind (wpAny_holding (m9 hh ht h))
end
def Li (K:PySem.W.Frag) (n:Nat) (t:w5):TG:=fun v σ H Q=>∃ a xs,v= .ref a∧(SqT K H a xs∨SqL K H a xs)∧xs.length=n∧t xs σ H Q
theorem zx {X:Cx} {K:PySem.W.Frag} {ts:List Expr} {k:Nat} {gs:w5} {n:Nat} {pos:Pos} (hK:X.K=K) (hc:X.calm=true) (h:Sh X ts gs) (hn:autoParam ((assignEach ts X.env).length=n) L2.auto4._auto_1) (hst:autoParam ((assignEach ts X.env).findIdx? (·.1)=none) L2.auto4._auto_1):JG X (.Tuple ts k pos) (Li K n gs):=⟨by
 subst hK
 intro pins s σ H v u Q I r hw
 obtain ⟨a,xs,e1,hq,hl,hw⟩:=hw
 subst e1
 cases r
 rcases hq with hq | hq
 ·exact (CT hc h.run hn hst) pins s σ H (.ref a) (.ref a) Q I (show RelV (.ref a) (Value.ref a) from rfl) ⟨a,xs,rfl,hq,hl,hw⟩
 ·obtain ⟨its,rv,ht,hz⟩:=I.list hq
  refine mD (I.ok.hd hc) ht.isList (by simp [hn,← hl,rv.length]) hst fun h' hx=>?_
  have I1:Inv X pins σ H {s with heap:=h'}:=I.kept (t':=s.toks) fun b o e=>hx b o (Nat.ne_of_lt (Heap.lt_size e)) e
  exact h.run pins _ σ H xs _ Q I1 (by simpa using rv) hw⟩
theorem zy {X:Cx} {ts:List Expr} {k:Nat} {e:Expr} {te:TE} {g:TG} {pos pos':Pos} (he:JE X e te) (hg:JG X (.Tuple ts k pos') g) (h:autoParam (gB e=true) L2.auto4._auto_1) (h2:autoParam ((match e with | .Tuple ..=>false | _=>true)=true) L2.auto4._auto_1):JS X (.Assign [.Tuple ts k pos'] e pos) (uf te g):=
 ⟨CV he.run hg.run (by show swapsWith e (some (.Tuple ts k pos')) pos.line X.env=pure false;exact tH h) (by cases e <;> first | rfl | cases h2) rfl⟩
def Ss (K:PySem.W.Frag):R2:=fun x y H Q=>rNe x y H Q∨∃ (a b:Addr) (ns ms:List Int),x= .ref a∧y= .ref b∧SqL K H a (ns.map V.int)∧SqL K H b (ms.map V.int)∧Q (.bl (!decide (ns=ms))) H
theorem Oq {X:Cx} {K:PySem.W.Frag} (hK:X.K=K) (hu:X.A.units+64 < cLine):OpR X (compareOp .NotEq) (Ss K):=by
 subst hK
 intro pins s σ H x y v u Q I rx ry h
 rcases h with h | ⟨a,b,ns,ms,rfl,rfl,ha,hb,q⟩
 ·exact Rz pins s σ H x y v u Q I rx ry h
 ·cases rx
  cases ry
  obtain ⟨its,r1,p1,z1⟩:=I.list ha
  obtain ⟨jts,r2,p2,z2⟩:=I.list hb
  exact PySem.W.ne_intsK p1.isList (intsAre_of r1) p2.isList (intsAre_of r2) hu ⟨.bl _,H,I,rfl,q⟩
section
variable {H:Hp} {Q:VK} {K:PySem.W.Frag} {σ:St}
theorem dh {n:Nat} {gs:w5} {p:Addr} {xs:List V} {R:St→Hp→Prop} (s:SqT K H p xs) (hl:xs.length=n) (h:gs xs σ H R):Hy K n gs (.ref p) σ H R:=⟨p,xs,rfl,s,hl,h⟩
theorem IV {n:Nat} {gs:w5} {p:Addr} {xs:List V} {R:St→Hp→Prop} (s:SqL K H p xs) (hl:xs.length=n) (h:gs xs σ H R):Li K n gs (.ref p) σ H R:=⟨p,xs,rfl,.inr s,hl,h⟩
theorem fV {t:TG} {u:w5} {v:V} {vs:List V} {R:St→Hp→Prop} (h:t v σ H fun σ' H'=>u vs σ' H' R):CP t u (v :: vs) σ H R:=⟨v,vs,rfl,h⟩
theorem ji {R:St→Hp→Prop} (h:R σ H):MJ [] σ H R:=⟨rfl,h⟩
theorem bM {p:Addr} {xs:List V} {y:V} (hp:H p=some (.lst xs)) (c:xs.length < sizeLine) (h:Q .non (upd H p (.lst (xs ++ [y])))):zg (.ref p) [y] H Q:=⟨p,xs,y,rfl,rfl,hp,c,h⟩
theorem Ex {xs:Nat→List V} {n:Nat} {g:TG} {tb:TS} {D:Ends} {H:Hp} (Pv:Nat→St→Hp→Prop) (h0:Pv 0 σ H)
  (hs:∀ i σ H T,i < n→Pv i σ H→H T=none→g (.ref T) σ (upd H T (.tup (xs i))) fun σ2 H2=>tb {D with nx:=Pv (i+1),ct:=Pv (i+1),bk:=D.nx} σ2 H2) (hd:∀ σ H,Pv n σ H→D.nx σ H):
  ∃ W:Nat→Nat→St→Hp→Prop,(∃ m,W 0 m σ H)∧∀ i m σ H,W i m σ H→
   ((Om xs n).stop i H∧D.nx σ H)∨((Om xs n).go i H∧∃ N:St→Hp→Prop,(∀ σ' H',N σ' H'→∃ m',m' < m∧W (i+1) m' σ' H')∧∀ x H',(Om xs n).yld i H x H'→g x σ H' fun σ2 H2=>tb {D with nx:=N,ct:=N,bk:=D.nx} σ2 H2):=by
 refine ⟨fun i m σ H=>m=n - i∧i≤n∧Pv i σ H,⟨n,by simp,Nat.zero_le _,h0⟩,?_⟩
 rintro i m σ H ⟨rfl,hi,p⟩
 by_cases hlt:i < n
 ·refine .inr ⟨hlt,Pv (i+1),fun σ' H' p'=>⟨n - (i+1),by omega,rfl,hlt,p'⟩,fun x H' y=>?_⟩
  obtain ⟨T,hT,e1,e2⟩:=y
  subst e1 e2
  exact hs i σ H T hlt p hT
 ·have e:i=n:=by omega
  subst e
  exact .inl ⟨rfl,hd σ H p⟩
theorem Ot {a:Addr} {xs:List V} {k:Int} (ha:H a=some (.lst xs)) (h0: -(2 ^ 63)≤k) (h1:k < 2 ^ 63) (hz:xs.length*k.toNat≤sizeLine) (h:∀ p,H p=none→Q (.ref p) (upd H p (.lst (List.replicate k.toNat xs).flatten))):Ec (.ref a) (.int k) H Q:=
 .inr (.inr ⟨a,k,xs,rfl,rfl,ha,h0,h1,hz,h⟩)
end
end L2
namespace L2
open PySem PySem.Spec PyProof.Rows
section
variable {X:Cx} {tg iter elt:Expr} {ifs:List Expr} {scope:Scope} {pos:Pos} {N':List Str} {sub:List (Option Nat)} {wi:TI} {g:TG} {tt:TT} {te:TE}
theorem Ey {N:List Str} {sc:Scope} {use:Option (Value→Sem Unit)} {R:Value→Shared→Prop} {p0:Pos} (S:oX N sc N' scope sub) (hc:X.calm=true) (hN:X.N=N) (hsc:X.env.scope=sc) (hi:PI X tg iter wi)
  (hg:∀ (C:Addr) (s₀:Shared) (H₀:Hp) (ex:List Addr),PG (lB X N' scope C s₀ H₀ ex) tg g)
  (ht:∀ (C:Addr) (s₀:Shared) (H₀:Hp) (ex:List Addr),uv (lB X N' scope C s₀ H₀ ex) ifs tt)
  (he:∀ (C:Addr) (s₀:Shared) (H₀:Hp) (ex:List Addr),PE (lB X N' scope C s₀ H₀ ex) elt te)
  (hs:∀ x,foldedSetIterable iter X.env x=pure x) (pins:List (Addr×Obj)) (s:Shared) (σ:St) (H:Hp) (Q:VK) (I:Inv X pins σ H s) (h:qm sub wi g tt te σ H Q)
  (hend:∀ (D C:Addr) (s5:Shared) (H5:Hp) (m:Str→Option Value),Inv X pins σ H5 s5→ik X pins H5 C→s5.heap.Ns C m→Q (.ref D) H5→compPost (model X.prog X.w) X.A X.xe use R (.ref D) C (.ok .next) s5):
  wpAny (model X.prog X.w) X.A (comprehension (.ListComp elt [⟨tg,iter,ifs,0⟩] scope pos) scope X.env p0 (newList []) false (eval iter X.env) use) R X.xe s:=by
 have hcl:∀ x∈scope.names,x.2=NameKind.free→∃ c,X.env.cells.lookup x.1=some c:=fun x hx hk=>I.ok.has x.1 (by have:=S.free x hx hk;rw [← hsc] at this;exact this)
 refine wpAny_comprehension_free (use:=use) rfl hs (lG hcl) S.kind S.loc ?_
 refine cZ (hi pins s σ H _ I h) fun v s1 h1=>cZ h1 fun itv s2 h2=>?_
 obtain ⟨it,fp,tn,J,H2,e,I2,T,st2,f2,W,⟨m0,w0⟩,turn⟩:=h2
 subst e
 refine wpAny_newObj_type (eO fun h₁ hns₁ hk31 hcl₁=>?_)
 dsimp only at hns₁ hk31 hcl₁ ⊢
 generalize hs3:({s2 with heap:=s2.heap.push {cls:=.type "list",dict:=none,data:=.seq ([]:List Value).toArray}}:Shared)=s3
 have e3:s2.heap.push {cls:=.type "list",dict:=none,data:=.seq ([]:List Value).toArray}=s3.heap:=by rw [← hs3]
 rw [e3] at hns₁ hk31 hcl₁ ⊢
 have hD3:s3.heap.get? s2.heap.objs.size=some {cls:=.type "list",dict:=none,data:=.seq ([]:List Value).toArray}:=by rw [← e3];exact Heap.get?_push_size _ rfl
 have I3:Inv X pins σ H2 s3:=by
  rw [← hs3]
  exact I2.kept (t':=s2.toks) fun b o e=>Heap.get?_push_of_some _ e
 have k23:∀ b o,s2.heap.get? b=some o→s3.heap.get? b=some o:=fun b o e=>by rw [← e3];exact Heap.get?_push_of_some _ e
 have hsz:s3.heap.objs.size=s2.heap.objs.size+1:=by rw [← e3,Heap.size_push]
 have hDn:H2 s2.heap.objs.size=none:=I2.hok.fresh (Nat.le_refl _)
 have fD:ik X pins H2 s2.heap.objs.size:=I2.fpOk (Nat.le_refl _) hDn
 have hfo:∀ b∈fp,b < s2.heap.objs.size:=fun b hb=>let ⟨o,e,_⟩:=T.obj _ _ st2 b hb;Heap.lt_size e
 have hDfp:s2.heap.objs.size ∉ fp:=fun z=>absurd (hfo _ z) (Nat.lt_irrefl _)
 have I4:=sZ (tk:=s3.toks+([]:List (Str×Value)).length) S hN hsc I3 f2 (fun b hb=>by rw [hsz];exact Nat.lt_succ_of_lt (hfo b hb)) (D:=s2.heap.objs.size) (by rw [hsz];exact Nat.lt_succ_self _) fD hns₁ hk31 hcl₁
 have stat:∀ {H':Hp} {ob:Obj},(∀ b∈fp,H' b=none)→∀ b∈fp,ik (lB X N' scope s3.heap.objs.size s3 H2 (s2.heap.objs.size :: fp)) [(s2.heap.objs.size,ob)] H' b:=fun {H' ob} hn b hb=>by
  obtain ⟨q1,q2⟩:=I4.ok.exf b (List.mem_cons_of_mem _ hb)
  refine ⟨hn b hb,q1,I4.ok.exfs b (List.mem_cons_of_mem _ hb),.inl (List.mem_cons_of_mem _ hb),q2,fun p hp z=>?_⟩
  have hp':p=(s2.heap.objs.size,ob):=by simpa [lB] using hp
  subst hp'
  have z':s2.heap.objs.size=b:=z
  exact hDfp (by rw [z'];exact hb)
 generalize hXC:lB X N' scope s3.heap.objs.size s3 H2 (s2.heap.objs.size :: fp)=XC at I4 stat
 have eP:XC.prog=X.prog:=by rw [← hXC];rfl
 have eW:XC.w=X.w:=by rw [← hXC];rfl
 have eK:XC.K=X.K:=by rw [← hXC];rfl
 have eA:XC.A=X.A:=by rw [← hXC];rfl
 have eE:XC.env=compEnvC scope (Bg X scope s3.heap.objs.size) s3.heap.objs.size X.env:=by rw [← hXC];rfl
 have eC:XC.calm=true:=by rw [← hXC];exact hc
 have eX:XC.xe=fun _ _=>False:=by rw [← hXC];rfl
 have eH:XC.H₀=H2:=by rw [← hXC];rfl
 have eS:XC.s₀=s3:=by rw [← hXC];rfl
 have eF:XC.fs=frs X.stack:=by rw [← hXC];rfl
 have eEx:XC.ex=s2.heap.objs.size :: fp:=by rw [← hXC];rfl
 have ePn:XC.pn=[]:=by rw [← hXC];rfl
 have hgC:PG XC tg g:=by rw [← hXC];exact hg _ _ _ _
 have htC:uv XC ifs tt:=by rw [← hXC];exact ht _ _ _ _
 have heC:PE XC elt te:=by rw [← hXC];exact he _ _ _ _
 have pinD:∀ {σ':St} {H':Hp} {s':Shared} {ob:Obj},Inv XC [] σ' H' s'→H' s2.heap.objs.size=none→s'.heap.get? s2.heap.objs.size=some ob→(∀ v,ob.data≠.cell v)→Inv XC [(s2.heap.objs.size,ob)] σ' H' s':=fun {σ' H' s' ob} J hn hg hd=>
  J.pins_of fun p hp=>by
   have hp':p=(s2.heap.objs.size,ob):=by simpa using hp
   subst hp'
   refine ⟨hg,hn,(J.ok.exf _ (by rw [eEx];exact List.mem_cons_self)).1,J.ok.exfs _ (by rw [eEx];exact List.mem_cons_self),hd⟩
 have loop:codeAny (model X.prog X.w) X.A (.compLoop (.ListComp elt [⟨tg,iter,ifs,0⟩] scope pos) 0 (.ref it) (.ref s2.heap.objs.size) (compEnvC scope (Bg X scope s3.heap.objs.size) s3.heap.objs.size X.env))
   (compPost (model X.prog X.w) X.A X.xe use R (.ref s2.heap.objs.size) s3.heap.objs.size) {s3 with heap:=h₁,toks:=s3.toks+([]:List (Str×Value)).length}:=by
  refine sY (fun n s'=>∃ (i:Nat) (ys:List V) (its:List Value) (nn:Nat) (H':Hp),Inv XC [] (c7 sub σ) H' s'∧tn i s'.heap∧(∀ b∈fp,H' b=none)∧H' s2.heap.objs.size=none∧
   s'.heap.get? s2.heap.objs.size=some {cls:=.type "list",data:=.seq its.toArray nn}∧Vals ys its∧W i n ys H') ?_ m0
   ⟨0,[],[],_,H2,I4,T.keep _ _ _ st2 fun b _ o e=>hk31 b o (k23 b o e),fun b hb=>(f2 b hb).1,hDn,hk31 _ _ hD3,.nil,w0⟩
  rintro n s4 ⟨i,ys,its,nn,H4,J4,st4,fr4,dn4,dg4,rv4,w4⟩
  have P4:=pinD J4 dn4 dg4 (fun v z=>by cases z)
  rcases turn i n ys H4 w4 with ⟨stop,hyl,qn⟩ | ⟨go,hyl,N,hN,step⟩
  ·have hdone:=T.done XC eP eW eK eC i _ s4 _ H4 (fun _ _=>False) P4 (stat fr4) st4 stop
   rw [eA] at hdone
   refine wpAny_mono hdone (fun r s5 ⟨hr,I5⟩=>?_) fun _ _ z=>z
   subst hr
   obtain ⟨m,hn,_⟩:=id I5.loc
   have hCe:XC.env.locals=s3.heap.objs.size:=by rw [eE];rfl
   rw [hCe] at hn
   have hDg:=(I5.pin (s2.heap.objs.size,_) (by rw [ePn];exact List.mem_cons_self)).1
   have hDne:s2.heap.objs.size≠s3.heap.objs.size:=by rw [hsz];exact Nat.ne_of_lt (Nat.lt_succ_self _)
   have hHC:H4 s3.heap.objs.size=none:=by have:=I5.free;rw [hCe] at this;exact this
   have k56:∀ b o,b≠s3.heap.objs.size→s5.heap.get? b=some o→s5.heap.get? b=some o:=fun b o hb e=>e
   have un:=I5.base
   rw [eF,eEx,eH,eS] at un
   have nC:∀ b o,s3.heap.get? b=some o→b≠s3.heap.objs.size:=fun b o e=>Nat.ne_of_lt (Heap.lt_size e)
   have hok6:HOk X.prog X.w (upd H4 s2.heap.objs.size (.lst ys)) s5.heap:=by
    have h5:=I5.hok
    rw [eP,eW] at h5
    have Hj:∀ b u,H4 b=some u→b≠s3.heap.objs.size:=fun b u e z=>by rw [z,hHC] at e;cases e
    intro b u e
    by_cases hb:b=s2.heap.objs.size
    ·subst hb
     rw [ak] at e;cases e
     exact ⟨hyl,its,nn,rv4,k56 _ _ hDne hDg⟩
    ·rw [az hb] at e
     have nD:∀ c u,H4 c=some u→c≠s2.heap.objs.size:=fun c u e z=>by rw [z,dn4] at e;cases e
     refine (h5 b u e).stay (fun c v hc' q=>k56 c v ?_ q) (fun c q=>by rw [az (nD c _ q)];exact q) fun c xs q=>by rw [az (nD c _ q)];exact q
     rcases hc' with z | z
     ·rw [z];exact Hj b u e
     ·exact Hj c _ z
   have nD2:∀ c u,H4 c=some u→c≠s2.heap.objs.size:=fun c u e z=>by rw [z,dn4] at e;cases e
   have un6:Un (frs X.stack) (s2.heap.objs.size :: fp) H2 (upd H4 s2.heap.objs.size (.lst ys)) s3.heap s5.heap:=
    ⟨fun b o e nn' hb hx=>k56 b o (nC b o e) (un.keep b o e nn' hb hx),fun b o e nn' hb hx=>let ⟨sl,q⟩:=un.slot b o e nn' hb hx;⟨sl,k56 b _ (nC b o e) q⟩,
     fun b o e nn' hx=>by rw [az (fun z=>hx (by rw [z];exact List.mem_cons_self))];exact un.free b o e nn' hx,
     fun b o e hx=>let ⟨o',q⟩:=un.there b o e hx;⟨o',k56 b o' (nC b o e) q⟩,
     fun b xs e=>by have q:=un.tups b xs e;rw [az (nD2 b _ q)];exact q,
     fun b o u e=>by have q:=un.frzs b o u e;rw [az (nD2 b _ q)];exact q,
     fun b ps e=>let ⟨more,q⟩:=un.tbls b ps e;⟨more,by rw [az (nD2 b _ q)];exact q⟩⟩
   have I6:Inv X pins σ (upd H4 s2.heap.objs.size (.lst ys)) s5:=by
    refine I3.call' (s':=s5) (ch:=s2.heap.objs.size :: fp) ?_ un6 hok6 I5.bare fun b hb=>?_
    ·show s5.os=s3.os
     have:=I5.os
     rw [eS] at this
     exact this
    ·have q:ik X pins H2 b:=by
      rcases List.mem_cons.mp hb with rfl | z
      ·exact fD
      ·exact f2 b z
     obtain ⟨f0,f1,f2',f3,f4,f5⟩:=q
     exact ⟨f3,f1,f4,f5⟩
   have dC:upd H4 s2.heap.objs.size (.lst ys) s3.heap.objs.size=none:=by rw [az (Ne.symm hDne)];exact hHC
   exact hend _ _ s5 _ m I6 (I3.fpOk (Nat.le_refl _) dC) hn (qn _ dn4)
  ·have hitem:=T.item XC eP eW eK eC i _ s4 _ H4 (fun _ _=>False) P4 (stat fr4) st4 go
   rw [eA] at hitem
   refine wpAny_mono hitem (fun r s5 ⟨u,hr,h5⟩=>?_) fun _ _ z=>z
   subst hr
   dsimp only
   refine wpAny_mono h5 (fun _ s6 ⟨x,H6,I6,r6,y6,st6,fr6⟩=>?_) fun _ _ z=>z
   have P6:=I6.pinned (stat fr6) (T.obj _ _ st6)
   rw [← eE,← eP,← eW,← eA]
   refine wpAny_mono (hgC _ s6 _ H6 x u _ P6 r6 (step x H6 y6)) (fun _ s7 ⟨σ7,H7,I7,kp7,q7⟩=>?_) fun _ _ z=>by rw [eX] at z;exact z
   refine wpAny_mono (htC _ s7 σ7 H7 _ I7 q7) (fun ok s8 ⟨H8,I8,q8⟩=>?_) fun _ _ z=>by rw [eX] at z;exact z
   have fin:∀ {H9:Hp} {s9:Shared},Inv XC ([(s2.heap.objs.size,({cls:=.type "list",data:=.seq its.toArray nn}:Obj))] ++ nP fp s6.heap) σ7 H9 s9→Inv XC [] (c7 sub σ) H9 s9∧tn (i+1) s9.heap∧(∀ b∈fp,H9 b=none)∧H9 s2.heap.objs.size=none∧
     s9.heap.get? s2.heap.objs.size=some {cls:=.type "list",data:=.seq its.toArray nn}:=fun {H9 s9} J=>by
    have pD:=J.pin (s2.heap.objs.size,({cls:=.type "list",data:=.seq its.toArray nn}:Obj)) (by rw [ePn];simp)
    have pF:∀ b∈fp,∀ o,s6.heap.get? b=some o→s9.heap.get? b=some o∧H9 b=none:=fun b hb o e=>by
     have q:=J.pin (b,o) (by rw [ePn];exact List.mem_append_right _ (List.mem_append_right _ (jD hb e)))
     exact ⟨q.1,q.2.1⟩
    refine ⟨?_,T.keep _ _ _ st6 fun b hb o e=>(pF b hb o e).1,fun b hb=>?_,pD.2.1,pD.1⟩
    ·have J0:Inv XC [] σ7 H9 s9:=J.pins_of fun p hp=>nomatch hp
     exact J0.weak kp7.1.symm fun j v e=>kp7.2 j v e
    ·obtain ⟨o,e,_⟩:=T.obj _ _ st6 b hb
     exact (pF b hb o e).2
   cases ok with
   | false=>
    rw [if_neg (by simp)]
    rw [if_neg (by simp)] at q8
    obtain ⟨m',hm,w8⟩:=hN _ _ q8
    obtain ⟨a1,a2,a3,a4,a5⟩:=fin I8
    exact ⟨m',hm,i+1,ys,its,nn,H8,a1,a2,a3,a4,a5,rv4,w8⟩
   | true=>
    rw [if_pos rfl]
    rw [if_pos rfl] at q8
    refine wpAny_mono (heC _ s8 σ7 H8 _ I8 q8) (fun xv s9 ⟨y,H9,I9,r9,n9⟩=>?_) fun _ _ z=>by rw [eX] at z;exact z
    obtain ⟨m',hm,w9⟩:=hN _ _ n9
    obtain ⟨a1,a2,a3,a4,a5⟩:=fin I9
    refine wpAny_list_append_plain (items:=its.toArray) ⟨nn,a5⟩ (fun h' ⟨n',hp'⟩ sb=>?_) (by simp;rw [← rv4.length];omega)
    obtain ⟨q1,q2⟩:=I4.ok.exf s2.heap.objs.size (by rw [eEx];exact List.mem_cons_self)
    have a1':Inv XC [] (c7 sub σ) H9 {s9 with heap:=h'}:=a1.turned (t':=s9.toks) (fun b o hb e=>(sb.2 b hb).trans e) a4 q1 (.inl (by rw [eEx];exact List.mem_cons_self)) q2 (fun p hp=>by rw [ePn] at hp;exact nomatch hp)
    refine ⟨m',hm,i+1,ys ++ [y],its ++ [xv],n',H9,a1',T.keep _ _ _ a2 fun b hb o e=>(sb.2 b (fun z=>hDfp (by rw [← z];exact hb))).trans e,a3,a4,?_,rv4.append (.cons r9 .nil),w9⟩
    rw [hp']
    simp
 subst hs3
 exact codeAny_compStart_list loop (T.self _ 0 _ _ _ (T.keep _ _ _ st2 fun b _ o e=>hk31 b o (k23 b o e)) loop)
theorem xY {N:List Str} {sc:Scope} {i:Nat} {x:Str} {pos' spos:Pos} (hNd:X.N.Nodup) (hxi:X.N[i]?=some x) (hx:Loc X.env.scope x) (hf:X.fn x=true) (S:oX N sc N' scope sub) (hc:X.calm=true) (hN:X.N=N) (hsc:X.env.scope=sc) (hi:PI X tg iter wi)
  (hg:∀ (C:Addr) (s₀:Shared) (H₀:Hp) (ex:List Addr),PG (lB X N' scope C s₀ H₀ ex) tg g)
  (ht:∀ (C:Addr) (s₀:Shared) (H₀:Hp) (ex:List Addr),uv (lB X N' scope C s₀ H₀ ex) ifs tt)
  (he:∀ (C:Addr) (s₀:Shared) (H₀:Hp) (ex:List Addr),PE (lB X N' scope C s₀ H₀ ex) elt te)
  (hs:∀ x,foldedSetIterable iter X.env x=pure x):PS X (.Assign [.Name x pos'] (.ListComp elt [⟨tg,iter,ifs,0⟩] scope pos) spos) (uf (qm sub wi g tt te) (lF i)):=by
 intro pins s σ H D I h
 have hsw:∃ b,swapsWith (.ListComp elt [⟨tg,iter,ifs,0⟩] scope pos) (some (.Name x pos')) spos.line X.env=pure b:=⟨_,rfl⟩
 obtain ⟨b,hsw⟩:=hsw
 cases b with
 | false=>exact CW hNd hxi hx (zj S hc hN hsc hi hg ht he hs) hsw (.inl hf) pins s σ H D I h
 | true=>
  rw [exec_Assign_Name_used _ _ _ _ hsw]
  refine wpAny_bind (wpAny_standAt (wpAny_bind ?_))
  show wpAny _ X.A (do let _ ← comprehension (.ListComp elt [⟨tg,iter,ifs,0⟩] scope pos) scope X.env _ (newList []) false (eval iter X.env) (some (assign (.Name x pos') X.env))) _ _ s
  refine wpAny_bind (wpAny_mono (Ey (use:=some (assign (.Name x pos') X.env)) (R:=fun _ s'=>SP X pins D .next s') S hc hN hsc hi hg ht he hs pins s σ H _ I h ?_) (fun _ s' hq=>wpAny_pure (wpAny_pure hq)) fun _ _ e=>e)
  intro Da C s5 H5 m I5 fC hn q
  show wpAny _ X.A (assign (.Name x pos') X.env (.ref Da)) _ _ _
  refine wpAny_assign_Name (sH I5 hNd hxi hx (v:=.ref Da) rfl (fun s6 I6 qq0=>?_) (.inl hf))
  obtain ⟨a,sb,ha⟩:=qq0
  obtain ⟨f0,f1,f2,f3,f4,f5⟩:=fC
  have hCa:C≠a:=fun z=>by
   rcases ha with e | e
   ·exact f1 (z.trans e)
   ·exact f4 x a e z.symm
  exact ⟨m,hn.sameBut sb hCa,fun h' hs'=>⟨_,H5,I6.turned (t':=s6.toks) (fun b o hb e=>hs'.extBut b o hb e) f0 f1 f3 f4 f5,q⟩⟩
end
section
variable {X:Cx} {tg iter elt:Expr} {ifs:List Expr} {scope:Scope} {pos:Pos} {N':List Str} {sub:List (Option Nat)} {wi:TI} {g:TG} {tt:TT} {te:TE} {N:List Str} {sc:Scope}
theorem zA {i:Nat} {x:Str} {pos' spos:Pos} (hNd:X.N.Nodup) (hxi:X.N[i]?=some x) (hx:Loc X.env.scope x) (S:oX N sc N' scope sub) (hc:X.calm=true) (hN:X.N=N) (hsc:X.env.scope=sc) (hi:JI X tg iter wi)
  (hg:∀ (C:Addr) (s₀:Shared) (H₀:Hp) (ex:List Addr),JG (lB X N' scope C s₀ H₀ ex) tg g)
  (ht:∀ (C:Addr) (s₀:Shared) (H₀:Hp) (ex:List Addr),IK (lB X N' scope C s₀ H₀ ex) ifs tt)
  (he:∀ (C:Addr) (s₀:Shared) (H₀:Hp) (ex:List Addr),JE (lB X N' scope C s₀ H₀ ex) elt te) (hf:X.fn x=true) (h:autoParam (nY iter=true) L2.auto4._auto_1):
  JS X (.Assign [.Name x pos'] (.ListComp elt [⟨tg,iter,ifs,0⟩] scope pos) spos) (uf (qm sub wi g tt te) (lF i)):=
 ⟨xY hNd hxi hx hf S hc hN hsc hi.run (fun C s₀ H₀ ex=>(hg C s₀ H₀ ex).run) (fun C s₀ H₀ ex=>(ht C s₀ H₀ ex).run) (fun C s₀ H₀ ex=>(he C s₀ H₀ ex).run) (Ei h)⟩
end
end L2
namespace L2
open PySem PySem.Spec PyProof.Rows
section
variable {X:Cx} {pins:List (Addr×Obj)} {σ:St} {H:Hp} {s:Shared}
theorem Inv.newtup {wr:List Addr} {T:Addr} {vals:Array Value} {xs:List V} {h'':Heap} {tk:Nat} (I:Inv X pins σ H s) (hf:∀ b∈wr,ik X pins H b) (hT:s.heap.objs.size≤T)
  (kall:∀ b o,b ∉ wr→s.heap.get? b=some o→h''.get? b=some o) (isT':h''.IsTuple T vals) (hv:Vals xs vals.toList) (hx:xs.length≤sizeLine):Inv X pins σ (upd H T (.tup xs)) {s with heap:=h'',toks:=tk}:=by
 have hTn:H T=none:=I.hok.fresh hT
 have nT:∀ b o,s.heap.get? b=some o→b≠T:=fun b o e=>Nat.ne_of_lt (Nat.lt_of_lt_of_le (Heap.lt_size e) hT)
 have nTH:∀ b u,H b=some u→b≠T:=fun b u e z=>by rw [z,hTn] at e;cases e
 have nW:∀ b u,H b=some u→b ∉ wr:=fun b u e hb=>by rw [(hf b hb).1] at e;cases e
 refine I.step (g':=s.gens) (d':=s.drawn) (ch:=wr) (fun b hb=>?_) (fun b o _ _ hc e _=>kall b o hc e) (fun b o _ _ hc e _=>⟨o.slots,kall b o hc e⟩) (fun b o _ e hn=>by rw [az (nT b o e)];exact hn)
  (fun b o hc e=>⟨o,kall b o hc e⟩) (fun b ys e=>by rw [az (nTH b _ e)];exact e) (fun b o u e=>by rw [az (nTH b _ e)];exact e) (fun b ps e=>⟨#[],by rw [az (nTH b _ e),e];simp⟩) (fun m hm=>?_) (fun b u e=>?_) I.bare
 ·obtain ⟨f0,f1,f2,f3,f4,f5⟩:=hf b hb
  exact ⟨f3,f1,f4,f5⟩
 ·obtain ⟨o,es,ep,ho,r⟩:=hm
  exact ⟨o,es,ep,kall _ o (fun hb=>(hf _ hb).2.1 rfl) ho,r⟩
 ·by_cases hb:b=T
  ·subst hb
   rw [ak] at e;cases e
   obtain ⟨o,ho,hcl,nn,hd⟩:=isT'
   exact ⟨hx,vals.toList,hv,o,ho,hcl,nn,by simpa using hd⟩
  ·rw [az hb] at e
   refine (I.hok b u e).stay (fun c v hc' q=>kall c v ?_ q) (fun c q=>by rw [az (nTH c _ q)];exact q) fun c ys q=>by rw [az (nTH c _ q)];exact q
   rcases hc' with z | z
   ·rw [z];exact nW b u e
   ·exact nW c _ z
theorem Inv.only {wr:List Addr} {h':Heap} {tk:Nat} (I:Inv X pins σ H s) (hf:∀ b∈wr,ik X pins H b) (kk:∀ b o,b ∉ wr→s.heap.get? b=some o→h'.get? b=some o):Inv X pins σ H {s with heap:=h',toks:=tk}:=by
 have nW:∀ b u,H b=some u→b ∉ wr:=fun b u e hb=>by rw [(hf b hb).1] at e;cases e
 refine I.step (g':=s.gens) (d':=s.drawn) (ch:=wr) (fun b hb=>?_) (fun b o _ _ hc e _=>kk b o hc e) (fun b o _ _ hc e _=>⟨o.slots,kk b o hc e⟩) (fun b o _ e hn=>hn)
   (fun b o hc e=>⟨o,kk b o hc e⟩) (fun b ys e=>e) (fun b o u e=>e) (fun b ps e=>⟨#[],by rw [e];simp⟩) (fun m hm=>?_) (fun b u e=>?_) I.bare
 ·obtain ⟨f0,f1,f2,f3,f4,f5⟩:=hf b hb
  exact ⟨f3,f1,f4,f5⟩
 ·obtain ⟨o,es,ep,ho,r⟩:=hm
  exact ⟨o,es,ep,kk _ o (fun hb=>(hf _ hb).2.1 rfl) ho,r⟩
 ·refine (I.hok b u e).stay (fun c v hc' q=>kk c v ?_ q) (fun c q=>q) fun c ys q=>q
  rcases hc' with z | z
  ·rw [z];exact nW b u e
  ·exact nW c _ z
end
def Ri (K:PySem.W.Frag) (a:Addr):It:=
 ⟨fun i H=>∃ xs x,SqL K H a xs∧xs[i]?=some x,
  fun i H v H'=>∃ T x,H T=none∧v= .ref T∧(∀ xs,SqL K H a xs→xs[i]?=some x)∧H'=upd H T (.tup [.int i,x]),
  fun i H=>∃ xs,SqL K H a xs∧xs.length≤i⟩
theorem xZ {P:Program} {w:World} {K:PySem.W.Frag} {elts:List Expr} {k:Nat} {pos:Pos} {e it a:Addr} (hne:e≠it):
  Turn P w K (.Tuple elts k pos) (Ri K a) [e,it] e (fun i h=>(∃ old,IsEnum h e it i old)∧h.IsListIter it a i) where
 mem:=by simp
 obj:=fun i h st c hc=>by
  obtain ⟨⟨old,he⟩,⟨o1,e1,c1,d1⟩⟩:=st
  simp only [List.mem_cons,List.mem_nil_iff,or_false] at hc
  rcases hc with rfl | rfl
  ·exact ⟨_,he,fun v z=>by cases z⟩
  ·exact ⟨_,e1,fun v z=>by rw [d1] at z;cases z⟩
 keep:=fun i h h' st kk=>by
  obtain ⟨⟨old,he⟩,h1⟩:=st
  exact ⟨⟨old,kk e (by simp) _ he⟩,h1.at fun o q=>kk it (by simp) o q⟩
 item:=by
  intro X hP hw hK hc i pins s σ H E I hf st hg
  subst hP hw hK
  obtain ⟨⟨old,he⟩,h1⟩:=st
  obtain ⟨xs,x,hq,hx⟩:=hg
  obtain ⟨its,rv,p,_⟩:=I.list hq
  obtain ⟨u,hu,ru⟩:=rv.get hx
  refine wpAny_pyNext_enum_item he h1 p.isList (x:=u) (by simpa using hu) hne fun h' a1 a2 a3 a4 hk=>?_
  refine ⟨_,rfl,wpAny_letOwnedTupleGo_enum a1 fun h'' a1' sb=>?_⟩
  have lt:∀ {c o},s.heap.get? c=some o→s.heap.objs.size≠c:=fun e=>Nat.ne_of_gt (Heap.lt_size e)
  have lti:s.heap.objs.size≠it:=by obtain ⟨o,q,_⟩:=h1;exact lt q
  have isT:h''.IsTuple s.heap.objs.size #[.int i s.toks,u]:=⟨_,sb.extBut _ _ (lt he) a3,rfl,_,rfl⟩
  have kall:∀ b o,b ∉ [e,it]→s.heap.get? b=some o→h''.get? b=some o:=fun b o hb q=>by
   simp only [List.mem_cons,List.mem_nil_iff,or_false,not_or] at hb
   exact sb.extBut _ _ hb.1 (hk b o hb.1 hb.2 q)
  have hTn:H s.heap.objs.size=none:=I.hok.fresh (Nat.le_refl _)
  refine ⟨.ref s.heap.objs.size,_,I.newtup (tk:=s.toks+1) hf (Nat.le_refl _) kall isT (xs:=[.int i,x]) (.cons ⟨_,rfl⟩ (.cons ru .nil)) (by simp;decide),rfl,⟨_,x,hTn,rfl,fun zs hs=>by rw [I.list_inj hs hq];exact hx,rfl⟩,?_,fun b hb=>?_⟩
  ·exact ⟨⟨_,a1'⟩,a2.extBut sb.extBut (Ne.symm hne)⟩
  ·have:s.heap.objs.size≠b:=by
    simp only [List.mem_cons,List.mem_nil_iff,or_false] at hb
    rcases hb with rfl | rfl
    ·exact lt he
    ·exact lti
   rw [az (Ne.symm this)]
   exact (hf b hb).1
 done:=by
  intro X hP hw hK hc i pins s σ H E I hf st hg
  subst hP hw hK
  obtain ⟨⟨old,he⟩,h1⟩:=st
  obtain ⟨xs,hq,hx⟩:=hg
  obtain ⟨its,rv,p,_⟩:=I.list hq
  have l1:=rv.length
  refine wpAny_pyNext_enum_end (I.ok.hd hc) he h1 p.isList (by simp;omega) fun h' hk=>⟨rfl,I.only (tk:=s.toks) hf fun b o hb q=>?_⟩
  simp only [List.mem_cons,List.mem_nil_iff,or_false,not_or] at hb
  exact hk b o hb.2 q
 self:=fun _ _ _ _ _ st h=>let ⟨⟨_,he⟩,_⟩:=st;wpAny_pyIter_enum he h
theorem Bo {X:Cx} {elts:List Expr} {k:Nat} {tp:Pos} {pins:List (Addr×Obj)} {σ:St} {H1:Hp} {s1:Shared} {x:Str} {t:Tok} {R:It→Hp→Prop} (hc:X.calm=true) (I1:Inv X pins σ H1 s1) (q:R (Om (jO x) x.cps.size) H1):
  wpAny (model X.prog X.w) X.A (call (.type "enumerate") [.str x t]) (fun v s1=>wpAny (model X.prog X.w) X.A (pyIter v) (PIE X pins σ (.Tuple elts k tp) R) X.xe s1) X.xe s1:=by
 refine call_enumerate_str fun h' he hit hsz hk=>?_
 have J1:Inv X pins σ H1 {s1 with heap:=h'}:=I1.kept (t':=s1.toks) hk
 have ne1:s1.heap.objs.size+1≠s1.heap.objs.size:=Nat.succ_ne_self _
 have nm:s1.heap.objs.size+1 ∉ [s1.heap.objs.size]:=fun z=>ne1 (List.mem_singleton.mp z)
 have hPt:∀ (i:Nat) (vals:Array Value),(∃ t y,SignAt x i y∧vals= #[.int i t,y])→Vals (jO x i) vals.toList:=by
  rintro i vals ⟨t,y,⟨c,u,e1,rfl⟩,rfl⟩
  refine .cons ⟨t,rfl⟩ (.cons ⟨u,?_⟩ .nil)
  rw [show x.cps.getD i 0=c by simp [Array.getD_eq_getD_getElem?,e1]]
 have fin:∀ (ty:String) (Dr:∀ A:Around,A.handled=none→Draws X.prog X.w A s1.heap.objs.size [s1.heap.objs.size] x.cps.size (SignAt x) fun i h=>h.IsStrIter s1.heap.objs.size ty x t i),h'.IsStrIter s1.heap.objs.size ty x t 0→
   wpAny (model X.prog X.w) X.A (pyIter (.ref (s1.heap.objs.size+1))) (PIE X pins σ (.Tuple elts k tp) R) X.xe {s1 with heap:=h'}:=by
  intro ty Dr hit'
  have W:∀ A:Around,A.handled=none→WalksT X.prog X.w A (s1.heap.objs.size+1) [s1.heap.objs.size+1,s1.heap.objs.size] [s1.heap.objs.size+1,s1.heap.objs.size] x.cps.size
    (fun i vals=>∃ t y,SignAt x i y∧vals= #[.int i t,y]) (fun i h=>(∃ old,IsEnum h (s1.heap.objs.size+1) s1.heap.objs.size i old)∧h.IsStrIter s1.heap.objs.size ty x t i)
    (fun i T h=>(∃ y,IsEnumOut h (s1.heap.objs.size+1) s1.heap.objs.size ((i:Int)+1) y T)∧h.IsStrIter s1.heap.objs.size ty x t (i+1)∧T≠s1.heap.objs.size+1∧T≠s1.heap.objs.size):=
   fun A hA=>WalksT.enumerateD (Dr A.in1 hA) (s1.heap.objs.size+1) ne1 nm (by simp)
  have hself:∀ (A:Around) (i:Nat) (s:Shared) (Q:Value→Shared→Prop) (E:Value→Shared→Prop),((∃ old,IsEnum s.heap (s1.heap.objs.size+1) s1.heap.objs.size i old)∧s.heap.IsStrIter s1.heap.objs.size ty x t i)→Q (.ref (s1.heap.objs.size+1)) s→wpAny (model X.prog X.w) A (pyIter (.ref (s1.heap.objs.size+1))) Q E s:=by
   rintro A i s Q E ⟨⟨old,he⟩,_⟩ hQ
   exact wpAny_pyIter_enum he hQ
  refine hself _ 0 _ _ _ ⟨⟨_,he⟩,hit'⟩ ?_
  refine ⟨s1.heap.objs.size+1,[s1.heap.objs.size+1,s1.heap.objs.size],_,_,H1,rfl,J1,Oo W (fun i=>by simp [jO];decide) hPt (by simp) ?_ hself,⟨⟨_,he⟩,hit'⟩,fun b hb=>?_,q⟩
  ·rintro i h ⟨⟨old,he⟩,o,ho,hcl,hd⟩ b hb
   rcases List.mem_cons.mp hb with rfl | hb
   ·exact ⟨_,he,fun v z=>by cases z⟩
   ·rw [List.mem_singleton.mp hb]
    exact ⟨o,ho,fun v z=>by rw [hd] at z;cases z⟩
  ·have hb':s1.heap.objs.size≤b:=by
    rcases List.mem_cons.mp hb with rfl | hb
    ·exact Nat.le_succ _
    ·rw [List.mem_singleton.mp hb];exact Nat.le_refl _
   exact I1.fpOk hb' (I1.hok.fresh hb')
 cases hx:x.cps.all (· < 128)
 ·exact fin "str_iterator" (fun A hA=>Draws.strWide hA _ x t) (by simpa [strIterType,hx] using hit)
 ·exact fin "str_ascii_iterator" (fun A hA=>Draws.strAscii hA _ x t) (by simpa [strIterType,hx] using hit)
def Lj (K:PySem.W.Frag) (ta:TA):TI:=fun σ H R=>ta σ H fun vs H1=>(∃ x:Str,vs=[.str x]∧R (Om (jO x) x.cps.size) H1)∨∃ a xs,vs=[.ref a]∧SqL K H1 a xs∧R (Ri K a) H1
theorem kj {X:Cx} {K:PySem.W.Frag} {a:Expr} {ta:TA} {elts:List Expr} {k:Nat} {tp p pos:Pos} (hK:X.K=K) (hc:X.calm=true) (hg:Gl X "enumerate") (hm:X.mg "enumerate"=none) (ha:JA X [a] ta) (h:autoParam (notStar a=true) L2.auto4._auto_1):
  JI X (.Tuple elts k tp) (.Call (.Name "enumerate" p) [a] [] pos) (Lj K ta):=⟨by
 subst hK
 intro pins s σ H R I hq
 refine Call_ (iD I hg hm mY (PyProof.Rows.callWith_type1 (cZ (ha.run pos pins s σ H _ I hq) fun us s1 qq0=>?_) (bj h) rfl))
 obtain ⟨vs,H1,I1,r1,q1⟩:=qq0
 rcases q1 with ⟨x,e,q⟩ | ⟨l,xs,e,hl,q⟩
 ·subst e
  obtain ⟨u,rfl,t,rfl⟩:=vals1 r1
  exact Bo hc I1 q
 ·subst e
  obtain ⟨u,rfl,ru⟩:=vals1 r1
  cases ru
  obtain ⟨its,rv,p1,_⟩:=I1.list hl
  refine call_enumerate_list p1.isList fun h' z1 z2 z3 hk=>?_
  have J1:Inv X pins σ H1 {s1 with heap:=h'}:=I1.kept (t':=s1.toks) hk
  refine wpAny_pyIter_enum z1 ?_
  refine ⟨s1.heap.objs.size+1,_,_,_,H1,rfl,J1,xZ (Nat.succ_ne_self _),⟨⟨_,z1⟩,z2⟩,fun b hb=>?_,q⟩
  have hb':s1.heap.objs.size≤b:=by
   simp only [List.mem_cons,List.mem_nil_iff,or_false] at hb
   have key:∀ n c:Nat,(c=n+1∨c=n)→n≤c:=fun n c h=>by omega
   exact key _ _ hb
  exact I1.fpOk hb' (I1.hok.fresh hb')⟩
end L2
namespace L2
open PySem PySem.Spec PyProof.Rows PySem.SeqAt
mutual
def DR (H:Hp):PyData→V→Prop
 | .none,v=>v= .non
 | .bool b,v=>v= .bl b
 | .int n,v=>v= .int n
 | .str x,v=>v= .str x
 | .list ds,v=>∃ a vs,v= .ref a∧H a=some (.lst vs)∧DRs H ds vs
 | .tuple ds,v=>∃ a vs,v= .ref a∧H a=some (.tup vs)∧DRs H ds vs
 | .dict _,_=>False
def DRs (H:Hp):List PyData→List V→Prop
 | [],vs=>vs=[]
 | d :: ds,vs=>∃ v r,vs=v :: r∧DR H d v∧DRs H ds r
end
theorem Ou {H:Hp} {n:Int} {v:V}:DR H (.int n) v↔v= .int n:=by rw [DR]
theorem km {H:Hp} {ds:List PyData} {v:V}:DR H (.list ds) v↔∃ a vs,v= .ref a∧H a=some (.lst vs)∧DRs H ds vs:=by rw [DR]
theorem uE {H:Hp} {vs:List V}:DRs H [] vs↔vs=[]:=by rw [DRs]
theorem Ez {H:Hp} {d:PyData} {ds:List PyData} {vs:List V}:DRs H (d :: ds) vs↔∃ v r,vs=v :: r∧DR H d v∧DRs H ds r:=by rw [DRs]
theorem qD {H:Hp}:∀ (ns:List Int),DRs H (ns.map PyData.int) (ns.map V.int)
 | []=>uE.mpr rfl
 | n :: ns=>Ez.mpr ⟨_,_,rfl,Ou.mpr rfl,qD ns⟩
mutual
theorem DR.reads {P:Program} {w:World} {H:Hp} {h:Heap} (ok:HOk P w H h):∀ (d:PyData) (v:V) (u:Value),DR H d v→RelV v u→∃ as,Reads h u d as
 | .none,_,u,q,r=>by rw [DR] at q;subst q;cases r;exact ⟨_,.none⟩
 | .bool b,_,u,q,r=>by rw [DR] at q;subst q;cases r;exact ⟨_,.bool _⟩
 | .int n,_,u,q,r=>by rw [DR] at q;subst q;obtain ⟨t,rfl⟩:=r;exact ⟨_,.int _ _⟩
 | .str n,_,u,q,r=>by rw [DR] at q;subst q;obtain ⟨t,rfl⟩:=r;exact ⟨_,.str _ _⟩
 | .list ds,v,u,q,r=>by
  rw [DR] at q
  obtain ⟨a,vs,rfl,e,t⟩:=q
  cases r
  obtain ⟨_,its,n,rv,g⟩:=ok a _ e
  obtain ⟨as,ra⟩:=DRs.reads ok ds vs its t rv
  exact ⟨_,.list g rfl rfl (by simpa using ra)⟩
 | .tuple ds,v,u,q,r=>by
  rw [DR] at q
  obtain ⟨a,vs,rfl,e,t⟩:=q
  cases r
  obtain ⟨_,its,rv,g⟩:=ok a _ e
  obtain ⟨as,ra⟩:=DRs.reads ok ds vs its t rv
  obtain ⟨o,ho,hc,n,hd⟩:=g
  exact ⟨_,.tuple ho hc hd (by simpa using ra)⟩
 | .dict _,_,_,q,_=>by rw [DR] at q;exact q.elim
theorem DRs.reads {P:Program} {w:World} {H:Hp} {h:Heap} (ok:HOk P w H h):∀ (ds:List PyData) (vs:List V) (us:List Value),DRs H ds vs→Vals vs us→∃ as,ReadsAll h us ds as
 | [],_,us,q,r=>by rw [DRs] at q;subst q;cases r;exact ⟨_,.nil⟩
 | d :: ds,_,us,q,r=>by
  rw [DRs] at q
  obtain ⟨v,r',rfl,q1,q2⟩:=q
  cases r with
  | cons a b=>
   obtain ⟨as,h1⟩:=DR.reads ok d v _ q1 a
   obtain ⟨bs,h2⟩:=DRs.reads ok ds r' _ q2 b
   exact ⟨_,.cons h1 h2⟩
end
def Su:R2:=fun x y H Q=>∃ d e,DR H d x∧DR H e y∧shaped d=true∧shaped e=true∧Q (.bl (PyData.eqv d e)) H
def Sv:R2:=fun x y H Q=>∃ d e,DR H d x∧DR H e y∧shaped d=true∧shaped e=true∧Q (.bl (!PyData.eqv d e)) H
section
variable {X:Cx}
theorem Ov (hu:X.A.units+64 < cLine):OpR X (compareOp .Eq) Su:=by
 intro pins s σ H x y v u Q I rx ry h
 obtain ⟨d,e,h1,h2,h3,h4,q⟩:=h
 obtain ⟨as,r1⟩:=DR.reads I.hok d x v h1 rx
 obtain ⟨bs,r2⟩:=DR.reads I.hok e y u h2 ry
 exact eq_dataH r1 r2 h3 h4 hu ⟨.bl _,H,I,rfl,q⟩
theorem Ow (hu:X.A.units+64 < cLine):OpR X (compareOp .NotEq) Sv:=by
 intro pins s σ H x y v u Q I rx ry h
 obtain ⟨d,e,h1,h2,h3,h4,q⟩:=h
 obtain ⟨as,r1⟩:=DR.reads I.hok d x v h1 rx
 obtain ⟨bs,r2⟩:=DR.reads I.hok e y u h2 ry
 exact ne_dataH r1 r2 h3 h4 hu ⟨.bl _,H,I,rfl,q⟩
def yc (K:PySem.W.Frag):R2:=fun x y H Q=>N7 K x y H Q∨Su x y H Q
def Bp (K:PySem.W.Frag):R2:=fun x y H Q=>Ss K x y H Q∨Sv x y H Q
theorem uF {K:PySem.W.Frag} (hK:X.K=K) (hu:X.A.units+64 < cLine):OpR X (compareOp .Eq) (yc K):=(Oc hK (Nat.lt_of_le_of_lt (Nat.le_add_right _ _) hu)).or (Ov hu)
theorem gH {K:PySem.W.Frag} (hK:X.K=K) (hu:X.A.units+64 < cLine):OpR X (compareOp .NotEq) (Bp K):=(Oq hK hu).or (Ow hu)
end
section
variable {H:Hp} {Q:VK} {K:PySem.W.Frag} {σ:St}
theorem gJ {i j:Int} (h:Q (.bl (decide (V.int i=V.int j))) H):yc K (.int i) (.int j) H Q:=.inl (.inl ⟨rfl,h⟩)
theorem gK {i j:Str} (h:Q (.bl (decide (V.str i=V.str j))) H):yc K (.str i) (.str j) H Q:=.inl (.inl ⟨rfl,h⟩)
theorem jj {i j:Int} (h:Q (.bl (!decide (V.int i=V.int j))) H):Bp K (.int i) (.int j) H Q:=.inl (.inl ⟨rfl,h⟩)
theorem jk {i j:Str} (h:Q (.bl (!decide (V.str i=V.str j))) H):Bp K (.str i) (.str j) H Q:=.inl (.inl ⟨rfl,h⟩)
theorem jl {i j:Bool} (h:Q (.bl (!decide (V.bl i=V.bl j))) H):Bp K (.bl i) (.bl j) H Q:=.inl (.inl ⟨rfl,h⟩)
theorem EY {x y:V} {d:PyData} (h1:DR H d x) (h2:DR H d y) (hs:shaped d=true) (h:Q (.bl true) H):yc K x y H Q:=
 .inr ⟨d,d,h1,h2,hs,hs,by rw [PySem.SeqAt.eqv_refl d (canLay_of_shaped hs)];exact h⟩
theorem Fb {x y:V} {d e:PyData} (h1:DR H d x) (h2:DR H e y) (hs:shaped d=true) (hs2:shaped e=true) (h:Q (.bl (PyData.eqv d e)) H):yc K x y H Q:=.inr ⟨d,e,h1,h2,hs,hs2,h⟩
theorem Fd {x y:V} {d e:PyData} (h1:DR H d x) (h2:DR H e y) (hs:shaped d=true) (hs2:shaped e=true) (h:Q (.bl (!PyData.eqv d e)) H):Bp K x y H Q:=.inr ⟨d,e,h1,h2,hs,hs2,h⟩
theorem fW {a:TA} {R:It→Hp→Prop} (h:a σ H fun vs H1=>(∃ x:Str,vs=[.str x]∧R (Om (jO x) x.cps.size) H1)∨∃ a xs,vs=[.ref a]∧SqL K H1 a xs∧R (Ri K a) H1):Lj K a σ H R:=h
theorem kE {a:Addr} {xs:List V} {g:TG} {tb:TS} {D:Ends} (Pv:Nat→St→Hp→Prop) (h0:Pv 0 σ H) (hq:∀ i σ H,i≤xs.length→Pv i σ H→SqL K H a xs)
  (hs:∀ i σ H T x,xs[i]?=some x→Pv i σ H→H T=none→g (.ref T) σ (upd H T (.tup [.int i,x])) fun σ2 H2=>tb {D with nx:=Pv (i+1),ct:=Pv (i+1),bk:=D.nx} σ2 H2) (hd:∀ σ H,Pv xs.length σ H→D.nx σ H):
  ∃ W:Nat→Nat→St→Hp→Prop,(∃ m,W 0 m σ H)∧∀ i m σ H,W i m σ H→
   ((Ri K a).stop i H∧D.nx σ H)∨((Ri K a).go i H∧∃ N:St→Hp→Prop,(∀ σ' H',N σ' H'→∃ m',m' < m∧W (i+1) m' σ' H')∧∀ x H',(Ri K a).yld i H x H'→g x σ H' fun σ2 H2=>tb {D with nx:=N,ct:=N,bk:=D.nx} σ2 H2):=by
 refine ⟨fun i m σ H=>m=xs.length - i∧i≤xs.length∧Pv i σ H,⟨xs.length,by simp,Nat.zero_le _,h0⟩,?_⟩
 rintro i m σ H ⟨rfl,hi,p⟩
 have q1:=hq i σ H hi p
 by_cases hlt:i < xs.length
 ·refine .inr ⟨⟨xs,xs[i],q1,List.getElem?_eq_getElem hlt⟩,Pv (i+1),fun σ' H' p'=>⟨xs.length - (i+1),by omega,rfl,hlt,p'⟩,fun x H' y=>?_⟩
  obtain ⟨T,u,hT,e1,e2,e4⟩:=y
  subst e1 e4
  exact hs i σ H T u (e2 xs q1) p hT
 ·have e:i=xs.length:=by omega
  subst e
  exact .inl ⟨⟨xs,q1,Nat.le_refl _⟩,hd σ H p⟩
end
end L2
namespace L2
open PySem PySem.Spec PyProof.Rows
section
variable {prog:Program} {w:World} {A:Around} {E:Value→Shared→Prop} {s:Shared}
end
end L2
namespace L2
open PySem PySem.Spec PyProof.Rows
section
variable {X:Cx} {K:PySem.W.Frag} {a b c e:Expr} {ta tb tc te:TE} {pos p p2 p3:Pos}
theorem IW {op op':CmpOp} {r r':R2} (ho:OpR X (compareOp op) r) (ho':OpR X (compareOp op') r') (ha:JE X a ta) (hb:JE X b tb) (hc:JE X c tc) (hm:autoParam (lastMarks [op,op'] [b,c]=false) L2.auto5._auto_1):
  JE X (.Compare a [op,op'] [b,c] pos) (xm r r' ta tb tc):=⟨Dh ho ho' ha.run hb.run hc.run hm⟩
theorem arg1 {Q:List Value→Shared→Prop} {E:Value→Shared→Prop} {s:Shared} (hs:notStar e=true) (h:wpAny (model X.prog X.w) X.A (eval e X.env) (fun u s1=>Q [u] s1) E s):wpAny (model X.prog X.w) X.A (spliced (backTo pos (starEach [e] X.env))) Q E s:=by
 rw [bj hs]
 show wpAny _ _ (spliced ((false,eval e X.env) :: backTo pos (starEach [] X.env))) _ _ s
 exact Calls.spliced_cons (wpAny_mono h (fun u s1 q=>Calls.spliced_nil q) fun _ _ z=>z)
end
end L2
namespace L2
open PySem PySem.Spec PyProof.Rows
def Bq (h:Heap) (T:Addr):Prop:=∃ oT ts,h.get? T=some oT∧oT.data= .fields ts∧3 < ts.size
def d9 (C:Addr) (dd:Option Addr) (vs:Array Value):Obj:={cls:=.ref C,dict:=dd,data:=.fields vs}
def Ja (l:List Env):List Addr:=l.filterMap (·.frame)
section
variable {M:Model} {A:Around} {E:Value→Shared→Prop}
theorem tQ {base:Heap} {env:Env} {outer:List Env} {L x C:Addr} {dd:Option Addr} {vs:Array Value} {hd:Value} {had:Bool} {Q:Unit→Shared→Prop} {s:Shared}
  (fr:A.frames=some (env :: outer)) (ff:s.heap.FunFrames base (env :: outer)) (fL:env.frame=some L) (ex:s.heap.get? x=some (d9 C dd vs)) (sz:1 < vs.size) (nx:x ∉ Ja (env :: outer))
  (k:∀ h' T,h'.get? x=some (d9 C dd (vs.setIfInBounds 1 (.ref T)))→s.heap.objs.size≤T→Bq h' T→(∀ b o,b≠x→b ∉ Ja (env :: outer)→s.heap.get? b=some o→h'.get? b=some o)→
   (∀ b o,b≠x→s.heap.get? b=some o→∃ sl,h'.get? b=some {o with slots:=sl})→Q () {s with heap:=h'}):
  wpAny M A (do let c ← frameOf env;let pl ← entryPlaceOf L had;let t ← EntryCells.newEntry hd c .none (rawInt L) .none pl;setField (.ref x) 1 t) Q E s:=by
 refine wpAny_bind (wpAny_frameOf_fun fr ff fL fun g1 so=>?_)
 refine wpAny_bind (wpAny_entryPlaceOf fun pl isp=>?_)
 unfold EntryCells.newEntry newFields
 refine wpAny_bind (wpAny_newObj_type ?_ (isp.sizeOk5 _ _ _ _ _))
 have x1:g1.get? x=some (d9 C dd vs):=(so.2.1 x nx).trans ex
 have lts:([hd,Value.ref L,.none,rawInt L,.none] ++ (if pl.isEmpty then List.replicate 6 Value.none else pl)).toArray.size > 3:=by
  simp only [List.size_toArray,List.length_append,List.length_cons,List.length_nil];omega
 generalize ([hd,Value.ref L,.none,rawInt L,.none] ++ (if pl.isEmpty then List.replicate 6 Value.none else pl)).toArray=tv at lts
 have x2:(g1.push {cls:=.type "traceback",dict:=none,data:=.fields tv}).get? x=some (d9 C dd vs):=Heap.get?_push_of_some _ x1
 have nTx:g1.objs.size≠x:=Nat.ne_of_gt (Heap.lt_size x1)
 have t2:(g1.push {cls:=.type "traceback",dict:=none,data:=.fields tv}).get? g1.objs.size=some {cls:=.type "traceback",dict:=none,data:=.fields tv}:=Heap.get?_push_size _ rfl
 have o2:∀ b o,g1.get? b=some o→(g1.push {cls:=.type "traceback",dict:=none,data:=.fields tv}).get? b=some o:=fun b o e=>Heap.get?_push_of_some _ e
 refine wpAny_setField (vs:=vs) x2 rfl sz ?_
 have e3:=Heap.get?_update_self (Obj.mapFields (·.setIfInBounds 1 (Value.ref g1.objs.size))) x2 rfl
 have ot:∀ b,b≠x→((g1.push {cls:=.type "traceback",dict:=none,data:=.fields tv}).update x (Obj.mapFields (·.setIfInBounds 1 (Value.ref g1.objs.size)))).get? b=(g1.push {cls:=.type "traceback",dict:=none,data:=.fields tv}).get? b:=fun b hb=>Heap.get?_update_other _ _ (Ne.symm hb)
 refine k _ g1.objs.size e3 (by rw [so.1];exact Nat.le_refl _) ⟨_,tv,(ot _ nTx).trans t2,rfl,lts⟩ (fun b o hb hf e=>?_) (fun b o hb e=>?_)
 ·rw [ot b hb];exact o2 b o ((so.2.1 b hf).trans e)
 ·obtain ⟨sl,q⟩:=so.2.2 b o e
  exact ⟨sl,by rw [ot b hb];exact o2 b _ q⟩
structure zB (fs:List Addr) (x C:Addr) (dd:Option Addr) (hd:Option Addr) (h h':Heap) (T:Addr):Prop where
 obj:∃ vs,h'.get? x=some (d9 C dd vs)∧vs[1]?=some (.ref T)∧vs[2]?=some .none
 tb:Bq h' T
 ne:T≠x
 new:h.objs.size≤T∨hd=some T
 keep:∀ b o,b≠x→some b≠hd→b ∉ fs→h.get? b=some o→h'.get? b=some o
 slot:∀ b o,b≠x→some b≠hd→h.get? b=some o→∃ sl,h'.get? b=some {o with slots:=sl}
 tail:∀ b o,hd=some b→h.get? b=some o→∃ o',h'.get? b=some o'
theorem Sw {base:Heap} {env:Env} {outer:List Env} {L x C:Addr} {dd:Option Addr} {vs:Array Value} {Q:Unit→Shared→Prop} {s:Shared}
  (fr:A.frames=some (env :: outer)) (ff:s.heap.FunFrames base (env :: outer)) (fL:env.frame=some L) (ex:s.heap.get? x=some (d9 C dd vs)) (h1:vs[1]?=some .none∧vs[2]?=some .none) (nx:x ∉ Ja (env :: outer))
  (k:∀ h' T,zB (Ja (env :: outer)) x C dd none s.heap h' T→Q () {s with heap:=h'}):wpAny M A (noteFrame (.ref x) env) Q E s:=by
 unfold noteFrame
 simp only [fL]
 refine wpAny_bind (wpAny_field ex rfl h1.1 ?_)
 rw [if_neg (by decide)]
 have sz:1 < vs.size:=(Array.getElem?_eq_some_iff.mp h1.1).1
 refine tQ fr ff fL ex sz nx fun h' T a1 a2 a3 a4 a5=>k h' T ⟨⟨_,a1,by simp [sz],by rw [Array.getElem?_setIfInBounds_ne (by decide)];exact h1.2⟩,a3,?_,.inl a2,fun b o hb _ hf e=>a4 b o hb hf e,fun b o hb _ e=>a5 b o hb e,fun b o z=>by cases z⟩
 exact Nat.ne_of_gt (Nat.lt_of_lt_of_le (Heap.lt_size ex) a2)
theorem Sx {base:Heap} {env:Env} {outer:List Env} {L x C T0:Addr} {dd:Option Addr} {vs:Array Value} {Q:Unit→Shared→Prop} {s:Shared}
  (fr:A.frames=some (env :: outer)) (ff:s.heap.FunFrames base (env :: outer)) (fL:env.frame=some L) (ex:s.heap.get? x=some (d9 C dd vs)) (h1:vs[1]?=some (.ref T0)∧vs[2]?=some .none) (t0:Bq s.heap T0) (ne:T0≠x) (nx:x ∉ Ja (env :: outer)) (nT:T0 ∉ Ja (env :: outer))
  (k:∀ h' T,zB (Ja (env :: outer)) x C dd (some T0) s.heap h' T→Q () {s with heap:=h'}):wpAny M A (noteFrame (.ref x) env) Q E s:=by
 obtain ⟨oT,ts,g,d,l3⟩:=id t0
 unfold noteFrame
 simp only [fL]
 refine wpAny_bind (wpAny_field ex rfl h1.1 ?_)
 rw [if_pos (show (Value.ref T0 != Value.none)=true from by simp)]
 refine wpAny_bind (wpAny_field g d (Array.getElem?_eq_getElem l3) ?_)
 by_cases q:(ts[3] == rawInt L)=true
 ·rw [if_pos q]
  exact wpAny_pure (k _ T0 ⟨⟨vs,ex,h1⟩,t0,ne,.inr rfl,fun b o _ _ _ e=>e,fun b o _ _ e=>⟨o.slots,e⟩,fun b o _ e=>⟨o,e⟩⟩)
 ·rw [if_neg q]
  refine wpAny_bind (wpAny_setField g d l3 ?_)
  have tT:=Heap.get?_update_self (Obj.mapFields (·.setIfInBounds 3 Value.none)) g (Obj.isFreed_of_fields (Obj.data_mapFields d _))
  have ot:∀ b,b≠T0→(s.heap.update T0 (Obj.mapFields (·.setIfInBounds 3 Value.none))).get? b=s.heap.get? b:=fun b hb=>Heap.get?_update_other _ _ (Ne.symm hb)
  have sz:1 < vs.size:=(Array.getElem?_eq_some_iff.mp h1.1).1
  have ff2:(s.heap.update T0 (Obj.mapFields (·.setIfInBounds 3 Value.none))).FunFrames base (env :: outer):=ff.of_keeps fun b o hb hn=>by
   refine ⟨o,(ot b (fun z=>?_)).trans hb,rfl⟩
   rw [z,g] at hb;cases hb;exact hn _ d
  refine tQ (s:={s with heap:=s.heap.update T0 (Obj.mapFields (·.setIfInBounds 3 Value.none))}) fr ff2 fL ((ot x (Ne.symm ne)).trans ex) sz nx fun h' T a1 a2 a3 a4 a5=>k h' T ⟨⟨_,a1,by simp [sz],by rw [Array.getElem?_setIfInBounds_ne (by decide)];exact h1.2⟩,a3,?_,.inl (by rw [Heap.size_update] at a2;exact a2),fun b o hb h0 hf e=>a4 b o hb hf ((ot b (fun z=>h0 (by rw [z]))).trans e),fun b o hb h0 e=>a5 b o hb ((ot b (fun z=>h0 (by rw [z]))).trans e),fun b o hb e=>?_⟩
  ·exact Nat.ne_of_gt (Nat.lt_of_lt_of_le (Heap.lt_size ex) (by rw [Heap.size_update] at a2;exact a2))
  ·cases hb
   obtain ⟨sl,z⟩:=a5 T0 _ ne tT
   exact ⟨_,z⟩
theorem Sy {x C T0:Addr} {dd:Option Addr} {vs:Array Value} {Q:Unit→Shared→Prop} {s:Shared} (ex:s.heap.get? x=some (d9 C dd vs)) (h1:vs[1]?=some (.ref T0)∧vs[2]?=some .none) (t0:Bq s.heap T0) (ne:T0≠x)
  (k:∀ h',zB [] x C dd (some T0) s.heap h' T0→Q () {s with heap:=h'}):wpAny M A (setFlight (.ref x) none) Q E s:=by
 obtain ⟨oT,ts,g,d,l3⟩:=id t0
 unfold setFlight
 refine wpAny_bind (wpAny_field ex rfl h1.1 ?_)
 rw [if_pos (show (Value.ref T0 != Value.none)=true from by simp)]
 refine wpAny_setField g d l3 (k _ ?_)
 have d2:=Obj.data_mapFields d (·.setIfInBounds 3 ((none:Option Addr).elim Value.none fun f=>rawInt f))
 have tT:=Heap.get?_update_self (Obj.mapFields (·.setIfInBounds 3 ((none:Option Addr).elim Value.none fun f=>rawInt f))) g (Obj.isFreed_of_fields d2)
 have ot:∀ b,b≠T0→(s.heap.update T0 (Obj.mapFields (·.setIfInBounds 3 ((none:Option Addr).elim Value.none fun f=>rawInt f)))).get? b=s.heap.get? b:=fun b hb=>Heap.get?_update_other _ _ (Ne.symm hb)
 exact ⟨⟨vs,(ot x (Ne.symm ne)).trans ex,h1⟩,⟨_,_,tT,d2,by simpa using l3⟩,ne,.inr rfl,fun b o _ h0 _ e=>(ot b (fun z=>h0 (by rw [z]))).trans e,fun b o _ h0 e=>⟨o.slots,(ot b (fun z=>h0 (by rw [z]))).trans e⟩,fun b o hb e=>by cases hb;exact ⟨_,tT⟩⟩
end
end L2
namespace L2
open PySem PySem.Spec PyProof.Rows
def Vl:List Value:=[.type "ValueError",.type "Exception",.type "BaseException",.type "object"]
def Rj (K:PySem.W.Frag) (D:Addr):Bool:=match K.lookup D with
 | some ⟨.type "type",_,.cls cd,sl⟩=>(match cd.mro,sl.toList with
  | .ref E :: bm,[_,_,_,_,some (.builtin n),_]=>E == D && n == "ValueError.__new__" && cd.hasDel == false && cd.hasDict && PySem.W.tailIn K Vl bm
  | _,_=>false)
 | _=>false
theorem yd {K:PySem.W.Frag} {D:Addr} (q:Rj K D=true):∃ nm qn N bs bm sn sub ab col dd k0 k1 k2 k3 k5,K.lookup D=some (excClassObj nm qn D N bs bm true sn sub ab col dd k0 k1 k2 k3 k5 "ValueError.__new__")∧∀ h,K.In h→OwnTail h Vl bm:=by
 unfold Rj at q
 split at q
 ·rename_i dd cd sl ho
  split at q
  ·rename_i D' bm k0 k1 k2 k3 n k5 hm hs
   simp only [Bool.and_eq_true,beq_iff_eq] at q
   obtain ⟨⟨⟨⟨e1,e2⟩,e3⟩,e4⟩,e5⟩:=q
   subst e1 e2
   obtain ⟨nm,bs,mro,ns,qn,hd,sn,sub,ab,col,del⟩:=cd
   dsimp only at hm e3 e4
   subst hm e3 e4
   have hsl:sl= #[k0,k1,k2,k3,some (.builtin "ValueError.__new__"),k5]:=by
    obtain ⟨l⟩:=sl
    dsimp only at hs
    rw [hs]
   subst hsl
   exact ⟨nm,qn,ns,bs,bm,sn,sub,ab,col,dd,k0,k1,k2,k3,k5,ho,fun h X=>PySem.W.tail_of_in X e5⟩
  ·cases q
 ·cases q
section
variable {prog:Program} {w:World} {A:Around} {K:PySem.W.Frag} {D f:Addr} {E:Value→Shared→Prop}
theorem v4 {h:Heap} {g:Array GenState} {d:Drawn} {t:Nat} {os:OsState} {us:List Value} {Q:Fin→Shared→Prop} (X:K.In h) (hx:Rj K D=true)
  (hi:PySem.W.findIn K (.ref D) "__init__"=some (some (.ref f))) (hf:PySem.W.typeIn K (.ref f)=some (.type "function")) (hl:us.length≤sizeLine)
  (k:wpAny (model prog w) A (call (.ref f) (.ref (h.objs.size+1) :: us)) (fun r s'=>r= .none∧Q (.done (.ret (.ref (h.objs.size+1)))) s') E
   ⟨(h.push {cls:=.type "tuple",data:=.seq us.toArray}).push (d9 D none #[.ref h.objs.size,.none,.none,.none,.bool false,.none]),g,d,t,os⟩):
  wpAny (model prog w) A (Builtin.«type.__call__» ⟨.ref D :: us,[]⟩) Q E ⟨h,g,d,t,os⟩:=by
 obtain ⟨nm,qn,N,bs,bm,sn,sub,ab,col,dd,k0,k1,k2,k3,k5,lk0,tl⟩:=yd hx
 have T:=tl h X
 have hD:=X _ _ lk0
 have L3:=PySem.W.looks_findIn (M:=model prog w) X hi
 have L4:=PySem.W.bind_fn (M:=model prog w) X (.ref (h.objs.size+1)) hf
 repeat (first | with_reducible refine wpAny_loadPart_at hD ?_ | with_reducible refine wpAny_madeBy_exc hD ?_ | wp_step)
 refine codeAny_call_builtin_code (Code.quiet_builtin _ F.excBase_ValueError.quiet) (wpAny_check_new_subT F.excBase_ValueError T hD (codeAny_exc_new_subT F.excBase_ValueError T hD ?_ hl))
 show wpAny _ _ _ _ _ _
 have keep:∀ b o,h.get? b=some o→((h.push {cls:=.type "tuple",data:=.seq us.toArray}).push (d9 D none #[.ref h.objs.size,.none,.none,.none,.bool false,.none])).get? b=some o:=fun b o q=>Heap.get?_push_of_some _ (Heap.get?_push_of_some _ q)
 have gx:((h.push {cls:=.type "tuple",data:=.seq us.toArray}).push (d9 D none #[.ref h.objs.size,.none,.none,.none,.bool false,.none])).get? (h.objs.size+1)=some (d9 D none #[.ref h.objs.size,.none,.none,.none,.bool false,.none]):=by
  have:=Heap.get?_push_size (h.push {cls:=.type "tuple",data:=.seq us.toArray}) (o:=d9 D none #[.ref h.objs.size,.none,.none,.none,.bool false,.none]) rfl
  rwa [Heap.size_push] at this
 have hD1:=keep _ _ hD
 have M3:=L3.keeps keep
 have M4:=L4.keeps keep
 have cD:(Value.ref D :: bm).contains (.ref D)=true:=by simp
 unfold d9 at gx M3 M4 hD1 k
 unfold isInstance
 repeat (first | with_reducible refine wpAny_loadPart_at gx ?_ | (with_reducible refine wpAny_isSubtype_exc hD1 ?_;rw [cD]) | wp_step)
 show wpAny _ _ (typeLookup (.ref D) _) _ _ _
 refine M3.at ?_
 refine wpAny_holding (wpAny_bind (M4.at ?_))
 dsimp only
 refine wpAny_bind (wpAny_mono k (fun r s' hr=>?_) fun _ _ z=>z)
 obtain ⟨rfl,z⟩:=hr
 wp_walk
 exact z
theorem Ox {s:Shared} {us:List Value} {Q:Value→Shared→Prop} (X:K.In s.heap) (hx:Rj K D=true)
  (hi:PySem.W.findIn K (.ref D) "__init__"=some (some (.ref f))) (hf:PySem.W.typeIn K (.ref f)=some (.type "function")) (hl:us.length≤sizeLine)
  (k:wpAny (model prog w) (A.under (.builtin "type.__call__" ⟨.ref D :: us,[]⟩)) (call (.ref f) (.ref (s.heap.objs.size+1) :: us)) (fun r s'=>r= .none∧Q (.ref (s.heap.objs.size+1)) s') E
   {s with heap:=(s.heap.push {cls:=.type "tuple",data:=.seq us.toArray}).push (d9 D none #[.ref s.heap.objs.size,.none,.none,.none,.bool false,.none])}):
  wpAny (model prog w) A (call (.ref D) us) Q E s:=by
 obtain ⟨h,g,d,t,os⟩:=s
 obtain ⟨nm,qn,N,bs,bm,sn,sub,ab,col,dd,k0,k1,k2,k3,k5,lk0,tl⟩:=yd hx
 have hD:=X _ _ lk0
 have f1:=tc_lookup
 have f2:=tc_bind (.ref D)
 have hT:(⟨h,g,d,t,os⟩:Shared).TypeIs (.ref D) "type":=⟨_,hD,rfl⟩
 refine wpAny_call (codeAny_of_tree ?_)
 show wpAny _ _ (callAny (.ref D) _) _ _ _
 repeat (any_goals (first | assumption | with_reducible refine wpAny_loadPart_at hD ?_ | wp_step))
 refine ⟨rfl,codeAny_call_builtin_at (Code.quiet_builtin _ (by decide+kernel)) entry_typeCall (wpAny_check_type_call_sub hD (v4 X hx hi hf hl ?_))⟩
 exact k
end
end L2
namespace L2
open PySem PySem.Spec PyProof.Rows
def qF (x C dx:Addr):HO:=.ext fun h=>∃ vs,h.get? x=some (d9 C (some dx) vs)∧vs[2]?=some .none
def gM (x C:Addr):HO:=.ext fun h=>∃ t,h.get? x=some (d9 C none #[.ref t,.none,.none,.none,.bool false,.none])
theorem zE {P:Program} {w:World} {H:Hp} {h:Heap} {x C dx:Addr} {vs:Array Value} (e:h.get? x=some (d9 C (some dx) vs)) (h2:vs[2]?=some .none):ObjOk P w H h x (qF x C dx):=
 ⟨⟨vs,e,h2⟩,⟨_,e⟩,fun h1 h2 ⟨vs,e,z⟩ k=>⟨vs,k _ e,z⟩⟩
structure Head (X:Cx) (pins:List (Addr×Obj)) (H:Hp) (x C dx T:Addr) (h:Heap):Prop where
 obj:∃ vs,h.get? x=some (d9 C (some dx) vs)∧vs[1]?=some (.ref T)∧vs[2]?=some .none
 tb:Bq h T
 fp:ik X pins H T
 tr:H x=some (qF x C dx)
theorem Head.ne {X:Cx} {pins:List (Addr×Obj)} {H:Hp} {x C dx T:Addr} {h:Heap} (a:Head X pins H x C dx T h):T≠x:=fun z=>by
 have:=a.fp.1
 rw [z,a.tr] at this;cases this
def Fly (X:Cx) (pins:List (Addr×Obj)) (H:Hp) (x C dx:Addr) (h:Heap):Prop:=
 H x=some (qF x C dx)∧((∃ vs,h.get? x=some (d9 C (some dx) vs)∧vs[1]?=some .none∧vs[2]?=some .none)∨∃ T,Head X pins H x C dx T h)
section
variable {X:Cx} {pins:List (Addr×Obj)} {σ:St} {H:Hp} {s:Shared} {x C dx:Addr} {h':Heap} {T:Addr} {hd:Option Addr}
theorem Inv.noted {fs:List Addr} (I:Inv X pins σ H s) (hx:H x=some (qF x C dx)) (hh:∀ b,hd=some b→ik X pins H b) (hf:∀ b∈fs,b∈X.env.locals :: X.fs) (N:zB fs x C (some dx) hd s.heap h' T):Inv X pins σ H {s with heap:=h'}:=by
 obtain ⟨m,⟨oL,esL,epL,hoL,rL⟩,_⟩:=id I.loc
 have fsF:∀ b∈fs,H b=none:=fun b hb=>by
  rcases List.mem_cons.mp (hf b hb) with e | hb
  ·rw [e];exact I.free
  ·obtain ⟨_,o,ho,_⟩:=I.ok.funs.mem hb
   exact I.base.free b o ho (I.ok.frf b hb) fun z=>I.ok.exfs b z hb
 have nx:∀ b,H b=none→b≠x:=fun b n z=>by rw [z,hx] at n;cases n
 have hdF:∀ b,hd=some b→H b=none:=fun b e=>(hh b e).1
 have mem:∀ b,b ∉ hd.toList→some b≠hd:=fun b nb z=>nb (by rw [← z];simp)
 refine I.step (g':=s.gens) (d':=s.drawn) (t':=s.toks) (ch:=hd.toList) (fun b hb=>?_) (fun b o hL hb hc e n=>?_) (fun b o hL hb hc e n=>?_) (fun _ _ _ _ n=>n) (fun b o hc e=>?_) (fun _ _ e=>e) (fun _ _ _ e=>e) (fun b ps e=>⟨#[],by rw [e];simp⟩) (fun m hm=>?_) (fun b u e=>?_) I.bare
 ·have e:hd=some b:=by cases hd <;> simp_all
  obtain ⟨_,a2,_,a4,a5,a6⟩:=hh b e
  exact ⟨a4,a2,a5,a6⟩
 ·refine N.keep b o (nx b n) (mem b hc) (fun z=>?_) e
  rcases List.mem_cons.mp (hf b z) with q | q
  ·exact hL q
  ·exact hb q
 ·exact N.slot b o (nx b n) (mem b hc) e
 ·by_cases q:b=x
  ·obtain ⟨vs,z,_⟩:=N.obj
   exact ⟨_,by rw [q];exact z⟩
  ·obtain ⟨sl,z⟩:=N.slot b o q (mem b hc) e
   exact ⟨_,z⟩
 ·obtain ⟨o,es,ep,ho,r⟩:=hm
  obtain ⟨sl,z⟩:=N.slot _ o (nx _ I.free) (fun q=>(hh _ q.symm).2.1 rfl) ho
  exact ⟨_,es,ep,z,r⟩
 ·by_cases q:b=x
  ·subst q
   rw [hx] at e;cases e
   obtain ⟨vs,z,_,z2⟩:=N.obj
   exact zE z z2
  ·refine (I.hok b u e).stay (fun c v hc z=>?_) (fun _ q=>q) fun _ _ q=>q
   have tc:∃ u,H c=some u:=by
    rcases hc with rfl | hc
    ·exact ⟨_,e⟩
    ·exact ⟨_,hc⟩
   obtain ⟨uc,tc⟩:=tc
   refine N.keep c v (fun zz=>?_) (fun zz=>?_) (fun zz=>?_) z
   ·rcases hc with rfl | hc
    ·exact q zz
    ·rw [zz,hx] at hc;cases hc
   ·rw [hdF c zz.symm] at tc;cases tc
   ·rw [fsF c zz] at tc;cases tc
theorem Fe {A:Around} {E:Value→Shared→Prop} {Q:Unit→Shared→Prop} (I:Inv X pins σ H s) (hst:X.stack=X.env :: X.outer) (hfr:X.env.frame=some X.env.locals) (hA:A.frames=some X.stack) (F:Fly X pins H x C dx s.heap)
  (k:∀ h' T,Inv X pins σ H {s with heap:=h'}→Head X pins H x C dx T h'→Q () {s with heap:=h'}):wpAny (model X.prog X.w) A (noteFrame (.ref x) X.env) Q E s:=by
 have ff:s.heap.FunFrames X.base (X.env :: X.outer):=hst ▸ I.stack
 have sub:∀ b∈Ja (X.env :: X.outer),b∈X.env.locals :: X.fs:=fun b hb=>I.stkSub b (by rw [hst];exact hb)
 have nf:∀ b u,H b=some u→b ∉ Ja (X.env :: X.outer):=fun b u e z=>by
  rw [I.stkFree b (by rw [hst];exact z)] at e;cases e
 obtain ⟨hx,⟨vs,e,h1⟩ | ⟨T0,hT⟩⟩:=F
 ·refine Sw (hst ▸ hA) ff hfr e h1 (nf x _ hx) fun h' T N=>?_
  have J:=I.noted hx (fun b z=>by cases z) sub N
  refine k h' T J ⟨N.obj,N.tb,?_,hx⟩
  have zT:s.heap.objs.size≤T:=by rcases N.new with z | z;exact z;cases z
  exact I.fpOk zT (I.hok.fresh zT)
 ·obtain ⟨vs,e,h1⟩:=hT.obj
  refine Sx (hst ▸ hA) ff hfr e h1 hT.tb hT.ne (nf x _ hx) (fun z=>?_) fun h' T N=>?_
  ·rcases List.mem_cons.mp (sub T0 z) with q | q
   ·exact hT.fp.2.1 q
   ·exact hT.fp.2.2.1 q
  ·have J:=I.noted hx (fun b z=>by cases z;exact hT.fp) sub N
   refine k h' T J ⟨N.obj,N.tb,?_,hx⟩
   rcases N.new with z | z
   ·exact I.fpOk z (I.hok.fresh z)
   ·cases z;exact hT.fp
theorem Ff {A:Around} {E:Value→Shared→Prop} {Q:Unit→Shared→Prop} (I:Inv X pins σ H s) (F:Head X pins H x C dx T s.heap)
  (k:∀ h',Inv X pins σ H {s with heap:=h'}→Head X pins H x C dx T h'→Q () {s with heap:=h'}):wpAny (model X.prog X.w) A (setFlight (.ref x) none) Q E s:=by
 obtain ⟨vs,e,h1⟩:=F.obj
 refine Sy e h1 F.tb F.ne fun h' N=>?_
 exact k h' (I.noted F.tr (fun b z=>by cases z;exact F.fp) (fun b z=>absurd z (by simp)) N) ⟨N.obj,N.tb,F.fp,F.tr⟩
def Jb (P:Program) (w:World):Cy:=fun outer H s E e s'=>∃ x C dx T H',e= .ref x∧s'.os=s.os∧AllBare s'.gens∧Un (frs outer) [] H H' s.heap s'.heap∧HOk P w H' s'.heap∧H' x=some (qF x C dx)∧H' T=none∧s.heap.objs.size≤T∧
 (∃ vs,s'.heap.get? x=some (d9 C (some dx) vs)∧vs[1]?=some (.ref T)∧vs[2]?=some .none)∧Bq s'.heap T∧E (.ref C) (some x) H'
def XE (X:Cx) (pins:List (Addr×Obj)) (R:St→XK) (e:Value) (s':Shared):Prop:=∃ x C dx σ H',e= .ref x∧Inv X pins σ H' s'∧Fly X pins H' x C dx s'.heap∧R σ (.ref C) (some x) H'
theorem zF {R:St→XK} {e:Value} {s':Shared} (I:Inv X pins σ H s) (c:Jb X.prog X.w X.stack H s (R σ) e s'):XE X pins R e s':=by
 obtain ⟨x,C,dx,T,H',rfl,os,bare,un,hok,tx,tT,zT,ob,tb,r⟩:=c
 obtain ⟨hh,g,d,t,os'⟩:=s'
 obtain rfl:os'=s.os:=os
 have J:=I.call (h':=hh) (g':=g) (d':=d) (t':=t) (ch:=[]) un hok bare (fun b z=>absurd z (by simp))
 exact ⟨x,C,dx,σ,H',rfl,J,⟨tx,.inr ⟨T,ob,tb,I.fpOk zT tT,tx⟩⟩,r⟩
def jP (X:Cx) (R:St→XK):Prop:=∀ (pins:List (Addr×Obj)) (e:Value) (s':Shared),XE X pins R e s'→X.xe e s'
end
theorem dU {P:Program} {w:World} {K:PySem.W.Frag} {mg:Str→Option Value} {base:Heap} {N:List Str} {qual:Str} {scope:Scope} {f:Addr} {cd:Value} {A:Around} {outer:List Env} {s:Shared} {H:Hp} {E:XK}:
  jP (mq (Jb P w) P w K mg base N qual scope f cd A outer s H E) (fun _=>E):=by
 rintro pins e s' ⟨x,C,dx,σ,H',he,I,F,r⟩
 subst he
 show wpAny _ _ (leaving _ _) _ _ _
 unfold leaving
 refine wpAny_bind (Fe (X:=mq (Jb P w) P w K mg base N qual scope f cd A outer s H E) I rfl rfl I.ok.frames F fun h1 T J1 F1=>?_)
 refine Ff (X:=mq (Jb P w) P w K mg base N qual scope f cd A outer s H E) J1 F1 fun h2 J2 F2=>?_
 refine ⟨x,C,dx,T,H',rfl,J2.os,J2.bare,J2.base,J2.hok,F2.tr,F2.fp.1,?_,F2.obj,F2.tb,r⟩
 rcases F2.fp.2.2.2.1 with z | z
 ·exact absurd (show T∈([]:List Addr) from z) (by simp)
 ·exact z
end L2
namespace L2
open PySem PySem.Spec PyProof.Rows
def jG (d:Addr) (fs:List (Str×V)):HO:=.ext fun h=>∃ mA,h.Ns1 d mA∧∀ f,RelO (fs.lookup f) (mA f)
theorem uG {P:Program} {w:World} {H:Hp} {h:Heap} {d:Addr} {fs:List (Str×V)} {mA:Str→Option Value} (n:h.Ns1 d mA) (r:∀ f,RelO (fs.lookup f) (mA f)):ObjOk P w H h d (jG d fs):=by
 refine ⟨⟨mA,n,r⟩,let ⟨o,_,_,e,_⟩:=n;⟨o,e⟩,fun h1 h2 ⟨m,n,r⟩ k=>⟨m,?_,r⟩⟩
 obtain ⟨o,es,ep,e,q⟩:=n
 exact ⟨o,es,ep,k _ e,q⟩
theorem zG {P:Program} {w:World} {H:Hp} {h:Heap} {d:Addr} {fs:List (Str×V)} (ok:HOk P w H h) (e:H d=some (jG d fs)):∃ mA,h.Ns1 d mA∧∀ f,RelO (fs.lookup f) (mA f):=(ok _ _ e).1
def eG (x C d:Addr):HO:=.ext fun h=>∃ t,h.get? x=some (d9 C (some d) #[.ref t,.none,.none,.none,.bool false,.none])
theorem Br {P:Program} {w:World} {H:Hp} {h:Heap} {x C d t:Addr} (e:h.get? x=some (d9 C (some d) #[.ref t,.none,.none,.none,.bool false,.none])):ObjOk P w H h x (eG x C d):=
 ⟨⟨t,e⟩,⟨_,e⟩,fun h1 h2 ⟨t,e⟩ k=>⟨t,k _ e⟩⟩
theorem n6 {P:Program} {w:World} {H:Hp} {h:Heap} {x C d:Addr} (ok:HOk P w H h) (e:H x=some (eG x C d)):∃ t,h.get? x=some (d9 C (some d) #[.ref t,.none,.none,.none,.bool false,.none]):=(ok _ _ e).1
def dW:List Value→Bool
 | [.type a,.type b,.type c,.type d]=>a == "ValueError" && b == "Exception" && c == "BaseException" && d == "object"
 | .ref _ :: r=>dW r
 | _=>false
theorem o4 {l:List Value} (e:dW l=true):(∃ a r,l= .ref a :: r∧dW r=true)∨l=Vl:=by
 unfold dW at e
 split at e
 ·simp only [Bool.and_eq_true,beq_iff_eq] at e
  obtain ⟨⟨⟨rfl,rfl⟩,rfl⟩,rfl⟩:=e
  exact .inr rfl
 ·exact .inl ⟨_,_,rfl,e⟩
 ·cases e
theorem o5 (self:Value):∀ (l:List Value),dW l=true→refuseLoop self "__setattr__" l=pure ()
 | [],e=>by cases e
 | v :: r,e=>by
  rcases o4 e with ⟨a,r',q,e'⟩ | q
  ·cases q
   rw [refuseLoop_ref]
   exact o5 self r e'
  ·rw [q]
   exact F.store_ValueError.passes self
theorem v5:∀ (l:List Value),dW l=true→l.contains (.type "object")=true∧l.contains (.type "BaseException")=true
 | [],e=>by cases e
 | v :: r,e=>by
  rcases o4 e with ⟨a,r',q,e'⟩ | q
  ·cases q
   obtain ⟨h1,h2⟩:=v5 r e'
   exact ⟨by rw [List.contains_cons,h1,Bool.or_true],by rw [List.contains_cons,h2,Bool.or_true]⟩
  ·rw [q]
   decide
def Oz (K:PySem.W.Frag) (C:Addr):Bool:=Rj K C && (PySem.W.clsIn K C).any (fun cd=>dW cd.mro && cd.hasDict) && PySem.W.findIn K (.ref C) "__setattr__" == some (some (.builtin "object.__setattr__")) &&
 PySem.W.findIn K (.ref C) "__getattribute__" == some (some (.builtin "BaseException.__getattribute__")) && PySem.W.findIn K (.ref C) "__getattr__" == some none
structure XCls (K:PySem.W.Frag) (C:Addr):Prop where
 xi:Rj K C=true
 ov:∃ cd,PySem.W.clsIn K C=some cd∧dW cd.mro=true∧cd.hasDict=true
 sa:PySem.W.findIn K (.ref C) "__setattr__"=some (some (.builtin "object.__setattr__"))
 ga:PySem.W.findIn K (.ref C) "__getattribute__"=some (some (.builtin "BaseException.__getattribute__"))
 gh:PySem.W.findIn K (.ref C) "__getattr__"=some none
theorem Jc {K:PySem.W.Frag} {C:Addr} (h:Oz K C=true):XCls K C:=by
 unfold Oz at h
 simp only [Bool.and_eq_true,beq_iff_eq] at h
 obtain ⟨⟨⟨⟨h1,h2⟩,h3⟩,h4⟩,h5⟩:=h
 obtain ⟨cd,a,b⟩:=PySem.W.any_some h2
 simp only [Bool.and_eq_true] at b
 exact ⟨h1,⟨cd,a,b.1,b.2⟩,h3,h4,h5⟩
theorem Jd {l:List Value} (e:dW l=true):l.isEmpty=false:=by
 cases l with
 | nil=>cases e
 | cons _ _=>rfl
section
variable {prog:Program} {w:World} {A:Around} {s:Shared} {K:PySem.W.Frag} {x C:Addr} {R:Result→Shared→Prop}
theorem XCls.mro {c:Value} {b:Bool} (k:XCls K C) (h:∀ cd,PySem.W.clsIn K C=some cd→dW cd.mro=true→cd.mro.contains c=b):PySem.W.mroIn K C c=some b:=by
 obtain ⟨cd,a,o,_⟩:=k.ov
 unfold PySem.W.mroIn
 rw [a,Option.bind_some,if_neg (by rw [Jd o];decide),h cd a o]
theorem XCls.isObj (k:XCls K C):PySem.W.mroIn K C (.type "object")=some true:=k.mro fun cd _ o=>(v5 _ o).1
theorem Lk {ox:Obj} {od:Option Obj} {name:Str} {tk:Tok} {v:Value} (X:K.In s.heap) (I:PySem.W.InstAt s.heap x ox C od) (c:XCls K C) (ht:NoAttr K C name)
  (h:wpAny (model prog w) A.in1 (Builtin.ObjectAttr.storeInOwnDict (.ref x) (.ref C) (.str name tk) name v false)
   (fun fin s'=>match fin with | .done f=>R (.ok f) s' | .again c'=>c'.quiet=true∧codeAny (model prog w) A c' R s') (fun e s'=>R (.error e) s') s):
  codeAny (model prog w) A (.call (.builtin "object.__setattr__") ⟨[.ref x,.str name tk,v],[]⟩) R s:=by
 obtain ⟨cd,hc,ho,_⟩:=c.ov
 have sub:PySem.W.Looks (model prog w) s.heap (isInstance (.ref x) (.type "object")) true:=I.type.andThen (PySem.W.looks_mroIn X c.isObj)
 refine codeAny_call_builtin F.store_object.slot.plain F.store_object.entry (@PySem.W.check_slot (model prog w) _ _ s "object.__setattr__" "object" "__setattr__" (.ref x) [.str name tk,v] [] _ F.store_object.kind F.store_object.split sub (F.store_object.args (.ref x) (.str name tk) v) ?_)
 have hm:PySem.W.Looks (model prog w) s.heap (mroOf (.ref C)) cd.mro:=(PySem.W.looks_clsIn X hc).andThen .now
 have L3:PySem.W.Looks (model prog w) s.heap (Builtin.ObjectAttr.storeTaker? none) none:=.now
 rw [PySem.W.osa_eq,refuse_eq]
 refine wpAny_bind (wpAny_bind (I.type.here (wpAny_bind (hm.here ?_))))
 rw [o5 _ _ ho]
 refine wpAny_pure (wpAny_bind (I.type.here (wpAny_bind ((PySem.W.looks_findIn X ht).here (wpAny_bind (L3.here ?_))))))
 exact h
end
theorem Fg {H:Hp} {d x:Addr} {a b c:HO} (n:d≠x):upd (upd (upd H d a) x b) d c=upd (upd H x b) d c:=by
 funext y
 unfold upd
 by_cases h:y=d
 ·simp [h]
 ·simp [h]
section
variable {X:Cx} {pins:List (Addr×Obj)} {σ:St} {H:Hp} {s:Shared} {x C d:Addr} {fs:List (Str×V)} {f:Str} {v y:V} {u:Value} {A:Around} {E:Value→Shared→Prop}
theorem SJ {Q:Unit→Shared→Prop} (I:Inv X pins σ H s) (e:H x=some (gM x C)) (c:XCls X.K C) (n:NoAttr X.K C f) (ry:RelV y u)
  (h:∀ s' d,H d=none→d≠x→Inv X pins σ (upd (upd H x (eG x C d)) d (jG d [(f,y)])) s'→Q () s'):wpAny (model X.prog X.w) A (setAttr (.ref x) f u) Q E s:=by
 obtain ⟨⟨t,hx⟩,-,-⟩:ObjOk X.prog X.w H s.heap x (gM x C):=I.hok x _ e
 obtain ⟨cd,hc,ho,hd⟩:=c.ov
 have J:PySem.W.InstAt s.heap x (d9 C none #[.ref t,.none,.none,.none,.bool false,.none]) C none:=⟨hx,rfl,rfl,True.intro⟩
 refine PySem.W.set_plain I.kIn J c.sa (Lk (s:={s with toks:=s.toks+1}) I.kIn J c n ?_)
 refine wpAny_bind (wpAny_pure (wpAny_bind (wpAny_bind (wpAny_loadPart hx (wpAny_bind ((PySem.W.looks_clsIn (M:=model X.prog X.w) I.kIn hc).here (s:={s with toks:=s.toks+1}) ?_))))))
 rw [hd]
 have hp:s.heap.objs.size≠x:=Nat.ne_of_gt (Heap.lt_size hx)
 have hx1:(s.heap.push {cls:=.type "dict",data:=.dict #[]}).get? x=some (d9 C none #[.ref t,.none,.none,.none,.bool false,.none]):=Heap.get?_push_of_some _ hx
 have d1:(s.heap.push {cls:=.type "dict",data:=.dict #[]}).get? s.heap.objs.size=some {cls:=.type "dict",data:=.dict #[]}:=Heap.get?_push_size _ rfl
 have n1:∀ {hh:Heap},hh.get? s.heap.objs.size=some {cls:=.type "dict",data:=.dict #[]}→hh.Ns1 s.heap.objs.size (fun _=>none):=fun q=>Heap.Ns1.of_empty ⟨_,#[],_,q,rfl,fun e he=>absurd he (by simp),fun _=>rfl⟩
 have I1:Inv X pins σ (upd H s.heap.objs.size (jG s.heap.objs.size [])) {s with heap:=s.heap.push {cls:=.type "dict",data:=.dict #[]},toks:=s.toks+1}:=
  I.laid (t':=s.toks+1) (fun b o q=>Heap.get?_push_of_some _ q) (Nat.le_refl _) (uG (n1 d1) fun g=>True.intro)
 refine wpAny_bind (wpAny_alloc' ?_)
 refine wpAny_bind (wpAny_update' hx1 ?_)
 have hx2:=Heap.get?_update_self (fun o:Obj=>({o with dict:=some s.heap.objs.size}:Obj)) hx1 rfl
 have ot:∀ b,b≠x→((s.heap.push {cls:=.type "dict",data:=.dict #[]}).update x fun o=>{o with dict:=some s.heap.objs.size}).get? b=(s.heap.push {cls:=.type "dict",data:=.dict #[]}).get? b:=fun b hb=>Heap.get?_update_other _ _ (Ne.symm hb)
 have e1:upd H s.heap.objs.size (jG s.heap.objs.size []) x=some (gM x C):=(az (Ne.symm hp)).trans e
 have I2:Inv X pins σ (upd (upd H s.heap.objs.size (jG s.heap.objs.size [])) x (eG x C s.heap.objs.size)) {s with heap:=(s.heap.push {cls:=.type "dict",data:=.dict #[]}).update x fun o=>{o with dict:=some s.heap.objs.size},toks:=s.toks+1}:=
  I1.write (t':=s.toks+1) (x:=x) (e:=x) (by rw [e1];exact True.intro) (.inl rfl) (fun b o hb q=>(ot b hb).trans q) ⟨_,hx2⟩ (Br hx2)
 refine wpAny_pure (wpAny_bind (wpAny_pure (wpAny_bind ?_)))
 refine wpAny_nsSet1 (n1 ((ot _ hp).trans d1)) fun h' hn' hs=>?_
 obtain ⟨oD,esD,epD,hoD,hdD,hcD⟩:=hn'.count (PySem.Within.cons f u PySem.Within.nil)
 refine wpAny_bind (wpAny_lookBehind hoD (by rw [hdD];exact pastItsLine_dict (Nat.le_trans hcD (by rw [List.length_cons,List.length_nil,sizeLine_eq];omega))) ?_)
 refine wpAny_pure (h _ s.heap.objs.size (I.hok.fresh (Nat.le_refl _)) hp ?_)
 rw [← Fg (a:=jG s.heap.objs.size []) hp]
 refine I2.write (x:=s.heap.objs.size) (e:=s.heap.objs.size) (by rw [az hp,ak];exact True.intro) (.inl rfl) (fun b o hb q=>(hs.2 b hb).trans q) ⟨_,hoD⟩ (uG hn' fun g=>?_)
 by_cases q:g=f
 ·have qb:(g == f)=true:=beq_iff_eq.mpr q
  simp only [List.lookup,qb,if_pos q]
  exact ry
 ·have qb:(g == f)=false:=beq_eq_false_iff_ne.mpr q
  simp only [List.lookup,qb,if_neg q]
  exact True.intro
end
end L2
namespace L2
open PySem PySem.Spec PyProof.Rows
section
variable {X:Cx} {pins:List (Addr×Obj)} {σ:St} {H:Hp} {s:Shared} {x C d:Addr} {fs:List (Str×V)} {f:Str} {v y:V} {u:Value} {A:Around} {E:Value→Shared→Prop}
theorem Je {h:Heap} {P:Program} {w:World} (ok:HOk P w H h) (e:H x=some (eG x C d)) (e2:H d=some (jG d fs)):d≠x:=fun z=>by
 subst z
 obtain ⟨t,a⟩:=n6 ok e
 obtain ⟨mA,⟨o,es,ep,b,q,_⟩,_⟩:=zG ok e2
 rw [a] at b;cases b;cases q
theorem SM {Q:Unit→Shared→Prop} (I:Inv X pins σ H s) (e:H x=some (eG x C d)) (e2:H d=some (jG d fs)) (hl:fs.length < 1000) (c:XCls X.K C) (n:NoAttr X.K C f) (ry:RelV y u)
  (h:∀ s',Inv X pins σ (upd H d (jG d (iG f y fs))) s'→Q () s'):wpAny (model X.prog X.w) A (setAttr (.ref x) f u) Q E s:=by
 have ne:=Je I.hok e e2
 obtain ⟨vs,hx⟩:=n6 I.hok e
 obtain ⟨mA,nA,rA⟩:=zG I.hok e2
 obtain ⟨cd,hc,ho,hd⟩:=c.ov
 have J:PySem.W.InstAt s.heap x (d9 C (some d) #[.ref vs,.none,.none,.none,.bool false,.none]) C (some (Classical.choose nA)):=⟨hx,rfl,rfl,let ⟨_,_,q,_⟩:=Classical.choose_spec nA;q⟩
 refine PySem.W.set_plain I.kIn J c.sa (Lk (s:={s with toks:=s.toks+1}) I.kIn J c n ?_)
 refine wpAny_bind (wpAny_pure (wpAny_bind (wpAny_bind (wpAny_loadPart hx (wpAny_bind ((PySem.W.looks_clsIn (M:=model X.prog X.w) I.kIn hc).here (s:={s with toks:=s.toks+1}) ?_))))))
 rw [hd]
 refine wpAny_pure (a:=some d) (wpAny_bind (wpAny_pure (wpAny_bind ?_)))
 refine wpAny_nsSet1 (s:={s with toks:=s.toks+1}) nA fun h' hn' hs=>?_
 have wi:PySem.Within mA (fs.map (·.1)):=fun z hz=>by
  have r:=rA z
  cases q:fs.lookup z with
  | none=>rw [q] at r;exact absurd (RelO.none_of r) hz
  | some a=>exact List.mem_map.mpr ⟨(z,a),PySem.mem_of_lookup q,rfl⟩
 obtain ⟨oD,esD,epD,hoD,hdD,hcD⟩:=hn'.count (PySem.Within.cons f u wi)
 refine wpAny_bind (wpAny_lookBehind hoD (by rw [hdD];exact pastItsLine_dict (Nat.le_trans hcD (by rw [List.length_cons,List.length_map,sizeLine_eq];omega))) ?_)
 refine wpAny_pure (h _ ?_)
 refine I.write (x:=d) (e:=d) (by rw [e2];exact True.intro) (.inl rfl) (fun b o hb q=>(hs.2 b hb).trans q) ⟨_,hoD⟩ (uG hn' fun g=>?_)
 rw [jQ]
 by_cases q:g=f
 ·rw [if_pos q,if_pos q];exact ry
 ·rw [if_neg q,if_neg q];exact rA g
end
end L2
namespace L2
open PySem PySem.Spec PyProof.Rows
def zH (K:PySem.W.Frag) (C:Addr):Bool:=Oz K C && PySem.W.findIn K (.ref C) "__class__" == some (some (.builtin "object.__class__")) && PySem.W.specialIn K (.builtin "object.__class__") "__get__" == some (some (.builtin "getset_descriptor.__get__")) && PySem.W.takesIn K (.builtin "object.__class__") == some true
structure Vm (K:PySem.W.Frag) (C:Addr):Prop where
 cls:XCls K C
 ca:PySem.W.findIn K (.ref C) "__class__"=some (some (.builtin "object.__class__"))
 cg:PySem.W.specialIn K (.builtin "object.__class__") "__get__"=some (some (.builtin "getset_descriptor.__get__"))
 ct:PySem.W.takesIn K (.builtin "object.__class__")=some true
theorem Fi {K:PySem.W.Frag} {C:Addr} (h:zH K C=true):Vm K C:=by
 unfold zH at h
 simp only [Bool.and_eq_true,beq_iff_eq] at h
 exact ⟨Jc h.1.1.1,h.1.1.2,h.1.2,h.2⟩
section
variable {prog:Program} {w:World} {A:Around} {E:Value→Shared→Prop} {s:Shared} {K:PySem.W.Frag} {x C:Addr} {ox od:Obj}
end
def Ln (H:Hp) (x C:Addr) (fs:List (Str×V)):Prop:=∃ d,H x=some (qF x C d)∧H d=some (jG d fs)
section
variable {X:Cx} {pins:List (Addr×Obj)} {σ:St} {H:Hp} {s:Shared} {A:Around} {E:Value→Shared→Prop} {Q:Value→Shared→Prop} {c:Value} {b:Bool}
end
end L2
namespace L2
open PySem PySem.Spec PyProof.Rows
def Bs (P:Program) (w:World) (K:PySem.W.Frag) (mg:Str→Option Value) (base:Heap) (k:Nat) (x:Str) (ps:List Str) (sp:Sp):Prop:=
 ∃ f fd,mg x=some (.ref f)∧PySem.W.keepIn K (.ref f)=true∧Binds K fd ps []∧mQ P w K mg base (Jb P w) k f fd ps sp
def ye (sp:Sp) (R:St→XK) (t:TA):TE:=fun σ H Q=>t σ H fun vs H1=>sp vs H1 Q (R σ)
theorem iw {X:Cx} (h:∀ (e:Value) (s:Shared),X.xe e s=False):jP X (fun _ _ _ _=>False):=fun _ _ _ ⟨_,_,_,_,_,_,_,_,z⟩=>z.elim
section
variable {X:Cx} {k:Nat} {f C:Addr} {fd:FuncData} {ps:List Str} {sp:Sp} {R:St→XK} {x:Str} {p pos:Pos} {e:Expr} {es:List Expr} {t:TA} {pins:List (Addr×Obj)} {σ:St} {H:Hp} {s:Shared} {Q:VK} {us:List Value} {vs:List V}
theorem uH (F:mQ X.prog X.w X.K X.mg X.base (Jb X.prog X.w) k f fd ps sp) (hr:Room k X.A) (hb:Binds X.K fd ps []) (hx:jP X R) (I:Inv X pins σ H s) (r:Vals vs us) (h:sp vs H Q (R σ)):
  wpAny (model X.prog X.w) X.A (call (.ref f) us) (EP X pins σ Q) X.xe s:=by
 have hl:(us ++ []).length=ps.length:=by rw [List.append_nil,← r.length];exact F.len _ _ _ _ h
 have bd:=hb s us I.kIn hl
 rw [List.append_nil] at bd
 refine wpAny_call (codeAny_mono (F.run X.A X.stack s H ⟨us,[]⟩ us vs Q (R σ) hr I.env0 bd r h) fun rr s' hq=>?_)
 cases rr with
 | error e=>exact hx pins e s' (zF I hq)
 | ok fl=>
  cases fl with
  | ret u=>exact I.after hq
  | next=>exact False.elim hq
  | brk=>exact False.elim hq
  | cont=>exact False.elim hq
theorem Fj (F:Bs X.prog X.w X.K X.mg X.base k x ps sp) (hr:Room k X.A) (hg:Gl X x) (hx:jP X R) (ha:PA X (e :: es) t) (hdb:(x == ("__debug__":Str))=false)
  (he:starEach (e :: es) X.env=(false,eval e X.env) :: starEach es X.env) (hpl:(backTo pos (starEach es X.env)).any (·.1)=false):PE X (.Call (.Name x p) (e :: es) [] pos) (ye sp R t):=by
 obtain ⟨f,fd,a,b,c,d⟩:=F
 intro pins s σ H Q I h
 refine wpAny_Call_Name_kw (mO I hg a ?_ hdb)
 refine PySem.W.callWith_K (h₀:=X.base) I.ok.mod.kin b (cZ (ha pos pins s σ H _ I h) fun us s1 ⟨vs,H1,I1,r,q⟩=>⟨I1.kIn,?_⟩) he hpl
 exact uH d hr c hx I1 r q
def Fl (K:PySem.W.Frag) (ta tv:TE) (f:Str):TS:=fun D σ H=>tv σ H fun y H1=>ta σ H1 fun x H2=>∃ a C,x= .ref a∧XCls K C∧NoAttr K C f∧
 ((H2 a=some (gM a C)∧∀ d,H2 d=none→d≠a→D.nx σ (upd (upd H2 a (eG a C d)) d (jG d [(f,y)])))∨
  (∃ d fs,H2 a=some (eG a C d)∧H2 d=some (jG d fs)∧fs.length < 1000∧D.nx σ (upd H2 d (jG d (iG f y fs)))))
theorem Jf {o value:Expr} {ta tv:TE} {fn:Str} {pos':Pos} (ha:PE X o ta) (hv:PE X value tv) (hs:swapsWith value (some (.Attribute o fn pos')) pos.line X.env=pure false):PS X (.Assign [.Attribute o fn pos'] value pos) (Fl X.K ta tv fn):=by
 intro pins s σ H D I h
 refine plainObj_wpAny_Assign_Attribute (cZ (hv pins s σ H _ I h) fun u s1 ⟨y,H1,I1,ry,q⟩=>cZ (ha pins s1 σ H1 _ I1 q) fun ov s2 qq0=>?_) hs
 obtain ⟨x,H2,I2,rx,a,C,ex,c,n,q2⟩:=qq0
 subst ex
 obtain rfl:ov=Value.ref a:=rx
 rcases q2 with ⟨e,q2⟩ | ⟨d,fs,e,e2,hl,q2⟩
 ·exact SJ I2 e c n ry fun s3 d z1 z2 I3=>⟨σ,_,I3,q2 d z1 z2⟩
 ·exact SM I2 e e2 hl c n ry fun s3 I3=>⟨σ,_,I3,q2⟩
def uI (C:Addr) (fl:List Str):Sp:=fun vs H Q E=>∃ x ws,vs= .ref x :: ws∧ws.length=fl.length∧H x=some (gM x C)∧∀ d,H d=none→d≠x→Q .non (upd (upd H x (eG x C d)) d (jG d (fl.zip ws)))
structure Rk (P:Program) (w:World) (K:PySem.W.Frag) (mg:Str→Option Value) (base:Heap) (k:Nat) (x:Str) (C:Addr) (fl:List Str):Prop where
 at_:mg x=some (.ref C)
 cl:Vm K C
 kp:PySem.W.keepIn K (.ref C)=true
 na:∀ f∈fl,NoAttr K C f
 run:∃ f fd ps,PySem.W.findIn K (.ref C) "__init__"=some (some (.ref f))∧PySem.W.typeIn K (.ref f)=some (.type "function")∧Binds K fd ps []∧mQ P w K mg base xK k f fd ps (uI C fl)
def yf (C:Addr) (fl:List Str) (R:St→XK) (t:TA):TS:=fun _ σ H=>t σ H fun vs H1=>vs.length=fl.length∧vs.length≤sizeLine∧∀ x H2,Same H1 H2→Ln H2 x C (fl.zip vs)→R σ (.ref C) (some x) H2
theorem OD {Q:Value→Shared→Prop} {E:Value→Shared→Prop} {fl:List Str} (M:Rk X.prog X.w X.K X.mg X.base k x C fl) (hr:Room (k+1) X.A) (I:Inv X pins σ H s) (r:Vals vs us) (hl:vs.length=fl.length) (hz:vs.length≤sizeLine)
  (q:∀ a d s',H a=none→H d=none→d≠a→Inv X pins σ (upd (upd (upd H a (gM a C)) a (eG a C d)) d (jG d (fl.zip vs))) s'→Q (.ref a) s'):wpAny (model X.prog X.w) X.A (call (.ref C) us) Q E s:=by
 obtain ⟨f,fd,ps,hi,hf,hb,F⟩:=M.run
 refine Ox I.kIn M.cl.cls.xi hi hf (by rw [← r.length];exact hz) ?_
 have I1:Inv X pins σ H {s with heap:=s.heap.push {cls:=.type "tuple",data:=.seq us.toArray}}:=I.kept (t':=s.toks) fun b o e=>Heap.get?_push_of_some _ e
 have sz1:(s.heap.push {cls:=.type "tuple",data:=.seq us.toArray}).objs.size=s.heap.objs.size+1:=Heap.size_push _ _
 have hfr:H (s.heap.objs.size+1)=none:=I.hok.fresh (Nat.le_succ _)
 have gx:((s.heap.push {cls:=.type "tuple",data:=.seq us.toArray}).push (d9 C none #[.ref s.heap.objs.size,.none,.none,.none,.bool false,.none])).get? (s.heap.objs.size+1)=some (d9 C none #[.ref s.heap.objs.size,.none,.none,.none,.bool false,.none]):=by
  rw [← sz1];exact Heap.get?_push_size _ rfl
 have I2:Inv X pins σ (upd H (s.heap.objs.size+1) (gM (s.heap.objs.size+1) C)) {s with heap:=(s.heap.push {cls:=.type "tuple",data:=.seq us.toArray}).push (d9 C none #[.ref s.heap.objs.size,.none,.none,.none,.bool false,.none])}:=
  I1.laid (t':=s.toks) (fun b o e=>Heap.get?_push_of_some _ e) (by show (s.heap.push _).objs.size≤_;rw [sz1];exact Nat.le_refl _) ⟨⟨_,gx⟩,⟨_,gx⟩,fun h1 h2 ⟨t,z⟩ kk=>⟨t,kk _ z⟩⟩
 have r2:Vals (V.ref (s.heap.objs.size+1) :: vs) (Value.ref (s.heap.objs.size+1) :: us):=.cons rfl r
 have sp0:uI C fl (V.ref (s.heap.objs.size+1) :: vs) (upd H (s.heap.objs.size+1) (gM (s.heap.objs.size+1) C)) (fun v H2=>v= .non∧∃ d,H d=none∧d≠s.heap.objs.size+1∧H2=upd (upd (upd H (s.heap.objs.size+1) (gM (s.heap.objs.size+1) C)) (s.heap.objs.size+1) (eG (s.heap.objs.size+1) C d)) d (jG d (fl.zip vs))) E0:=
  ⟨_,_,rfl,hl,ak,fun d hd ne=>⟨rfl,d,by rw [az ne] at hd;exact hd,ne,rfl⟩⟩
 have hl2:((Value.ref (s.heap.objs.size+1) :: us) ++ []).length=ps.length:=by rw [List.append_nil,← r2.length];exact F.len _ _ _ _ sp0
 have bd:=hb _ (Value.ref (s.heap.objs.size+1) :: us) I2.kIn hl2
 rw [List.append_nil] at bd
 refine wpAny_call (codeAny_mono (F.run _ X.stack _ _ ⟨Value.ref (s.heap.objs.size+1) :: us,[]⟩ (Value.ref (s.heap.objs.size+1) :: us) _ _ E0 (hr.make C us []) (I2.env0.make C us []) bd r2 sp0) fun rr s' hq=>?_)
 cases rr with
 | error e=>exact False.elim hq
 | ok fl=>
  cases fl with
  | ret u=>
   obtain ⟨v,H',I3,rv,ev,d,hd,ne,eH⟩:=I2.after hq
   subst ev
   rw [eH] at I3
   exact ⟨rv,q _ d s' hfr hd ne I3⟩
  | next=>exact False.elim hq
  | brk=>exact False.elim hq
  | cont=>exact False.elim hq
theorem thrown {env:Env} {C:Addr} {Q:Flow→Shared→Prop} {m:Sem Value} (hc:X.calm=true) (c:Vm X.K C) (hx:jP X R)
  (h:wpAny (model X.prog X.w) X.A m (fun v s1=>∃ x d H1,v= .ref x∧Inv X pins σ H1 s1∧H1 x=some (eG x C d)∧R σ (.ref C) (some x) (upd H1 x (qF x C d))) X.xe s):
  wpAny (model X.prog X.w) X.A (raiseStmt env (some m) none) Q X.xe s:=by
 obtain ⟨nm,qn,N,bs,bm,sn,sub,ab,col,dd,k0,k1,k2,k3,k5,lk0,tl⟩:=yd c.cls.xi
 unfold raiseStmt
 refine wpAny_bind (cZ h fun v s1 qq0=>?_)
 obtain ⟨x,d,H1,ev,I1,e1,r1⟩:=qq0
 subst ev
 have KI:=I1.kIn
 obtain ⟨t,he⟩:=n6 I1.hok e1
 have hh:X.A.handled=none:=I1.ok.hd hc
 have hcB:(Value.ref C :: bm).contains (.type "BaseException")=true:=by
  rw [List.contains_cons,(tl _ KI).hasType (show Vl.contains (.type "BaseException")=true from by decide)];rfl
 have fin:X.xe (.ref x) s1:=by
  have I2:Inv X pins σ (upd H1 x (qF x C d)) s1:=I1.write (t':=s1.toks) (x:=x) (e:=x) (h':=s1.heap) (by rw [e1];exact True.intro) (.inl rfl) (fun b o _ z=>z) ⟨_,he⟩ (zE he rfl)
  exact hx pins _ s1 ⟨x,C,d,σ,_,rfl,I2,⟨ak,.inl ⟨_,he,rfl,rfl⟩⟩,r1⟩
 have hD:=KI _ _ lk0
 obtain ⟨hp,g,dr,tk,os⟩:=s1
 unfold d9 at he
 repeat (first | with_reducible refine wpAny_loadPart_at he ?_ | with_reducible refine wpAny_loadPart_at hD ?_ | (with_reducible refine wpAny_isSubtype_exc hD ?_;rw [hcB]) | wp_step)
 exact wpAny_raiseNew_none hh fin
end
end L2
namespace L2
open PySem PySem.Spec PyProof.Rows
section
variable {X:Cx} {k:Nat} {C:Addr} {R:St→XK} {x:Str} {p cpos pos:Pos} {e:Expr} {es:List Expr} {t:TA} {fl:List Str}
theorem v6 {H:Hp} {a d:Addr} {vs:List V} (ha:H a=none) (hd:H d=none) (ne:d≠a):Same H (upd (upd (upd (upd H a (gM a C)) a (eG a C d)) d (jG d (fl.zip vs))) a (qF a C d))∧
  Ln (upd (upd (upd (upd H a (gM a C)) a (eG a C d)) d (jG d (fl.zip vs))) a (qF a C d)) a C (fl.zip vs):=by
 refine ⟨fun b o h=>?_,d,ak,by rw [az ne,ak]⟩
 have na:b≠a:=fun z=>by rw [z,ha] at h;cases h
 have nd:b≠d:=fun z=>by rw [z,hd] at h;cases h
 rw [az na,az nd,az na,az na]
 exact h
theorem Fo (M:Rk X.prog X.w X.K X.mg X.base k x C fl) (hr:Room (k+1) X.A) (hc:X.calm=true) (hg:Gl X x) (hx:jP X R) (ha:PA X (e :: es) t) (hdb:(x == ("__debug__":Str))=false)
  (he:starEach (e :: es) X.env=(false,eval e X.env) :: starEach es X.env) (hpl:(backTo cpos (starEach es X.env)).any (·.1)=false):PS X (.Raise (some (.Call (.Name x p) (e :: es) [] cpos)) none pos) (yf C fl R t):=by
 intro pins s σ H D I h
 rw [arm_exec_Raise]
 refine wpAny_bind (wpAny_standAt (thrown (pins:=pins) (σ:=σ) (C:=C) hc M.cl hx (wpAny_bind (cZ (Q:=fun v s1=>∃ x d H1,v= .ref x∧Inv X pins σ H1 s1∧H1 x=some (eG x C d)∧R σ (.ref C) (some x) (upd H1 x (qF x C d))) ?_ fun v s3 h3=>wpAny_bind (wpAny_standAt (wpAny_pure h3))))))
 refine wpAny_Call_Name_kw (mO I hg M.at_ ?_ hdb)
 refine PySem.W.callWith_K (h₀:=X.base) I.ok.mod.kin M.kp (cZ (ha cpos pins s σ H _ I h) fun us s1 ⟨vs,H1,I1,r,hl,hz,q⟩=>⟨I1.kIn,?_⟩) he hpl
 refine OD M hr I1 r hl hz fun a d s2 z1 z2 ne I2=>⟨a,d,_,rfl,I2,?_,?_⟩
 ·rw [az (Ne.symm ne),ak]
 ·obtain ⟨w1,w2⟩:=v6 (C:=C) (fl:=fl) (vs:=vs) z1 z2 ne
  exact q a _ w1 w2
theorem PS.nox {st:Stmt} {t:TS} (h:PS X.nox st t):PS X st t:=fun pins s σ H D I hw=>
 wpAny_mono (h pins s σ H D (I.wish _) hw) (fun _ _ q=>q.unwish) fun _ _ z=>False.elim z
end
section
variable {X:Cx} {pins:List (Addr×Obj)} {σ σ':St} {H:Hp} {s:Shared} {h':Heap}
end
end L2
namespace L2
open PySem PySem.Spec PyProof.Rows
section
variable {X:Cx} {pins pins':List (Addr×Obj)} {σ:St} {H:Hp} {s:Shared} {x C d T:Addr} {R:St→XK} {D:Ends}
abbrev TH:=Ends→St→Addr→Addr→Hp→Prop
def PH (X:Cx) (hs:List ExceptHandler) (th:TH):Prop:=∀ (pins:List (Addr×Obj)) (s:Shared) (σ:St) (H:Hp) (D:Ends) (x C d T:Addr),Inv X pins σ H s→Head X pins H x C d T s.heap→th D σ x C H→
 wpAny (model X.prog X.w) X.A (handleBy (.ref x) X.env hs) (SP X pins D) X.xe s
variable {nm n:Str} {P:Addr} {i:Nat} {p pos:Pos} {b0:Stmt} {suite:List Stmt} {ts:TS} {th:TH} {hs:List ExceptHandler}
end
end L2
namespace L2
open PySem PySem.Spec PyProof.Rows
def aZ (mg:Str→Option Value) (x:Str):Addr:=match mg x with
 | some (.ref a)=>a
 | _=>0
theorem ni {mg:Str→Option Value} {x:Str} {C:Addr} (h:mg x=some (.ref C)):aZ mg x=C:=by unfold aZ;rw [h]
structure OJ (K:PySem.W.Frag) (mg:Str→Option Value) (x:Str):Prop where
 at_:mg x=some (.ref (aZ mg x))
 cl:Vm K (aZ mg x)
theorem SN {K:PySem.W.Frag} {mg:Str→Option Value} {h:Heap} (X:K.In h) (G:h.Ns mainGlobals mg) {x:Str} {C:Addr} (a:PySem.W.nsIn K mainGlobals x=some (some (.ref C))) (b:zH K C=true):OJ K mg x:=by
 have m:=PySem.W.mg_of X G a
 have e:=ni m
 exact ⟨by rw [e];exact m,by rw [e];exact Fi b⟩
structure Bt (K:PySem.W.Frag) (mg:Str→Option Value) (x:Str) (fl:List Str) (qual:Str) (st:Stmt):Prop where
 c:OJ K mg x
 kp:PySem.W.keepIn K (.ref (aZ mg x))=true
 na:∀ f∈fl,NoAttr K (aZ mg x) f
 ini:∃ f fd,PySem.W.findIn K (.ref (aZ mg x)) "__init__"=some (some (.ref f))∧PySem.W.typeIn K (.ref f)=some (.type "function")∧Fun K "__init__" qual st f fd
def Fp (K:PySem.W.Frag) (C:Addr) (fl:List Str):Bool:=fl.all fun n=>PySem.W.findIn K (.ref C) n == some none
theorem Lp {K:PySem.W.Frag} {mg:Str→Option Value} {h:Heap} (X:K.In h) (G:h.Ns mainGlobals mg) {x qual:Str} {C f:Addr} {fl:List Str} {st:Stmt} {oc:Value} {od an:Option Addr} {osl:Array (Option Value)} {kV doc pm cdv ct:Value}
  (a:PySem.W.nsIn K mainGlobals x=some (some (.ref C))) (b:zH K C=true) (kp:PySem.W.keepIn K (.ref C)=true) (na:Fp K C fl=true)
  (i:PySem.W.findIn K (.ref C) "__init__"=some (some (.ref f))) (t:PySem.W.typeIn K (.ref f)=some (.type "function"))
  (l:K.lookup f=some ⟨oc,od,.func (PySem.W.fnOf "__init__" qual (dM st) (bY st) (au st) .none kV doc pm an cdv ct),osl⟩) (c:PySem.W.codeIn K cdv qual=true) (k:PySem.W.keepIn K (.ref f)=true):Bt K mg x fl qual st:=by
 have m:=PySem.W.mg_of X G a
 have e:=ni m
 refine ⟨SN X G a b,by rw [e];exact kp,fun n hn=>?_,f,_,by rw [e];exact i,t,xM l c k⟩
 rw [e]
 have:=List.all_eq_true.mp na n hn
 exact beq_iff_eq.mp this
structure Sub (K:PySem.W.Frag) (mg:Str→Option Value) (x y:Str) (b:Bool):Prop where
 mro:PySem.W.mroIn K (aZ mg x) (.ref (aZ mg y))=some b
 one:PySem.W.kitOne K (.ref (aZ mg x)) (.ref (aZ mg y))=some b
structure JH (X:Cx) (hs:List ExceptHandler) (th:TH):Prop where
 run:PH X hs th
section
variable {X:Cx} {K:PySem.W.Frag} {k:Nat} {x n fn:Str} {ps:List Str} {sp:Sp} {R:St→XK} {p pos cpos pos':Pos} {e o value:Expr} {es:List Expr} {t:TA} {ta tv:TE} {st:Stmt} {u ts:TS} {th:TH} {hs:List ExceptHandler} {i:Nat}
theorem pQ (F:Bs X.prog X.w X.K X.mg X.base k x ps sp) (hr:Room k X.A) (hg:Gl X x) (hx:jP X R) (ha:JA X (e :: es) t) (hdb:(x == ("__debug__":Str))=false) (h:autoParam ((e :: es).all notStar=true) L2.auto4._auto_1):
  JE X (.Call (.Name x p) (e :: es) [] pos) (ye sp R t):=by
 have h1:notStar e=true:=by simp only [List.all_cons,Bool.and_eq_true] at h;exact h.1
 have h2:es.all notStar=true:=by simp only [List.all_cons,Bool.and_eq_true] at h;exact h.2
 exact ⟨Fj F hr hg hx ha.run hdb (bj h1) (iH h2)⟩
theorem O1 (h:JS X.nox st u):JS X st u:=⟨h.run.nox⟩
theorem zJ (hK:X.K=K) (ha:JE X o ta) (hv:JE X value tv) (h:autoParam (gB value=true) L2.auto4._auto_1):JS X (.Assign [.Attribute o fn pos'] value pos) (Fl K ta tv fn):=by
 subst hK
 exact ⟨Jf ha.run hv.run (tH h)⟩
theorem v7 {fl:List Str} (M:Rk X.prog X.w X.K X.mg X.base k x (aZ X.mg x) fl) (hr:Room (k+1) X.A) (hc:X.calm=true) (hg:Gl X x) (hx:jP X R) (ha:JA X (e :: es) t) (hdb:(x == ("__debug__":Str))=false) (h:autoParam ((e :: es).all notStar=true) L2.auto4._auto_1):
  JS X (.Raise (some (.Call (.Name x p) (e :: es) [] cpos)) none pos) (yf (aZ X.mg x) fl R t):=by
 have h1:notStar e=true:=by simp only [List.all_cons,Bool.and_eq_true] at h;exact h.1
 have h2:es.all notStar=true:=by simp only [List.all_cons,Bool.and_eq_true] at h;exact h.2
 exact ⟨Fo M hr hc hg hx ha.run hdb (bj h1) (iH h2)⟩
end
section
variable {P:Program} {w:World} {K:PySem.W.Frag} {mg:Str→Option Value} {base:Heap}
theorem Fq {x:Str} {st:Stmt} {N ps:List Str} {k:Nat} {sp:Sp} (D:gj K mg x st) (S:aF N ps (au st))
  (hb:∀ (kV doc pm:Value) (an:Option Addr) (cdv ct:Value) (us:List Value),us.length=ps.length→bindArgs (PySem.W.fnOf x x (dM st) (bY st) (au st) .none kV doc pm an cdv ct) ⟨us,[]⟩=pure (ps.zip us))
  (len:∀ vs H Q E,sp vs H Q E→vs.length=ps.length)
  (hbody:∀ (f:Addr) (cdv:Value) (A:Around) (outer:List Env) (s:Shared) (H:Hp) (vs:List V) (Q:VK) (E:XK),Room k (A.deeper (envOfC x (au st) s.heap.objs.size f cdv))→sp vs H Q E→
   ∃ t,JB (mq (Jb P w) P w K mg base N x (au st) f cdv A outer s H E) (bY st) t∧t {nx:=fun _ H'=>Q .non H',rt:=Q} (start N vs) H):Bs P w K mg base (k+1) x ps sp:=by
 obtain ⟨f,fd,F,hm⟩:=D
 refine ⟨f,fd,hm,F.kp,F.binds hb,?_⟩
 obtain ⟨oc,od,kV,doc,pm,an,cdv,ct,osl,rfl,lk,hcd⟩:=F.ex
 exact Dm lk hcd S len fun A outer s H vs Q E hr h=>let ⟨t,j,q⟩:=hbody f cdv A outer s H vs Q E hr h;⟨t,j.run,q⟩
theorem mkX {x qual:Str} {st:Stmt} {N ps:List Str} {fl:List Str} {k:Nat} (D:Bt K mg x fl qual st) (S:aF N ps (au st))
  (hb:∀ (kV doc pm:Value) (an:Option Addr) (cdv ct:Value) (us:List Value),us.length=ps.length→bindArgs (PySem.W.fnOf "__init__" qual (dM st) (bY st) (au st) .none kV doc pm an cdv ct) ⟨us,[]⟩=pure (ps.zip us))
  (hl:ps.length=fl.length+1)
  (hbody:∀ (f:Addr) (cdv:Value) (A:Around) (outer:List Env) (s:Shared) (H:Hp) (vs:List V) (Q:VK) (E:XK),Room k (A.deeper (envOfC qual (au st) s.heap.objs.size f cdv))→uI (aZ mg x) fl vs H Q E→
   ∃ t,JB (mq xK P w K mg base N qual (au st) f cdv A outer s H E).nox (bY st) t∧t {nx:=fun _ H'=>Q .non H',rt:=Q} (start N vs) H):Rk P w K mg base (k+1) x (aZ mg x) fl:=by
 obtain ⟨f,fd,a,b,F⟩:=D.ini
 refine ⟨D.c.at_,D.c.cl,D.kp,D.na,f,fd,ps,a,b,F.binds hb,F.ok S (fun vs H Q E h=>?_) fun cdv A outer s H vs Q E hr h=>let ⟨t,j,q⟩:=hbody f cdv A outer s H vs Q E hr h;⟨t,j.run,q⟩⟩
 obtain ⟨y,ws,rfl,hw,_⟩:=h
 rw [List.length_cons,hw,hl]
end
end L2
namespace L2
open PySem PySem.Spec PyProof.Rows
def initOf:Stmt→Stmt
 | .ClassDef _ _ _ (s :: _) _ _ _ _ _ _ _=>s
 | s=>s
section
variable {σ:St} {H:Hp} {D:Ends} {Q:VK} {sp:Sp} {R:St→XK} {a:TA} {K:PySem.W.Frag} {C P:Addr} {fl:List Str} {th:TH} {ts:TS} {i:Nat} {ta:TE} {f:Str}
theorem fX (h:a σ H fun vs H1=>sp vs H1 Q (R σ)):ye sp R a σ H Q:=h
theorem fY (h:a σ H fun vs H1=>vs.length=fl.length∧vs.length≤sizeLine∧∀ x H2,Same H1 H2→Ln H2 x C (fl.zip vs)→R σ (.ref C) (some x) H2):yf C fl R a D σ H:=h
theorem rd1 {f1 p0 p1:Str} {vs:List V} {E:XK} (c:XCls K C) (n:NoAttr K C f1) (h:uI C [f1] vs H Q E):Fl K (lA 0) (lA 1) f1 {nx:=fun _ H'=>Q .non H',rt:=Q} (start [p0,p1] vs) H:=by
 obtain ⟨x,ws,rfl,hw,hx,q⟩:=h
 match ws,hw with
 | [v],_=>exact ⟨v,rfl,.ref x,rfl,x,C,rfl,c,n,.inl ⟨hx,fun d hd ne=>q d hd ne⟩⟩
end
end L2
namespace L2
open PySem PySem.Spec PyProof.Rows
section
variable {X:Cx} {tg:Expr}
end
section
variable {σ:St} {H:Hp} {Q:VK}
end
section
variable {X:Cx} {e:Expr} {te:TE} {lo hi:Option Expr} {st:Expr} {tl th ts:TO} {pos p2:Pos}
end
section
variable {σ:St} {H:Hp} {Q:VK} {te:TE}
end
def SQ (K:PySem.W.Frag) (neg:Bool):R2:=fun x y H Q=>∃ a b xs,x= .ref a∧y= .ref b∧SqL K H a xs∧SqL K H b xs∧(∀ v∈xs,jw v=true∨∃ r,v= .ref r)∧Q (.bl (!neg)) H
theorem qG {v:V} (f:jw v=true):vK v v=true:=by
 cases v <;> first | (cases f;done) | rfl | (simp [vK])
section
variable {X:Cx}
theorem O2 (hu:X.A.units < cLine):OpR X (compareOp .Eq) (SQ X.K false):=by
 intro pins s σ H x y v u Q I rx ry h
 obtain ⟨a,b,xs,rfl,rfl,ha,hb,fx,q⟩:=h
 cases rx
 cases ry
 obtain ⟨its,r1,p1,z1⟩:=I.list ha
 obtain ⟨jts,r2,p2,z2⟩:=I.list hb
 have l1:its.toArray.size=xs.length:=by simpa using r1.length.symm
 have l2:jts.toArray.size=xs.length:=by simpa using r2.length.symm
 refine SeqAt.eq_listAt (e:=fun _=>true) p1.isList p2.isList (by rw [l1,l2]) hu (fun j h1 h2=>?_) ?_
 ·have hj:j < xs.length:=by omega
  obtain ⟨u1,e1,q1⟩:=r1.get (List.getElem?_eq_getElem hj)
  obtain ⟨u2,e2,q2⟩:=r2.get (List.getElem?_eq_getElem hj)
  have f1:its.toArray[j]=u1:=by
   obtain ⟨_,z⟩:=List.getElem?_eq_some_iff.mp e1
   simpa using z
  have f2:jts.toArray[j]=u2:=by
   obtain ⟨_,z⟩:=List.getElem?_eq_some_iff.mp e2
   simpa using z
  rw [f1,f2]
  rcases fx _ (List.getElem_mem hj) with f | ⟨r,f⟩
  ·rw [← qG f]
   exact uq q1 q2 f f
  ·rw [f] at q1 q2
   cases (show u1=Value.ref r from q1)
   cases (show u2=Value.ref r from q2)
   exact SeqAt.EqAt.same _
 ·have e:(List.range its.toArray.size).all (fun _=>true)=true:=by simp
  rw [e]
  exact ⟨.bl true,H,I,rfl,q⟩
def Jg (K:PySem.W.Frag):R2:=fun x y H Q=>yc K x y H Q∨SQ K false x y H Q
theorem O3 {K:PySem.W.Frag} (hK:X.K=K) (hu:X.A.units+64 < cLine):OpR X (compareOp .Eq) (Jg K):=by
 subst hK
 exact (uF rfl hu).or (O2 (Nat.lt_of_le_of_lt (Nat.le_add_right _ _) hu))
end
section
variable {H:Hp} {Q:VK} {K:PySem.W.Frag}
theorem gO {i j:Int} (h:Q (.bl (decide (V.int i=V.int j))) H):Jg K (.int i) (.int j) H Q:=.inl (gJ h)
theorem gP {i j:Str} (h:Q (.bl (decide (V.str i=V.str j))) H):Jg K (.str i) (.str j) H Q:=.inl (gK h)
end
end L2
namespace L2
open PySem PySem.Spec PyProof.Rows
open AutoSeq1 (wpAny_loadPart')
theorem O4:isSubtype (.type "dict") (.type "dict")=pure true:=by rw [isSubtype_type];kernel_rfl
theorem Bu {prog:Program} {w:World} {A:Around} {E:Value→Shared→Prop} {s:Shared} {Q:Value→Shared→Prop} {a:Addr} {o:Obj} {e:DictEntry} {ep:Nat} {k:Key} (ho:s.heap.get? a=some o) (hc:o.cls= .type "dict") (hd:o.data= .dict #[e] ep)
  (hkey:(bK prog w).is k e.key=true) (hh:e.hash=(bK prog w).hash k) (hsm:(a == sysModules)=false) (hu:A.units < cLine) (h:Q (.bool true) s):wpAny (model prog w) A (compareOp .Eq (.ref a) (.ref a)) Q E s:=by
 show wpAny _ _ (richCompare .Eq (.ref a) (.ref a)) _ _ _
 refine wpAny_richCompare_same_room ⟨o,ho,hc⟩ ⟨o,ho,hc⟩ F.slot_dict_eq (wpAny_call (codeAny_call_builtin F.slot_dict_eq.plain F.entry_dict_eq (F.slot_dict_eq.check _ _ _ _ _ _ _ _ ⟨o,ho,hc⟩ (F.args_dict_eq_2 _ _) ?_))) hu
 have ko:KeysOf (bK prog w) #[e]:=fun x hx=>by
  simp at hx
  subst hx
  exact ⟨k,hkey,hh⟩
 have f2:=O4
 obtain ⟨hp,g,d,tk,os⟩:=s
 have hT:(⟨hp,g,d,tk,os⟩:Shared).TypeIs (.ref a) "dict":=⟨_,ho,hc⟩
 unfold Builtin.«dict.__eq__»
 wp_walk using wpAny_loadPart' ho
 have en:∀ (Q:Array DictEntry→Shared→Prop) (E:Value→Shared→Prop),Q #[e] ⟨hp,g,d,tk,os⟩→wpAny (model prog w) A.in1 (dictEntries a) Q E ⟨hp,g,d,tk,os⟩:=fun Q E q=>by
  unfold dictEntries
  refine wpAny_bind (wpAny_loadPart ho ?_)
  simp only [hd]
  exact wpAny_pure q
 have eo:∀ (Q:Nat→Shared→Prop) (E:Value→Shared→Prop),Q ep ⟨hp,g,d,tk,os⟩→wpAny (model prog w) A.in1 (dictEpoch a) Q E ⟨hp,g,d,tk,os⟩:=fun Q E q=>by
  unfold dictEpoch
  refine wpAny_bind (wpAny_loadPart ho ?_)
  simp only [hd]
  exact wpAny_pure q
 simp only [hd]
 refine wpAny_pure ?_
 refine wpAny_bind (en _ _ ?_)
 rw [if_neg (by simp)]
 refine wpAny_bind (eo _ _ ?_)
 refine wpAny_bind ?_
 rw [Std.Legacy.Range.forIn_eq_forIn_range']
 simp only [Std.Legacy.Range.size,Nat.sub_zero,Nat.add_sub_cancel,Nat.div_one]
 show wpAny _ _ (forIn [0] _ _) _ _ _
 rw [List.forIn_cons]
 refine wpAny_bind (wpAny_bind (en _ _ ?_))
 show wpAny _ _ (holding [e.key,e.val] _ >>=_) _ _ _
 refine wpAny_bind (wpAny_holding ?_)
 refine wpAny_bind (show wpAny (model prog w) A.in1 (dictFind a e.key e.hash) _ _ _ from ?_)
 rw [hh]
 refine wpAny_dictFind_of hkey ho hd ko ?_
 have fi:(#[e]:Array DictEntry).findIdx? (fun e=>(bK prog w).is k e.key)=some 0:=by simp [hkey]
 rw [fi]
 refine wpAny_bind (en _ _ ?_)
 show wpAny _ _ (holding [e.val] (eqBool e.val e.val)) _ _ _
 refine wpAny_holding (SeqAt.EqAt.same e.val prog w _ _ ?_)
 rw [if_neg (by simp)]
 refine wpAny_bind (eo _ _ ?_)
 rw [if_neg (by simp)]
 refine wpAny_pure ?_
 show wpAny _ _ (forIn [] _ _) _ _ _
 rw [List.forIn_nil]
 refine wpAny_pure (wpAny_pure ?_)
 exact wpAny_pure ⟨(fun z=>nomatch z),h⟩
def SX:R2:=fun x y H Q=>(y= .non∧Q (.bl (decide (x= .non))) H)∨∃ a b,x= .bl a∧y= .bl b∧Q (.bl (a == b)) H
def zK:R2:=fun x y H Q=>(y= .non∧Q (.bl (!decide (x= .non))) H)∨∃ a b,x= .bl a∧y= .bl b∧Q (.bl (!(a == b))) H
section
variable {X:Cx}
theorem qH:OpR X (compareOp .Is) SX:=Nf.or (by
 intro pins s σ H x y v u Q I rx ry h
 obtain ⟨a,b,rfl,rfl,q⟩:=h
 cases rx
 cases ry
 exact is_bool ⟨.bl _,H,I,rfl,q⟩)
theorem kI:OpR X (compareOp .IsNot) zK:=HF.or (by
 intro pins s σ H x y v u Q I rx ry h
 obtain ⟨a,b,rfl,rfl,q⟩:=h
 cases rx
 cases ry
 exact isnot_bool ⟨.bl _,H,I,rfl,q⟩)
def Lq (K:PySem.W.Frag):R2:=fun x y H Q=>∃ a b xs,x= .ref a∧y= .ref b∧SqT K H a xs∧SqT K H b xs∧(∀ v∈xs,jw v=true∨∃ r,v= .ref r)∧Q (.bl true) H
theorem Jh (hu:X.A.units < cLine):OpR X (compareOp .Eq) (Lq X.K):=by
 intro pins s σ H x y v u Q I rx ry h
 obtain ⟨a,b,xs,rfl,rfl,ha,hb,fx,q⟩:=h
 cases rx
 cases ry
 obtain ⟨its,r1,p1,z1⟩:=I.tuple ha
 obtain ⟨jts,r2,p2,z2⟩:=I.tuple hb
 have l1:its.toArray.size=xs.length:=by simpa using r1.length.symm
 have l2:jts.toArray.size=xs.length:=by simpa using r2.length.symm
 refine SeqAt.eq_tupleAt (e:=fun _=>true) p1 p2 hu (fun j h1 h2=>?_) ?_
 ·have hj:j < xs.length:=by omega
  obtain ⟨u1,e1,q1⟩:=r1.get (List.getElem?_eq_getElem hj)
  obtain ⟨u2,e2,q2⟩:=r2.get (List.getElem?_eq_getElem hj)
  have f1:its.toArray[j]=u1:=by
   obtain ⟨_,z⟩:=List.getElem?_eq_some_iff.mp e1
   simpa using z
  have f2:jts.toArray[j]=u2:=by
   obtain ⟨_,z⟩:=List.getElem?_eq_some_iff.mp e2
   simpa using z
  rw [f1,f2]
  rcases fx _ (List.getElem_mem hj) with f | ⟨r,f⟩
  ·rw [← qG f]
   exact uq q1 q2 f f
  ·rw [f] at q1 q2
   cases (show u1=Value.ref r from q1)
   cases (show u2=Value.ref r from q2)
   exact SeqAt.EqAt.same _
 ·have e:((List.range (min its.toArray.size jts.toArray.size)).all (fun _=>true) && its.toArray.size == jts.toArray.size)=true:=by rw [l1,l2];simp
  rw [e]
  exact ⟨.bl true,H,I,rfl,q⟩
def Lr:R2:=fun x y H Q=>∃ a k v,x= .ref a∧y= .ref a∧H a=some (.dK [(k,v)])∧Q (.bl true) H
theorem Ji (hu:X.A.units < cLine):OpR X (compareOp .Eq) Lr:=by
 intro pins s σ H x y v u Q I rx ry h
 obtain ⟨a,k,z,rfl,rfl,ha,q⟩:=h
 cases rx
 cases ry
 obtain ⟨_,hsm,vs,kv,o,es,ep,h1,h2,h3,h4,h5,h6⟩:=(show ObjOk X.prog X.w H s.heap a (.dK [(k,z)]) from I.hok a _ ha)
 cases kv with
 | cons a1 a2=>
  cases a2
  obtain ⟨l⟩:=es
  dsimp only at h5
  cases h5 with
  | @cons en _ _ _ p1 p2 p3=>
   cases p3
   obtain ⟨k',b1,b2⟩:=h4 en (by simp)
   exact Bu (e:=en) h1 h2.1 h3 b1 b2 hsm hu ⟨.bl true,H,I,rfl,q⟩
def O5 (K:PySem.W.Frag):R2:=fun x y H Q=>Jg K x y H Q∨Lq K x y H Q∨Lr x y H Q
theorem jm {K:PySem.W.Frag} (hK:X.K=K) (hu:X.A.units+64 < cLine):OpR X (compareOp .Eq) (O5 K):=by
 subst hK
 exact (O3 rfl hu).or ((Jh (Nat.lt_of_le_of_lt (Nat.le_add_right _ _) hu)).or (Ji (Nat.lt_of_le_of_lt (Nat.le_add_right _ _) hu)))
end
section
variable {H:Hp} {Q:VK} {K:PySem.W.Frag}
theorem fZ {σ:St} {r r':R2} {ta tb tc:TE} (h:ta σ H fun x H1=>tb σ H1 fun y H2=>r x y H2 fun z H3=>∃ k,z= .bl k∧if k=true then tc σ H3 fun w H4=>r' y w H4 Q else Q (.bl false) H3):xm r r' ta tb tc σ H Q:=h
theorem lW {x:V} (h:Q (.bl (decide (x= .non))) H):SX x .non H Q:=.inl ⟨rfl,h⟩
theorem dX {x:V} (h:Q (.bl (!decide (x= .non))) H):zK x .non H Q:=.inl ⟨rfl,h⟩
theorem jn {i j:Int} (h:Q (.bl (decide (V.int i=V.int j))) H):O5 K (.int i) (.int j) H Q:=.inl (gO h)
theorem jo {i j:Str} (h:Q (.bl (decide (V.str i=V.str j))) H):O5 K (.str i) (.str j) H Q:=.inl (gP h)
end
end L2
namespace L2
open PySem PySem.Spec PyProof.Rows PySem.SeqAt
theorem Jj (lo hi:Option Int) (n:Nat):Builtin.Str.strSliceIndices lo hi 1 n=(List.range (HT.sIx n n hi - HT.sIx n 0 lo)).map fun k=>HT.sIx n 0 lo+k:=by
 have c:∀ (i:Int) (d:Nat),max 0 (min (if i < 0 then i+(n:Int) else i) (n:Int))=((HT.sIx n d (some i):Nat):Int):=by
  intro i d
  rw [← HT.clip_eq]
  split <;> omega
 have key:∀ a b:Nat,(List.range (if (a:Int) < (b:Int) then ((b:Int) - a+1 - 1) / 1 else 0).toNat).map (fun k:Nat=>((a:Int)+1*(k:Int)).toNat)=(List.range (b - a)).map fun k=>a+k:=by
  intro a b
  have e3:(if (a:Int) < (b:Int) then ((b:Int) - a+1 - 1) / 1 else 0).toNat=b - a:=by split <;> omega
  rw [e3]
  refine List.map_congr_left fun k _=>?_
  omega
 unfold Builtin.Str.strSliceIndices sliceRange
 simp only [show (1:Int) > 0 by decide,if_true]
 cases lo with
 | none=>
  cases hi with
  | none=>exact key 0 n
  | some j=>rw [← key,← c j n];rfl
 | some i=>
  cases hi with
  | none=>rw [← key,← c i 0];rfl
  | some j=>rw [← key,← c i 0,← c j n]
theorem Ls {α β:Type} {f:α→Option β} {g:α→β}:∀ (l:List α),(∀ k∈l,f k=some (g k))→l.filterMap f=l.map g
 | [],_=>rfl
 | k :: l,h=>by rw [List.filterMap_cons,h k (by simp),List.map_cons,Ls l fun j hj=>h j (List.mem_cons_of_mem _ hj)]
theorem Bv (l:List Nat) (a m:Nat) (h:a+m≤l.length):((List.range m).map fun k=>a+k).filterMap (fun i=>l[i]?)=(l.drop a).take m:=by
 rw [List.filterMap_map,Ls (g:=fun k=>l.getD (a+k) 0)]
 ·refine List.ext_getElem? fun i=>?_
  rw [List.getElem?_map,List.getElem?_take]
  by_cases hi:i < m
  ·rw [if_pos hi,List.getElem?_range hi,List.getElem?_drop,List.getElem?_eq_getElem (by omega)]
   simp [List.getElem?_eq_getElem (show a+i < l.length by omega)]
  ·rw [if_neg hi,List.getElem?_eq_none (by simp;omega)];rfl
 ·intro k hk
  have hk:=List.mem_range.mp hk
  show l[a+k]?=_
  rw [List.getD_eq_getElem?_getD,List.getElem?_eq_getElem (by omega)];rfl
theorem tU (z:Str) (lo hi:Option Int):(Txt.slice z lo hi).cps.toList=(z.cps.toList.drop (HT.sIx z.length 0 lo)).take (HT.sIx z.length z.length hi - HT.sIx z.length 0 lo):=by
 have hn:z.cps.toList.length=z.length:=by simp [Str.length]
 have la:=HT.sIx_le z.length 0 (Nat.zero_le _) lo
 have lb:=HT.sIx_le z.length z.length (Nat.le_refl _) hi
 unfold Txt.slice
 rw [Jj]
 generalize HT.sIx z.length 0 lo=a at la ⊢
 generalize HT.sIx z.length z.length hi=b at lb ⊢
 split
 ·rename_i h
  simp at h
  have ha:a=0:=by
   rcases Nat.eq_zero_or_pos z.length with h0 | h0
   ·omega
   ·omega
  subst ha
  rw [List.drop_zero,List.take_of_length_le (by omega)]
 ·show List.filterMap (fun x=>z.cps[x]?) _=_
  have e:(fun x:Nat=>z.cps[x]?)=fun x=>z.cps.toList[x]?:=by funext x;simp
  rw [e]
  by_cases h:a≤b
  ·exact Bv _ a (b - a) (by omega)
  ·rw [show b - a=0 by omega];simp
theorem v8 (z:Str) (k:Nat):(Txt.slice z none (some (k:Int))).cps.toList=z.cps.toList.take k:=by
 rw [tU,HT.sIx_none,HT.sIx_nat,List.drop_zero,Nat.sub_zero]
 have hn:z.cps.toList.length=z.length:=by simp [Str.length]
 by_cases h:k≤z.length
 ·rw [Nat.min_eq_left h]
 ·rw [Nat.min_eq_right (by omega),List.take_of_length_le (by omega),List.take_of_length_le (by omega)]
theorem yg (z:Str) (k:Nat):(Txt.slice z (some (k:Int)) none).cps.toList=z.cps.toList.drop k:=by
 rw [tU,HT.sIx_none,HT.sIx_nat]
 have hn:z.cps.toList.length=z.length:=by simp [Str.length]
 by_cases h:k≤z.length
 ·rw [Nat.min_eq_left h,List.take_of_length_le (by rw [List.length_drop];omega)]
 ·rw [Nat.min_eq_right (by omega),List.drop_eq_nil_of_le (by omega),List.drop_eq_nil_of_le (by omega)];simp
theorem yh {n:Nat}:∀ {ds:List PyData},(∀ d∈ds,d.canLay0=true∧d.depth≤n)→PyData.canLayAll0 ds=true∧PyData.depthAll ds≤n
 | [],_=>⟨rfl,by simp [PyData.depthAll]⟩
 | d :: ds,h=>by
  obtain ⟨a,b⟩:=yh fun e he=>h e (List.mem_cons_of_mem _ he)
  obtain ⟨c,e⟩:=h d (by simp)
  rw [PyData.canLayAll0,PyData.depthAll,a,c]
  exact ⟨rfl,by omega⟩
theorem v9 {n:Nat} {ds:List PyData} (h:∀ d∈ds,d.canLay0=true∧d.depth≤n):(PyData.list ds).canLay0=true∧(PyData.list ds).depth≤n+1:=by
 obtain ⟨a,b⟩:=yh h
 rw [PyData.canLay0,PyData.depth]
 exact ⟨a,by omega⟩
theorem Bw {n:Nat} {ds:List PyData} (h:∀ d∈ds,d.canLay0=true∧d.depth≤n):(PyData.tuple ds).canLay0=true∧(PyData.tuple ds).depth≤n+1:=by
 obtain ⟨a,b⟩:=yh h
 rw [PyData.canLay0,PyData.depth]
 exact ⟨a,by omega⟩
theorem Jk (s:Int):(PyData.int s).canLay0=true∧(PyData.int s).depth≤0:=by simp [PyData.canLay0,PyData.depth]
theorem qI {d:PyData} {n:Nat} (h:d.canLay0=true∧d.depth≤n) (hn:n≤64):shaped d=true:=by
 unfold shaped
 rw [h.1,decide_eq_true (by omega)];rfl
theorem iy {xs:List V} {H:Hp} {R:Addr→Prop} (c:Nat.ble xs.length 64=true) (h:∀ p,H p=none→R p):xs.length≤sizeLine∧∀ p,H p=none→R p:=
 ⟨Nat.le_trans (Nat.le_of_ble_eq_true c) (by decide),h⟩
theorem lX {A B:Prop} (h:A):if (!false)=true then A else B:=(if_pos (show (!false)=true from rfl)).mpr h
theorem lY {A B:Prop} (h:B):if (!true)=true then A else B:=by rw [if_neg (by simp)];exact h
theorem Ft {t u:TS} {D:Ends} {σ:St} {H:Hp} (M:St→Hp→Prop) (h1:∀ σ H,M σ H→u D σ H) (h2:∀ N,(∀ σ H,M σ H→N σ H)→t {D with nx:=N} σ H):Al t u D σ H:=h2 _ h1
end L2
namespace L2
open PySem PySem.Spec PyProof.Rows PySem.SeqAt
open AutoSeq1 (wpAny_loadPart')
section
variable {X:Cx}
end
section
variable {X:Cx}
end
section
variable {H:Hp} {Q:VK} {K:PySem.W.Frag} {σ:St} {D:Ends}
end
end L2
namespace L2
open PySem PySem.Spec PyProof.Rows
def zL:List V→Hp→VK→Prop:=fun xs H Q=>∃ (p:Addr) (ns:List Int),xs=[.ref p]∧H p=some (.lst (ns.map V.int))∧ns.length < 64∧∀ (q:Addr) (ms:List Int),H q=none→ms.Perm ns→ms.Pairwise (· ≤ ·)→Q (.ref q) (upd H q (.lst (ms.map V.int)))
section
variable {X:Cx}
theorem Bx:∀ {us:List Value} {ns:List Int},IntsAre us ns→Vals (ns.map V.int) us:=by
 intro us
 induction us with
 | nil=>intro ns h;cases h;exact .nil
 | cons u us ih=>
  intro ns h
  cases h with
  | cons a b=>exact .cons ⟨_,rfl⟩ (ih (by assumption))
theorem uJ:CallR X (.builtin "sorted") zL:=by
 intro pins s σ H xs us Q I r h
 obtain ⟨p,ns,rfl,hp,h64,q⟩:=h
 obtain ⟨u,rfl,ru⟩:=vals1 r
 cases ru
 obtain ⟨hz,its,n,rv,g⟩:=I.hok p _ hp
 have hi:IntsAre its ns:=intsAre_of rv
 have hl:=rv.length
 rw [List.length_map] at hl
 refine sorted_ints (vs:=its) ⟨_,g,rfl,n,rfl⟩ hi (by omega) fun out ms ho hperm hs=>?_
 obtain ⟨e,he⟩:=sortedAll_at s.heap its out
 have hm:ms.length=ns.length:=hperm.length_eq
 rw [List.length_map] at hz
 refine ⟨.ref (s.heap.objs.size+1),_,I.laid (t':=s.toks) (o:=.lst (ms.map V.int)) (fun b ob q=>sortedAll_old q) (Nat.le_succ _) ⟨by rw [List.length_map];omega,out.toList,e,Bx ho,by simpa using he⟩,rfl,q _ ms (I.hok.fresh (Nat.le_succ _)) hperm hs⟩
end
section
variable {σ:St} {H:Hp} {Q:VK} {D:Ends}
theorem Fv {p:Addr} {ns:List Int} (hp:H p=some (.lst (ns.map V.int))) (hn:ns.length < 64) (h:∀ (q:Addr) (ms:List Int),H q=none→ms.Perm ns→ms.Pairwise (· ≤ ·)→Q (.ref q) (upd H q (.lst (ms.map V.int)))):zL [.ref p] H Q:=⟨p,ns,rfl,hp,hn,h⟩
end
end L2
namespace L2
open PySem PySem.Spec PyProof.Rows
def Tc (K:PySem.W.Frag):R2:=fun x y H Q=>Io K x y H Q∨∃ a o,y= .ref a∧DGet H a x o∧Q (.bl o.isSome) H
def wg (n0:List V→Hp→(Int→Int→Nat→Prop)→Prop) (ta:TA):TE:=fun σ H Q=>ta σ H fun vs H1=>n0 vs H1 fun lo c n=>∀ q,H1 q=none→Q (.ref q) (upd H1 q (.lst ((List.range n).map fun i:Nat=>V.int (lo+(i:Int)*c))))
def Td:List V→Hp→(Int→Int→Nat→Prop)→Prop:=fun vs _ R=>∃ n:Nat,vs=[.int n]∧n≤1000000∧R 0 1 n
theorem By {lo c:Int} {n:Nat} {acc:Array Value} (h:ItemsOf (fun i v=>∃ t,v= .int (lo+i*c) t) acc n):Vals ((List.range n).map fun i:Nat=>V.int (lo+(i:Int)*c)) acc.toList:=by
 obtain ⟨h1,h2⟩:=h
 have key:∀ (k:Nat) (a:List Value) (b:Nat),a.length=k→(∀ (j:Nat) (v:Value),a[j]?=some v→∃ t,v= .int (lo+((b+j:Nat):Int)*c) t)→Vals ((List.range' b k).map fun i:Nat=>V.int (lo+(i:Int)*c)) a:=by
  intro k
  induction k with
  | zero=>intro a b hl _;cases a with
   | nil=>exact .nil
   | cons _ _=>simp at hl
  | succ k ih=>
   intro a b hl hh
   cases a with
   | nil=>simp at hl
   | cons v a=>
    obtain ⟨t,e⟩:=hh 0 v (by simp)
    rw [List.range'_succ,List.map_cons]
    refine .cons ⟨t,by simpa using e⟩ (ih a (b+1) (by simpa using hl) fun j v' e=>?_)
    obtain ⟨t,e⟩:=hh (j+1) v' (by simpa using e)
    exact ⟨t,by rw [e];congr 3;omega⟩
 rw [List.range_eq_range']
 refine key n acc.toList 0 (by simpa using h1) fun j v e=>?_
 obtain ⟨t,e⟩:=h2 j v (by simpa using e)
 exact ⟨t,by rw [e];congr 3;simp⟩
section
variable {X:Cx}
theorem uK {pins:List (Addr×Obj)} {σ:St} {H1:Hp} {s1:Shared} {Q:VK} {E:Value→Shared→Prop} {lo hi c:Int} {t u v:Tok} {tk n:Nat} (hc:X.calm=true) (I1:Inv X pins σ H1 s1) (hs:Builtin.Range.small lo hi c=true) (hn:Builtin.Range.rangeSize lo hi c=(n:Int)) (hl:n≤1000000)
  (q:∀ q,H1 q=none→Q (.ref q) (upd H1 q (.lst ((List.range n).map fun i:Nat=>V.int (lo+(i:Int)*c))))):
  wpAny (model X.prog X.w) X.A (call (.type "list") [.ref s1.heap.objs.size]) (EP X pins σ Q) E {s1 with heap:=s1.heap.push {cls:=.type "range",data:=.fields #[.int lo t,.int hi u,.int c v]},toks:=tk}:=by
 have I2:Inv X pins σ H1 {s1 with heap:=s1.heap.push {cls:=.type "range",data:=.fields #[.int lo t,.int hi u,.int c v]},toks:=tk}:=I1.kept fun b o e=>Heap.get?_push_of_some _ e
 refine call_list_range (n:=n) (I1.ok.hd hc) (IsRange.new ..) hs hn (by omega) fun h' tk' acc' c' hk hS hacc=>?_
 have hsl:n≤sizeLine:=Nat.le_trans hl (by decide)
 exact ⟨.ref _,_,I2.laid (t':=tk') (o:=.lst ((List.range n).map fun i:Nat=>V.int (lo+(i:Int)*c))) hk (Nat.le_refl _) ⟨by simpa using hsl,acc'.toList,c',By hacc,by simpa using hS⟩,rfl,q _ I2.fresh⟩
theorem yj {a:Expr} {ta:TA} {p p2 p3 pos:Pos} (hc:X.calm=true) (hg:Gl X "list") (hm:X.mg "list"=none) (hg2:Gl X "range") (hm2:X.mg "range"=none) (ha:JA X [a] ta) (h:autoParam (notStar a=true) L2.auto4._auto_1):
  JE X (.Call (.Name "list" p) [.Call (.Name "range" p2) [a] [] p3] [] pos) (wg Td ta):=⟨by
 intro pins s σ H Q I hq
 refine wpAny_Call_Name_kw (iD I hg hm il (PyProof.Rows.callWith_type1 (arg1 rfl (wpAny_Call_Name_kw (iD I hg2 hm2 boot_range (PyProof.Rows.callWith_type1 (cZ (ha.run p3 pins s σ H _ I hq) fun us s1 qq0=>?_) (bj h) rfl)))) rfl rfl))
 obtain ⟨vs,H1,I1,r1,q1⟩:=qq0
 obtain ⟨n,rfl,hn,q⟩:=q1
 obtain ⟨u,rfl,t,rfl⟩:=vals1 r1
 exact call_range_1 (uK hc I1 (small_one (by omega) (by omega) (by omega) (by omega)) (by rw [rangeSize_one];split <;> omega) hn q)⟩
end
section
variable {X:Cx}
theorem O6 {K:PySem.W.Frag} (hK:X.K=K) (hu:X.A.units+64 < cLine):OpR X (compareOp .In) (Tc K):=(xR hK).or (by
 intro pins s σ H x y v u Q I rx ry h
 obtain ⟨a,o,rfl,g,q⟩:=h
 obtain rfl:u=Value.ref a:=ry
 exact d_in (by omega) I g rx fun s3 I3=>⟨.bl o.isSome,H,I3,rfl,q⟩)
end
section
variable {σ:St} {H:Hp} {Q:VK} {K:PySem.W.Frag}
theorem Fw {n0:List V→Hp→(Int→Int→Nat→Prop)→Prop} {ta:TA} (h:ta σ H fun vs H1=>n0 vs H1 fun lo c n=>∀ q,H1 q=none→Q (.ref q) (upd H1 q (.lst ((List.range n).map fun i:Nat=>V.int (lo+(i:Int)*c))))):wg n0 ta σ H Q:=h
theorem Jl {n:Nat} {R:Int→Int→Nat→Prop} (hn:n≤1000000) (h:R 0 1 n):Td [.int n] H R:=⟨n,rfl,hn,h⟩
theorem Fx {x y:Str} (h:Q (.bl (!(Builtin.Str.occurrences y x 0 y.length 1).isEmpty)) H):Tc K (.str x) (.str y) H Q:=.inl (jU h)
end
end L2
namespace L2
open PySem PySem.Spec PyProof.Rows
def Te (i j:Int):Prop:=0 < j∧j < 1606938044258990275541962092341162602522202993782792835301376
section
variable {X:Cx}
theorem gQ:OpR X (binaryOp .FloorDiv) (rI Te fun i j=>.int (i / j)):=Rv fun i j _ _ _ _ _ hc q=>by
 have h1:(0:Int) < j:=hc.1
 have h2:=hc.2
 refine floordiv_int (by omega) (by rw [Int.fdiv_eq_ediv_of_nonneg i (by omega)];exact q) (.inl (PyProof.noPylong_of_log2 ?_))
 have h3:j.natAbs.log2 < 200:=(Nat.log2_lt (by omega)).mpr (by omega)
 omega
end
end L2
namespace L2
open PySem PySem.Spec PyProof.Rows
open PySem.Sem (wp)
open PySem.AutoSeq1 (wpAny_loadPart')
section
variable {prog:Program} {w:World} {A:Around} {E:Value→Shared→Prop} {s:Shared}
end
end L2
namespace L2
open PySem PySem.Spec PyProof.Rows
section
variable {K:PySem.W.Frag} {σ:St} {H:Hp}
end
section
variable {X:Cx} {e:Expr} {te:TE} {lo hi:Option Expr} {st:Expr} {tl th ts:TO} {pos p2:Pos}
end
end L2
namespace L2
open PySem PySem.Spec PyProof.Rows
end L2
namespace L2
open PySem PySem.Spec PyProof.Rows
open PySem.Sem (wp)
open PySem.AutoSeq1 (wpAny_loadPart')
section
variable {prog:Program} {w:World} {A:Around} {E:Value→Shared→Prop} {s:Shared}
theorem pH {it l:Addr} {i:Nat} {items:Array Value} {x:Value} {Q:Value→Shared→Prop} (hit:s.heap.IsRevIter it l (i:Int)) (hl:s.heap.IsList l items) (hx:items[i]?=some x)
  (hQ:∀ h',h'.IsRevIter it l ((i:Int) - 1)→Heap.SameBut it s.heap h'→Q x {s with heap:=h'}):wpAny (model prog w) A (Builtin.SmallTypes.nextOf (.ref it)) Q E s:=by
 obtain ⟨o,ho,hc,hd⟩:=id hit
 obtain ⟨ol,hol,_,nl,hdl⟩:=hl
 unfold Builtin.SmallTypes.nextOf
 refine wpAny_bind (wpAny_callSpecial?_slot (name:=Str.ofString "__next__") hit.typeIs F.slot_lri_next
  (wpAny_call_entry F.slot_lri_next hit.typeIs F.entry_lri_next ?_ (F.args_lri_next_1 _)))
 unfold Builtin.«list_reverseiterator.__next__»
 refine wpAny_bind (wpAny_of_eq (a:=(Value.ref it,[])) rfl ?_)
 try dsimp only
 refine wpAny_bind (wpAny_field ho hd (x:=rawInt (i:Int)) rfl ?_)
 show wpAny _ _ (if (i:Int) < 0 then _ else _) _ _ s
 rw [if_neg (by omega)]
 show wpAny _ _ (field (.ref it) 0 >>=_) _ _ s
 refine wpAny_bind (wpAny_field ho hd (x:=.ref l) rfl ?_)
 show wpAny _ _ (seqItems? (.ref l) >>=_) _ _ s
 refine wpAny_bind (wpAny_seqItems hol hdl ?_)
 simp only [Int.toNat_natCast,hx]
 refine wpAny_bind (wpAny_setField ho hd (by simp) ?_)
 first
 | refine wpAny_pure ⟨x,rfl,wpAny_pure (hQ _ ?_ (Heap.SameBut.update ..))⟩
 | refine wpAny_bind (wpAny_pure (wpAny_pure ⟨x,rfl,wpAny_pure (hQ _ ?_ (Heap.SameBut.update ..))⟩))
 exact ⟨_,Heap.get?_update_self _ ho (Obj.isFreed_of_fields (Obj.data_mapFields hd _)),(Obj.cls_mapFields ..).trans hc,by
  rw [Obj.data_mapFields hd];simp⟩
theorem jW {it l:Addr} {Q:Value→Shared→Prop} (hh:A.handled=none) (hit:s.heap.IsRevIter it l (-1))
  (hE:∀ h' e,Heap.ExtBut it s.heap h'→(∃ o,h'.get? e=some o∧o.cls= .type "StopIteration")→E (.ref e) {s with heap:=h'}):wpAny (model prog w) A (Builtin.SmallTypes.nextOf (.ref it)) Q E s:=by
 obtain ⟨o,ho,hc,hd⟩:=id hit
 unfold Builtin.SmallTypes.nextOf
 refine wpAny_bind (wpAny_callSpecial?_slot (name:=Str.ofString "__next__") hit.typeIs F.slot_lri_next
  (wpAny_call_entry F.slot_lri_next hit.typeIs F.entry_lri_next ?_ (F.args_lri_next_1 _)))
 unfold Builtin.«list_reverseiterator.__next__»
 refine wpAny_bind (wpAny_of_eq (a:=(Value.ref it,[])) rfl ?_)
 try dsimp only
 refine wpAny_bind (wpAny_field ho hd (x:=rawInt (-1)) rfl ?_)
 show wpAny _ _ (if (-1:Int) < 0 then _ else _) _ _ s
 rw [if_pos (by decide)]
 refine wpAny_bind (wpAny_rule ?_)
 first
 | show wpAny _ _ (newExc (.type "StopIteration") [] >>=_) _ _ _
 | (refine wpAny_bind ?_;show wpAny _ _ (newExc (.type "StopIteration") [] >>=_) _ _ _)
 refine wpAny_bind ?_
 simp only [newExc,newTuple]
 refine wpAny_bind (wpAny_newObj_type ?_ (by size_fits))
 refine wpAny_bind (m:=firstArgMember _ _) (wpAny_of_eq (a:=Value.none) (by first | rfl | (simp only [firstArgMember];rfl)) ?_)
 refine wpAny_newObj_type ?_ (by size_fits)
 simp only [raiseNew]
 refine wpAny_bind (wpAny_handled ?_)
 first | rw [show A.in1.handled=none from hh] | rw [hh]
 refine wpAny_bind (wpAny_pure (wpAny_throw ?_))
 exact hE _ _ (((Heap.ExtBut.refl _ _).push _).push _) ⟨_,Heap.get?_push_size _ rfl,rfl⟩
end
theorem jX (it l:Addr) (i:Int) (dct:Option Addr) (sl:Array (Option Value)):
  Meets (Builtin.«enumerate.__new__» ⟨[.type "enumerate",.ref it],[]⟩) (fun _ R s=>s.heap.get? it=some {cls:=.type "list_reverseiterator",dict:=dct,data:=.fields #[.ref l,rawInt i],slots:=sl}∧
   R (.ok (.ret (.ref s.heap.objs.size)))
    {s with heap:=s.heap.push {cls:=.type "enumerate",data:=.fields #[.none,.bool false,.ref it,rawInt 0,.none,.none]}}):=
 .of_wp fun prog w A R s h=>by
  obtain ⟨hp,g,d,tk,os⟩:=s;obtain ⟨hl,h⟩:=h
  have hsub:=sub_enumerate
  have hL:Heap.IsRevIter (Shared.heap ⟨hp,g,d,tk,os⟩) it l i:=⟨_,hl,rfl,rfl⟩
  wp_walk using wpAny_loadPart' hl
  refine wpAny_stack_any fun st=>wpAny_pure ?_
  split
  ·rename_i c _ _ _ _ _
   cases (c == Value.type "enumerate")
   ·wp_walk using wpAny_loadPart' hl,wpAny_pyIter_revIter hL
    exact ⟨_,rfl,h⟩
   ·wp_walk using wpAny_loadPart' hl,wpAny_pyIter_revIter hL
    exact ⟨_,rfl,h⟩
  ·wp_walk using wpAny_loadPart' hl,wpAny_pyIter_revIter hL
   exact ⟨_,rfl,h⟩
end L2
namespace L2
open PySem PySem.Spec PyProof.Rows
section
variable {prog:Program} {w:World} {A:Around} {E:Value→Shared→Prop} {s:Shared}
theorem mF {it l:Addr} {i:Int} {Q:Value→Shared→Prop} (hL:s.heap.IsRevIter it l i)
  (h:∀ h',IsEnum h' s.heap.objs.size it 0 .none→(∀ b o,s.heap.get? b=some o→h'.get? b=some o)→Q (.ref s.heap.objs.size) {s with heap:=h'}):
  wpAny (model prog w) A (call (.type "enumerate") [.ref it]) Q E s:=by
 obtain ⟨⟨c,dct,dt,sl⟩,hl,hc,hd⟩:=hL
 replace hc:c= .type "list_reverseiterator":=hc
 replace hd:dt= .fields #[.ref l,rawInt i]:=hd
 subst hc hd
 refine callType_new F.called_enumerate (by decide) (F.typeCall_enumerate_1 _) (F.newCall_enumerate_1 _) (fun obj=>F.args_object_init_2 obj _) F.entry_enumerate_new
  (jX it l i dct sl) ⟨hl,?_⟩
 show _∧_
 have he:IsEnum (s.heap.push {cls:=.type "enumerate",data:=.fields #[.none,.bool false,.ref it,rawInt 0,.none,.none]}) s.heap.objs.size it 0 .none:=Heap.get?_push_size _ rfl
 exact ⟨⟨_,he,rfl⟩,h _ he fun b o x=>Heap.get?_push_of_some _ x⟩
end
theorem BJ {prog:Program} {w:World} {A:Around} (hh:A.handled=none) (it l:Addr) (hne:l≠it) (items:Array Value):
  Draws prog w A it [it,l] items.size (fun i v=>items[items.size - 1 - i]?=some v) (fun i h=>i≤items.size∧h.IsRevIter it l ((items.size:Int) - 1 - (i:Int))∧h.IsList l items) where
 live:=fun _ _ st=>let ⟨o,ho,_⟩:=st.2.1;⟨o,ho⟩
 frame:=fun _ _ _ x hk=>⟨x.1,x.2.1.at fun o e=>hk it (by simp) o e,x.2.2.at fun o e=>hk l (by simp) o e⟩
 item:=fun i s Q E hi x hQ=>by
  have e:(items.size:Int) - 1 - (i:Int)=((items.size - 1 - i:Nat):Int):=by omega
  have hit:=x.2.1
  rw [e] at hit
  have hx:items[items.size - 1 - i]?=some (items[items.size - 1 - i]'(by omega)):=Array.getElem?_eq_getElem (by omega)
  refine pH hit x.2.2 hx fun h' hit' hs'=>?_
  have e2:((items.size - 1 - i:Nat):Int) - 1=(items.size:Int) - 1 - ((i+1:Nat):Int):=by omega
  rw [e2] at hit'
  exact hQ _ h' s.toks hx ⟨hi,hit',x.2.2.at fun o eo=>(hs'.2 l hne).trans eo⟩ hs'
 done:=fun s Q E x hE=>by
  have e:(items.size:Int) - 1 - (items.size:Int)= -1:=by omega
  have hit:=x.2.1
  rw [e] at hit
  exact jW hh hit hE
def BK (K:PySem.W.Frag) (a:Addr) (n:Nat):It:=
 ⟨fun i H=>i < n∧∃ xs,SqL K H a xs∧xs.length=n,
  fun i H v H'=>∃ T x,H T=none∧v= .ref T∧(∀ xs,SqL K H a xs→xs[n - 1 - i]?=some x)∧H'=upd H T (.tup [.int i,x]),
  fun i _=>i=n⟩
theorem yl {P:Program} {w:World} {K:PySem.W.Frag} {elts:List Expr} {k n:Nat} {pos:Pos} {e it a:Addr} (hne:e≠it) (hea:e≠a) (hai:a≠it):
  Turn P w K (.Tuple elts k pos) (BK K a n) [e,it] e (fun i h=>(∃ old,IsEnum h e it i old)∧i≤n∧h.IsRevIter it a ((n:Int) - 1 - (i:Int))) where
 mem:=by simp
 obj:=fun i h st c hc=>by
  obtain ⟨⟨old,he⟩,_,⟨o1,e1,c1,d1⟩⟩:=st
  simp only [List.mem_cons,List.mem_nil_iff,or_false] at hc
  rcases hc with rfl | rfl
  ·exact ⟨_,he,fun v z=>by cases z⟩
  ·exact ⟨_,e1,fun v z=>by rw [d1] at z;cases z⟩
 keep:=fun i h h' st kk=>by
  obtain ⟨⟨old,he⟩,hi,h1⟩:=st
  exact ⟨⟨old,kk e (by simp) _ he⟩,hi,h1.at fun o q=>kk it (by simp) o q⟩
 item:=by
  intro X hP hw hK hc i pins s σ H E I hf st hg
  subst hP hw hK
  obtain ⟨⟨old,he⟩,hi,h1⟩:=st
  obtain ⟨hlt,xs,hq,hlen⟩:=hg
  obtain ⟨its,rv,p,_⟩:=I.list hq
  have l1:=rv.length
  have sz:its.toArray.size=n:=by rw [List.size_toArray];omega
  obtain ⟨x,hx⟩:∃ x,xs[n - 1 - i]?=some x:=⟨_,List.getElem?_eq_getElem (by omega)⟩
  obtain ⟨u,hu,ru⟩:=rv.get hx
  have h1':s.heap.IsRevIter it a ((its.toArray.size:Int) - 1 - (i:Int)):=by rw [sz];exact h1
  refine wpAny_pyNext_enum_itemD (BJ (A:=X.A.in1) (I.ok.hd hc) it a hai its.toArray) he ⟨by omega,h1',p.isList⟩ (by omega) hne (by simp [hne,hea]) fun x' h' tk hx' a1 a2 a3 a4 hk=>?_
  have ex:x'=u:=by
   have h2:its[its.length - 1 - i]?=some x':=by simpa using hx'
   rw [show its.length - 1 - i=n - 1 - i by omega,hu] at h2
   exact (Option.some.inj h2).symm
  subst ex
  refine ⟨_,rfl,wpAny_letOwnedTupleGo_enum a1 fun h'' a1' sb=>?_⟩
  have lt:∀ {c o},s.heap.get? c=some o→s.heap.objs.size≠c:=fun e=>Nat.ne_of_gt (Heap.lt_size e)
  have lti:s.heap.objs.size≠it:=by obtain ⟨o,q,_⟩:=h1;exact lt q
  have isT:h''.IsTuple s.heap.objs.size #[.int i tk,x']:=⟨_,sb.extBut _ _ (lt he) a3,rfl,_,rfl⟩
  have kall:∀ b o,b ∉ [e,it]→s.heap.get? b=some o→h''.get? b=some o:=fun b o hb q=>by
   simp only [List.mem_cons,List.mem_nil_iff,or_false,not_or] at hb
   exact sb.extBut _ _ hb.1 (hk b o hb.1 hb.2 q)
  have hTn:H s.heap.objs.size=none:=I.hok.fresh (Nat.le_refl _)
  refine ⟨.ref s.heap.objs.size,_,I.newtup (tk:=tk+1) hf (Nat.le_refl _) kall isT (xs:=[.int i,x]) (.cons ⟨_,rfl⟩ (.cons ru .nil)) (by simp;decide),rfl,⟨_,x,hTn,rfl,fun zs hs=>by rw [I.list_inj hs hq];exact hx,rfl⟩,?_,fun b hb=>?_⟩
  ·refine ⟨⟨_,a1'⟩,hlt,?_⟩
   have:=a2.2.1
   rw [sz] at this
   exact this.at fun o q=>sb.extBut _ _ (Ne.symm hne) q
  ·have:s.heap.objs.size≠b:=by
    simp only [List.mem_cons,List.mem_nil_iff,or_false] at hb
    rcases hb with rfl | rfl
    ·exact lt he
    ·exact lti
   rw [az (Ne.symm this)]
   exact (hf b hb).1
 done:=by
  intro X hP hw hK hc i pins s σ H E I hf st hg
  subst hP hw hK
  obtain ⟨⟨old,he⟩,hi,h1⟩:=st
  have hin:i=n:=hg
  subst hin
  rw [show (i:Int) - 1 - (i:Int)= -1 by omega] at h1
  have ht:s.TypeIs (.ref e) "enumerate":=⟨_,he,rfl⟩
  unfold pyNext
  refine wpAny_bind (wpAny_attempt (wpAny_callSpecial?_slot (name:=Str.ofString "__next__") ht F.slot_enumerate_next
   (wpAny_call_entry F.slot_enumerate_next ht F.entry_enumerate_next ?_ (F.args_enumerate_next_1 _))))
  show wpAny _ _ (field (.ref e) 2 >>=_) _ _ _
  refine wpAny_bind (wpAny_field he rfl (x:=.ref it) rfl ?_)
  refine wpAny_bind (jW (A:=X.A.in1) (I.ok.hd hc) h1 fun h' x he' hx'=>?_)
  obtain ⟨o,ho,hc'⟩:=hx'
  refine wpAny_bind (wpAny_isInstance (T:="StopIteration") (b:=true) ⟨o,ho,hc'⟩ isSubtype_stop ?_)
  refine wpAny_pure ⟨rfl,I.only (tk:=s.toks) hf fun b o hb q=>?_⟩
  simp only [List.mem_cons,List.mem_nil_iff,or_false,not_or] at hb
  exact he' b o hb.2 q
 self:=fun _ _ _ _ _ st h=>let ⟨⟨_,he⟩,_⟩:=st;wpAny_pyIter_enum he h
end L2
namespace L2
open PySem PySem.Spec PyProof.Rows
def wj (K:PySem.W.Frag) (ta:TE):TI:=fun σ H R=>ta σ H fun x H1=>∃ l xs,x= .ref l∧SqL K H1 l xs∧R (BK K l xs.length) H1
theorem ym {X:Cx} {K:PySem.W.Frag} {a:Expr} {ta:TE} {elts:List Expr} {k:Nat} {tp p p2 p3 pos:Pos} (hK:X.K=K) (hg:Gl X "enumerate") (hm:X.mg "enumerate"=none) (hg2:Gl X "reversed") (hm2:X.mg "reversed"=none) (ha:JE X a ta) (h:autoParam (notStar a=true) L2.auto4._auto_1):
  JI X (.Tuple elts k tp) (.Call (.Name "enumerate" p) [.Call (.Name "reversed" p2) [a] [] p3] [] pos) (wj K ta):=⟨by
 subst hK
 intro pins s σ H R I hq
 refine Call_ (iD I hg hm mY (PyProof.Rows.callWith_type1 (arg1 rfl (wpAny_Call_Name_kw (iD I hg2 hm2 vX (PyProof.Rows.callWith_type1 (arg1 h (cZ (ha.run pins s σ H _ I hq) fun u s1 qq0=>?_)) (bj h) rfl)))) rfl rfl))
 obtain ⟨x,H1,I1,rx,l,xs,ex,hx,q⟩:=qq0
 subst ex
 cases rx
 obtain ⟨its,rv,ht,hz⟩:=I1.list hx
 have hlen:=rv.length
 have lt:l < s1.heap.objs.size:=by obtain ⟨o,ho,_⟩:=ht.isList;exact Heap.lt_size ho
 refine call_reversed_list ht.isList ?_
 have e0:(s1.heap.push (PySem.revObj l ((its.toArray.size:Int) - 1))).get? s1.heap.objs.size=some (PySem.revObj l ((its.toArray.size:Int) - 1)):=Heap.get?_push_size _ rfl
 have s0:(s1.heap.push (PySem.revObj l ((its.toArray.size:Int) - 1))).objs.size=s1.heap.objs.size+1:=Heap.size_push ..
 have k0:∀ b o,s1.heap.get? b=some o→(s1.heap.push (PySem.revObj l ((its.toArray.size:Int) - 1))).get? b=some o:=fun b o q=>Heap.get?_push_of_some _ q
 refine mF (it:=s1.heap.objs.size) (l:=l) (i:=(its.toArray.size:Int) - 1) ⟨_,e0,rfl,rfl⟩ fun h' z1 hk=>?_
 have z1':IsEnum h' (s1.heap.objs.size+1) s1.heap.objs.size 0 .none:=by rw [← s0];exact z1
 have z2:h'.IsRevIter s1.heap.objs.size l ((xs.length:Int) - 1 - ((0:Nat):Int)):=⟨_,hk _ _ e0,rfl,by
  show Data.fields #[.ref l,rawInt ((its.toArray.size:Int) - 1)]=_
  rw [show ((its.toArray.size:Int) - 1)=(xs.length:Int) - 1 - ((0:Nat):Int) by rw [List.size_toArray];omega]⟩
 have J1:Inv X pins σ H1 {s1 with heap:=h'}:=I1.kept (t':=s1.toks) fun b o q=>hk b o (k0 b o q)
 rw [s0]
 refine wpAny_pyIter_enum z1' ?_
 have key2:∀ n l:Nat,l < n→n+1≠l∧l≠n:=fun n l h=>⟨by omega,by omega⟩
 refine ⟨s1.heap.objs.size+1,_,_,_,H1,rfl,J1,yl (n:=xs.length) (Nat.succ_ne_self _) (key2 _ _ lt).1 (key2 _ _ lt).2,⟨⟨_,z1'⟩,Nat.zero_le _,z2⟩,fun b hb=>?_,q⟩
 have hb':s1.heap.objs.size≤b:=by
  simp only [List.mem_cons,List.mem_nil_iff,or_false] at hb
  have key:∀ n c:Nat,(c=n+1∨c=n)→n≤c:=fun n c h=>by omega
  exact key _ _ hb
 exact I1.fpOk hb' (I1.hok.fresh hb')⟩
section
variable {K:PySem.W.Frag} {σ:St} {H:Hp}
theorem du {ta:TE} {R:It→Hp→Prop} (h:ta σ H fun x H1=>∃ l xs,x= .ref l∧SqL K H1 l xs∧R (BK K l xs.length) H1):wj K ta σ H R:=h
theorem BL {a:Addr} {xs:List V} {g:TG} {tb:TS} {D:Ends} (Pv:Nat→St→Hp→Prop) (h0:Pv 0 σ H) (hq:∀ i σ H,i≤xs.length→Pv i σ H→SqL K H a xs)
  (hs:∀ i σ H T x,i < xs.length→xs[xs.length - 1 - i]?=some x→Pv i σ H→H T=none→g (.ref T) σ (upd H T (.tup [.int i,x])) fun σ2 H2=>tb {D with nx:=Pv (i+1),ct:=Pv (i+1),bk:=D.nx} σ2 H2) (hd:∀ σ H,Pv xs.length σ H→D.nx σ H):
  ∃ W:Nat→Nat→St→Hp→Prop,(∃ m,W 0 m σ H)∧∀ i m σ H,W i m σ H→
   ((BK K a xs.length).stop i H∧D.nx σ H)∨((BK K a xs.length).go i H∧∃ N:St→Hp→Prop,(∀ σ' H',N σ' H'→∃ m',m' < m∧W (i+1) m' σ' H')∧∀ x H',(BK K a xs.length).yld i H x H'→g x σ H' fun σ2 H2=>tb {D with nx:=N,ct:=N,bk:=D.nx} σ2 H2):=by
 refine ⟨fun i m σ H=>m=xs.length - i∧i≤xs.length∧Pv i σ H,⟨xs.length,by simp,Nat.zero_le _,h0⟩,?_⟩
 rintro i m σ H ⟨rfl,hi,p⟩
 have q1:=hq i σ H hi p
 by_cases hlt:i < xs.length
 ·refine .inr ⟨⟨hlt,xs,q1,rfl⟩,Pv (i+1),fun σ' H' p'=>⟨xs.length - (i+1),by omega,rfl,hlt,p'⟩,fun x H' y=>?_⟩
  obtain ⟨T,u,hT,e1,e2,e4⟩:=y
  subst e1 e4
  exact hs i σ H T u hlt (e2 xs q1) p hT
 ·have e:i=xs.length:=by omega
  subst e
  exact .inl ⟨rfl,hd σ H p⟩
end
end L2
namespace L2
open PySem PySem.Spec PyProof.Rows
structure Sml (d:PyData):Prop where
 sh:d.showable=true
 dp:d.depth≤58
 lv:d.leavesShort 60=true
 bk:d.bulk≤10000
end L2
namespace L2
open PySem PySem.Spec PyProof.Rows
open PySem.Sem (wp)
section
variable {X:Cx} {pos:Pos} {σ:St} {H:Hp} {Q:VK} {K:PySem.W.Frag}
theorem zM:JE X (.Dict [] [] pos) xN:=⟨DP⟩
theorem zN (h:∀ p,H p=none→Q (.ref p) (upd H p (.dT []))):xN σ H Q:=h
end
end L2
namespace L2
open PySem PySem.Spec PyProof.Rows
end L2
namespace L2
open PySem PySem.Spec PyProof.Rows
structure Lw (k:Nat) (A:Around):Prop where
 dp:A.depth+3*k+5 < recursionLimit
 un:A.units+16*k+200 < cLine
 gd:A.guards=some []
structure FnU (P:Program) (w:World) (K:PySem.W.Frag) (mg:Str→Option Value) (base:Heap) (k:Nat) (f:Addr) (fd:FuncData) (ps:List Str) (sp:Sp):Prop where
 len:∀ vs H Q E,sp vs H Q E→vs.length=ps.length
 run:∀ (A:Around) (outer:List Env) (s:Shared) (H:Hp) (args:Args) (us:List Value) (vs:List V) (Q:VK) (E:XK),Lw k A→Env0 P w K mg base A outer s H→BindsTo s fd args (ps.zip us)→Vals vs us→sp vs H Q E→
  codeAny (model P w) A (.call (.ref f) args) (CR xK outer P w H s Q E) s
end L2
namespace L2
open PySem PySem.Spec PyProof.Rows
section
variable {prog:Program} {w:World} {A:Around} {E:Value→Shared→Prop} {s:Shared} {K:PySem.W.Frag} {x C:Addr} {ox:Obj} {od:Option Obj}
end
section
variable {prog:Program} {w:World} {A:Around} {K:PySem.W.Frag} {D:Addr} {E:Value→Shared→Prop}
end
structure X0 (K:PySem.W.Frag) (mg:Str→Option Value) (x:Str):Prop where
 c:OJ K mg x
 ini:PySem.W.findIn K (.ref (aZ mg x)) "__init__"=some (some (.builtin "ValueError.__init__"))
 kp:PySem.W.keepIn K (.ref (aZ mg x))=true
section
variable {X:Cx} {x:Str} {p pos:Pos} {e:Expr} {es:List Expr} {t:TA}
end
end L2
namespace L2
open PySem PySem.Spec PyProof.Rows
open PySem.Sem (wp)
structure n8 (z TI TO i1 i2:Addr) (fp1 fp2:List Addr):Prop where
 TIz:TI≠z
 TOz:TO≠z
 i1z:i1≠z
 i2z:i2≠z
 TITO:TI≠TO
 TIi1:TI≠i1
 TIi2:TI≠i2
 TOi1:TO≠i1
 TOi2:TO≠i2
 i12:i1≠i2
 f1:∀ b∈fp1,b≠z∧b≠TO∧b≠i2
 f2:∀ b∈fp2,b≠z∧b≠TO∧b≠i1
section
variable {prog:Program} {w:World} {A:Around} {E:Value→Shared→Prop} {s:Shared} {z TI TO i1 i2:Addr} {fp1 fp2:List Addr} {n1 n2 k1 k2:Nat} {P1 P2:Nat→Value→Prop} {St1 St2:Nat→Heap→Prop} {a b:Value}
theorem BP {Q:Value→Shared→Prop} (D1:Draws prog w A i1 fp1 n1 P1 St1) (D2:Draws prog w A i2 fp2 n2 P2 St2) (D:n8 z TI TO i1 i2 fp1 fp2)
  (hz:IsZip s.heap z TI TO .none) (hTI:IsPair s.heap TI (.ref i1) (.ref i2)) (hTO:IsPair s.heap TO a b) (s1:St1 k1 s.heap) (s2:St2 k2 s.heap) (l1:k1 < n1) (l2:k2 < n2)
  (hQ:∀ x y h' tk,P1 k1 x→P2 k2 y→IsZip h' z TI TO (rawInt s.heap.objs.size)→IsPair h' TO x y→St1 (k1+1) h'→St2 (k2+1) h'→IsPair h' s.heap.objs.size x y→
   (∀ c o,c≠z→c≠TO→c≠i1→c≠i2→s.heap.get? c=some o→h'.get? c=some o)→Q (.ref s.heap.objs.size) {s with heap:=h',toks:=tk}):
  wpAny (model prog w) A (Builtin.«zip.__next__» ⟨[.ref z],[]⟩) (fun fin s'=>∃ v,fin= .done (.ret v)∧Q v s') E s:=by
 have sb:∀ {x:Addr} {h h':Heap},Heap.SameBut x h h'→∀ c o,c≠x→h.get? c=some o→h'.get? c=some o:=fun g c o n e=>g.extBut _ _ n e
 show wpAny _ _ (field (.ref z) 2 >>=_) _ _ _
 refine wpAny_bind (wpAny_field hz rfl (x:=.bool false) rfl ?_)
 show wpAny _ _ (field (.ref z) 3 >>=_) _ _ _
 refine wpAny_bind (wpAny_field hz rfl (x:=.ref TI) rfl (wpAny_bind (wpAny_seqItems hTI rfl ?_)))
 show wpAny _ _ (Builtin.SmallTypes.ownedTupleIsFree (.ref z) >>=_) _ _ _
 unfold Builtin.SmallTypes.ownedTupleIsFree
 refine wpAny_bind (wpAny_bind (wpAny_field hz rfl (x:=.none) rfl (wpAny_pure ?_)))
 simp only [if_true]
 refine wpAny_bind (wpAny_rule (wpAny_bind (wpAny_field hz rfl (x:=.ref TO) rfl ?_)))
 refine wpAny_bind (wpAny_setField_rec hz (by simp) fun g1 y1 e1=>?_)
 replace y1:IsZip g1 z TI TO .ellipsis:=y1
 refine wpAny_bind ?_
 simp only [List.zipIdx_cons,List.zipIdx_nil,List.forIn_cons,List.forIn_nil]
 refine wpAny_bind (wpAny_bind (wpAny_onRaise ?_))
 show wpAny _ _ (Builtin.SmallTypes.nextOf (.ref i1) >>=_) _ _ _
 have t1:St1 k1 g1:=D1.frame _ _ _ s1 fun c hc o e=>sb e1 c o (D.f1 c hc).1 e
 have t2:St2 k2 g1:=D2.frame _ _ _ s2 fun c hc o e=>sb e1 c o (D.f2 c hc).1 e
 refine wpAny_bind (D1.item k1 _ _ _ l1 t1 fun x g2 tk px u1 e2=>wpAny_pure ?_)
 have p2:IsPair g2 TO a b:=sb e2 _ _ D.TOi1 (sb e1 _ _ D.TOz hTO)
 refine wpAny_bind (wpAny_seqItems p2 rfl (wpAny_bind (wpAny_updateSeq_pair p2 fun g3 p3 e3=>?_)))
 replace p3:IsPair g3 TO x b:=p3
 refine wpAny_bind (wpAny_letGo (wpAny_pure ?_))
 refine wpAny_bind (wpAny_bind (wpAny_onRaise ?_))
 show wpAny _ _ (Builtin.SmallTypes.nextOf (.ref i2) >>=_) _ _ _
 have t3:St2 k2 g3:=D2.frame _ _ _ t2 fun c hc o e=>sb e3 c o (D.f2 c hc).2.1 (sb e2 c o (D.f2 c hc).2.2 e)
 refine wpAny_bind (D2.item k2 _ _ _ l2 t3 fun y g4 tk2 py u2 e4=>wpAny_pure ?_)
 have p4:IsPair g4 TO x b:=sb e4 _ _ D.TOi2 p3
 refine wpAny_bind (wpAny_seqItems p4 rfl (wpAny_bind (wpAny_updateSeq_pair p4 fun g5 p5 e5=>?_)))
 replace p5:IsPair g5 TO x y:=p5
 refine wpAny_bind (wpAny_letGo (wpAny_pure (wpAny_pure ?_)))
 refine wpAny_bind (wpAny_seqItems p5 rfl (wpAny_bind (wpAny_newTuple ?_)))
 have sz:g5.objs.size=s.heap.objs.size:=by rw [e5.1,e4.1,e3.1,e2.1,e1.1]
 have z5:IsZip g5 z TI TO .ellipsis:=sb e5 _ _ D.TOz.symm (sb e4 _ _ D.i2z.symm (sb e3 _ _ D.TOz.symm (sb e2 _ _ D.i1z.symm y1)))
 have k5:∀ c o,c≠z→c≠TO→c≠i1→c≠i2→s.heap.get? c=some o→g5.get? c=some o:=fun c o c1 c2 c3 c4 e=>
  sb e5 _ _ c2 (sb e4 _ _ c4 (sb e3 _ _ c2 (sb e2 _ _ c3 (sb e1 _ _ c1 e))))
 have v1:St1 (k1+1) g5:=D1.frame _ _ _ u1 fun c hc o e=>sb e5 c o (D.f1 c hc).2.1 (sb e4 c o (D.f1 c hc).2.2 (sb e3 c o (D.f1 c hc).2.1 e))
 have v2:St2 (k2+1) g5:=D2.frame _ _ _ u2 fun c hc o e=>sb e5 c o (D.f2 c hc).2.1 e
 have zlt:z < g5.objs.size:=Heap.lt_size z5
 show wpAny _ _ (Builtin.SmallTypes.ownedTupleHandOut (.ref z) (.ref g5.objs.size) >>=_) _ _ _
 unfold Builtin.SmallTypes.ownedTupleHandOut
 have z6:IsZip (g5.push {cls:=.type "tuple",data:=.seq #[x,y]}) z TI TO .ellipsis:=Heap.get?_push_of_some _ z5
 refine wpAny_bind (wpAny_bind (wpAny_setField_rec z6 (by simp) fun g7 z7 e7=>?_))
 replace z7:IsZip g7 z TI TO (rawInt g5.objs.size):=z7
 refine wpAny_setField_rec z7 (by simp) fun g8 z8 e8=>?_
 replace z8:IsZip g8 z TI TO (rawInt g5.objs.size):=z8
 have up:∀ c o,c≠z→g5.get? c=some o→g8.get? c=some o:=fun c o c1 e=>sb e8 _ _ c1 (sb e7 _ _ c1 (Heap.get?_push_of_some _ e))
 have pT:IsPair g8 g5.objs.size x y:=sb e8 _ _ (Nat.ne_of_gt zlt) (sb e7 _ _ (Nat.ne_of_gt zlt) (Heap.get?_push_size _ rfl))
 rw [sz] at z8 pT
 refine wpAny_pure ⟨_,rfl,?_⟩
 show Q (.ref g5.objs.size) _
 rw [sz]
 exact hQ x y g8 _ px py z8 (up _ _ D.TOz p5) (D1.frame _ _ _ v1 fun c hc o e=>up c o (D.f1 c hc).1 e) (D2.frame _ _ _ v2 fun c hc o e=>up c o (D.f2 c hc).1 e) pT fun c o c1 c2 c3 c4 e=>up c o c1 (k5 c o c1 c2 c3 c4 e)
theorem Fy {Q:Fin→Shared→Prop} (D1:Draws prog w A i1 fp1 n1 P1 St1) (D:n8 z TI TO i1 i2 fp1 fp2)
  (hz:IsZip s.heap z TI TO .none) (hTI:IsPair s.heap TI (.ref i1) (.ref i2)) (s1:St1 n1 s.heap)
  (hE:∀ h' e,(∀ c o,c≠z→c≠i1→s.heap.get? c=some o→h'.get? c=some o)→(∃ o,h'.get? e=some o∧o.cls= .type "StopIteration")→E (.ref e) {s with heap:=h'}):
  wpAny (model prog w) A (Builtin.«zip.__next__» ⟨[.ref z],[]⟩) Q E s:=by
 have sb:∀ {x:Addr} {h h':Heap},Heap.SameBut x h h'→∀ c o,c≠x→h.get? c=some o→h'.get? c=some o:=fun g c o n e=>g.extBut _ _ n e
 show wpAny _ _ (field (.ref z) 2 >>=_) _ _ _
 refine wpAny_bind (wpAny_field hz rfl (x:=.bool false) rfl ?_)
 show wpAny _ _ (field (.ref z) 3 >>=_) _ _ _
 refine wpAny_bind (wpAny_field hz rfl (x:=.ref TI) rfl (wpAny_bind (wpAny_seqItems hTI rfl ?_)))
 show wpAny _ _ (Builtin.SmallTypes.ownedTupleIsFree (.ref z) >>=_) _ _ _
 unfold Builtin.SmallTypes.ownedTupleIsFree
 refine wpAny_bind (wpAny_bind (wpAny_field hz rfl (x:=.none) rfl (wpAny_pure ?_)))
 simp only [if_true]
 refine wpAny_bind (wpAny_rule (wpAny_bind (wpAny_field hz rfl (x:=.ref TO) rfl ?_)))
 refine wpAny_bind (wpAny_setField_rec hz (by simp) fun g1 y1 e1=>?_)
 replace y1:IsZip g1 z TI TO .ellipsis:=y1
 refine wpAny_bind ?_
 simp only [List.zipIdx_cons,List.zipIdx_nil,List.forIn_cons,List.forIn_nil]
 refine wpAny_bind (wpAny_bind (wpAny_onRaise ?_))
 show wpAny _ _ (Builtin.SmallTypes.nextOf (.ref i1) >>=_) _ _ _
 have t1:St1 n1 g1:=D1.frame _ _ _ s1 fun c hc o e=>sb e1 c o (D.f1 c hc).1 e
 refine wpAny_bind (D1.done _ _ _ t1 fun g2 e e2 he=>?_)
 obtain ⟨oe,hoe,hce⟩:=he
 have y2:IsZip g2 z TI TO .ellipsis:=e2 _ _ D.i1z.symm y1
 have hez:e≠z:=fun x=>by subst x;rw [y2] at hoe;cases hoe;simp at hce
 exact wpAny_setField_rec y2 (by simp) fun g3 _ e3=>hE g3 e (fun c o c1 c3 x=>sb e3 _ _ c1 (e2 _ _ c3 (sb e1 _ _ c1 x))) ⟨oe,sb e3 _ _ hez hoe,hce⟩
end
abbrev Vn (h:Heap) (x:Str) (t:Tok):Heap:=h.push {cls:=.type (strIterType x),data:=.fields #[.str x t,.int 0 0]}
abbrev Vo (h:Heap) (x:Str) (t:Tok) (l:Addr):Heap:=(Vn h x t).push {cls:=.type "list_iterator",data:=.fields #[.ref l,.int 0 0]}
abbrev Vp (h:Heap) (x:Str) (t:Tok) (l:Addr):Heap:=(Vo h x t l).push {cls:=.type "tuple",data:=.seq #[.ref h.objs.size,.ref (Vn h x t).objs.size]}
abbrev Vq (h:Heap) (x:Str) (t:Tok) (l:Addr):Heap:=(Vp h x t l).push {cls:=.type "tuple",data:=.seq #[.none,.none]}
abbrev Rm (h:Heap) (x:Str) (t:Tok) (l:Addr):Heap:=(Vq h x t l).push {cls:=.type "zip",data:=.fields #[.none,.bool false,.bool false,.ref (Vo h x t l).objs.size,.ref (Vp h x t l).objs.size]}
theorem pI (x:Str) (t:Tok) (l2:Addr) (ys:Array Value):
  Meets (Builtin.«zip.__new__» ⟨[.type "zip",.str x t,.ref l2],[]⟩) (fun _ R s=>s.heap.IsList l2 ys∧R (.ok (.ret (.ref (Vq s.heap x t l2).objs.size))) {s with heap:=Rm s.heap x t l2}):=
 .of_wp fun prog w A R s h=>by
  obtain ⟨hp,g,d,tk,os⟩:=s;obtain ⟨hl2,h⟩:=h
  have hsub:=sub_zip
  have hL2:Heap.IsList (Shared.heap ⟨hp.push {cls:=.type (strIterType x),data:=.fields #[.str x t,.int 0 0]},g,d,tk,os⟩) l2 ys:=Heap.IsList.push hl2 _
  wp_walk using wpAny_pyIter_strU,wpAny_pyIter_list hL2
  exact ⟨_,rfl,h⟩
theorem yo {prog:Program} {w:World} {A:Around} {E:Value→Shared→Prop} {s:Shared} {x:Str} {t:Tok} {l:Addr} {ys:Array Value} {Q:Value→Shared→Prop} (hl:s.heap.IsList l ys)
  (h:∀ h',IsZip h' (s.heap.objs.size+4) (s.heap.objs.size+2) (s.heap.objs.size+3) .none→IsPair h' (s.heap.objs.size+2) (.ref s.heap.objs.size) (.ref (s.heap.objs.size+1))→
   IsPair h' (s.heap.objs.size+3) .none .none→h'.IsStrIter s.heap.objs.size (strIterType x) x t 0→h'.IsListIter (s.heap.objs.size+1) l 0→
   (∀ c o,s.heap.get? c=some o→h'.get? c=some o)→Q (.ref (s.heap.objs.size+4)) {s with heap:=h'}):
  wpAny (model prog w) A (call (.type "zip") [.str x t,.ref l]) Q E s:=by
 refine callType_new F.called_zip (by decide) (F.typeCall_zip_2 _ _) (F.newCall_zip_2 _ _) (fun obj=>F.args_object_init_3 obj _ _) F.entry_zip_new (pI x t l ys) ⟨hl,?_⟩
 have a1:(Vn s.heap x t).objs.size=s.heap.objs.size+1:=Heap.size_push ..
 have a2:(Vo s.heap x t l).objs.size=s.heap.objs.size+2:=by rw [Heap.size_push,a1]
 have a3:(Vp s.heap x t l).objs.size=s.heap.objs.size+3:=by rw [Heap.size_push,a2]
 have a4:(Vq s.heap x t l).objs.size=s.heap.objs.size+4:=by rw [Heap.size_push,a3]
 have pu:∀ {g:Heap} {o u:Obj} {c:Addr},g.get? c=some u→(g.push o).get? c=some u:=fun e=>Heap.get?_push_of_some _ e
 have g5:(Rm s.heap x t l).get? (Vq s.heap x t l).objs.size=some _:=Heap.get?_push_size _ rfl
 have g4:(Rm s.heap x t l).get? (Vp s.heap x t l).objs.size=some _:=pu (Heap.get?_push_size _ rfl)
 have g3:(Rm s.heap x t l).get? (Vo s.heap x t l).objs.size=some _:=pu (pu (Heap.get?_push_size _ rfl))
 have g2:(Rm s.heap x t l).get? (Vn s.heap x t).objs.size=some _:=pu (pu (pu (Heap.get?_push_size _ rfl)))
 have g1:(Rm s.heap x t l).get? s.heap.objs.size=some _:=pu (pu (pu (pu (Heap.get?_push_size _ rfl))))
 show _∧_
 rw [a2,a3,a4] at g5
 rw [a1,a2] at g3
 rw [a3] at g4
 rw [a1] at g2
 rw [a4]
 exact ⟨⟨_,g5,rfl⟩,h _ g5 g3 g4 ⟨_,g1,rfl,rfl⟩ ⟨_,g2,rfl,rfl⟩ fun c o e=>pu (pu (pu (pu (pu e))))⟩
def BR (K:PySem.W.Frag) (x:Str) (b:Addr):It:=
 ⟨fun i H=>i < x.cps.size∧∃ ys y,SqL K H b ys∧ys[i]?=some y,
  fun i H v H'=>∃ T y,H T=none∧v= .ref T∧(∀ ys,SqL K H b ys→ys[i]?=some y)∧H'=upd H T (.tup [.str ⟨#[x.cps.getD i 0]⟩,y]),
  fun i _=>i=x.cps.size⟩
theorem qJ {P:Program} {w:World} {K:PySem.W.Frag} {elts:List Expr} {k:Nat} {pos:Pos} {z TI TO i1 i2 b:Addr} {x:Str} {t:Tok} {ty:String} (D:n8 z TI TO i1 i2 [i1] [i2,b]) (hb2:b≠i2)
  (Dr:∀ A:Around,A.handled=none→Draws P w A i1 [i1] x.cps.size (fun i v=>∃ c u,x.cps[i]?=some c∧v= .str ⟨#[c]⟩ u) (fun i h=>h.IsStrIter i1 ty x t i)):
  Turn P w K (.Tuple elts k pos) (BR K x b) [z,TI,TO,i1,i2] z (fun i h=>IsZip h z TI TO .none∧IsPair h TI (.ref i1) (.ref i2)∧(∃ c d,IsPair h TO c d)∧h.IsStrIter i1 ty x t i∧h.IsListIter i2 b i) where
 mem:=by simp
 obj:=fun i h st c hc=>by
  obtain ⟨hz,hTI,⟨_,_,hTO⟩,⟨o1,e1,_,d1⟩,⟨o2,e2,_,d2⟩⟩:=st
  simp only [List.mem_cons,List.mem_nil_iff,or_false] at hc
  rcases hc with rfl | rfl | rfl | rfl | rfl
  ·exact ⟨_,hz,nofun⟩
  ·exact ⟨_,hTI,nofun⟩
  ·exact ⟨_,hTO,nofun⟩
  ·exact ⟨_,e1,fun v z=>by rw [d1] at z;cases z⟩
  ·exact ⟨_,e2,fun v z=>by rw [d2] at z;cases z⟩
 keep:=fun i h h' st kk=>by
  obtain ⟨hz,hTI,⟨_,_,hTO⟩,⟨o1,e1,r1⟩,h2⟩:=st
  exact ⟨kk z (by simp) _ hz,kk TI (by simp) _ hTI,⟨_,_,kk TO (by simp) _ hTO⟩,⟨o1,kk i1 (by simp) _ e1,r1⟩,h2.at fun o e=>kk i2 (by simp) o e⟩
 item:=by
  intro X hP hw hK hc i pins s σ H E I hf st hg
  subst hP hw hK
  obtain ⟨hz,hTI,⟨c,d,hTO⟩,h1,h2⟩:=st
  obtain ⟨hlt,ys,y,hq,hy⟩:=hg
  obtain ⟨its,rv,p,_⟩:=I.list hq
  obtain ⟨u,hu,ru⟩:=rv.get hy
  have hlt2:i < its.toArray.size:=by
   have:=(List.getElem?_eq_some_iff.mp hu).1
   simpa using this
  have hT:s.TypeIs (.ref z) "zip":=⟨_,hz,rfl⟩
  have hh:X.A.in1.handled=none:=I.ok.hd hc
  unfold pyNext
  refine wpAny_bind (wpAny_attempt (wpAny_callSpecial?_slot (name:=Str.ofString "__next__") hT F.slot_zip_next (wpAny_call_entry F.slot_zip_next hT F.entry_zip_next
   (BP (Dr X.A.in1 hh) (Draws.list hh i2 b hb2 its.toArray) D hz hTI hTO h1 ⟨h2,p.isList⟩ hlt hlt2 fun a1 a2 h' tk px py b1 b2 b3 b4 b5 hk=>wpAny_pure ?_) (F.args_zip_next_1 _))))
  obtain ⟨ch,tu,hch,rfl⟩:=px
  have eu:a2=u:=by
   have h2:its[i]?=some a2:=by simpa using py
   rw [hu] at h2
   exact (Option.some.inj h2).symm
  subst eu
  refine ⟨_,rfl,wpAny_letOwnedTupleGo_zip b1 fun h'' b1' sb=>?_⟩
  have lt:∀ {c o},s.heap.get? c=some o→s.heap.objs.size≠c:=fun e=>Nat.ne_of_gt (Heap.lt_size e)
  have isT:h''.IsTuple s.heap.objs.size #[.str ⟨#[ch]⟩ tu,a2]:=⟨_,sb.extBut _ _ (lt hz) b5,rfl,_,rfl⟩
  have kall:∀ b o,b ∉ [z,TI,TO,i1,i2]→s.heap.get? b=some o→h''.get? b=some o:=fun b o hb e=>by
   simp only [List.mem_cons,List.mem_nil_iff,or_false,not_or] at hb
   exact sb.extBut _ _ hb.1 (hk b o hb.1 hb.2.2.1 hb.2.2.2.1 hb.2.2.2.2 e)
  have hTn:H s.heap.objs.size=none:=I.hok.fresh (Nat.le_refl _)
  have ech:x.cps.getD i 0=ch:=by simp [Array.getD_eq_getD_getElem?,hch]
  refine ⟨.ref s.heap.objs.size,_,I.newtup (tk:=tk) hf (Nat.le_refl _) kall isT (xs:=[.str ⟨#[x.cps.getD i 0]⟩,y]) (.cons ⟨tu,by rw [ech]⟩ (.cons ru .nil)) (by simp;decide),rfl,⟨_,y,hTn,rfl,fun zs hs=>by rw [I.list_inj hs hq];exact hy,rfl⟩,?_,fun b hb=>?_⟩
  ·obtain ⟨o1,e1,r1⟩:=b3
   exact ⟨b1',sb.extBut _ _ D.TIz (hk _ _ D.TIz D.TITO D.TIi1 D.TIi2 hTI),⟨_,_,sb.extBut _ _ D.TOz b2⟩,⟨o1,sb.extBut _ _ D.i1z e1,r1⟩,b4.1.extBut sb.extBut D.i2z⟩
  ·have:s.heap.objs.size≠b:=by
    simp only [List.mem_cons,List.mem_nil_iff,or_false] at hb
    rcases hb with rfl | rfl | rfl | rfl | rfl
    ·exact lt hz
    ·exact lt hTI
    ·exact lt hTO
    ·obtain ⟨o,e,_⟩:=h1;exact lt e
    ·obtain ⟨o,e,_⟩:=h2;exact lt e
   rw [az (Ne.symm this)]
   exact (hf b hb).1
 done:=by
  intro X hP hw hK hc i pins s σ H E I hf st hg
  subst hP hw hK
  obtain ⟨hz,hTI,⟨c,d,hTO⟩,h1,h2⟩:=st
  have hin:i=x.cps.size:=hg
  subst hin
  have hT:s.TypeIs (.ref z) "zip":=⟨_,hz,rfl⟩
  have hh:X.A.in1.handled=none:=I.ok.hd hc
  unfold pyNext
  refine wpAny_bind (wpAny_attempt (wpAny_callSpecial?_slot (name:=Str.ofString "__next__") hT F.slot_zip_next (wpAny_call_entry F.slot_zip_next hT F.entry_zip_next
   (Fy (Dr X.A.in1 hh) D hz hTI h1 fun h' e hk he=>?_) (F.args_zip_next_1 _))))
  obtain ⟨o,ho,hcl⟩:=he
  refine wpAny_bind (wpAny_isInstance (T:="StopIteration") (b:=true) ⟨o,ho,hcl⟩ isSubtype_stop ?_)
  refine wpAny_pure ⟨rfl,I.only (tk:=s.toks) hf fun b o hb e=>?_⟩
  simp only [List.mem_cons,List.mem_nil_iff,or_false,not_or] at hb
  exact hk b o hb.1 hb.2.2.2.1 e
 self:=fun _ _ _ _ _ st h=>wpAny_pyIter_zip st.1 h
end L2
namespace L2
open PySem PySem.Spec PyProof.Rows
open PySem.Sem (wp)
def Fz (K:PySem.W.Frag) (ta:TA):TI:=fun σ H R=>ta σ H fun vs H1=>∃ x b ys,vs=[.str x,.ref b]∧SqL K H1 b ys∧R (BR K x b) H1
theorem FJ {X:Cx} {K:PySem.W.Frag} {a b:Expr} {ta:TA} {elts:List Expr} {k:Nat} {tp p pos:Pos} (hc:X.calm=true) (hK:X.K=K) (hg:Gl X "zip") (hm:X.mg "zip"=none) (ha:JA X [a,b] ta) (h:autoParam (notStar a=true) L2.auto4._auto_1) (h2:autoParam (notStar b=true) L2.auto4._auto_1):
  JI X (.Tuple elts k tp) (.Call (.Name "zip" p) [a,b] [] pos) (Fz K ta):=⟨by
 subst hK
 intro pins s σ H R I hq
 refine Call_ (iD I hg hm Oh (PyProof.Rows.callWith_type1 (cZ (ha.run pos pins s σ H _ I hq) fun us s1 qq0=>?_) (bj h) (by rw [bj h2];rfl)))
 obtain ⟨vs,H1,I1,r1,q1⟩:=qq0
 obtain ⟨x,l,ys,e,hl,q⟩:=q1
 subst e
 obtain ⟨u,u2,rfl,e1,e2⟩:∃ u u2,us=[u,u2]∧RelV (.str x) u∧RelV (.ref l) u2:=by
  cases r1 with
  | cons x r=>cases r with
   | cons y r=>cases r with
    | nil=>exact ⟨_,_,rfl,x,y⟩
 obtain ⟨t,rfl⟩:=e1
 cases e2
 obtain ⟨its,rv,p1,_⟩:=I1.list hl
 have lt1:l < s1.heap.objs.size:=by obtain ⟨o,ho,_⟩:=p1.isList;exact Heap.lt_size ho
 refine yo p1.isList fun h' z1 z2 z3 z4 z5 hk=>?_
 have J1:Inv X pins σ H1 {s1 with heap:=h'}:=I1.kept (t':=s1.toks) hk
 have D:n8 (s1.heap.objs.size+4) (s1.heap.objs.size+2) (s1.heap.objs.size+3) s1.heap.objs.size (s1.heap.objs.size+1) [s1.heap.objs.size] [s1.heap.objs.size+1,l]:=by
  have key:∀ n b:Nat,b < n→n8 (n+4) (n+2) (n+3) n (n+1) [n] [n+1,b]:=fun n b h2=>by
   have k1:∀ c:Nat,c=n→c≠n+4∧c≠n+3∧c≠n+1:=fun c hc=>by omega
   have k2:∀ c:Nat,(c=n+1∨c=b)→c≠n+4∧c≠n+3∧c≠n:=fun c hc=>by omega
   refine ⟨?_,?_,?_,?_,?_,?_,?_,?_,?_,?_,fun c hc=>k1 c (List.mem_singleton.mp hc),fun c hc=>k2 c (by simpa only [List.mem_cons,List.mem_nil_iff,or_false] using hc)⟩
   all_goals (show (_:Nat)≠_;omega)
  exact key _ _ lt1
 have nb:l≠s1.heap.objs.size+1:=Nat.ne_of_lt (Nat.lt_succ_of_lt lt1)
 refine wpAny_pyIter_zip z1 ?_
 have fpk:∀ b∈[s1.heap.objs.size+4,s1.heap.objs.size+2,s1.heap.objs.size+3,s1.heap.objs.size,s1.heap.objs.size+1],s1.heap.objs.size≤b:=by
  intro b hb
  simp only [List.mem_cons,List.mem_nil_iff,or_false] at hb
  have key:∀ n c:Nat,(c=n+4∨c=n+2∨c=n+3∨c=n∨c=n+1)→n≤c:=fun n c h=>by omega
  exact key _ _ hb
 cases hx:x.cps.all (· < 128)
 ·exact ⟨s1.heap.objs.size+4,_,_,_,H1,rfl,J1,qJ (ty:="str_iterator") (x:=x) (t:=t) D nb (fun A hA=>Draws.strWide hA _ x t),⟨z1,z2,⟨_,_,z3⟩,by simpa [strIterType,hx] using z4,z5⟩,fun b hb=>I1.fpOk (fpk b hb) (I1.hok.fresh (fpk b hb)),q⟩
 ·exact ⟨s1.heap.objs.size+4,_,_,_,H1,rfl,J1,qJ (ty:="str_ascii_iterator") (x:=x) (t:=t) D nb (fun A hA=>Draws.strAscii hA _ x t),⟨z1,z2,⟨_,_,z3⟩,by simpa [strIterType,hx] using z4,z5⟩,fun b hb=>I1.fpOk (fpk b hb) (I1.hok.fresh (fpk b hb)),q⟩⟩
section
variable {σ:St} {H:Hp} {K:PySem.W.Frag}
theorem f9 {a:TA} {R:It→Hp→Prop} (h:a σ H fun vs H1=>∃ x b ys,vs=[.str x,.ref b]∧SqL K H1 b ys∧R (BR K x b) H1):Fz K a σ H R:=h
theorem BV {x:Str} {b:Addr} {ys:List V} {g:TG} {tb:TS} {D:Ends} (Pv:Nat→St→Hp→Prop) (hl:x.cps.size=ys.length) (h0:Pv 0 σ H) (hq:∀ i σ H,i≤ys.length→Pv i σ H→SqL K H b ys)
  (hs:∀ i σ H T y,ys[i]?=some y→Pv i σ H→H T=none→g (.ref T) σ (upd H T (.tup [.str ⟨#[x.cps.getD i 0]⟩,y])) fun σ2 H2=>tb {D with nx:=Pv (i+1),ct:=Pv (i+1),bk:=D.nx} σ2 H2) (hd:∀ σ H,Pv ys.length σ H→D.nx σ H):
  ∃ W:Nat→Nat→St→Hp→Prop,(∃ m,W 0 m σ H)∧∀ i m σ H,W i m σ H→
   ((BR K x b).stop i H∧D.nx σ H)∨((BR K x b).go i H∧∃ N:St→Hp→Prop,(∀ σ' H',N σ' H'→∃ m',m' < m∧W (i+1) m' σ' H')∧∀ z H',(BR K x b).yld i H z H'→g z σ H' fun σ2 H2=>tb {D with nx:=N,ct:=N,bk:=D.nx} σ2 H2):=by
 refine ⟨fun i m σ H=>m=ys.length - i∧i≤ys.length∧Pv i σ H,⟨ys.length,by simp,Nat.zero_le _,h0⟩,?_⟩
 rintro i m σ H ⟨rfl,hi,p⟩
 have q1:=hq i σ H hi p
 by_cases hlt:i < ys.length
 ·refine .inr ⟨⟨by omega,ys,ys[i],q1,List.getElem?_eq_getElem hlt⟩,Pv (i+1),fun σ' H' p'=>⟨ys.length - (i+1),by omega,rfl,hlt,p'⟩,fun z H' y=>?_⟩
  obtain ⟨T,u,hT,e1,e2,e4⟩:=y
  subst e1 e4
  exact hs i σ H T u (e2 ys q1) p hT
 ·have e:i=ys.length:=by omega
  subst e
  exact .inl ⟨hl.symm,hd σ H p⟩
end
end L2
namespace L2
open PySem PySem.Spec PyProof.Rows
open PySem.Sem (wp)
open AutoSeq1 (wpAny_loadPart')
section
variable {X:Cx}
end
section
variable {H:Hp} {Q:VK} {K:PySem.W.Frag}
end
end L2
namespace L2
open PySem PySem.W PySem.Spec PyProof.Rows
section
variable {g:Nat→Int} {N:Nat}
end
end L2
namespace L2
open PySem PySem.W PySem.Spec PyProof.Rows
section
variable {prog:Program} {w:World} {A:Around} {E:Value→Shared→Prop} {s:Shared}
end
end L2
namespace L2
open PySem PySem.W PySem.Spec PyProof.Rows
section
variable {prog:Program} {w:World} {A:Around} {E:Value→Shared→Prop} {s:Shared}
end
section
variable {X:Cx}
end
section
variable {H:Hp} {Q:VK}
end
end L2
namespace L2
open PySem PySem.Spec PyProof.Rows
open PySem.Sem (wp)
section
variable {prog:Program} {w:World} {A:Around} {E:Value→Shared→Prop} {s:Shared} {z TI TO i1 i2:Addr} {fp1 fp2:List Addr} {n1 n2 k1 k2:Nat} {P1 P2:Nat→Value→Prop} {St1 St2:Nat→Heap→Prop} {a b f0 f1:Value}
end
end L2
namespace L2
open PySem PySem.Spec PyProof.Rows
open PySem.Sem (wp)
open PySem.AutoSeq1 (wpAny_loadPart')
section
variable {prog:Program} {w:World} {A:Around} {E:Value→Shared→Prop} {s:Shared} {z TI TO i1 i2 e:Addr} {fp1 fp2:List Addr} {n1 n2 k1 k2:Nat} {P1 P2:Nat→Value→Prop} {St1 St2:Nat→Heap→Prop} {a b f0 f1:Value}
end
structure EApart (e z TI TO i1 i2 a b:Addr):Prop where
 Z:n8 z TI TO i1 i2 [i1,a] [i2,b]
 ez:e≠z
 eTI:e≠TI
 eTO:e≠TO
 ei1:e≠i1
 ei2:e≠i2
 a1:a≠i1
 b2:b≠i2
end L2
namespace L2
open PySem PySem.Spec PyProof.Rows
open PySem.Sem (wp)
open PySem.AutoSeq1 (wpAny_loadPart')
section
variable {σ:St} {H:Hp} {K:PySem.W.Frag}
end
end L2
namespace L2
open PySem PySem.Spec PyProof.Rows
open PySem.Sem (wp)
section
variable {prog:Program} {w:World} {A:Around} {E:Value→Shared→Prop} {s:Shared}
end
structure TurnU (P:Program) (w:World) (K:PySem.W.Frag) (tg:Expr) (J:It) (fp:List Addr) (it:Addr) (tn:Nat→Heap→Prop) (xh:Addr):Prop where
 mem:it∈fp
 obj:∀ i h,tn i h→∀ b∈fp,∃ o,h.get? b=some o∧∀ v,o.data≠.cell v
 keep:∀ i h h',tn i h→(∀ b∈fp,∀ o,h.get? b=some o→h'.get? b=some o)→tn i h'
 item:∀ (X:Cx),X.prog=P→X.w=w→X.K=K→X.A.handled=some (.ref xh)→∀ (i:Nat) (pins:List (Addr×Obj)) (s:Shared) (σ:St) (H:Hp) (E:Value→Shared→Prop),Inv X pins σ H s→(∀ b∈fp,ik X pins H b)→tn i s.heap→J.go i H→
  wpAny (model P w) X.A (pyNext (.ref it)) (fun r s1=>∃ u,r=some u∧
   wpAny (model P w) X.A (letOwnedTupleGo tg (.ref it) u) (fun _ s2=>∃ x H',Inv X pins σ H' s2∧RelV x u∧J.yld i H x H'∧tn (i+1) s2.heap∧∀ b∈fp,H' b=none) E s1) E s
 done:∀ (X:Cx),X.prog=P→X.w=w→X.K=K→X.A.handled=some (.ref xh)→∀ (i:Nat) (pins:List (Addr×Obj)) (s:Shared) (σ:St) (H:Hp) (E:Value→Shared→Prop),Inv X pins σ H s→(∀ b∈fp,ik X pins H b)→tn i s.heap→J.stop i H→
  wpAny (model P w) X.A (pyNext (.ref it)) (fun r s1=>r=none∧Inv X pins σ H s1) E s
 self:∀ (A:Around) (i:Nat) (s:Shared) (Q:Value→Shared→Prop) (E:Value→Shared→Prop),tn i s.heap→Q (.ref it) s→wpAny (model P w) A (pyIter (.ref it)) Q E s
section
variable {X:Cx} {tg iter elt:Expr} {ifs:List Expr} {scope:Scope} {pos:Pos} {N':List Str} {sub:List (Option Nat)} {wi:TI} {g:TG} {tt:TT} {te:TE}
end
structure FnV (P:Program) (w:World) (K:PySem.W.Frag) (mg:Str→Option Value) (base:Heap) (k:Nat) (f:Addr) (fd:FuncData) (ps:List Str) (sp:Addr→Sp):Prop where
 len:∀ xh vs H Q E,sp xh vs H Q E→vs.length=ps.length
 run:∀ (A:Around) (outer:List Env) (s:Shared) (H:Hp) (args:Args) (us:List Value) (vs:List V) (Q:VK) (E:XK) (xh:Addr),A.handled=some (.ref xh)→Lw k A→Env0 P w K mg base A outer s H→BindsTo s fd args (ps.zip us)→Vals vs us→sp xh vs H Q E→
  codeAny (model P w) A (.call (.ref f) args) (CR xK outer P w H s Q E) s
end L2
namespace L2
open PySem PySem.Spec PyProof.Rows
section
variable {X:Cx} {nm n:Str} {P:Addr} {i:Nat} {p pos:Pos} {b0:Stmt} {suite:List Stmt} {ts:Addr→TS} {th:TH} {hs:List ExceptHandler}
variable {K:PySem.W.Frag} {x:Str}
end
end L2
namespace L2
open PySem PySem.Spec PyProof.Rows
section
variable {K:PySem.W.Frag} {σ:St} {H:Hp}
end
section
variable {X:Cx}
end
section
variable {K:PySem.W.Frag} {H:Hp} {Q:VK}
end
end L2
namespace L2
open PySem PySem.Spec PyProof.Rows
structure yp (K:PySem.W.Frag) (mg:Str→Option Value) (x:Str):Prop where
 at_:mg x=some (.ref (aZ mg x))
 cl:Cls K (aZ mg x)
 makes:PySem.W.makesIn K (aZ mg x)=true
 kp:PySem.W.keepIn K (.ref (aZ mg x))=true
def clsIn (K:PySem.W.Frag) (C:Addr):Bool:=PySem.W.plainGet K C Str.empty && PySem.W.hasDictIn K C && PySem.W.plainOver K C
theorem Tf {K:PySem.W.Frag} {mg:Str→Option Value} {h:Heap} (X:K.In h) (G:h.Ns mainGlobals mg) {x:Str} {C:Addr} (a:PySem.W.nsIn K mainGlobals x=some (some (.ref C))) (b:clsIn K C=true)
  (s:PySem.W.findIn K (.ref C) "__setattr__"=some (some (.builtin "object.__setattr__"))) (m:PySem.W.makesIn K C=true) (k:PySem.W.keepIn K (.ref C)=true):yp K mg x:=by
 have e0:=PySem.W.mg_of X G a
 have e:=ni e0
 unfold clsIn at b
 simp only [Bool.and_eq_true] at b
 exact ⟨by rw [e];exact e0,by rw [e];exact ⟨b.1.1,b.1.2,b.2,s⟩,by rw [e];exact m,by rw [e];exact k⟩
structure lC (K:PySem.W.Frag) (mg:Str→Option Value) (x m qual:Str) (st:Stmt):Prop where
 ex:∃ f fd,Meth K (aZ mg x) m f∧Fun K m qual st f fd
theorem qK {K:PySem.W.Frag} {mg:Str→Option Value} {h:Heap} (X:K.In h) (G:h.Ns mainGlobals mg) {x m qual:Str} {C f:Addr} {st:Stmt} {oc:Value} {od an:Option Addr} {osl:Array (Option Value)} {kV doc pm cdv ct:Value}
  (a:PySem.W.nsIn K mainGlobals x=some (some (.ref C))) (i:PySem.W.findIn K (.ref C) m=some (some (.ref f))) (n:PySem.W.isFn K (.ref f)=true)
  (l:K.lookup f=some ⟨oc,od,.func (PySem.W.fnOf m qual (dM st) (bY st) (au st) .none kV doc pm an cdv ct),osl⟩) (c:PySem.W.codeIn K cdv qual=true) (k:PySem.W.keepIn K (.ref f)=true):lC K mg x m qual st:=by
 have e:=ni (PySem.W.mg_of X G a)
 exact ⟨f,_,by rw [e];exact ⟨i,n,k⟩,xM l c k⟩
theorem Tg {K:PySem.W.Frag} {mg:Str→Option Value} {h:Heap} (X:K.In h) (G:h.Ns mainGlobals mg) {x:Str} {C:Addr} {fl:List Str} (a:PySem.W.nsIn K mainGlobals x=some (some (.ref C))) (b:Fp K C fl=true):∀ f∈fl,NoAttr K (aZ mg x) f:=fun n hn=>by
 rw [ni (PySem.W.mg_of X G a)]
 have:=List.all_eq_true.mp b n hn
 first | exact of_decide_eq_true this | exact beq_iff_eq.mp this | simpa using this
def qL (j:Nat):Stmt→Stmt
 | .ClassDef _ _ _ ss _ _ _ _ _ _ _=>ss.getD j (.Pass ⟨0,0,0,0⟩)
 | s=>s
def pJ (P:Program) (w:World) (K:PySem.W.Frag) (mg:Str→Option Value) (base:Heap) (k:Nat) (x m:Str) (ps:List Str) (sp:Sp):Prop:=
 ∃ f fd,Meth K (aZ mg x) m f∧Binds K fd ps []∧mQ P w K mg base (Jb P w) k f fd ps sp
section
variable {P:Program} {w:World} {K:PySem.W.Frag} {mg:Str→Option Value} {base:Heap}
theorem yq {x m qual:Str} {st:Stmt} {N ps:List Str} {k:Nat} {sp:Sp} (D:lC K mg x m qual st) (S:aF N ps (au st))
  (hb:∀ (kV doc pm:Value) (an:Option Addr) (cdv ct:Value) (us:List Value),us.length=ps.length→bindArgs (PySem.W.fnOf m qual (dM st) (bY st) (au st) .none kV doc pm an cdv ct) ⟨us,[]⟩=pure (ps.zip us))
  (len:∀ vs H Q E,sp vs H Q E→vs.length=ps.length)
  (hbody:∀ (f:Addr) (cdv:Value) (A:Around) (outer:List Env) (s:Shared) (H:Hp) (vs:List V) (Q:VK) (E:XK),Room k (A.deeper (envOfC qual (au st) s.heap.objs.size f cdv))→sp vs H Q E→
   ∃ t,JB (mq (Jb P w) P w K mg base N qual (au st) f cdv A outer s H E) (bY st) t∧t {nx:=fun _ H'=>Q .non H',rt:=Q} (start N vs) H):pJ P w K mg base (k+1) x m ps sp:=by
 obtain ⟨f,fd,hm,F⟩:=D.ex
 refine ⟨f,fd,hm,F.binds hb,?_⟩
 obtain ⟨oc,od,kV,doc,pm,an,cdv,ct,osl,rfl,lk,hcd⟩:=F.ex
 exact Dm lk hcd S len fun A outer s H vs Q E hr h=>let ⟨t,j,q⟩:=hbody f cdv A outer s H vs Q E hr h;⟨t,j.run,q⟩
end
def uL (C:Addr) (m:Str) (sp:Sp) (R:St→XK) (ta:TE) (t:TA):TE:=fun σ H Q=>ta σ H fun x H1=>∃ a dx fs,x= .ref a∧H1 a=some (.ins C dx fs)∧fs.lookup m=none∧t σ H1 fun vs H2=>sp (x :: vs) H2 Q (R σ)
def FN (C:Addr) (sp:Sp) (R:St→XK) (t:TA):TE:=fun σ H Q=>t σ H fun vs H1=>∀ x dx,H1 x=none→H1 dx=none→dx≠x→
 sp (.ref x :: vs) (upd (upd H1 dx (.own x)) x (.ins C dx [])) (fun v H2=>v= .non∧Q (.ref x) H2) (R σ)
section
variable {X:Cx} {K:PySem.W.Frag} {k:Nat} {f C:Addr} {ps:List Str} {sp:Sp} {R:St→XK} {x m fn:Str} {p pos apos pos':Pos} {e o value:Expr} {es:List Expr} {ta tv:TE} {t:TA} {pins:List (Addr×Obj)} {σ:St} {H:Hp} {s:Shared} {Q:VK} {us:List Value} {vs:List V}
theorem dD {pl:Sem Bool} (he:JE X o ta) (c:yp X.K X.mg x) (F:pJ X.prog X.w X.K X.mg X.base k x m ps sp) (hr:Room k X.A) (hx:jP X R) (ha:JA X (e :: es) t)
  (hs:autoParam ((e :: es).all notStar=true) L2.auto4._auto_1)
  (ht:eval (.Call (.Attribute o m apos) (e :: es) [] pos) X.env=(do
   let ov ← eval o X.env
   standAt apos.atName
   let (f,first) ← holding [ov] (getMethod ov m pl)
   callWith pos f first (backTo pos (starEach (e :: es) X.env)) (backToKw pos (keywordEach [] X.env))):=by rfl):
  JE X (.Call (.Attribute o m apos) (e :: es) [] pos) (uL (aZ X.mg x) m sp R ta t):=⟨by
 have h1:notStar e=true:=by simp only [List.all_cons,Bool.and_eq_true] at hs;exact hs.1
 have h2:es.all notStar=true:=by simp only [List.all_cons,Bool.and_eq_true] at hs;exact hs.2
 obtain ⟨f,fd,hm,hb,F⟩:=F
 intro pins s σ H Q I h
 refine PySem.W.methodCall_KW (pl:=pl) (cZ (he.run pins s σ H _ I h) fun u s1 qq0=>?_) ht
 obtain ⟨x,H1,I1,rx,a,dx,fs,ex,ea,l,q⟩:=qq0
 subst ex
 obtain rfl:u=Value.ref a:=rx
 refine qd I1 ea c.cl hm l ?_
 refine PySem.W.callWith_K (first:=[.ref a]) (h₀:=X.base) I.ok.mod.kin hm.kp (cZ (ha.run pos pins s1 σ H1 _ I1 q) fun us s2 ⟨vs,H2,I2,r,q2⟩=>⟨I2.kIn,?_⟩) (bj h1) (iH h2)
 exact uH (us:=.ref a :: us) (vs:=.ref a :: vs) F hr hb hx I2 (.cons rfl r) q2⟩
theorem wk {pl:Sem Bool} (he:JE X o ta) (c:yp X.K X.mg x) (F:pJ X.prog X.w X.K X.mg X.base k x m ps sp) (hr:Room k X.A) (hx:jP X R)
  (ht:eval (.Call (.Attribute o m apos) [] [] pos) X.env=(do
   let ov ← eval o X.env
   standAt apos.atName
   let (f,first) ← holding [ov] (getMethod ov m pl)
   callWith pos f first (backTo pos (starEach [] X.env)) (backToKw pos (keywordEach [] X.env))):=by rfl):
  JE X (.Call (.Attribute o m apos) [] [] pos) (uL (aZ X.mg x) m sp R ta Dl):=⟨by
 obtain ⟨f,fd,hm,hb,F⟩:=F
 intro pins s σ H Q I h
 refine PySem.W.methodCall_KW (pl:=pl) (cZ (he.run pins s σ H _ I h) fun u s1 qq0=>?_) ht
 obtain ⟨x,H1,I1,rx,a,dx,fs,ex,ea,l,q⟩:=qq0
 subst ex
 obtain rfl:u=Value.ref a:=rx
 refine qd I1 ea c.cl hm l ?_
 exact PySem.W.callWith_K0 (first:=[.ref a]) I1.kIn hm.kp (uH (us:=[.ref a]) (vs:=[.ref a]) F hr hb hx I1 (.cons rfl .nil) q)⟩
theorem BW (c:yp X.K X.mg x) (F:pJ X.prog X.w X.K X.mg X.base k x "__init__" ps sp) (hr:Room (k+1) X.A) (hx:jP X R) (I:Inv X pins σ H s) (r:Vals vs us)
  (h:∀ y dx,H y=none→H dx=none→dx≠y→sp (.ref y :: vs) (upd (upd H dx (.own y)) y (.ins (aZ X.mg x) dx [])) (fun v H2=>v= .non∧Q (.ref y) H2) (R σ)):
  wpAny (model X.prog X.w) X.A (call (.ref (aZ X.mg x)) us) (EP X pins σ Q) X.xe s:=by
 obtain ⟨f,fd,hm,hb,F⟩:=F
 have hq:=h (s.heap.objs.size+1) s.heap.objs.size (I.hok.fresh (Nat.le_succ _)) (I.hok.fresh (Nat.le_refl _)) (Nat.ne_of_lt (Nat.lt_succ_self _))
 have I2:=Inv.made (C:=aZ X.mg x) I
 have r2:Vals (V.ref (s.heap.objs.size+1) :: vs) (Value.ref (s.heap.objs.size+1) :: us):=.cons rfl r
 have hl:((Value.ref (s.heap.objs.size+1) :: us) ++ []).length=ps.length:=by
  have e:=r2.length
  rw [F.len _ _ _ _ hq] at e
  rw [List.append_nil]
  exact e.symm
 have bd:=hb _ (Value.ref (s.heap.objs.size+1) :: us) I2.kIn hl
 rw [List.append_nil] at bd
 refine wpAny_call (Dk (f:=f) I.kIn c.makes hm.at_ (beq_iff_eq.mp hm.fn) (codeAny_mono (F.run _ X.stack _ _ ⟨Value.ref (s.heap.objs.size+1) :: us,[]⟩ (Value.ref (s.heap.objs.size+1) :: us) _ _ (R σ) (hr.make (aZ X.mg x) us [])
  (I2.env0.make (aZ X.mg x) us []) bd r2 hq) fun r s' hq'=>?_))
 cases r with
 | error e=>exact hx pins e s' (zF I2 hq')
 | ok fl=>
  cases fl with
  | ret u=>
   obtain ⟨v,H',I3,rv,ev,q3⟩:=I2.after hq'
   subst ev
   exact ⟨rv,⟨V.ref (s.heap.objs.size+1),H',I3,rfl,q3⟩⟩
  | next=>exact False.elim hq'
  | brk=>exact False.elim hq'
  | cont=>exact False.elim hq'
theorem zO (c:yp X.K X.mg x) (F:pJ X.prog X.w X.K X.mg X.base k x "__init__" ps sp) (hr:Room (k+1) X.A) (hg:Gl X x) (hx:jP X R) (ha:JA X (e :: es) t) (hdb:(x == ("__debug__":Str))=false) (h:autoParam ((e :: es).all notStar=true) L2.auto4._auto_1):
  JE X (.Call (.Name x p) (e :: es) [] pos) (FN (aZ X.mg x) sp R t):=⟨by
 have h1:notStar e=true:=by simp only [List.all_cons,Bool.and_eq_true] at h;exact h.1
 have h2:es.all notStar=true:=by simp only [List.all_cons,Bool.and_eq_true] at h;exact h.2
 intro pins s σ H Q I h
 refine wpAny_Call_Name_kw (mO I hg c.at_ ?_ hdb)
 refine PySem.W.callWith_K (h₀:=X.base) I.ok.mod.kin c.kp (cZ (ha.run pos pins s σ H _ I h) fun us s1 ⟨vs,H1,I1,r,q⟩=>⟨I1.kIn,?_⟩) (bj h1) (iH h2)
 exact BW c F hr hx I1 r q⟩
theorem o6 (hK:X.K=K) (he:JE X e ta) (h:autoParam (kh e=true) L2.auto4._auto_1):JE X (.Attribute e fn pos) (Ng K ta fn):=by
 subst hK
 exact ⟨Ni he.run (by cases e <;> first | rfl | cases h)⟩
theorem oh (hK:X.K=K) (ha:JE X o ta) (hv:JE X value tv) (h:autoParam (gB value=true) L2.auto4._auto_1):JS X (.Assign [.Attribute o fn pos'] value pos) (Nh K ta tv fn):=by
 subst hK
 exact ⟨Nj ha.run hv.run (tH h)⟩
end
section
variable {σ:St} {H:Hp} {D:Ends} {Q:VK} {sp:Sp} {R:St→XK} {a:TA} {K:PySem.W.Frag} {C:Addr} {ta tv:TE} {f m:Str}
theorem gb (h:ta σ H fun x H1=>∃ b dx fs,x= .ref b∧H1 b=some (.ins C dx fs)∧fs.lookup m=none∧a σ H1 fun vs H2=>sp (x :: vs) H2 Q (R σ)):uL C m sp R ta a σ H Q:=h
theorem gf (h:a σ H fun vs H1=>∀ x dx,H1 x=none→H1 dx=none→dx≠x→sp (.ref x :: vs) (upd (upd H1 dx (.own x)) x (.ins C dx [])) (fun v H2=>v= .non∧Q (.ref x) H2) (R σ)):FN C sp R a σ H Q:=h
theorem lZ (h:ta σ H fun x H1=>∃ a C dx fs v,x= .ref a∧H1 a=some (.ins C dx fs)∧Cls K C∧NoAttr K C f∧fs.lookup f=some v∧Q v H1):Ng K ta f σ H Q:=h
theorem jq (h:tv σ H fun y H1=>ta σ H1 fun x H2=>∃ a C dx fs,x= .ref a∧H2 a=some (.ins C dx fs)∧Cls K C∧NoAttr K C f∧fs.length < 1000∧D.nx σ (upd H2 a (.ins C dx (iG f y fs)))):Nh K ta tv f D σ H:=h
end
end L2
namespace L2
open PySem PySem.Spec PyProof.Rows
section
variable {X:Cx} {mg:Str→Option Value} {o:Expr} {ta:TE} {t:TA} {x m:Str} {ps:List Str} {sp:Sp} {k:Nat} {R:St→XK} {e:Expr} {es:List Expr} {pos apos:Pos}
end
end L2
namespace L2
open PySem PySem.Spec PyProof.Rows
section
variable {σ:St} {H:Hp} {Q:VK}
def O7 (o:HO) (n:Nat) (H:Hp) (Q:VK):Prop:=n≤sizeLine∧∀ p,H p=none→Q (.ref p) (upd H p o)
theorem uM {a:TA} (h:a σ H fun xs H1=>O7 (.lst xs) xs.length H1 Q):HX a σ H Q:=h
theorem uN {a:TA} (h:a σ H fun xs H1=>O7 (.tup xs) xs.length H1 Q):HW a σ H Q:=h
theorem cR {o:HO} {n:Nat} (c:Nat.ble n 64=true) (h:∀ p H',H p=none→Same H H'→H' p=some o→Q (.ref p) H'):O7 o n H Q:=
 ⟨Nat.le_trans (Nat.le_of_ble_eq_true c) (by decide),fun p np=>h p _ np ((Same.refl H).upd np) ak⟩
end
end L2
namespace L2
open PySem PySem.Spec PyProof.Rows
section
variable {X:Cx}
end
end L2
namespace L2
open PySem PySem.Spec PyProof.Rows
section
variable {sub:List (Option Nat)} {g:TG} {tt:TT} {te:TE} {σ:St} {Q:VK} {H:Hp} {K:PySem.W.Frag} {a:Addr} {xs:List V} {lo:Int} {n:Nat} {z:Str}
theorem yr (Pv:Nat→List V→Hp→Prop) (hn:xs.length≤sizeLine) (h0:Pv 0 [] H) (hl:∀ i ys H,Pv i ys H→ys.length≤i) (hq:∀ i ys H,Pv i ys H→SqL K H a xs)
  (hs:∀ i ys H x,xs[i]?=some x→Pv i ys H→g x (c7 sub σ) H fun σ2 H2=>KeepSt (c7 sub σ) σ2∧tt σ2 H2 fun b H3=>if b=true then te σ2 H3 fun y H4=>Pv (i+1) (ys ++ [y]) H4 else Pv (i+1) ys H3)
  (hd:∀ ys H D H',Pv xs.length ys H→H D=none→Same H H'→H' D=some (.lst ys)→Q (.ref D) H'):qp sub g tt te σ Q (La K a) H:=
 tO Pv hn h0 hl hq hs fun ys H p D nD=>hd ys H D _ p nD ((Same.refl H).upd nD) ak
theorem BX (Pv:Nat→List V→Hp→Prop) (hn:z.cps.size≤sizeLine) (h0:Pv 0 [] H) (hl:∀ i ys H,Pv i ys H→ys.length≤i)
  (hs:∀ i ys H c,z.cps.toList[i]?=some c→Pv i ys H→g (.str ⟨#[c]⟩) (c7 sub σ) H fun σ2 H2=>KeepSt (c7 sub σ) σ2∧tt σ2 H2 fun b H3=>if b=true then te σ2 H3 fun y H4=>Pv (i+1) (ys ++ [y]) H4 else Pv (i+1) ys H3)
  (hd:∀ ys H D H',Pv z.cps.size ys H→H D=none→Same H H'→H' D=some (.lst ys)→Q (.ref D) H'):qp sub g tt te σ Q (Rh z) H:=
 vZ Pv hn h0 hl hs fun ys H p D nD=>hd ys H D _ p nD ((Same.refl H).upd nD) ak
theorem Jm {f:Nat→V} {i:Nat} {y:V} (h:y=f i):(List.range i).map f ++ [y]=(List.range (i+1)).map f:=by rw [h,List.range_succ,List.map_append];rfl
end
end L2
namespace L2
open PySem PySem.Spec PyProof.Rows
def Kr (rk:Keyed→Int) (xs:Array Keyed) (i:Nat):Int:=match xs[i]? with
 | some p=>rk p
 | none=>0
structure SB (a₀:Array Keyed) (kd:SortKind) (st:SortSt):Prop where
 perm:(arrOf st).Perm a₀
 kind:kindOf st=kd
 failed:failedOf st=none
section
variable {M:Model} {A:Around} {E:Value→Shared→Prop} {s:Shared} {kd:SortKind} {rk:Keyed→Int} {a₀:Array Keyed}
structure Nx (a₀:Array Keyed) (kd:SortKind) (rk:Keyed→Int) (lo:Nat) (st st':SortSt):Prop where
 sb:SB a₀ kd st'
 fr:∀ k,k < lo→Kr rk (arrOf st') k=Kr rk (arrOf st) k
 pe:pendingOf st'=pendingOf st
end
end L2
namespace L2
open PySem PySem.Spec PyProof.Rows
section
variable {M:Model} {A:Around} {E:Value→Shared→Prop} {s:Shared} {kd:SortKind} {rk:Keyed→Int} {a₀:Array Keyed}
end
end L2
namespace L2
open PySem PySem.Spec PyProof.Rows
section
variable {M:Model} {A:Around} {E:Value→Shared→Prop} {s:Shared} {kd:SortKind} {rk:Keyed→Int} {a₀:Array Keyed}
abbrev PwL (rk:Keyed→Int) (l:List Keyed):Prop:=l.Pairwise fun p q=>rk p≤rk q
structure Sm (st st':SortSt):Prop where
 arr:arrOf st'=arrOf st
 kind:kindOf st'=kindOf st
 failed:failedOf st'=failedOf st
 pend:pendingOf st'=pendingOf st
structure MI (rk:Keyed→Int) (a b out:Array Keyed) (ia ib:Nat):Prop where
 ha:ia≤a.size
 hb:ib≤b.size
 so:PwL rk out.toList
 le:∀ p∈out.toList,∀ q∈a.toList.drop ia ++ b.toList.drop ib,rk p≤rk q
 pm:(out.toList ++ (a.toList.drop ia ++ b.toList.drop ib)).Perm (a.toList ++ b.toList)
end
end L2
set_option maxHeartbeats 8000000
namespace L2
open PySem PySem.Spec PyProof.Rows
section
variable {M:Model} {A:Around} {E:Value→Shared→Prop} {s:Shared} {kd:SortKind} {rk:Keyed→Int} {a₀:Array Keyed}
end
end L2
namespace L2
open PySem PySem.Spec PyProof.Rows
section
variable {M:Model} {A:Around} {E:Value→Shared→Prop} {s:Shared} {kd:SortKind} {rk:Keyed→Int} {a₀:Array Keyed}
structure MH (rk:Keyed→Int) (a b out:Array Keyed) (na nb:Nat):Prop where
 ha:na≤a.size
 hb:nb≤b.size
 so:PwL rk out.toList.reverse
 le:∀ p∈a.toList.take na ++ b.toList.take nb,∀ q∈out.toList,rk p≤rk q
 pm:((a.toList.take na ++ b.toList.take nb) ++ out.toList.reverse).Perm (a.toList ++ b.toList)
end
end L2
namespace L2
open PySem PySem.Spec PyProof.Rows
section
variable {M:Model} {A:Around} {E:Value→Shared→Prop} {s:Shared} {kd:SortKind} {rk:Keyed→Int} {a₀:Array Keyed}
end
end L2
namespace L2
open PySem PySem.Spec PyProof.Rows
section
variable {M:Model} {A:Around} {E:Value→Shared→Prop} {s:Shared} {kd:SortKind} {rk:Keyed→Int} {a₀:Array Keyed}
end
end L2
namespace L2
open PySem PySem.W PySem.Spec PyProof.Rows
section
variable {prog:Program} {w:World} {A:Around} {E:Value→Shared→Prop} {s:Shared}
end
section
variable {X:Cx}
end
section
variable {H:Hp} {Q:VK}
end
end L2
namespace L2
open PySem PySem.Spec PyProof.Rows
section
variable {prog:Program} {w:World} {A:Around} {E:Value→Shared→Prop} {s:Shared}
end
end L2
namespace L2
open PySem PySem.Spec PyProof.Rows
section
variable {K:PySem.W.Frag} {σ:St} {H:Hp}
end
end L2
namespace L2
open PySem PySem.W PySem.Spec PyProof.Rows
section
variable {prog:Program} {w:World} {A:Around} {E:Value→Shared→Prop} {s:Shared}
end
section
variable {X:Cx}
end
section
variable {H:Hp} {Q:VK}
end
end L2
namespace L2
open PySem PySem.Spec PyProof.Rows
end L2
namespace L2
open PySem PySem.Spec PyProof.Rows
section
variable {X:Cx}
end
section
variable {H:Hp} {Q:VK} {K:PySem.W.Frag}
end
end L2
namespace L2
open PySem PySem.Spec PyProof.Rows
section
variable {X:Cx} {N':List Str} {scope:Scope} {C:Addr} {s₀:Shared} {H₀:Hp} {ex:List Addr} {x:Str} {pos:Pos}
end
end L2
namespace L2
open PySem PySem.Spec PyProof.Rows
section
variable {X:Cx}
end
section
variable {H:Hp} {Q:VK}
end
section
variable {sub:List (Option Nat)} {g:TG} {tt:TT} {te:TE} {σ:St} {Q:VK} {H:Hp} {K:PySem.W.Frag} {a b:Addr} {xs ys:List V}
end
end L2
namespace HT
open PySem PySem.Spec PyProof.Rows
section
variable {prog:Program} {w:World} {A:Around} {E:Value→Shared→Prop} {s:Shared}
end
end HT
namespace L2
open PySem PySem.Spec PyProof.Rows
section
variable {X:Cx}
end
section
variable {H:Hp} {Q:VK} {K:PySem.W.Frag} {p:Addr} {xs:List V} {lo hi:Option Int}
end
end L2
namespace L2
open PySem PySem.Spec PyProof.Rows
end L2
namespace L2
open PySem PySem.Spec PyProof.Rows
def RawD (h:Heap) (d:Addr) (es:Array DictEntry) (ep:Nat):Prop:=∃ o,h.get? d=some o∧o.ExactDict∧o.data= .dict es ep
theorem RawD.ty {s:Shared} {d:Addr} {es:Array DictEntry} {ep:Nat} (x:RawD s.heap d es ep):s.TypeIs (.ref d) "dict":=by
 obtain ⟨o,ho,hc,_⟩:=x
 exact ⟨o,ho,hc.1⟩
section
variable {prog:Program} {w:World} {A:Around} {E:Value→Shared→Prop} {s:Shared} {d it:Addr} {es:Array DictEntry} {ep i:Nat}
theorem FP {Q:Value→Shared→Prop} (hd:(d == sysModules)=false) (x:RawD s.heap d es ep)
  (q:Q (.ref s.heap.objs.size) {s with heap:=s.heap.push {cls:=.type "dict_keyiterator",data:=.fields #[.ref d,.int 0 0,.int es.size 0,.int ep 0]}}):wpAny (model prog w) A (pyIter (.ref d)) Q E s:=by
 have hT:=x.ty
 obtain ⟨o,ho,hc,hdat⟩:=x
 refine wpAny_pyIter_slot hT PySem.F.slot_dict_iter (wpAny_call_entry PySem.F.slot_dict_iter hT PySem.F.entry_dict_iter ?_ (PySem.F.args_dict_iter_1 _))
 unfold Builtin.«dict.__iter__» Builtin.Dict.dictSlotNone
 refine wpAny_bind (wpAny_bind (wpAny_notOrdered_dict hT (wpAny_pure ?_)))
 show wpAny _ _ (Builtin.Dict.showsAll d >>=_) _ _ s
 unfold Builtin.Dict.showsAll
 rw [if_neg (by rw [hd];exact Bool.false_ne_true)]
 refine wpAny_bind (wpAny_pure (wpAny_bind (wpAny_dictEntries ho hdat (wpAny_bind (wpAny_dictEpoch ho hdat (wpAny_bind (wpAny_newObj_type (wpAny_pure ⟨_,rfl,"dict_keyiterator",_,⟨_,Heap.get?_push_size _ rfl,rfl⟩,PySem.F.slot_dict_keyiterator_next.lookup,?_⟩))))))))
 simpa [rawInt] using q
theorem FQ {Q:Option Value→Shared→Prop} {e:DictEntry} (hit:s.heap.IsKeyIter it d i es.size ep) (x:RawD s.heap d es ep) (hx:es[i]?=some e)
  (q:∀ h',h'.IsKeyIter it d (i+1) es.size ep→Heap.SameBut it s.heap h'→Q (some e.key) {s with heap:=h'}):wpAny (model prog w) A (pyNext (.ref it)) Q E s:=by
 obtain ⟨oi,hoi,hci,hdi⟩:=id hit
 obtain ⟨o,ho,hc,hdat⟩:=x
 unfold pyNext
 refine wpAny_bind (wpAny_attempt (wpAny_callSpecial?_slot (name:=Str.ofString "__next__") hit.typeIs PySem.F.slot_dict_keyiterator_next (wpAny_call_entry PySem.F.slot_dict_keyiterator_next hit.typeIs PySem.F.entry_dict_keyiterator_next ?_ (PySem.F.args_dict_keyiterator_next_1 _))))
 refine wpAny_bind (wpAny_pure (wpAny_bind (wpAny_bind ?_)))
 first | refine wpAny_bind (wpAny_typeNameOfWhole_keyiter hit.typeIs (wpAny_pure (wpAny_bind (wpAny_fieldsOf hoi hdi ?_)))) | refine wpAny_bind (wpAny_typeNameOf_keyiter hit.typeIs (wpAny_pure (wpAny_bind (wpAny_fieldsOf hoi hdi ?_))))
 have ow:Builtin.Dict_items.ownsTuple "dict_keyiterator"=false:=by decide
 simp only [ow,Bool.false_eq_true,if_false]
 show wpAny _ _ (if (Value.ref d == Value.none)=true then _ else _) _ _ s
 rw [if_neg (show ¬ ((Value.ref d == Value.none)=true) from Bool.false_ne_true)]
 refine wpAny_bind (wpAny_pure (wpAny_bind (wpAny_dictEntries ho hdat ?_)))
 rw [if_neg (by simp)]
 refine wpAny_bind (wpAny_pure (wpAny_bind (wpAny_dictEpoch ho hdat ?_)))
 rw [if_neg (by simp)]
 refine wpAny_pure ?_
 simp only [show ¬ ((i:Int) < 0) from by omega,if_false,Int.toNat_natCast,hx]
 refine wpAny_bind ?_
 first | refine wpAny_bind (wpAny_typeNameOfWhole_keyiter hit.typeIs (wpAny_pure (wpAny_bind (wpAny_isOneOf_keyiter hit.typeIs ?_)))) | refine wpAny_bind (wpAny_typeNameOf_keyiter hit.typeIs (wpAny_pure (wpAny_bind (wpAny_isOneOf_keyiter hit.typeIs ?_))))
 show wpAny _ _ (setField (.ref it) 1 (rawInt ((i:Int)+1)) >>=_) _ _ s
 refine wpAny_bind (wpAny_setField hoi hdi (by simp) ?_)
 have nxt:(s.heap.update it (Obj.mapFields (·.setIfInBounds 1 (rawInt ((i:Int)+1))))).IsKeyIter it d (i+1) es.size ep:=
  ⟨_,Heap.get?_update_self _ hoi (Obj.isFreed_of_fields (Obj.data_mapFields hdi _)),(Obj.cls_mapFields ..).trans hci,by rw [Obj.data_mapFields hdi];simp [rawInt]⟩
 refine wpAny_bind (wpAny_holding (wpAny_bind (wpAny_isOneOf_keyiter (s:={s with heap:=s.heap.update it (Obj.mapFields (·.setIfInBounds 1 (rawInt ((i:Int)+1))))}) nxt.typeIs ?_)))
 show wpAny _ _ (pure e.key) _ _ _
 exact wpAny_pure (wpAny_pure ⟨_,rfl,wpAny_pure (q _ nxt (Heap.SameBut.update ..))⟩)
theorem Jo {Q:Option Value→Shared→Prop} (hh:A.handled=none) (hit:s.heap.IsKeyIter it d i es.size ep) (x:RawD s.heap d es ep) (hx:es.size≤i)
  (q:∀ h',Heap.ExtBut it s.heap h'→Q none {s with heap:=h'}):wpAny (model prog w) A (pyNext (.ref it)) Q E s:=by
 obtain ⟨oi,hoi,hci,hdi⟩:=id hit
 obtain ⟨o,ho,hc,hdat⟩:=x
 unfold pyNext
 refine wpAny_bind (wpAny_attempt (wpAny_callSpecial?_slot (name:=Str.ofString "__next__") hit.typeIs PySem.F.slot_dict_keyiterator_next (wpAny_call_entry PySem.F.slot_dict_keyiterator_next hit.typeIs PySem.F.entry_dict_keyiterator_next ?_ (PySem.F.args_dict_keyiterator_next_1 _))))
 refine wpAny_bind (wpAny_pure (wpAny_bind (wpAny_bind ?_)))
 first | refine wpAny_bind (wpAny_typeNameOfWhole_keyiter hit.typeIs (wpAny_pure (wpAny_bind (wpAny_fieldsOf hoi hdi ?_)))) | refine wpAny_bind (wpAny_typeNameOf_keyiter hit.typeIs (wpAny_pure (wpAny_bind (wpAny_fieldsOf hoi hdi ?_))))
 have ow:Builtin.Dict_items.ownsTuple "dict_keyiterator"=false:=by decide
 simp only [ow,Bool.false_eq_true,if_false]
 show wpAny _ _ (if (Value.ref d == Value.none)=true then _ else _) _ _ s
 rw [if_neg (show ¬ ((Value.ref d == Value.none)=true) from Bool.false_ne_true)]
 refine wpAny_bind (wpAny_pure (wpAny_bind (wpAny_dictEntries ho hdat ?_)))
 rw [if_neg (by simp)]
 refine wpAny_bind (wpAny_pure (wpAny_bind (wpAny_dictEpoch ho hdat ?_)))
 rw [if_neg (by simp)]
 refine wpAny_pure ?_
 simp only [show ¬ ((i:Int) < 0) from by omega,if_false,Int.toNat_natCast,Array.getElem?_eq_none hx]
 refine wpAny_bind ?_
 first | refine wpAny_bind (wpAny_typeNameOfWhole_keyiter hit.typeIs (wpAny_pure ?_)) | refine wpAny_bind (wpAny_typeNameOf_keyiter hit.typeIs (wpAny_pure ?_))
 show wpAny _ _ (setField (.ref it) 0 .none >>=_) _ _ s
 refine wpAny_bind (wpAny_setField hoi hdi (by simp) ?_)
 show wpAny _ _ (newExc (.type "StopIteration") [] >>=_) _ _ _
 refine wpAny_bind ?_
 simp only [newExc,newTuple]
 refine wpAny_bind (wpAny_newObj_type (wpAny_bind (m:=firstArgMember _ _) (wpAny_of_eq (a:=Value.none) (by first | rfl | (simp only [firstArgMember];rfl)) (wpAny_newObj_type ?_ (by size_fits)))) (by size_fits))
 simp only [raiseNew]
 refine wpAny_bind (wpAny_handled ?_)
 rw [show A.in1.handled=none from hh]
 refine wpAny_bind (wpAny_pure (wpAny_throw ?_))
 refine wpAny_bind (wpAny_isInstance (T:="StopIteration") (b:=true) ⟨_,Heap.get?_push_size _ rfl,rfl⟩ isSubtype_stop (wpAny_pure ?_))
 exact (q _ (((Heap.SameBut.update ..).extBut.push _).push _))
end
end L2
namespace L2
open PySem PySem.Spec PyProof.Rows
section
variable {X:Cx} {pins:List (Addr×Obj)} {σ:St} {H:Hp} {s:Shared}
end
theorem tV {α β:Type} {F:α→β→Prop}:∀ {l:List α} {m:List β},Paired F l m→l.length=m.length∧∀ (i:Nat) (a:α),l[i]?=some a→∃ b,m[i]?=some b∧F a b
 | _,_,.nil=>⟨rfl,fun i a h=>by simp at h⟩
 | _ :: _,b :: _,.cons r t=>by
  obtain ⟨h1,h2⟩:=tV t
  refine ⟨by simp [h1],fun i c h=>?_⟩
  cases i with
  | zero=>cases h;exact ⟨b,rfl,r⟩
  | succ j=>exact h2 j c h
end L2
namespace L2
open PySem PySem.Spec PyProof.Rows
section
variable {prog:Program} {w:World} {A:Around} {E:Value→Shared→Prop} {s:Shared} {d it v:Addr} {es:Array DictEntry} {ep i:Nat}
end
end L2
namespace L2
open PySem PySem.Spec PyProof.Rows
section
variable {X:Cx} {K:PySem.W.Frag} {a b e f o:Expr} {ta tb tc:TE} {pos apos cpos:Pos} {H:Hp} {Q:VK} {σ:St}
theorem O8 (hu:X.A.units+64 < cLine) (ha:JE X a ta) (hb:JE X b tb) (h:autoParam (jT b=true) L2.auto4._auto_1):JE X (.Subscript a b pos) (DK ta tb):=⟨Il (by omega) ha.run hb.run (pix h)⟩
theorem FT (h:ta σ H fun x H1=>tb σ H1 fun y H2=>∃ a v,x= .ref a∧DGet H2 a y (some v)∧Q v H2):DK ta tb σ H Q:=h
theorem zP (hu:X.A.units+64 < cLine) (ho:JE X o ta) (he:JE X e tb) (hf:JE X f tc) (hbase:autoParam (kh o=true) L2.auto4._auto_1) (hline:autoParam ((apos.endLine == cpos.line)=true) L2.auto4._auto_1) (h:autoParam (notStar e=true) L2.auto4._auto_1) (h2:autoParam (notStar f=true) L2.auto4._auto_1):JE X (.Call (.Attribute o "get" apos) [e,f] [] cpos) (xO ta tb tc):=
 ⟨DX (by omega) ho.run he.run hf.run ⟨Ej hbase,by rw [bj h,bj h2];rfl,hline,by rw [bj h,bj h2];rfl⟩⟩
theorem zQ (h:ta σ H fun x H1=>∃ a,x= .ref a∧R0 H1 a∧tb σ H1 fun y H2=>tc σ H2 fun z H3=>∃ o,DGet H3 a y o∧Q (o.getD z) H3):xO ta tb tc σ H Q:=h
end
end L2
namespace L2
open PySem PySem.Spec PyProof.Rows
section
variable {prog:Program} {w:World} {A:Around} {E:Value→Shared→Prop} {s:Shared} {d:Addr} {es:Array DictEntry} {ep:Nat}
theorem RawD.lt {h:Heap} (x:RawD h d es ep):d < h.objs.size:=by
 obtain ⟨o,ho,_⟩:=x
 exact Heap.lt_size ho
theorem RawD.at {h h':Heap} (x:RawD h d es ep) (e:∀ o,h.get? d=some o→h'.get? d=some o):RawD h' d es ep:=by
 obtain ⟨o,ho,r⟩:=x
 exact ⟨o,e _ ho,r⟩
theorem BZ (hh:A.handled=none) (I:Addr) (hne:d≠I):Walks prog w A I [I,d] [I] es.size (fun i v=>∃ e,es[i]?=some e∧v=e.key) (fun i h=>h.IsKeyIter I d i es.size ep∧RawD h d es ep) where
 sub:=fun b hb=>by simp at hb;simp [hb]
 frame:=fun _ _ _ st hk=>⟨st.1.at fun o e=>hk I (by simp) o e,st.2.at fun o e=>hk d (by simp) o e⟩
 item:=fun i s Q E hi st hQ=>by
  have hx:es[i]?=some es[i]:=by simp [hi]
  refine FQ st.1 st.2 hx fun h' hit' hs'=>?_
  exact hQ _ h' s.toks ⟨_,hx,rfl⟩ ⟨hit',st.2.at fun o e=>hs'.extBut d o hne e⟩ fun b o hb e=>hs'.extBut b o (fun h=>hb (by simp [h])) e
 done:=fun s Q E st hQ=>Jo hh st.1 st.2 (Nat.le_refl _) fun h' he'=>hQ h' s.toks fun b o hb e=>he' b o (fun h=>hb (by simp [h])) e
 self:=fun _ _ _ _ st hQ=>wpAny_pyIter_keyiter st.1 hQ
theorem Jp (lo:(d == sysModules)=false):PySem.W.KdlSrc prog w "dict" d d es.size (fun i v=>∃ e,es[i]?=some e∧v=e.key) (fun h=>RawD h d es ep) where
 type:=fun _ hm=>hm.ty
 there:=fun _ hm=>⟨hm.lt,hm.lt⟩
 keep:=fun _ _ hm hk=>hm.at fun o e=>hk d (.inl rfl) o e
 notList:=by decide
 notTuple:=by decide
 hint:=fun _ _ _ _ hm hq=>PySem.W.kdl_hint_dict hm.ty hq
 iter:=fun _ _ hh hm=>⟨_,_,(fun _ _ hq=>FP lo hm hq),BZ hh _ (Nat.ne_of_lt hm.lt),⟨⟨_,Heap.get?_push_size _ rfl,rfl,rfl⟩,hm.at fun o e=>Heap.get?_push_of_some _ e⟩⟩
theorem wu {K:Type} [DecidableEq K] {knd:HeapKind prog w K} {a:Addr} {xs:List (K×Addr×Value)} {k:K} {v:Value} {Q:Value→Shared→Prop} (hu:knd.room A) (hkey:knd.is s.heap k a) (hm:s.heap.DictOfH knd d xs)
  (h1:∀ p,atKey xs k=some p→Q p.2 {s with toks:=s.toks+knd.draws k})
  (h2:atKey xs k=none→∀ h',h'.DictOfH knd d (storedH xs k a v)→Heap.SameBut d s.heap h'→Q v {s with heap:=h',toks:=s.toks+knd.draws k}) (hsz:xs.length≤sizeLine):
  wpAny (model prog w) A (dictSetDefault d (.ref a) v) Q E s:=by
 obtain ⟨o,es,ep,ho,hc,hd,he,his,hn⟩:=hm
 unfold dictSetDefault
 try with_reducible refine wpAny_holding ?_
 refine wpAny_bind (knd.pyHash hu hkey (wpAny_bind (wpAny_dictFind_heap (s:={s with toks:=s.toks+knd.draws k}) hu hkey ho hd he his hn (fun hno=>?_) fun j p hj=>?_)))
 ·have hat:=atKey_none_of_get hno
  have hnot:k ∉ xs.map (·.1):=not_mem_keys_of_get hno
  refine wpAny_bind (wpAny_rule (wpAny_bind (wpAny_updateDictKeys (hz:=by have e:=size_of_entries he;omega) (s:={s with toks:=s.toks+knd.draws k}) ho hd (wpAny_pure (h2 hat _ ⟨_,_,ep+1,Heap.get?_update_self _ ho (Obj.isFreed_of_dict (Obj.data_mapDictKeys hd _)),hc.mapDictKeys _,Obj.data_mapDictKeys hd _,?_,?_,?_⟩ (Heap.SameBut.update ..))))))
  ·rw [storedH_new hat];simp [he,entryOfKey]
  ·rw [storedH_new hat]
   intro x hx
   rcases List.mem_append.mp hx with hx | hx
   ·exact knd.keeps (his x hx) ho hd (Heap.SameBut.update ..)
   ·rw [List.mem_singleton.mp hx]
    exact knd.keeps hkey ho hd (Heap.SameBut.update ..)
  ·rw [storedH_new hat,List.map_append,List.nodup_append]
   exact ⟨hn,by simp,fun x hx y hy z=>hnot (by rw [← (show y=k by simpa using hy),← z];exact hx)⟩
 ·refine wpAny_bind (wpAny_dictEntries (s:={s with toks:=s.toks+knd.draws k}) ho hd ?_)
  rw [entry_at he j,hj]
  exact wpAny_bind (wpAny_rule (wpAny_pure (h1 p (atKey_of_get hn hj))))
end
section
variable {X:Cx} {pins:List (Addr×Obj)} {σ:St} {H:Hp} {s:Shared} {K:PySem.W.Frag}
def O9:List V→Hp→VK→Prop:=fun xs H Q=>∃ d kvs,xs=[.ref d]∧H d=some (.dT kvs)∧∀ (q:Addr) (bs:List Addr),H q=none→bs.length=kvs.length→(∀ (i:Nat) (b:Addr) (k:List Key) (v:V),bs[i]?=some b→kvs[i]?=some (k,v)→H b=some (.tup (k.map kV)))→Q (.ref q) (upd H q (.lst (bs.map V.ref)))
theorem FW {P:Program} {w:World} {H:Hp} {h:Heap} {d:Addr} {kvs:List (List Key×V)} (ok:HOk P w H h) (e:H d=some (.dT kvs)):
  (d == sysModules)=false∧kvs.length≤sizeLine∧∃ es ep,RawD h d es ep∧es.size=kvs.length∧∀ (i:Nat) (k:List Key) (v:V),kvs[i]?=some (k,v)→∃ b u hs,es[i]?=some ⟨hs,.ref b,u⟩∧H b=some (.tup (k.map kV))∧RelV v u:=by
 obtain ⟨z,y,xs,r,o,es,ep,h1,h2,h3,h4,h5⟩:=(show ObjOk P w H h d (.dT kvs) from ok d _ e)
 obtain ⟨hl,hat⟩:=tV r
 refine ⟨y,z,es,ep,⟨o,h1,h2,h3⟩,?_,fun i k v hk=>?_⟩
 ·have:es.toList.length=xs.length:=by rw [h4,List.length_map]
  rw [hl,← this];simp
 ·obtain ⟨⟨k',b,u⟩,hb,e1,e2,e3⟩:=hat i _ hk
  cases e1
  refine ⟨b,u,(tupleKind (bK P w)).hash k,?_,e2,e3⟩
  rw [← Array.getElem?_toList,h4,List.getElem?_map,hb];rfl
def Vr:Value→Addr
 | .ref a=>a
 | _=>0
theorem yt (hc:X.calm=true):CallR X (.type "list") O9:=by
 intro pins s σ H xs us Q I r h
 obtain ⟨d,kvs,rfl,hd,q⟩:=h
 obtain ⟨u,rfl,ru⟩:=vals1 r
 cases ru
 obtain ⟨y,z,es,ep,x3,x4,x5⟩:=FW I.hok hd
 refine PySem.W.kdl_call (Jp (es:=es) (ep:=ep) y) (I.ok.hd hc) x3 (by rw [x4];exact z) fun h' tk acc' c' hk hS hacc=>?_
 have hal:acc'.toList.length=kvs.length:=by rw [Array.length_toList,hacc.1,x4]
 have all:∀ (i:Nat) (v:Value),acc'.toList[i]?=some v→∃ b k w,v= .ref b∧kvs[i]?=some (k,w)∧H b=some (.tup (k.map kV)):=fun i v hv=>by
  have hi:i < kvs.length:=by rw [← hal];exact (List.getElem?_eq_some_iff.mp hv).1
  obtain ⟨e,he,rfl⟩:=hacc.2 i v (by rw [← Array.getElem?_toList];exact hv)
  obtain ⟨b,u,hs,e1,e2,e3⟩:=x5 i kvs[i].1 kvs[i].2 (by simp [hi])
  rw [he] at e1
  cases e1
  exact ⟨b,kvs[i].1,kvs[i].2,rfl,by simp [hi],e2⟩
 have hV:∀ {l:List Value},(∀ v∈l,∃ b,v= .ref b)→Vals ((l.map Vr).map V.ref) l:=by
  intro l
  induction l with
  | nil=>intro _;exact .nil
  | cons v l ih=>
   intro hl
   obtain ⟨b,rfl⟩:=hl v (List.mem_cons_self ..)
   exact .cons rfl (ih fun w hw=>hl w (List.mem_cons_of_mem _ hw))
 have hv:Vals ((acc'.toList.map Vr).map V.ref) acc'.toList:=hV fun v hv=>by
  obtain ⟨i,hi,e⟩:=List.mem_iff_getElem.mp hv
  obtain ⟨b,_,_,e1,_⟩:=all i v (by rw [List.getElem?_eq_getElem hi,e])
  exact ⟨b,e1⟩
 refine ⟨.ref _,_,I.laid (t':=tk) (o:=.lst ((acc'.toList.map Vr).map V.ref)) hk (Nat.le_refl _) ⟨by rw [List.length_map,List.length_map,hal];exact z,acc'.toList,c',hv,by simpa using hS⟩,rfl,q _ (acc'.toList.map Vr) I.fresh (by rw [List.length_map];exact hal) fun i b k v hb hk'=>?_⟩
 rw [List.getElem?_map] at hb
 cases e:acc'.toList[i]? with
 | none=>rw [e] at hb;cases hb
 | some w=>
  rw [e] at hb
  obtain ⟨b',k',v',rfl,h1,h2⟩:=all i w e
  cases hb
  rw [hk'] at h1;cases h1
  exact h2
end
section
variable {X:Cx} {pins:List (Addr×Obj)} {σ:St} {H:Hp} {s:Shared} {a b:Addr} {kvs:List (List Key×V)} {k:List Key} {z:V} {r:Value} {A:Around} {E:Value→Shared→Prop}
theorem FZ {Q:Value→Shared→Prop} (hu:A.units+1 < cLine) (I:Inv X pins σ H s) (e:H a=some (.dT kvs)) (eb:H b=some (.tup (k.map kV))) (hl:kvs.length < sizeLine) (rz:RelV z r)
  (h1:∀ v w' s',cX kvs k=some v→Inv X pins σ H s'→RelV v w'→Q w' s') (h2:cX kvs k=none→∀ s',Inv X pins σ (upd H a (.dT (kvs ++ [(k,z)]))) s'→Q r s'):
  wpAny (model X.prog X.w) A (call (.builtin "dict.setdefault") [.ref a,.ref b,r]) Q E s:=by
 obtain ⟨_,hd,xs,rel,dd⟩:=RX I.hok e
 have hz:xs.length≤sizeLine:=by rw [← Paired.length rel];omega
 refine call_meetsIn PySem.F.slot_dict_setdefault dd.typeIs PySem.F.entry_dict_setdefault (PySem.F.args_dict_setdefault_3 _ _ _) (MeetsIn.of_wp (S:=fun A' R s'=>(tupleKind (bK X.prog X.w)).room A'.in1∧s'=s∧
  (∀ p,atKey xs k=some p→R (.ok (.ret p.2)) {s with toks:=s.toks+(tupleKind (bK X.prog X.w)).draws k})∧(atKey xs k=none→∀ h',h'.DictOfH (tupleKind (bK X.prog X.w)) a (storedH xs k b r)→Heap.SameBut a s.heap h'→R (.ok (.ret r)) {s with heap:=h',toks:=s.toks+(tupleKind (bK X.prog X.w)).draws k})) fun A' R s' ⟨g0,g1,g2,g3⟩=>?_) ⟨tupleKind_room_in1 hu,rfl,fun p hp=>?_,fun hn h' dd' hs=>?_⟩
 ·subst g1
  unfold Builtin.«dict.setdefault» Builtin.Dict.keyAndDefault
  refine wpAny_bind (wpAny_bind (wpAny_notOrdered_dict dd.typeIs (wpAny_pure ?_)))
  show wpAny _ _ (if (a == sysModules)=true then _ else (dictSetDefault a (.ref b) r >>=_)) _ _ s'
  rw [if_neg (by rw [hd];exact Bool.false_ne_true)]
  exact wpAny_bind (wu g0 (qt I.hok eb) dd (fun p hp=>wpAny_pure ⟨_,rfl,g2 p hp⟩) (fun hn h' dd' hs=>wpAny_pure ⟨_,rfl,g3 hn h' dd' hs⟩) hz)
 ·have rv:=rel.val k
  rw [hp] at rv
  cases ev:cX kvs k with
  | none=>rw [ev] at rv;exact rv.elim
  | some v=>rw [ev] at rv;exact h1 v _ _ ev (I.tok _) rv
 ·have rv:=rel.val k
  rw [hn] at rv
  cases ev:cX kvs k with
  | some v=>rw [ev] at rv;exact rv.elim
  | none=>
   refine h2 ev _ ?_
   have hp:putK kvs k z=kvs ++ [(k,z)]:=vO z ev
   obtain ⟨q,es,ep,hq,g2,g3,g4,_,g5⟩:=dd'
   have hl':(kvs ++ [(k,z)]).length≤sizeLine:=by rw [List.length_append];show kvs.length+1≤sizeLine;omega
   refine Ij I (by rw [e];exact True.intro) hs ⟨q,hq⟩ ⟨hl',hd,_,?_,q,es,ep,hq,g2,g3,g4,g5⟩
   rw [← hp]
   refine (rel.put k eb rz).keeps fun c ys ec=>?_
   rw [az (Ro ec e (fun z=>nomatch z))]
   exact ec
end
def zR (td ty tx:TE):TE:=fun σ H Q=>td σ H fun x H1=>∃ a,x= .ref a∧R0 H1 a∧ty σ H1 fun y H2=>tx σ H2 fun z H3=>∃ kvs k b,H3 a=some (.dT kvs)∧y= .ref b∧H3 b=some (.tup (k.map kV))∧kvs.length < sizeLine∧(∀ v,cX kvs k=some v→Q v H3)∧(cX kvs k=none→Q z (upd H3 a (.dT (kvs ++ [(k,z)]))))
section
variable {X:Cx} {K:PySem.W.Frag} {e f o:Expr} {es:List Expr} {ta tb tc:TE} {t:TA} {pos apos cpos:Pos} {H:Hp} {Q:VK} {σ:St} {D:Ends}
theorem ww (hu:X.A.units+64 < cLine) (ho:JE X o ta) (he:JE X e tb) (hf:JE X f tc) (hbase:autoParam (kh o=true) L2.auto4._auto_1) (hline:autoParam ((apos.endLine == cpos.line)=true) L2.auto4._auto_1) (h1:autoParam (notStar e=true) L2.auto4._auto_1) (h2:autoParam (notStar f=true) L2.auto4._auto_1):
  JE X (.Call (.Attribute o "setdefault" apos) [e,f] [] cpos) (zR ta tb tc):=⟨by
 have m:M2 X o "setdefault" apos e f cpos:=⟨Ej hbase,by rw [bj h1,bj h2];rfl,hline,by rw [bj h1,bj h2];rfl⟩
 intro pins s σ H Q I h
 refine wpAny_Call_method m.base m.few m.line PySem.F.plainAttrs_dict PySem.F.slot_dict_setdefault PySem.F.type_dict_setdefault (cZ (ho.run pins s σ H _ I h) fun u s1 qq0=>?_)
 obtain ⟨x,H1,I1,rx,a,ex,d,q1⟩:=qq0
 subst ex
 obtain rfl:u=Value.ref a:=rx
 obtain ⟨t1,t2,_⟩:=DW I1 d
 refine ⟨t1,t2,?_⟩
 rw [m.trees]
 refine Calls.callWith_builtin rfl (Calls.evalArgs_plain (Calls.spliced_cons (cZ (he.run pins s1 σ H1 _ I1 q1) fun iv s2 ⟨y,H2,I2,ry,q2⟩=>Calls.spliced_cons (cZ (hf.run pins s2 σ H2 _ I2 q2) fun fv s3 ⟨z,H3,I3,rz,q3⟩=>Calls.spliced_nil ?_))))
 obtain ⟨kvs,k,b,e1,e2,e3,e4,e5,e6⟩:=q3
 subst e2
 obtain rfl:iv=Value.ref b:=ry
 exact FZ (by omega) I3 e1 e3 e4 rz (fun v w' s' ev I' rv=>⟨v,H3,I',rv,e5 v ev⟩) fun ev s' I'=>⟨z,_,I',rz,e6 ev⟩⟩
theorem wz (h:ta σ H fun x H1=>∃ a,x= .ref a∧R0 H1 a∧tb σ H1 fun y H2=>tc σ H2 fun z H3=>∃ kvs k b,H3 a=some (.dT kvs)∧y= .ref b∧H3 b=some (.tup (k.map kV))∧kvs.length < sizeLine∧(∀ v,cX kvs k=some v→Q v H3)∧(cX kvs k=none→Q z (upd H3 a (.dT (kvs ++ [(k,z)]))))):zR ta tb tc σ H Q:=h
def Lx:Expr→Bool
 | .Call (.Name ..) [] [] _=>false | _=>true
theorem Th {o:Expr} {f:Str} {env:Env} {w:Sem Value} (h:Lx o=true):attributeBase o f env w=w:=by
 unfold attributeBase
 split
 ·cases h
 ·rfl
theorem uO {name:Str} {T id:String} {r:V→List V→Hp→VK→Prop} (hK:X.K=K) (pa:PlainAttrs T) (slot:Slot T name id) (hty:typeOf (.builtin id)=pure (.type "method_descriptor")) (hm:Rf X id r) (ho:JE X o ta) (ha:JA X (e :: es) t)
  (hbase:autoParam (Lx o=true) L2.auto4._auto_1) (hl:autoParam (es.length < 20) L2.auto2._auto_1) (hline:autoParam ((apos.endLine == cpos.line)=true) L2.auto4._auto_1) (h:autoParam ((e :: es).all notStar=true) L2.auto4._auto_1):JE X (.Call (.Attribute o name apos) (e :: es) [] cpos) (Rg K T r ta t):=⟨by
 have hA:=xT (env:=X.env) (pos:=cpos) h
 simp only [List.all_cons,Bool.and_eq_true] at h
 refine Eh hK pa slot hty hm ho.run ha.run (Th hbase) ?_ hline (bj h.1) (iH h.2)
 rw [hA,decide_eq_true (show (e :: es).length+([]:List Keyword).length+(if ([]:List Keyword).isEmpty then 0 else 1) < 30 by simp;omega)];rfl⟩
end
end L2
namespace My
open PySem L2
abbrev aQ (d:Stmt) (x:Str):Prop:=(au d).names.lookup x=some NameKind.local
abbrev KCc (d:Stmt) (x:Str):Prop:=(au d).names.lookup x=some NameKind.cell
abbrev cJ (d:Stmt) (x:Str):Prop:=(au d).names.lookup x=some NameKind.globalImplicit
def top (i:Nat):Stmt:=PySem.Challenge.pw_panethread_k33_whole_no_two_cross_twice.main.body.getD i (.Pass ⟨0,0,0,0⟩)
abbrev dF:Stmt:=top 8
abbrev dG:Stmt:=top 9
abbrev cO:Stmt:=top 10
abbrev dY:Stmt:=top 12
abbrev fK:Stmt:=top 13
abbrev eQ:Stmt:=top 14
abbrev dw:Stmt:=top 18
abbrev aP:Stmt:=top 19
abbrev b7:Stmt:=top 20
abbrev bz:Stmt:=top 21
abbrev cL:Stmt:=top 22
abbrev aO:Stmt:=top 23
abbrev cB:Stmt:=top 24
abbrev jA:Stmt:=top 27
abbrev fM:Stmt:=top 28
abbrev bJ:Stmt:=top 29
abbrev cY:Stmt:=top 30
abbrev b8:Stmt:=top 31
abbrev bW:Stmt:=top 32
abbrev aN:Stmt:=top 33
abbrev cM:Stmt:=top 34
abbrev aK:Stmt:=top 35
abbrev bQ:Stmt:=top 36
abbrev bD:Stmt:=top 37
abbrev aM:Stmt:=qL 0 (top 25)
abbrev d7:Stmt:=qL 3 (top 25)
abbrev d8:Stmt:=qL 4 (top 25)
abbrev bG:Stmt:=qL 6 (top 25)
abbrev eU:Stmt:=qL 7 (top 25)
abbrev cT:Stmt:=qL 8 (top 25)
abbrev aV:Stmt:=qL 9 (top 25)
abbrev nj:Stmt:=initOf (top 2)
abbrev jB:Stmt:=initOf (top 3)
local macro_rules | `(tactic| walk_at "sts") => `(tactic| (with_reducible repeat (first | refine rO ?_ | refine mR ?_ | refine pA ?_ | refine lX ?_ | refine lY ?_ | (refine' lN ?hz0 ?_; (case hz0 => with_unfolding_all rfl)) | refine Hm ?_ | refine rT ?_ | refine jc ?_ | refine iT ?_ | refine lO ?_ | refine tK ?_ | refine lH ?_ | refine iJ ?_ | refine lK ?_ | refine iI ?_ | refine rK ?_ | refine iM ?_ | refine rU ?_ | refine rP ?_ | refine iU ?_ | refine rM ?_ | refine lL ?_ | refine lM ?_ | refine rN ?_ | refine iQ ?_ | refine iR ?_ | refine lJ ?_ | refine iK ?_ | refine tL ?_ | refine tM ?_ | refine rQ ?_ | refine rR ?_ | refine lQ ?_ | refine iV ?_ | refine iW ?_ | refine iY ?_ | refine iZ ?_ | refine jb ?_ | refine lU ?_ | refine fV ?_ | refine ji ?_ | (refine' dh (SqT.of ?hz0) ?hz1 ?_; (case hz0 => first | assumption | exact ak); (case hz1 => rfl)) | refine fX ?_ | refine fZ ?_ | refine fY ?_ | refine gO ?_ | refine gP ?_ | refine jn ?_ | refine jo ?_ | refine lW ?_ | refine dX ?_ | refine rW ?_ | refine gJ ?_ | refine gK ?_ | refine jj ?_ | refine jk ?_ | refine jl ?_ | refine fW ?_ | refine jU ?_ | refine je ?_ | (refine' Hn ?hz0 ?_; (case hz0 => with_unfolding_all first | assumption | omega | (dsimp only <;> omega) | exact ⟨by omega, by omega⟩ | exact .inl ⟨by omega, by omega⟩ | exact .inr ⟨by omega, by omega⟩ | exact ⟨by decide, by decide, by decide⟩)) | (refine' jd ?hz0 ?_; (case hz0 => with_unfolding_all first | assumption | omega | (dsimp only <;> omega) | exact ⟨by omega, by omega⟩ | exact .inl ⟨by omega, by omega⟩ | exact .inr ⟨by omega, by omega⟩ | exact ⟨by decide, by decide, by decide⟩)) | (refine' bT (SqL.of ?hz0) ?hz1 ?_; (case hz0 => first | assumption | exact ak); (case hz1 => with_unfolding_all rfl)) | (refine' fG (SqT.of ?hz0) ?hz1 ?_; (case hz0 => first | assumption | exact ak); (case hz1 => with_unfolding_all rfl)) | (refine' eZ ?hz0 ?hz1 ?_; (case hz0 => first | assumption | exact ak); (case hz1 => with_unfolding_all rfl)) | refine gb ?_ | refine gf ?_ | refine lZ ?_ | refine jq ?_ | refine f9 ?_ | refine du ?_)))
local macro_rules | `(tactic| walk_at "stn") => `(tactic| (with_reducible repeat (first | refine rO ?_ | refine mR ?_ | refine pA ?_ | refine lX ?_ | refine lY ?_ | (refine' lN ?hz0 ?_; (case hz0 => with_unfolding_all rfl)) | refine Hm ?_ | refine rT ?_ | refine jc ?_ | refine iT ?_ | refine lO ?_ | refine lH ?_ | refine iJ ?_ | refine lK ?_ | refine iI ?_ | refine rK ?_ | refine iM ?_ | refine rU ?_ | refine rP ?_ | refine iU ?_ | refine rM ?_ | refine lL ?_ | refine lM ?_ | refine rN ?_ | refine iQ ?_ | refine iR ?_ | refine lJ ?_ | refine iK ?_ | refine tL ?_ | refine tM ?_ | refine rQ ?_ | refine rR ?_ | refine lQ ?_ | refine iV ?_ | refine iW ?_ | refine iY ?_ | refine iZ ?_ | refine jb ?_ | refine lU ?_ | refine fV ?_ | refine ji ?_ | (refine' dh (SqT.of ?hz0) ?hz1 ?_; (case hz0 => first | assumption | exact ak); (case hz1 => rfl)) | refine fX ?_ | refine fZ ?_ | refine fY ?_ | refine gO ?_ | refine gP ?_ | refine jn ?_ | refine jo ?_ | refine lW ?_ | refine dX ?_ | refine rW ?_ | refine gJ ?_ | refine gK ?_ | refine jj ?_ | refine jk ?_ | refine jl ?_ | refine fW ?_ | refine jU ?_ | refine je ?_ | (refine' Hn ?hz0 ?_; (case hz0 => with_unfolding_all first | assumption | omega | (dsimp only <;> omega) | exact ⟨by omega, by omega⟩ | exact .inl ⟨by omega, by omega⟩ | exact .inr ⟨by omega, by omega⟩ | exact ⟨by decide, by decide, by decide⟩)) | (refine' jd ?hz0 ?_; (case hz0 => with_unfolding_all first | assumption | omega | (dsimp only <;> omega) | exact ⟨by omega, by omega⟩ | exact .inl ⟨by omega, by omega⟩ | exact .inr ⟨by omega, by omega⟩ | exact ⟨by decide, by decide, by decide⟩)) | (refine' bT (SqL.of ?hz0) ?hz1 ?_; (case hz0 => first | assumption | exact ak); (case hz1 => with_unfolding_all rfl)) | (refine' fG (SqT.of ?hz0) ?hz1 ?_; (case hz0 => first | assumption | exact ak); (case hz1 => with_unfolding_all rfl)) | (refine' eZ ?hz0 ?hz1 ?_; (case hz0 => first | assumption | exact ak); (case hz1 => with_unfolding_all rfl)) | refine gb ?_ | refine gf ?_ | refine lZ ?_ | refine jq ?_ | refine f9 ?_ | refine du ?_)))
mutual
def gA (m:Nat) (C:Nat→Nat→Bool) (i:Nat):Nat→Nat
 | 0=>m - 1 - i
 | j+1=>if C i j=true then gD m C j i else gA m C i j
termination_by j=>i+j
def gD (m:Nat) (C:Nat→Nat→Bool) (j:Nat):Nat→Nat
 | 0=>m+j
 | i+1=>if C i j=true then gA m C i j else gD m C j i
termination_by i=>i+j
end
section
variable {m:Nat} {C:Nat→Nat→Bool}
theorem iz (i:Nat):gA m C i 0=m - 1 - i:=by rw [gA]
theorem kJ (i j:Nat):gA m C i (j+1)=if C i j=true then gD m C j i else gA m C i j:=by rw [gA]
theorem iB (j:Nat):gD m C j 0=m+j:=by rw [gD]
theorem kO (i j:Nat):gD m C j (i+1)=if C i j=true then gA m C i j else gD m C j i:=by rw [gD]
theorem wB (i far:Nat):∀ j,j≤far→((List.range j).map (fun l=>gD m C l (i+1)) ++ gA m C i j :: (List.range' j (far - j)).map (fun l=>gD m C l i)).Perm (gA m C i 0 :: (List.range far).map (fun l=>gD m C l i))
 | 0,_=>by rw [List.range_eq_range' (n:=far)];exact List.Perm.refl _
 | j+1,h=>by
  refine List.Perm.trans ?_ (wB i far j (by omega))
  rw [List.range_succ,List.map_append,List.append_assoc,show far - j=(far - (j+1))+1 by omega,List.range'_succ,List.map_cons]
  refine List.Perm.append_left _ ?_
  show (gD m C j (i+1) :: gA m C i (j+1) :: _).Perm _
  rw [kJ,kO]
  by_cases hc:C i j=true
  ·rw [if_pos hc,if_pos hc];exact List.Perm.refl _
  ·rw [if_neg hc,if_neg hc]
   exact List.Perm.swap _ _ _
theorem row_end (i far:Nat):((List.range far).map (fun l=>gD m C l (i+1)) ++ [gA m C i far]).Perm ((m - 1 - i) :: (List.range far).map (fun l=>gD m C l i)):=by
 have h:=wB (m:=m) (C:=C) i far far (Nat.le_refl _)
 rw [Nat.sub_self,iz] at h
 exact h
theorem wC (far:Nat):∀ i,((List.range i).map (fun k=>gA m C k far) ++ (List.range far).map (fun l=>gD m C l i)).Perm ((List.range i).map (fun k=>m - 1 - k) ++ (List.range far).map (fun l=>m+l))
 | 0=>by
  simp only [List.range_zero,List.map_nil,List.nil_append,iB]
  exact List.Perm.refl _
 | i+1=>by
  have ih:=wC far i
  rw [List.range_succ,List.map_append,List.map_append,List.append_assoc,List.append_assoc]
  refine List.Perm.trans (List.Perm.append_left _ (List.perm_append_comm.trans (row_end i far))) ?_
  show ((List.range i).map _ ++ ([m - 1 - i] ++ _)).Perm _
  refine List.Perm.trans (List.perm_append_comm_assoc _ _ _) ?_
  refine List.Perm.trans ?_ (List.perm_append_comm_assoc _ _ _)
  exact List.Perm.append_left _ ih
theorem jC (far:Nat):((List.range m).map (fun k=>gA m C k far) ++ (List.range far).map (fun l=>gD m C l m)).Perm (List.range (m+far)):=by
 refine (wC far m).trans ?_
 rw [List.range_add]
 refine List.Perm.append_right _ ?_
 have e:(List.range m).map (fun k=>m - 1 - k)=(List.range m).reverse:=by
  refine List.ext_getElem (by simp) fun i h1 h2=>?_
  simp
 rw [e]
 exact List.reverse_perm _
end
def fO (z:Nat→Bool) (ab:List Int) (left:Int):Nat→List Int×Int
 | 0=>([],left)
 | j+1=>if z j=true then ((fO z ab left j).1 ++ [(fO z ab left j).2],ab.getD j 0) else ((fO z ab left j).1 ++ [ab.getD j 0],(fO z ab left j).2)
theorem wD (z:Nat→Bool) (ab:List Int) (left:Int):∀ j,(fO z ab left j).1.length=j
 | 0=>rfl
 | j+1=>by
  have ih:=wD z ab left j
  rw [fO]
  split <;> simp [ih]
def ou (m:Nat) (C:Nat→Nat→Bool) (far i:Nat):List Int:=(List.range far).map fun l=>((gD m C l i:Nat):Int)
def Ca (m:Nat) (C:Nat→Nat→Bool) (far i:Nat):List Int:=(List.range i).map fun k=>((gA m C k far:Nat):Int)
theorem yu {m:Nat} {C:Nat→Nat→Bool} {far i j:Nat} (h:j < far):(ou m C far i).getD j 0=((gD m C j i:Nat):Int):=by
 unfold ou
 rw [List.getD_eq_getElem?_getD,List.getElem?_map,List.getElem?_range h];rfl
theorem Pa {m:Nat} {C:Nat→Nat→Bool} {far i j:Nat} (h:j < i):(Ca m C far i)[j]?=some ((gA m C j far:Nat):Int):=by
 unfold Ca
 rw [List.getElem?_map,List.getElem?_range h];rfl
theorem Jq {m:Nat} {C:Nat→Nat→Bool} {far i j:Nat} (h:j < far):(ou m C far i)[j]?=some ((gD m C j i:Nat):Int):=by
 unfold ou
 rw [List.getElem?_map,List.getElem?_range h];rfl
theorem uP {m:Nat} {C:Nat→Nat→Bool} {far i:Nat}:∀ j,j≤far→fO (C i) (ou m C far i) ((gA m C i 0:Nat):Int) j=(ou m C j (i+1),((gA m C i j:Nat):Int))
 | 0,_=>rfl
 | j+1,h=>by
  have ih:=uP (m:=m) (C:=C) (far:=far) (i:=i) j (by omega)
  rw [fO,ih,yu (by omega),kJ]
  have e:ou m C (j+1) (i+1)=ou m C j (i+1) ++ [((gD m C j (i+1):Nat):Int)]:=by unfold ou;rw [List.range_succ,List.map_append];rfl
  rw [e,kO]
  by_cases hc:C i j=true
  ·rw [if_pos hc,if_pos hc,if_pos hc]
  ·rw [if_neg hc,if_neg hc,if_neg hc]
theorem wF {m:Nat} {C:Nat→Nat→Bool} {far:Nat}:(∀ i,i < m→gA m C i far < m+far)∧∀ j,j < far→gD m C j m < m+far:=by
 have p:=jC (m:=m) (C:=C) far
 refine ⟨fun i hi=>?_,fun j hj=>?_⟩
 ·exact List.mem_range.mp (p.mem_iff.mp (List.mem_append_left _ (List.mem_map.mpr ⟨i,List.mem_range.mpr hi,rfl⟩)))
 ·exact List.mem_range.mp (p.mem_iff.mp (List.mem_append_right _ (List.mem_map.mpr ⟨j,List.mem_range.mpr hj,rfl⟩)))
theorem qM {m:Nat} {C:Nat→Nat→Bool} {far:Nat}:((List.range m).map (fun k=>gA m C k far) ++ (List.range far).map (fun l=>gD m C l m)).Nodup:=
 (jC (m:=m) (C:=C) far).nodup_iff.mpr List.nodup_range
theorem Ti {m:Nat} {C:Nat→Nat→Bool} {far i k:Nat} (hi:i < m) (hk:k < m) (h:i≠k):gA m C i far≠gA m C k far:=by
 have n:=(List.nodup_append.mp (qM (m:=m) (C:=C) (far:=far))).1
 have key:=List.pairwise_iff_getElem.mp n
 intro z
 rcases Nat.lt_or_gt_of_ne h with l | l
 ·exact key i k (by simpa using hi) (by simpa using hk) l (by simpa using z)
 ·exact key k i (by simpa using hk) (by simpa using hi) l (by simpa using z.symm)
theorem Tj {m:Nat} {C:Nat→Nat→Bool} {far i k:Nat} (hi:i < far) (hk:k < far) (h:i≠k):gD m C i m≠gD m C k m:=by
 have n:=(List.nodup_append.mp (qM (m:=m) (C:=C) (far:=far))).2.1
 have key:=List.pairwise_iff_getElem.mp n
 intro z
 rcases Nat.lt_or_gt_of_ne h with l | l
 ·exact key i k (by simpa using hi) (by simpa using hk) l (by simpa using z)
 ·exact key k i (by simpa using hk) (by simpa using hi) l (by simpa using z.symm)
theorem Tn {m:Nat} {C:Nat→Nat→Bool} {far i j:Nat} (hi:i < m) (hj:j < far):gA m C i far≠gD m C j m:=
 (List.nodup_append.mp (qM (m:=m) (C:=C) (far:=far))).2.2 _ (List.mem_map.mpr ⟨i,List.mem_range.mpr hi,rfl⟩) _ (List.mem_map.mpr ⟨j,List.mem_range.mpr hj,rfl⟩)
def jH (m:Nat) (C:Nat→Nat→Bool) (far:Nat) (R:List Int):Prop:=R.length=m+far∧(∀ j,j < far→R[gD m C j m]?=some (j:Int))∧∀ i,i < m→R[gA m C i far]?=some (((far+(m - 1 - i):Nat)):Int)
def qN:Str:=Str.ofString "abcdefghijklmnopqrstuvwxyz"
def GOOD:List Nat:=(qN ++ Str.ofString ".").cps.toList
def Row (z:Str):Prop:=z.length≤48∧∀ c∈z.cps.toList,c∈GOOD
def Cd (l:Str) (c:Nat):Bool:=(Builtin.Str.occurrences l ⟨#[c]⟩ 0 l.length 1).isEmpty
theorem Jr:∀ c∈GOOD,Cd (qN ++ Str.ofString ".") c=false:=by decide+kernel
def Pb (K:PySem.W.Frag):Sp:=fun vs H Q _=>∃ (a:Addr) (ns:List Int) (k:Int),vs=[.ref a,.int k]∧SqL K H a (ns.map V.int)∧0≤k∧∀ n,Q (.int n) H
theorem over {H H':Hp} {r:Addr} {o:HO} (s:Same H H') (hn:H r=none):Same H (upd H' r o):=fun b u e=>by
 rw [az (fun z=>by rw [z,hn] at e;cases e)];exact s b u e
def Thing (K:PySem.W.Frag) (H:Hp) (v:V):Prop:=(∃ z,v= .str z∧z.length≤5000)∨∃ T,TyOf K H v (.type T)∧PySem.W.kitOne K (.type T) (.type "str")=some false
def among (z l:Str):Bool:=z.cps.toList.all fun c=>!(Builtin.Str.occurrences l ⟨#[c]⟩ 0 l.length 1).isEmpty
def mj (v:V) (l:Str) (m:Int):Bool:=match v with
 | .str z=>decide ((z.length:Int)≤m) && among z l
 | _=>false
def spIs (K:PySem.W.Frag) (l:Str) (m:Int):Sp:=fun vs H Q _=>∃ (v:V),vs=[v]∧Thing K H v∧∀ H',Same H H'→Q (.bl (mj v l m)) H'
structure Txt (K:PySem.W.Frag) (mg:Str→Option Value):Prop where
 b_all:mg "all"=none
 b_bool:mg "bool"=none
 b_enumerate:mg "enumerate"=none
 b_int:mg "int"=none
 b_isinstance:mg "isinstance"=none
 b_len:mg "len"=none
 b_list:mg "list"=none
 b_max:mg "max"=none
 b_min:mg "min"=none
 b_range:mg "range"=none
 b_reversed:mg "reversed"=none
 b_sorted:mg "sorted"=none
 b_str:mg "str"=none
 b_tuple:mg "tuple"=none
 b_zip:mg "zip"=none
 c_CROSS:∃ t,mg "CROSS"=some (.str "x" t)
 c_LETTERS:∃ t,mg "LETTERS"=some (.str "abcdefghijklmnopqrstuvwxyz" t)
 c_MOST_SIGNS:∃ t,mg "MOST_SIGNS"=some (.int 48 t)
 c_POINT:∃ t,mg "POINT"=some (.str "." t)
 c_TOUCH:∃ t,mg "TOUCH"=some (.str "o" t)
 d_is_number:gj K mg "is_number" dF
 d_is_within:gj K mg "is_within" dG
 d_need_place:gj K mg "need_place" cO
 d_is_row:gj K mg "is_row" dY
 d_need_row:gj K mg "need_row" fK
 d_need_rows:gj K mg "need_rows" eQ
 d_lines_above:gj K mg "lines_above" dw
 d_signs_of_row:gj K mg "signs_of_row" aP
 d_over_row:gj K mg "over_row" b7
 d_cells_of:gj K mg "cells_of" bz
 d_ends_of:gj K mg "ends_of" cL
 d_over_cells:gj K mg "over_cells" aO
 d_ways_of:gj K mg "ways_of" cB
 d_law_at:gj K mg "_law_at" jA
 d_law_mix:gj K mg "_law_mix" fM
 d_law_put:gj K mg "_law_put" bJ
 d_law_two:gj K mg "_law_two" cY
 d_law_pair:gj K mg "_law_pair" b8
 d_law_pairs:gj K mg "_law_pairs" bW
 d_law_forms:gj K mg "_law_forms" aN
 d_law_way:gj K mg "_law_way" cM
 d_law_apart:gj K mg "_law_apart" aK
 d_law_met:gj K mg "_law_met" bQ
 d_law:gj K mg "law" bD
 x_NoRow:Bt K mg "NoRow" ["found"] "NoRow.__init__" nj
 x_NoPlace:Bt K mg "NoPlace" ["found"] "NoPlace.__init__" jB
 o_Board:yp K mg "Board"
 n_Board:∀ f∈(["held_side","held_top","held_cells","held_coming","held_lines","held_ways"]:List Str),NoAttr K (aZ mg "Board") f
 m_Board___init__:lC K mg "Board" "__init__" "Board.__init__" aM
 m_Board_lines:lC K mg "Board" "lines" "Board.lines" d7
 m_Board_cells:lC K mg "Board" "cells" "Board.cells" d8
 m_Board_need_line:lC K mg "Board" "need_line" "Board.need_line" bG
 m_Board_way:lC K mg "Board" "way" "Board.way" eU
 m_Board_meets:lC K mg "Board" "meets" "Board.meets" cT
 m_Board_crossed_at:lC K mg "Board" "crossed_at" "Board.crossed_at" aV
section
variable {P:Program} {w:World} {K:PySem.W.Frag} {mg:Str→Option Value} {base:Heap}
theorem oA:(["column","many"]:List Str).Nodup:=by decide+kernel
theorem kz00:cJ dw "range":=by decide+kernel
theorem kz01:aQ dw "far":=by decide+kernel
theorem Js:aQ b7 "left":=by decide+kernel
theorem Jt:aQ b7 "below":=by decide+kernel
theorem Pg:aQ b7 "coming":=by decide+kernel
theorem kz05:cJ b7 "zip":=by decide+kernel
theorem kz06:aQ b7 "above":=by decide+kernel
theorem kz07:aQ b7 "signs":=by decide+kernel
theorem Ju:aQ b7 "line":=by decide+kernel
theorem Tp:aQ b7 "sign":=by decide+kernel
theorem kz0a:cJ b7 "TOUCH":=by decide+kernel
def Jv:Sp:=fun vs H Q _=>∃ m f:Nat,vs=[.int m,.int f]∧m≤48∧f≤48∧∀ D,H D=none→Q (.ref D) (upd H D (.lst (((List.range f).map fun l=>((m+l:Nat):Int)).map V.int)))
theorem qO:aF ["many","far"] ["many","far"] (au dw):=⟨rfl,rfl,rfl,by decide+kernel,rfl,by decide+kernel,by decide+kernel⟩
theorem dz (T:Txt K mg):pC P w K mg base 1 "lines_above" ["many","far"] Jv:=by
 refine jz T.d_lines_above qO (fun _ _ _ _ _ _ us hl=>L2.mL (fun _ _=>rfl) us hl) ?_ fun f cdv A outer s H vs Q E hr h=>?_
 ·rintro vs H Q E ⟨m,f,rfl,_⟩;rfl
 obtain ⟨m,f,rfl,hm,hf,q⟩:=h
 have hu:=hr.units0
 have hu64:=hr.units
 refine ⟨_,(aA (aG (uC (sub:=[none,some 0]) (jx (N:=["many","far"]) (sc:=au dw) (N':=["column","many"]) (by decide+kernel)) rfl rfl rfl (cA (bB kz00) T.b_range (aa (aj 1 kz01) ao)) (fun C s₀ H₀ ex=>(Bm 0 (by decide+kernel) oA)) (fun C s₀ H₀ ex=>pP) (fun C s₀ H₀ ex=>(aU aY (zq 1 (by decide+kernel)) (mZ 0 (by decide+kernel))))))),?_⟩
 walk_at "sts"
 refine ⟨_,rfl,by omega,by omega,?_⟩
 refine vY (n:=f) (fun i ys H'=>H'=H∧ys=((List.range i).map fun l=>((m+l:Nat):Int)).map V.int) (Nat.le_trans hf (by decide)) ⟨rfl,rfl⟩ ?_ ?_ ?_
 ·rintro i ys H' ⟨_,rfl⟩
  simp
 ·rintro i ys H' hi ⟨rfl,rfl⟩
  walk_at "sts"
  refine ⟨KeepSt.set rfl,?_⟩
  walk_at "sts"
  refine ⟨rfl,?_⟩
  rw [List.range_succ,List.map_append,List.map_append]
  simp
 ·rintro ys H' ⟨rfl,rfl⟩ D hD
  walk_at "sts"
  exact q D hD
def PrI (H:Hp):List V→List (Int×Int)→Prop
 | [],[]=>True
 | v :: vs,(x,y) :: L=>(∃ p,v= .ref p∧H p=some (.tup [.int x,.int y]))∧PrI H vs L
 | _,_=>False
theorem PrI.imp {H H':Hp} (h:∀ p us,H p=some (.tup us)→H' p=some (.tup us)):∀ {ws:List V} {L:List (Int×Int)},PrI H ws L→PrI H' ws L
 | [],[],_=>trivial
 | v :: vs,(x,y) :: L,⟨⟨p,e,hp⟩,r⟩=>⟨⟨p,e,h _ _ hp⟩,PrI.imp h r⟩
 | [],_ :: _,z=>z.elim
 | _ :: _,[],z=>z.elim
theorem PrI.same {H H':Hp} {ws:List V} {L:List (Int×Int)} (h:PrI H ws L) (s:Same H H'):PrI H' ws L:=h.imp fun p us e=>s _ _ e
theorem PrI.upd {H:Hp} {ws us:List V} {L:List (Int×Int)} {f:Addr} {o:HO} (h:PrI H ws L) (hf:H f=some (.lst us)):PrI (upd H f o) ws L:=h.imp fun p vs e=>by rw [az (fun z=>by rw [z,hf] at e;cases e)];exact e
theorem PrI.push {H:Hp} {p:Addr} {x y:Int} (hp:H p=some (.tup [.int x,.int y])):∀ {ws:List V} {L:List (Int×Int)},PrI H ws L→PrI H (ws ++ [.ref p]) (L ++ [(x,y)])
 | [],[],_=>⟨⟨p,rfl,hp⟩,trivial⟩
 | v :: vs,(x,y) :: L,⟨a,r⟩=>⟨a,PrI.push hp r⟩
 | [],_ :: _,z=>z.elim
 | _ :: _,[],z=>z.elim
theorem PrI.len {H:Hp}:∀ {ws:List V} {L:List (Int×Int)},PrI H ws L→ws.length=L.length
 | [],[],_=>rfl
 | v :: vs,(x,y) :: L,⟨_,r⟩=>congrArg (· +1) (PrI.len r)
 | [],_ :: _,z=>z.elim
 | _ :: _,[],z=>z.elim
theorem PrI.get {H:Hp}:∀ {ws:List V} {L:List (Int×Int)} {k:Nat} {q:Int×Int},PrI H ws L→L[k]?=some q→∃ r,ws[k]?=some (.ref r)∧H r=some (.tup [.int q.1,.int q.2])
 | v :: vs,(x,y) :: L,0,q,⟨⟨p,e,hp⟩,_⟩,h=>by
  have h':(x,y)=q:=by simpa using h
  subst h'
  exact ⟨p,by rw [e];rfl,hp⟩
 | v :: vs,(x,y) :: L,k+1,q,⟨_,r⟩,h=>by
  obtain ⟨a,h1,h2⟩:=PrI.get (k:=k) r (by simpa using h)
  exact ⟨a,by simpa using h1,h2⟩
 | [],[],k,q,_,h=>by simp at h
 | [],_ :: _,_,_,z,_=>z.elim
 | _ :: _,[],_,_,z,_=>z.elim
def wG (z:Nat→Bool) (ab:List Int) (left:Int) (n:Nat):List (Int×Int):=(List.range n).map fun j=>((fO z ab left j).2,ab.getD j 0)
theorem Ce (z:Nat→Bool) (ab:List Int) (left:Int) (n:Nat):wG z ab left (n+1)=wG z ab left n ++ [((fO z ab left n).2,ab.getD n 0)]:=by unfold wG;rw [List.range_succ,List.map_append];rfl
def qP (z:Str) (j:Nat):Bool:=decide ((⟨#[z.cps.getD j 0]⟩:Str)=Str.ofString "o")
def Ph:Sp:=fun vs H Q _=>∃ (z:Str) (left:Int) (a:Addr) (ab:List Int),vs=[.str z,.int left,.ref a]∧H a=some (.lst (ab.map V.int))∧z.cps.size=ab.length∧ab.length≤48∧
 ∀ t c b H',H b=none→H c=none→Same H H'→H' t=some (.tup [.ref c,.ref b,.int (fO (qP z) ab left ab.length).2])→H' b=some (.lst ((fO (qP z) ab left ab.length).1.map V.int))→(∃ cs,H' c=some (.lst cs)∧PrI H' cs (wG (qP z) ab left ab.length))→Q (.ref t) H'
theorem eV:aF ["signs","left","above","coming","below","sign","line"] ["signs","left","above"] (au b7):=⟨rfl,rfl,rfl,by decide+kernel,rfl,by decide+kernel,by decide+kernel⟩
theorem fP (T:Txt K mg):pC P w K mg base 1 "over_row" ["signs","left","above"] Ph:=by
 refine jz T.d_over_row eV (fun _ _ _ _ _ _ us hl=>L2.vA (fun _ _ _=>rfl) us hl) ?_ fun f cdv A outer s H vs Q E hr h=>?_
 ·rintro vs H Q E ⟨z,left,a,ab,rfl,_⟩;rfl
 obtain ⟨z,left,a,ab,rfl,ha,hz,hl,q⟩:=h
 have hu:=hr.units0
 have hu64:=hr.units
 refine ⟨_,(aq (aC (i:=3) eV.nd rfl (Or.inl Pg) (fc ao) rfl) (aq (aC (i:=4) eV.nd rfl (Or.inl Jt) (fc ao) rfl) (aq (bZ PassesOwn.never rfl (FJ (K:=K) rfl rfl (bB kz05) T.b_zip (aa (aj 0 kz07) (aa (aj 2 kz06) ao))) (jF (K:=K) rfl rfl (bu (aH (i:=5) eV.nd rfl (Or.inl Tp) rfl) (bu (aH (i:=6) eV.nd rfl (Or.inl Ju) rfl) fj))) (aq (bL (fJ (K:=K) rfl PySem.F.plainAttrs_list PySem.F.slot_list_append PySem.F.type_list_append bN (aj 3 Pg) (aa (iu (aa (aj 1 Js) (aa (aj 6 Ju) ao))) ao))) (aA (bV (bc (uF (K:=K) rfl hu64) (aj 5 Tp) (nZ (bB kz0a) T.c_TOUCH (by decide+kernel)) (by first | exact aL _ | with_unfolding_all rfl)) (aq (bL (fJ (K:=K) rfl PySem.F.plainAttrs_list PySem.F.slot_list_append PySem.F.type_list_append bN (aj 4 Jt) (aa (aj 1 Js) ao))) (aA (aC (i:=1) eV.nd rfl (Or.inl Js) (aj 6 Ju) rfl))) (aA (bL (fJ (K:=K) rfl PySem.F.plainAttrs_list PySem.F.slot_list_append PySem.F.type_list_append bN (aj 4 Jt) (aa (aj 6 Ju) ao)))))))) (aA (aG (iu (aa (aj 3 Pg) (aa (aj 4 Jt) (aa (aj 1 Js) ao))))))))),?_⟩
 walk_at "sts"
 refine iy rfl fun C nC=>?_
 walk_at "sts"
 refine iy rfl fun B nB=>?_
 have nBH:H B=none:=((Same.refl H).upd nC).free nB
 have nCB:C≠B:=fun z=>by rw [z,ak] at nB;cases nB
 have e0:upd (upd H C (.lst [])) B (.lst []) C=some (.lst []):=by rw [az nCB];exact ak
 have S0:Same H (upd (upd H C (.lst [])) B (.lst [])):=((Same.refl H).upd nC).upd nB
 walk_at "sts"
 refine ⟨z,a,ab.map V.int,rfl,SqL.of (S0 _ _ ha),?_⟩
 refine BV (ys:=ab.map V.int) (fun j σ H'=>Same H H'∧(∃ cs,H' C=some (.lst cs)∧cs.length=j∧PrI H' cs (wG (qP z) ab left j))∧H' B=some (.lst ((fO (qP z) ab left j).1.map V.int))∧
   ∃ x5 x6,σ=[some (.str z),some (.int (fO (qP z) ab left j).2),some (.ref a),some (.ref C),some (.ref B),x5,x6])
  (by rw [List.length_map];exact hz) ⟨S0,⟨[],e0,rfl,trivial⟩,ak,none,none,rfl⟩ (fun i σ H' _ h=>SqL.of (h.1 _ _ ha)) ?_ ?_
 ·rintro j σ H1 T0 y hy ⟨S1,⟨cs,hC,hcs,hW⟩,hB,x5,x6,rfl⟩ nT
  obtain ⟨n,hn,rfl⟩:∃ n,ab[j]?=some n∧y=V.int n:=by
   rw [List.getElem?_map] at hy
   cases e:ab[j]? with
   | none=>rw [e] at hy;cases hy
   | some n=>rw [e] at hy;exact ⟨n,rfl,(Option.some.inj hy).symm⟩
  have hj:j < ab.length:=(List.getElem?_eq_some_iff.mp hn).1
  have en:ab.getD j 0=n:=by rw [List.getD_eq_getElem?_getD,hn];rfl
  refine dh (xs:=[.str ⟨#[z.cps.getD j 0]⟩,.int n]) (SqT.of ak) rfl ?_
  have hC2:=aX nT hC (o:=.tup [.str ⟨#[z.cps.getD j 0]⟩,.int n])
  have hB2:=aX nT hB (o:=.tup [.str ⟨#[z.cps.getD j 0]⟩,.int n])
  have hW2:=hW.same ((Same.refl H1).upd nT (o:=.tup [.str ⟨#[z.cps.getD j 0]⟩,.int n]))
  have S2:=S1.upd nT (o:=.tup [.str ⟨#[z.cps.getD j 0]⟩,.int n])
  generalize upd H1 T0 (.tup [.str ⟨#[z.cps.getD j 0]⟩,.int n])=H2 at hC2 hB2 S2 hW2 ⊢
  have hs:100≤sizeLine:=by decide
  walk_at "sts"
  refine ⟨.inl ⟨rfl,_,SqL.of hC2⟩,?_⟩
  walk_at "sts"
  refine iy rfl fun p np=>?_
  have hC3:=aX np hC2 (o:=.tup [.int (fO (qP z) ab left j).2,.int n])
  have hB3:=aX np hB2 (o:=.tup [.int (fO (qP z) ab left j).2,.int n])
  have S3:=S2.upd np (o:=.tup [.int (fO (qP z) ab left j).2,.int n])
  have hW3:PrI (upd H2 p (.tup [.int (fO (qP z) ab left j).2,.int n])) (cs ++ [.ref p]) (wG (qP z) ab left (j+1)):=by
   rw [Ce,en]
   exact (hW2.same ((Same.refl H2).upd np)).push ak
  generalize upd H2 p (.tup [.int (fO (qP z) ab left j).2,.int n])=H3 at hC3 hB3 S3 hW3 ⊢
  walk_at "sts"
  refine bM hC3 (by omega) ?_
  have S4:=over (o:=.lst (cs ++ [.ref p])) S3 nC
  have hC4:upd H3 C (.lst (cs ++ [.ref p])) C=some (.lst (cs ++ [.ref p])):=ak
  have hB4:upd H3 C (.lst (cs ++ [.ref p])) B=some (.lst ((fO (qP z) ab left j).1.map V.int)):=by rw [az nCB.symm];exact hB3
  have hW4:=hW3.upd hC3 (o:=.lst (cs ++ [.ref p]))
  generalize upd H3 C (.lst (cs ++ [.ref p]))=H4 at hC4 hB4 S4 hW4 ⊢
  have hlB:((fO (qP z) ab left j).1.map V.int).length < sizeLine:=by rw [List.length_map,wD];omega
  walk_at "sts"
  refine uz (fun hk=>?_) (fun hk=>?_)
  ·have hk':qP z j=true:=decide_eq_true (V.str.inj hk)
   walk_at "sts"
   refine ⟨.inl ⟨rfl,_,SqL.of hB4⟩,?_⟩
   walk_at "sts"
   refine bM hB4 hlB ?_
   walk_at "sts"
   refine ⟨over S4 nBH,⟨cs ++ [.ref p],by rw [az nCB];exact hC4,by simp [hcs],hW4.upd hB4⟩,?_,some (.str ⟨#[z.cps.getD j 0]⟩),some (.int n),?_⟩
   ·rw [ak,fO,if_pos hk',List.map_append];rfl
   ·rw [fO,if_pos hk',en];rfl
  ·have hk':¬ qP z j=true:=fun h=>hk (congrArg V.str (of_decide_eq_true h))
   walk_at "sts"
   refine ⟨.inl ⟨rfl,_,SqL.of hB4⟩,?_⟩
   walk_at "sts"
   refine bM hB4 hlB ?_
   refine ⟨over S4 nBH,⟨cs ++ [.ref p],by rw [az nCB];exact hC4,by simp [hcs],hW4.upd hB4⟩,?_,some (.str ⟨#[z.cps.getD j 0]⟩),some (.int n),?_⟩
   ·rw [ak,fO,if_neg hk',en,List.map_append];rfl
   ·rw [fO,if_neg hk'];rfl
 ·rintro σ H1 ⟨S1,⟨cs,hC,hcs,hW⟩,hB,x5,x6,rfl⟩
  rw [List.length_map] at hB hW
  walk_at "sts"
  refine iy rfl fun p np=>?_
  walk_at "sts"
  rw [List.length_map]
  exact q p C B _ nBH nC (S1.upd np) ak (aX np hB) ⟨cs,aX np hC,hW.same ((Same.refl H1).upd np)⟩
end
section
variable {P:Program} {w:World} {K:PySem.W.Frag} {mg:Str→Option Value} {base:Heap}
theorem Jw:aQ cL "ends":=by decide+kernel
theorem Tq:cJ cL "enumerate":=by decide+kernel
theorem kz0d:cJ cL "reversed":=by decide+kernel
theorem Tr:aQ cL "right":=by decide+kernel
theorem Jx:aQ cL "line":=by decide+kernel
theorem Tt:aQ cL "place":=by decide+kernel
theorem Pj:cJ cL "len":=by decide+kernel
theorem Pk:aQ cL "below":=by decide+kernel
theorem Tu:aQ cL "column":=by decide+kernel
def Pn:Sp:=fun vs H Q _=>∃ (m far:Nat) (C:Nat→Nat→Bool) (b r:Addr),vs=[.ref b,.ref r]∧m≤48∧far≤48∧H b=some (.lst ((ou m C far m).map V.int))∧H r=some (.lst ((Ca m C far m).map V.int))∧
 ∀ e R H',H e=none→Same H H'→jH m C far R→H' e=some (.lst (R.map V.int))→Q (.ref e) H'
theorem Ly {n k:Nat} (h:k < n):Hl n (k:Int)=some k:=by
 unfold Hl
 rw [if_pos (by omega),if_pos (by omega)];rfl
theorem Pq (n:Nat):(List.replicate n [V.int 0]).flatten=(List.replicate n (0:Int)).map V.int:=by
 induction n with
 | zero=>rfl
 | succ n ih=>rw [List.replicate_succ,List.flatten_cons,ih,List.replicate_succ];rfl
theorem fQ:aF ["below","right","ends","column","line","place"] ["below","right"] (au cL):=⟨rfl,rfl,rfl,by decide+kernel,rfl,by decide+kernel,by decide+kernel⟩
theorem oE (T:Txt K mg):pC P w K mg base 1 "ends_of" ["below","right"] Pn:=by
 refine jz T.d_ends_of fQ (fun _ _ _ _ _ _ us hl=>L2.mL (fun _ _=>rfl) us hl) ?_ fun f cdv A outer s H vs Q E hr h=>?_
 ·rintro vs H Q E ⟨m,far,C,b,r,rfl,_⟩;rfl
 obtain ⟨m,far,C,b,r,rfl,hm,hf,hb,hr',q⟩:=h
 have hu:=hr.units0
 have hu64:=hr.units
 refine ⟨_,(aq (aC (i:=2) fQ.nd rfl (Or.inl Jw) (aU jE (fc (aa aB ao)) (aU aY (aD (aJ (K:=K) rfl) (bB Pj) T.b_len bU (aa (aj 0 Pk) ao) (by decide+kernel) (by decide+kernel)) (aD (aJ (K:=K) rfl) (bB Pj) T.b_len bU (aa (aj 1 Tr) ao) (by decide+kernel) (by decide+kernel)))) rfl) (aq (bZ PassesOwn.never rfl (kj (K:=K) rfl rfl (bB Tq) T.b_enumerate (aa (aj 0 Pk) ao)) (jF (K:=K) rfl rfl (bu (aH (i:=3) fQ.nd rfl (Or.inl Tu) rfl) (bu (aH (i:=4) fQ.nd rfl (Or.inl Jx) rfl) fj))) (aA (uD (ts:=vJ) (aj 3 Tu) (xX (aj 2 Jw) (aj 4 Jx) set_list)))) (aq (bZ PassesOwn.never rfl (ym (K:=K) rfl (bB Tq) T.b_enumerate (bB kz0d) T.b_reversed (aj 1 Tr)) (jF (K:=K) rfl rfl (bu (aH (i:=5) fQ.nd rfl (Or.inl Tt) rfl) (bu (aH (i:=4) fQ.nd rfl (Or.inl Jx) rfl) fj))) (aA (uD (ts:=vJ) (aU aY (aD (aJ (K:=K) rfl) (bB Pj) T.b_len bU (aa (aj 0 Pk) ao) (by decide+kernel) (by decide+kernel)) (aj 5 Tt)) (xX (aj 2 Jw) (aj 4 Jx) set_list)))) (aA (aG (aj 2 Jw)))))),?_⟩
 walk_at "sts"
 have hs:1000≤sizeLine:=by decide
 have lb:((ou m C far m).map V.int).length=far:=by simp [ou]
 have lr:((Ca m C far m).map V.int).length=m:=by simp [Ca]
 refine ⟨by decide,fun z nz=>?_⟩
 walk_at "sts"
 refine gn (SqL.of (aX nz hb)) ?_
 rw [lb]
 walk_at "sts"
 refine gn (SqL.of (aX nz hr')) ?_
 rw [lr]
 walk_at "sts"
 have eN:((far:Int)+(m:Int)).toNat=m+far:=by omega
 refine Ot ak (by omega) (by omega) (by rw [eN];simp;omega) fun e ne=>?_
 rw [eN,Pq]
 have neH:H e=none:=((Same.refl H).upd nz).free ne
 have S0:=((Same.refl H).upd (o:=.lst [.int 0]) nz).upd (o:=.lst ((List.replicate (m+far) (0:Int)).map V.int)) ne
 have e0:=ak (H:=upd H z (.lst [.int 0])) (a:=e) (o:=.lst ((List.replicate (m+far) (0:Int)).map V.int))
 generalize upd (upd H z (.lst [.int 0])) e (.lst ((List.replicate (m+far) (0:Int)).map V.int))=H1 at S0 e0 ⊢
 have nbe:b≠e:=fun z=>by rw [z,neH] at hb;cases hb
 have nre:r≠e:=fun z=>by rw [z,neH] at hr';cases hr'
 walk_at "sts"
 refine .inr ⟨b,_,rfl,SqL.of (S0 _ _ hb),?_⟩
 refine kE (xs:=(ou m C far m).map V.int) (fun j σ H'=>Same H H'∧(∃ R:List Int,H' e=some (.lst (R.map V.int))∧R.length=m+far∧∀ l,l < j→R[gD m C l m]?=some (l:Int))∧∃ x3 x4 x5,σ=[some (.ref b),some (.ref r),some (.ref e),x3,x4,x5])
  ⟨S0,⟨_,e0,by simp,fun l hl=>absurd hl (by omega)⟩,none,none,none,rfl⟩ (fun i σ H' _ h=>SqL.of (h.1 _ _ hb)) ?_ ?_
 ·rintro j σ H2 T0 x hx ⟨S2,⟨R,hR,lR,gR⟩,x3,x4,x5,rfl⟩ nT
  have hj:j < far:=by
   have:=(List.getElem?_eq_some_iff.mp hx).1
   rw [lb] at this;exact this
  obtain rfl:x=V.int ((gD m C j m:Nat):Int):=by
   rw [List.getElem?_map,Jq hj] at hx
   exact (Option.some.inj hx).symm
  have hlt:=wF (m:=m) (C:=C) (far:=far) |>.2 j hj
  refine dh (xs:=[.int j,.int ((gD m C j m:Nat):Int)]) (SqT.of ak) rfl ?_
  have hR2:=aX nT hR (o:=.tup [.int j,.int ((gD m C j m:Nat):Int)])
  have S3:=S2.upd nT (o:=.tup [.int j,.int ((gD m C j m:Nat):Int)])
  generalize upd H2 T0 (.tup [.int j,.int ((gD m C j m:Nat):Int)])=H3 at hR2 S3 ⊢
  walk_at "sts"
  refine eZ hR2 (Ly (by rw [List.length_map,lR];exact hlt)) ?_
  rw [← List.map_set]
  refine ⟨over S3 neH,⟨R.set (gD m C j m) j,ak,by simp [lR],fun l hl=>?_⟩,some (.int j),some (.int ((gD m C j m:Nat):Int)),x5,rfl⟩
  by_cases hlj:l=j
  ·subst hlj
   rw [List.getElem?_set_self (by omega)]
  ·rw [List.getElem?_set_ne (Tj (m:=m) (C:=C) (far:=far) hj (by omega) (fun z=>hlj z.symm))]
   exact gR l (by omega)
 ·rintro σ H2 ⟨S2,⟨R,hR,lR,gR⟩,x3,x4,x5,rfl⟩
  rw [lb] at gR
  walk_at "sts"
  refine ⟨r,(Ca m C far m).map V.int,rfl,SqL.of (S2 _ _ hr'),?_⟩
  refine BL (xs:=(Ca m C far m).map V.int) (fun j σ H'=>Same H H'∧(∃ R:List Int,H' e=some (.lst (R.map V.int))∧R.length=m+far∧(∀ l,l < far→R[gD m C l m]?=some (l:Int))∧∀ l,l < j→R[gA m C (m - 1 - l) far]?=some ((far+l:Nat):Int))∧∃ x3 x4 x5,σ=[some (.ref b),some (.ref r),some (.ref e),x3,x4,x5])
   ⟨S2,⟨R,hR,lR,gR,fun l hl=>absurd hl (by omega)⟩,_,_,_,rfl⟩ (fun i σ H' _ h=>SqL.of (h.1 _ _ hr')) ?_ ?_
  ·rintro j σ H3 T0 x hj hx ⟨S3,⟨R,hR,lR,gR,aR⟩,x3,x4,x5,rfl⟩ nT
   rw [lr] at hj hx
   obtain rfl:x=V.int ((gA m C (m - 1 - j) far:Nat):Int):=by
    rw [List.getElem?_map,Pa (by omega)] at hx
    exact (Option.some.inj hx).symm
   have hlt:=wF (m:=m) (C:=C) (far:=far) |>.1 (m - 1 - j) (by omega)
   refine dh (xs:=[.int j,.int ((gA m C (m - 1 - j) far:Nat):Int)]) (SqT.of ak) rfl ?_
   have hR2:=aX nT hR (o:=.tup [.int j,.int ((gA m C (m - 1 - j) far:Nat):Int)])
   have S4:=S3.upd nT (o:=.tup [.int j,.int ((gA m C (m - 1 - j) far:Nat):Int)])
   generalize upd H3 T0 (.tup [.int j,.int ((gA m C (m - 1 - j) far:Nat):Int)])=H4 at hR2 S4 ⊢
   walk_at "sts"
   refine gn (SqL.of (S4 _ _ hb)) ?_
   rw [lb]
   walk_at "sts"
   refine eZ hR2 (Ly (by rw [List.length_map,lR];exact hlt)) ?_
   rw [← List.map_set]
   refine ⟨over S4 neH,⟨R.set (gA m C (m - 1 - j) far) ((far:Int)+j),ak,by simp [lR],fun l hl=>?_,fun l hl=>?_⟩,x3,some (.int ((gA m C (m - 1 - j) far:Nat):Int)),some (.int j),rfl⟩
   ·rw [List.getElem?_set_ne (Tn (m:=m) (C:=C) (far:=far) (by omega) hl)]
    exact gR l hl
   ·by_cases hlj:l=j
    ·subst hlj
     rw [List.getElem?_set_self (by omega)]
     congr 1
    ·rw [List.getElem?_set_ne (Ti (m:=m) (C:=C) (far:=far) (by omega) (by omega) (by omega))]
     exact aR l (by omega)
  ·rintro σ H3 ⟨S3,⟨R,hR,lR,gR,aR⟩,x3,x4,x5,rfl⟩
   rw [lr] at aR
   walk_at "sts"
   refine q e R H3 neH S3 ⟨lR,gR,fun i hi=>?_⟩ hR
   have:=aR (m - 1 - i) (by omega)
   rw [show m - 1 - (m - 1 - i)=i by omega] at this
   exact this
end
section
variable {P:Program} {w:World} {K:PySem.W.Frag} {mg:Str→Option Value} {base:Heap}
theorem kz0k:cJ aO "ends_of":=by decide+kernel
theorem Pr:aQ aO "right":=by decide+kernel
theorem Jy:aQ aO "above":=by decide+kernel
theorem Pu:aQ aO "coming":=by decide+kernel
theorem kz0o:cJ aO "enumerate":=by decide+kernel
theorem kz0p:aQ aO "cells":=by decide+kernel
theorem Tv:aQ aO "signs":=by decide+kernel
theorem Tw:aQ aO "row":=by decide+kernel
theorem Jz:aQ aO "gone":=by decide+kernel
theorem kz0t:cJ aO "over_row":=by decide+kernel
theorem Tz:aQ aO "many":=by decide+kernel
theorem kz0v:cJ aO "lines_above":=by decide+kernel
theorem kz0w:aQ aO "far":=by decide+kernel
def cC (rows:List Str) (i:Nat):Nat→Bool:=qP (rows.getD i ⟨#[]⟩)
def wH (m:Nat) (C:Nat→Nat→Bool) (far i:Nat):List (Int×Int):=(List.range far).map fun j=>(((gA m C i j:Nat):Int),((gD m C j i:Nat):Int))
def Cmg (H:Hp) (P:Addr→Prop) (m:Nat) (C:Nat→Nat→Bool) (far:Nat) (cs:List V) (n:Nat):Prop:=cs.length=n∧∀ i,i < n→∃ c ws,cs[i]?=some (.ref c)∧P c∧H c=some (.lst ws)∧PrI H ws (wH m C far i)
theorem Cmg.imp {H H':Hp} {P P':Addr→Prop} {m:Nat} {C:Nat→Nat→Bool} {far:Nat} {cs:List V} {n:Nat} (h:Cmg H P m C far cs n) (ht:∀ p us,H p=some (.tup us)→H' p=some (.tup us)) (hl:∀ c ws,P c→H c=some (.lst ws)→H' c=some (.lst ws)) (hp:∀ c,P c→P' c):Cmg H' P' m C far cs n:=
 ⟨h.1,fun i hi=>by
  obtain ⟨c,ws,e1,e2,e3,e4⟩:=h.2 i hi
  exact ⟨c,ws,e1,hp c e2,hl c ws e2 e3,e4.imp ht⟩⟩
theorem Cmg.same {H H':Hp} {P:Addr→Prop} {m:Nat} {C:Nat→Nat→Bool} {far:Nat} {cs:List V} {n:Nat} (h:Cmg H P m C far cs n) (s:Same H H'):Cmg H' P m C far cs n:=h.imp (fun p us e=>s _ _ e) (fun c ws _ e=>s _ _ e) fun _ z=>z
theorem Cmg.push {H:Hp} {P:Addr→Prop} {m:Nat} {C:Nat→Nat→Bool} {far:Nat} {cs:List V} {n:Nat} {c:Addr} {ws:List V} (h:Cmg H P m C far cs n) (hP:P c) (hc:H c=some (.lst ws)) (hw:PrI H ws (wH m C far n)):Cmg H P m C far (cs ++ [.ref c]) (n+1):=by
 refine ⟨by rw [List.length_append,h.1];rfl,fun i hi=>?_⟩
 by_cases e:i=n
 ·subst e
  exact ⟨c,ws,by rw [List.getElem?_append_right (by rw [h.1];exact Nat.le_refl _),h.1,Nat.sub_self];rfl,hP,hc,hw⟩
 ·obtain ⟨d,us,e1,e2⟩:=h.2 i (by omega)
  exact ⟨d,us,by rw [List.getElem?_append_left (by rw [h.1];omega)];exact e1,e2⟩
theorem Cmg.upd {H:Hp} {P:Addr→Prop} {m:Nat} {C:Nat→Nat→Bool} {far:Nat} {cs us:List V} {n:Nat} {f:Addr} {o:HO} (h:Cmg H P m C far cs n) (hf:H f=some (.lst us)) (hP:∀ c,P c→c≠f):Cmg (upd H f o) P m C far cs n:=
 h.imp (fun p vs e=>by rw [az (fun z=>by rw [z,hf] at e;cases e)];exact e) (fun c ws pc e=>by rw [az (hP c pc)];exact e) fun _ z=>z
def JC:Sp:=fun vs H Q _=>∃ (m far:Nat) (rows:List Str) (c:Addr),vs=[.int m,.int far,.ref c]∧H c=some (.lst (rows.map V.str))∧rows.length=m∧m≤48∧far≤48∧(∀ z∈rows,z.cps.size=far)∧
 ∀ t cm e R H',H e=none→Same H H'→H' t=some (.tup [.ref cm,.ref e])→jH m (cC rows) far R→H' e=some (.lst (R.map V.int))→(∃ cs,H' cm=some (.lst cs)∧Cmg H' (fun _=>True) m (cC rows) far cs m)→Q (.ref t) H'
theorem Px {m:Nat} {C:Nat→Nat→Bool} {far i:Nat}:wG (C i) (ou m C far i) ((gA m C i 0:Nat):Int) far=wH m C far i:=by
 unfold wG wH
 refine List.map_congr_left fun j hj=>?_
 have hj':=List.mem_range.mp hj
 rw [uP j (by omega),yu hj']
theorem Ga {m:Nat} {C:Nat→Nat→Bool} {far:Nat}:ou m C far 0=(List.range far).map fun l=>((m+l:Nat):Int):=by
 unfold ou
 simp only [iB]
theorem pR {m:Nat} {C:Nat→Nat→Bool} {far i:Nat}:(ou m C far i).length=far:=by simp [ou]
theorem JD {m:Nat} {C:Nat→Nat→Bool} {far i:Nat}:(Ca m C far i).length=i:=by simp [Ca]
theorem cz:aF ["many","far","cells","above","coming","right","row","signs","gone"] ["many","far","cells"] (au aO):=⟨rfl,rfl,rfl,by decide+kernel,rfl,by decide+kernel,by decide+kernel⟩
theorem jJ (T:Txt K mg):pC P w K mg base 2 "over_cells" ["many","far","cells"] JC:=by
 have dz:=dz (P:=P) (w:=w) (base:=base) T
 have fP:=fP (P:=P) (w:=w) (base:=base) T
 have oE:=oE (P:=P) (w:=w) (base:=base) T
 refine jz T.d_over_cells cz (fun _ _ _ _ _ _ us hl=>L2.vA (fun _ _ _=>rfl) us hl) ?_ fun f cdv A outer s H vs Q E hr h=>?_
 ·rintro vs H Q E ⟨m,far,rows,c,rfl,_⟩;rfl
 obtain ⟨m,far,rows,c,rfl,hc,hr',hm,hf,hz,q⟩:=h
 have hu:=hr.units0
 have hu64:=hr.units
 refine ⟨_,(aq (aC (i:=3) cz.nd rfl (Or.inl Jy) (bx dz (hr.mono (by decide)) (bB kz0v) (aa (aj 0 Tz) (aa (aj 1 kz0w) ao)) (by decide+kernel)) rfl) (aq (aC (i:=4) cz.nd rfl (Or.inl Pu) (fc ao) rfl) (aq (aC (i:=5) cz.nd rfl (Or.inl Pr) (fc ao) rfl) (aq (bZ PassesOwn.never rfl (kj (K:=K) rfl rfl (bB kz0o) T.b_enumerate (aa (aj 2 kz0p) ao)) (jF (K:=K) rfl rfl (bu (aH (i:=6) cz.nd rfl (Or.inl Tw) rfl) (bu (aH (i:=7) cz.nd rfl (Or.inl Tv) rfl) fj))) (aq (aC (i:=8) cz.nd rfl (Or.inl Jz) (bx fP (hr.mono (by decide)) (bB kz0t) (aa (aj 7 Tv) (aa (aU fH (aU fH (aj 0 Tz) aB) (aj 6 Tw)) (aa (aj 3 Jy) ao))) (by decide+kernel)) rfl) (aq (bL (fJ (K:=K) rfl PySem.F.plainAttrs_list PySem.F.slot_list_append PySem.F.type_list_append bN (aj 4 Pu) (aa (bO (K:=K) rfl (aj 8 Jz) aB) ao))) (aq (aC (i:=3) cz.nd rfl (Or.inl Jy) (bO (K:=K) rfl (aj 8 Jz) aB) rfl) (aA (bL (fJ (K:=K) rfl PySem.F.plainAttrs_list PySem.F.slot_list_append PySem.F.type_list_append bN (aj 5 Pr) (aa (bO (K:=K) rfl (aj 8 Jz) aB) ao)))))))) (aA (aG (iu (aa (aj 4 Pu) (aa (bx oE (hr.mono (by decide)) (bB kz0k) (aa (aj 3 Jy) (aa (aj 5 Pr) ao)) (by decide+kernel)) ao))))))))),?_⟩
 walk_at "sts"
 have hs:1000≤sizeLine:=by decide
 refine ⟨m,far,rfl,hm,hf,fun A0 nA=>?_⟩
 rw [← Ga (C:=cC rows)]
 have SA:=(Same.refl H).upd nA (o:=.lst ((ou m (cC rows) far 0).map V.int))
 have eA:=ak (H:=H) (a:=A0) (o:=.lst ((ou m (cC rows) far 0).map V.int))
 generalize upd H A0 (.lst ((ou m (cC rows) far 0).map V.int))=H1 at SA eA ⊢
 walk_at "sts"
 refine iy rfl fun CM nC=>?_
 have SC:=SA.upd nC (o:=.lst [])
 have eC:=ak (H:=H1) (a:=CM) (o:=.lst [])
 have eA2:=aX nC eA (o:=.lst [])
 have nCH:=SA.free nC
 generalize upd H1 CM (.lst [])=H2 at SC eC eA2 ⊢
 walk_at "sts"
 refine iy rfl fun RT nR=>?_
 have SR:=SC.upd nR (o:=.lst [])
 have eR:=ak (H:=H2) (a:=RT) (o:=.lst [])
 have eA3:=aX nR eA2 (o:=.lst [])
 have eC3:=aX nR eC (o:=.lst [])
 have nRH:=SC.free nR
 have nCR:CM≠RT:=fun z=>by rw [z,nR] at eC;cases eC
 generalize upd H2 RT (.lst [])=H3 at SR eR eA3 eC3 ⊢
 walk_at "sts"
 refine .inr ⟨c,_,rfl,SqL.of (SR _ _ hc),?_⟩
 refine kE (xs:=rows.map V.str) (fun i σ H'=>Same H H'∧(∃ cs,H' CM=some (.lst cs)∧cs.length=i∧Cmg H' (fun c=>c≠CM∧c≠RT) m (cC rows) far cs i)∧H' RT=some (.lst ((Ca m (cC rows) far i).map V.int))∧
   ∃ a x6 x7 x8,H' a=some (.lst ((ou m (cC rows) far i).map V.int))∧a≠CM∧a≠RT∧σ=[some (.int m),some (.int far),some (.ref c),some (.ref a),some (.ref CM),some (.ref RT),x6,x7,x8])
  ⟨SR,⟨[],eC3,rfl,rfl,fun i hi=>absurd hi (Nat.not_lt_zero _)⟩,eR,A0,none,none,none,eA3,(fun z=>by rw [z,nC] at eA;cases eA),(fun z=>by rw [z,nR] at eA2;cases eA2),rfl⟩ (fun i σ H' _ h=>SqL.of (h.1 _ _ hc)) ?_ ?_
 ·rintro i σ H4 T0 x hx ⟨S4,⟨cs,hC,hcs,hG⟩,hR,a,x6,x7,x8,ha,nac,nar,rfl⟩ nT
  have hi:i < rows.length:=by
   have:=(List.getElem?_eq_some_iff.mp hx).1
   simpa using this
  obtain ⟨z,hzi,rfl⟩:∃ z,rows[i]?=some z∧x=V.str z:=by
   rw [List.getElem?_map] at hx
   cases e:rows[i]? with
   | none=>rw [e] at hx;cases hx
   | some n=>rw [e] at hx;exact ⟨n,rfl,(Option.some.inj hx).symm⟩
  have ez:rows.getD i ⟨#[]⟩=z:=by rw [List.getD_eq_getElem?_getD,hzi];rfl
  refine dh (xs:=[.int i,.str z]) (SqT.of ak) rfl ?_
  have hC5:=aX nT hC (o:=.tup [.int i,.str z])
  have hR5:=aX nT hR (o:=.tup [.int i,.str z])
  have ha5:=aX nT ha (o:=.tup [.int i,.str z])
  have S5:=S4.upd nT (o:=.tup [.int i,.str z])
  have hG5:=hG.same ((Same.refl H4).upd nT (o:=.tup [.int i,.str z]))
  generalize upd H4 T0 (.tup [.int i,.str z])=H5 at hC5 hR5 ha5 S5 hG5 ⊢
  walk_at "sts"
  rw [show ((m:Int) - 1 - (i:Int))=((gA m (cC rows) i 0:Nat):Int) by rw [iz];omega]
  refine ⟨z,_,a,_,rfl,ha5,by rw [pR];exact hz z (List.mem_of_getElem? hzi),by rw [pR];exact hf,fun t c1 b H6 nb nc1 S6 ht hb hcc=>?_⟩
  have eC':qP z=cC rows i:=by unfold cC;rw [ez]
  rw [eC',pR,uP far (Nat.le_refl _)] at ht hb
  rw [eC',pR,Px] at hcc
  obtain ⟨ws,hc1,hws⟩:=hcc
  have nc1C:c1≠CM:=fun z=>by rw [z,hC5] at nc1;cases nc1
  have nc1R:c1≠RT:=fun z=>by rw [z,hR5] at nc1;cases nc1
  have hG6:=(hG5.same S6).push ⟨nc1C,nc1R⟩ hc1 hws
  have hC6:=S6 _ _ hC5
  have hR6:=S6 _ _ hR5
  have nbC:b≠CM:=fun z=>by rw [z,hC5] at nb;cases nb
  have nbR:b≠RT:=fun z=>by rw [z,hR5] at nb;cases nb
  have tC:t≠CM:=fun z=>by rw [z,hC6] at ht;cases ht
  have tR:t≠RT:=fun z=>by rw [z,hR6] at ht;cases ht
  walk_at "sts"
  refine ⟨.inl ⟨rfl,_,SqL.of hC6⟩,?_⟩
  walk_at "sts"
  refine bM hC6 (by omega) ?_
  have S7:=over (o:=.lst (cs ++ [.ref c1])) (S5.trans S6) nCH
  have hC7:=ak (H:=H6) (a:=CM) (o:=.lst (cs ++ [.ref c1]))
  have hR7:upd H6 CM (.lst (cs ++ [.ref c1])) RT=_:=(az nCR.symm).trans hR6
  have ht7:upd H6 CM (.lst (cs ++ [.ref c1])) t=_:=(az tC).trans ht
  have hb7:upd H6 CM (.lst (cs ++ [.ref c1])) b=_:=(az nbC).trans hb
  have hG7:=hG6.upd hC6 (o:=.lst (cs ++ [.ref c1])) fun c hc=>hc.1
  generalize upd H6 CM (.lst (cs ++ [.ref c1]))=H7 at S7 hC7 hR7 ht7 hb7 hG7 ⊢
  clear ht hb
  walk_at "sts"
  refine ⟨.inl ⟨rfl,_,SqL.of hR7⟩,?_⟩
  walk_at "sts"
  refine bM hR7 (by rw [List.length_map,JD];omega) ?_
  refine ⟨over S7 nRH,⟨cs ++ [.ref c1],(az nCR).trans hC7,by simp [hcs],hG7.upd hR7 fun c hc=>hc.2⟩,?_,b,some (.int i),some (.str z),some (.ref t),(az nbR).trans hb7,nbC,nbR,rfl⟩
  rw [ak]
  have e:Ca m (cC rows) far (i+1)=Ca m (cC rows) far i ++ [((gA m (cC rows) i far:Nat):Int)]:=by unfold Ca;rw [List.range_succ,List.map_append];rfl
  rw [e,List.map_append];rfl
 ·rintro σ H4 ⟨S4,⟨cs,hC,hcs,hG⟩,hR,a,x6,x7,x8,ha,nac,nar,rfl⟩
  rw [List.length_map,hr'] at hR ha hG
  walk_at "sts"
  refine ⟨m,far,cC rows,a,RT,rfl,hm,hf,ha,hR,fun e R H5 ne S5 hE hR5=>?_⟩
  walk_at "sts"
  refine iy rfl fun t nt=>?_
  walk_at "sts"
  exact q t CM e R _ (S4.free ne) ((S4.trans S5).upd nt) ak hE (aX nt hR5) ⟨cs,aX nt (S5 _ _ hC),(hG.same (S5.upd nt)).imp (fun _ _ z=>z) (fun _ _ _ z=>z) fun _ _=>trivial⟩
end
def Kd (K:PySem.W.Frag) (H:Hp) (v:V):Prop:=(∃ n,v= .int n)∨(∃ b,v= .bl b)∨∃ T,TyOf K H v (.type T)∧PySem.W.kitOne K (.type T) (.type "int")=some false
def TF:V→Bool
 | .int _=>true
 | _=>false
def inB (v:V) (lo hi:Int):Bool:=match v with
 | .int n=>decide (lo≤n) && decide (n≤hi)
 | _=>false
section
variable {P:Program} {w:World} {K:PySem.W.Frag} {mg:Str→Option Value} {base:Heap}
theorem TJ:cJ dF "isinstance":=by decide+kernel
theorem kz0y:cJ dF "bool":=by decide+kernel
theorem TQ:aQ dF "thing":=by decide+kernel
theorem kz10:cJ dF "int":=by decide+kernel
theorem kz11:aQ dG "low":=by decide+kernel
theorem TV:aQ dG "thing":=by decide+kernel
theorem kz13:aQ dG "high":=by decide+kernel
theorem kz14:cJ dG "is_number":=by decide+kernel
theorem kz15:cJ cO "is_within":=by decide+kernel
theorem kz16:aQ cO "high":=by decide+kernel
theorem kz17:aQ cO "low":=by decide+kernel
theorem TX:aQ cO "thing":=by decide+kernel
theorem kz19:cJ cO "NoPlace":=by decide+kernel
theorem pK:aQ jB "self":=by decide+kernel
theorem oF:aQ jB "found":=by decide+kernel
theorem Same.put {H H':Hp} {p:Addr} {o:HO} (s:Same H H') (hn:H p=none):Same H (upd H' p o):=fun b u e=>by
 rw [az (fun z=>by rw [z,hn] at e;cases e)]
 exact s b u e
theorem Same.back {H H':Hp} {p:Addr} (s:Same H H') (h:H' p=none):H p=none:=by
 cases e:H p with
 | none=>rfl
 | some o=>rw [s _ _ e] at h;cases h
theorem Py {H:Hp} {v:V} {T:String} (h:TyOf K H v (.type T)) (k:PySem.W.kitOne K (.type T) (.type "int")=some false):TF v=false∧∀ lo hi,inB v lo hi=false:=by
 cases v with
 | int z=>
  cases h
  have:PySem.W.kitOne K (.type "int") (.type "int")=some true:=rfl
  rw [this] at k;cases k
 | _=>exact ⟨rfl,fun _ _=>rfl⟩
theorem wI:aF ["self","found"] ["self","found"] (au jB):=⟨rfl,rfl,rfl,by decide+kernel,rfl,by decide+kernel,by decide+kernel⟩
theorem yw (T:Txt K mg):Rk P w K mg base 1 "NoPlace" (aZ mg "NoPlace") ["found"]:=mkX T.x_NoPlace wI (fun _ _ _ _ _ _ us hl=>L2.mL (fun _ _=>rfl) us hl) rfl fun f cdv A outer s H vs Q E hr h=>⟨_,(aA (zJ (K:=K) rfl (aj 0 pK) (aj 1 oF))),rd1 T.x_NoPlace.c.cl.cls (T.x_NoPlace.na _ (by simp)) h⟩
def Gb (K:PySem.W.Frag):Sp:=fun vs H Q _=>∃ v:V,vs=[v]∧Kd K H v∧Q (.bl (TF v)) H
theorem uQ:aF ["thing"] ["thing"] (au dF):=⟨rfl,rfl,rfl,by decide+kernel,rfl,by decide+kernel,by decide+kernel⟩
theorem jY (T:Txt K mg):pC P w K mg base 1 "is_number" ["thing"] (Gb K):=by
 refine jz T.d_is_number uQ (fun _ _ _ _ _ _ us hl=>L2.Ah (fun _=>rfl) us hl) ?_ fun f cdv A outer s H vs Q E hr h=>?_
 ·rintro vs H Q E ⟨v,rfl,_⟩;rfl
 obtain ⟨v,rfl,hT,q⟩:=h
 have hu:=hr.units0
 have hu64:=hr.units
 refine ⟨_,(aA (aG (Eu (aD (cH (K:=K) rfl) (bB TJ) T.b_isinstance bh (aa (aj 0 TQ) (aa (pG (bB kz10) T.b_int xU (by decide+kernel) (by decide+kernel)) ao)) (by decide+kernel) (by decide+kernel)) (Et (Lh (aD (cH (K:=K) rfl) (bB TJ) T.b_isinstance bh (aa (aj 0 TQ) (aa (pG (bB kz0y) T.b_bool uy (by decide+kernel) (by decide+kernel)) ao)) (by decide+kernel) (by decide+kernel))))))),?_⟩
 walk_at "sts"
 rcases hT with ⟨n,rfl⟩ | ⟨b,rfl⟩ | ⟨T',hty,hk⟩
 ·refine gw (.int _) rfl ?_
  walk_at "sts"
  refine gw (.int _) rfl ?_
  walk_at "sts"
  exact q
 ·refine gw (.bl _) (b:=true) (by rfl) ?_
  walk_at "sts"
  refine gw (.bl _) (b:=true) (by rfl) ?_
  walk_at "sts"
  exact q
 ·refine gw hty hk ?_
  walk_at "sts"
  rw [(Py hty hk).1] at q
  exact q
def Gd (K:PySem.W.Frag):Sp:=fun vs H Q _=>∃ (v:V) (lo hi:Int),vs=[v,.int lo,.int hi]∧Kd K H v∧Q (.bl (inB v lo hi)) H
theorem uR:aF ["thing","low","high"] ["thing","low","high"] (au dG):=⟨rfl,rfl,rfl,by decide+kernel,rfl,by decide+kernel,by decide+kernel⟩
theorem jZ (T:Txt K mg):pC P w K mg base 2 "is_within" ["thing","low","high"] (Gd K):=by
 have jY:=jY (P:=P) (w:=w) (base:=base) T
 refine jz T.d_is_within uR (fun _ _ _ _ _ _ us hl=>L2.vA (fun _ _ _=>rfl) us hl) ?_ fun f cdv A outer s H vs Q E hr h=>?_
 ·rintro vs H Q E ⟨v,lo,hi,rfl,_⟩;rfl
 obtain ⟨v,lo,hi,rfl,hT,q⟩:=h
 have hu:=hr.units0
 have hu64:=hr.units
 refine ⟨_,(aA (aG (Eu (bx jY (hr.mono (by decide)) (bB kz14) (aa (aj 0 TV) ao) (by decide+kernel)) (Et (IW Ld Ld (aj 1 kz11) (aj 0 TV) (aj 2 kz13)))))),?_⟩
 walk_at "sts"
 refine ⟨v,rfl,hT,?_⟩
 walk_at "sts"
 cases v with
 | int n=>
  show if true=true then _ else _
  walk_at "sts"
  show if decide (lo≤n)=true then _ else _
  unfold inB at q
  dsimp only at q
  by_cases h:lo≤n
  ·rw [decide_eq_true h] at q ⊢
   rw [Bool.true_and] at q
   walk_at "sts"
   exact q
  ·rw [decide_eq_false h] at q ⊢
   rw [Bool.false_and] at q
   walk_at "sts"
   exact q
 | _=>exact q
def JF (K:PySem.W.Frag) (mg:Str→Option Value):Sp:=fun vs H Q E=>∃ (v:V) (lo hi:Int),vs=[v,.int lo,.int hi]∧Kd K H v∧(inB v lo hi=true→Q .non H)∧
 (inB v lo hi=false→∀ e H',Same H H'→Ln H' e (aZ mg "NoPlace") [("found",v)]→E (.ref (aZ mg "NoPlace")) (some e) H')
theorem rY:aF ["thing","low","high"] ["thing","low","high"] (au cO):=⟨rfl,rfl,rfl,by decide+kernel,rfl,by decide+kernel,by decide+kernel⟩
theorem jK (T:Txt K mg):Bs P w K mg base 3 "need_place" ["thing","low","high"] (JF K mg):=by
 have jZ:=jZ (P:=P) (w:=w) (base:=base) T
 refine Fq T.d_need_place rY (fun _ _ _ _ _ _ us hl=>L2.vA (fun _ _ _=>rfl) us hl) ?_ fun f cdv A outer s H vs Q E hr h=>?_
 ·rintro vs H Q E ⟨v,lo,hi,rfl,_⟩;rfl
 obtain ⟨v,lo,hi,rfl,hT,q1,q2⟩:=h
 have hu:=hr.units0
 have hu64:=hr.units
 refine ⟨_,(aA (bV (dB (cG (bx jZ (hr.mono (by decide)) (bB kz15) (aa (aj 0 TX) (aa (aj 1 kz17) (aa (aj 2 kz16) ao))) (by decide+kernel)))) (aA (v7 (yw (P:=P) (w:=w) (base:=base) T) (hr.mono (by decide)) rfl (bB kz19) dU (aa (aj 0 TX) ao) (by decide+kernel))) bC)),?_⟩
 walk_at "sts"
 refine ⟨v,lo,hi,rfl,hT,?_⟩
 walk_at "sts"
 cases hb:inB v lo hi with
 | true=>
  walk_at "sts"
  exact q1 hb
 | false=>
  walk_at "sts"
  exact ⟨rfl,(show 1≤sizeLine by decide),fun x H2 S2 X2=>q2 hb x H2 S2 X2⟩
theorem Thing.same {H H':Hp} {v:V} (h:Thing K H v) (s:Same H H'):Thing K H' v:=by
 rcases h with h | ⟨T,t,k⟩
 ·exact .inl h
 ·exact .inr ⟨T,t.mono fun b o e _=>s b o e,k⟩
end
section
variable {P:Program} {w:World} {K:PySem.W.Frag} {mg:Str→Option Value} {base:Heap}
theorem wK:(["sign"]:List Str).Nodup:=by decide+kernel
theorem kz1a:cJ fK "is_row":=by decide+kernel
theorem TY:aQ fK "thing":=by decide+kernel
theorem kz1c:cJ fK "NoRow":=by decide+kernel
theorem T3:cJ eQ "need_row":=by decide+kernel
theorem kz1e:aQ eQ "top":=by decide+kernel
theorem kz1f:aQ eQ "side":=by decide+kernel
theorem JK:aQ aP "signs":=by decide+kernel
theorem kz1h:cJ aP "enumerate":=by decide+kernel
theorem kz1i:aQ aP "top":=by decide+kernel
theorem T4:aQ aP "other":=by decide+kernel
theorem Pz:aQ aP "column":=by decide+kernel
theorem T5:aQ aP "left":=by decide+kernel
theorem T6:aQ aP "above":=by decide+kernel
theorem kz1n:aQ aP "sign":=by decide+kernel
theorem kz1o:cJ aP "TOUCH":=by decide+kernel
theorem kz1p:cJ aP "CROSS":=by decide+kernel
theorem rZ:aQ nj "self":=by decide+kernel
theorem qQ:aQ nj "found":=by decide+kernel
theorem kz1q:cJ dY "all":=by decide+kernel
theorem PB:aQ dY "thing":=by decide+kernel
theorem kz1s:cJ dY "len":=by decide+kernel
theorem kz1t:cJ dY "MOST_SIGNS":=by decide+kernel
theorem kz1u:cJ dY "isinstance":=by decide+kernel
theorem kz1v:cJ dY "str":=by decide+kernel
def RB (v:V):Bool:=mj v (qN ++ Str.ofString ".") 48
def gU (z:Str):Prop:=z.length≤48∧RB (.str z)=true
def bf (v u:V):Option V:=if RB v=true then (if RB u=true then none else some u) else some v
theorem PJ {H:Hp} {v:V} {ty:String} {l:Str} {m:Int} (h:TyOf K H v (.type ty)) (k:PySem.W.kitOne K (.type ty) (.type "str")=some false):mj v l m=false:=by
 cases v with
 | str z=>
  cases h
  have:PySem.W.kitOne K (.type "str") (.type "str")=some true:=rfl
  rw [this] at k;cases k
 | _=>rfl
theorem Cg:aF ["thing"] ["thing"] (au dY):=⟨rfl,rfl,rfl,by decide+kernel,rfl,by decide+kernel,by decide+kernel⟩
theorem qR (T:Txt K mg):pC P w K mg base 1 "is_row" ["thing"] (spIs K (qN ++ Str.ofString ".") 48):=by
 refine jz T.d_is_row Cg (fun _ _ _ _ _ _ us hl=>L2.Ah (fun _=>rfl) us hl) ?_ fun f cdv A outer s H vs Q E hr h=>?_
 ·rintro vs H Q E ⟨p,rfl,_⟩;rfl
 obtain ⟨v,rfl,hT,q⟩:=h
 have hu:=hr.units0
 have hu64:=hr.units
 refine ⟨_,(aq (bV (gG (ir (dB (cG (aD (cH (K:=K) rfl) (bB kz1u) T.b_isinstance bh (aa (aj 0 PB) (aa (pG (bB kz1v) T.b_str Eo (by decide+kernel) (by decide+kernel)) ao)) (by decide+kernel) (by decide+kernel)))) (jg (bc za (aD (aJ (K:=K) rfl) (bB kz1s) T.b_len bU (aa (aj 0 PB) ao) (by decide+kernel) (by decide+kernel)) (Ol (bB kz1t) T.c_MOST_SIGNS (by decide+kernel)) (by first | exact aL _ | with_unfolding_all rfl))))) (aA (aG jf)) bC) (aA (aG (aD (vU rfl) (bB kz1q) T.b_all Em (aa (uC (sub:=[none]) (jx (N:=["thing"]) (sc:=au dY) (N':=["sign"]) (by decide+kernel)) rfl rfl rfl (jh (K:=K) rfl (aj 0 PB)) (fun C s₀ H₀ ex=>(Bm 0 (by decide+kernel) wK)) (fun C s₀ H₀ ex=>pP) (fun C s₀ H₀ ex=>(lV (xR (K:=K) rfl) (mZ 0 (by decide+kernel)) (aU aY (nZ (glB (by decide+kernel)) T.c_LETTERS (by decide+kernel)) (nZ (glB (by decide+kernel)) T.c_POINT (by decide+kernel))) (by first | exact aL _ | with_unfolding_all rfl)))) ao) (by decide+kernel) (by decide+kernel))))),?_⟩
 walk_at "sts"
 rcases hT with ⟨z,rfl,hz⟩ | ⟨ty,hty,hk⟩
 ·have hz1:z.length≤sizeLine:=Nat.le_trans hz (by decide)
  refine gw (.str z) rfl ?_
  walk_at "sts"
  try with_reducible refine pA ?_
  walk_at "sts"
  refine gq hz1 ?_
  walk_at "sts"
  refine uz (fun h1=>?_) (fun h1=>?_)
  ·walk_at "sts"
   have:mj (.str z) (qN ++ Str.ofString ".") 48=false:=by
    unfold mj
    dsimp only
    rw [decide_eq_false (by omega)];rfl
   have q':=q H (Same.refl H)
   rw [this] at q'
   exact q'
  ·walk_at "sts"
   refine .inr (.inr ⟨z,rfl,?_⟩)
   refine vZ (fun i us H'=>H'=H∧us=((z.cps.toList.take i).map fun c=>!Cd (qN ++ Str.ofString ".") c).map V.bl) hz1 ⟨rfl,rfl⟩ ?_ ?_ ?_
   ·rintro i us H' ⟨rfl,rfl⟩
    simp;omega
   ·rintro i us H' c hc ⟨rfl,rfl⟩
    walk_at "sts"
    refine ⟨KeepSt.set rfl,?_⟩
    walk_at "sts"
    try with_reducible refine mR ?_
    walk_at "sts"
    refine qy (Nat.le_trans (show (Str.ofString "abcdefghijklmnopqrstuvwxyz").length+(Str.ofString ".").length≤1000 by decide+kernel) (by decide)) ?_
    walk_at "sts"
    refine ⟨rfl,?_⟩
    rw [List.take_add_one,hc]
    simp [qN,Cd]
   ·rintro us H' ⟨rfl,rfl⟩ D hD
    walk_at "sts"
    refine ⟨D,_,rfl,ak,?_⟩
    have e1:z.cps.toList.take z.cps.size=z.cps.toList:=List.take_of_length_le (by simp)
    have e2:mj (.str z) (qN ++ Str.ofString ".") 48=(List.map (fun c=>!Cd (qN ++ Str.ofString ".") c) (z.cps.toList.take z.cps.size)).all id:=by
     unfold mj
     dsimp only
     rw [decide_eq_true (by omega),Bool.true_and,e1,List.all_map];rfl
    have q':=q _ ((Same.refl H').upd hD (o:=.lst (List.map V.bl (List.map (fun c=>!Cd (qN ++ Str.ofString ".") c) (List.take z.cps.size z.cps.toList)))))
    rw [e2] at q'
    exact q'
 ·refine gw hty hk ?_
  walk_at "sts"
  try with_reducible refine mR ?_
  walk_at "sts"
  try with_reducible refine mR ?_
  walk_at "sts"
  have q':=q H (Same.refl H)
  rw [PJ hty hk] at q'
  exact q'
theorem Ci:aF ["self","found"] ["self","found"] (au nj):=⟨rfl,rfl,rfl,by decide+kernel,rfl,by decide+kernel,by decide+kernel⟩
theorem Ge (T:Txt K mg):Rk P w K mg base 1 "NoRow" (aZ mg "NoRow") ["found"]:=mkX T.x_NoRow Ci (fun _ _ _ _ _ _ us hl=>L2.mL (fun _ _=>rfl) us hl) rfl fun f cdv A outer s H vs Q E hr h=>⟨_,(aA (zJ (K:=K) rfl (aj 0 rZ) (aj 1 qQ))),rd1 T.x_NoRow.c.cl.cls (T.x_NoRow.na _ (by simp)) h⟩
def JL (K:PySem.W.Frag) (mg:Str→Option Value):Sp:=fun vs H Q E=>∃ v:V,vs=[v]∧Thing K H v∧(RB v=true→∀ H',Same H H'→Q .non H')∧
 (RB v=false→∀ e H',Same H H'→Ln H' e (aZ mg "NoRow") [("found",v)]→E (.ref (aZ mg "NoRow")) (some e) H')
theorem wL:aF ["thing"] ["thing"] (au fK):=⟨rfl,rfl,rfl,by decide+kernel,rfl,by decide+kernel,by decide+kernel⟩
theorem jL (T:Txt K mg):Bs P w K mg base 3 "need_row" ["thing"] (JL K mg):=by
 have qR:=qR (P:=P) (w:=w) (base:=base) T
 refine Fq T.d_need_row wL (fun _ _ _ _ _ _ us hl=>L2.Ah (fun _=>rfl) us hl) ?_ fun f cdv A outer s H vs Q E hr h=>?_
 ·rintro vs H Q E ⟨v,rfl,_⟩;rfl
 obtain ⟨v,rfl,hT,q1,q2⟩:=h
 have hu:=hr.units0
 have hu64:=hr.units
 refine ⟨_,(aA (bV (dB (cG (bx qR (hr.mono (by decide)) (bB kz1a) (aa (aj 0 TY) ao) (by decide+kernel)))) (aA (v7 (Ge (P:=P) (w:=w) (base:=base) T) (hr.mono (by decide)) rfl (bB kz1c) dU (aa (aj 0 TY) ao) (by decide+kernel))) bC)),?_⟩
 walk_at "sts"
 refine ⟨v,rfl,hT,fun H1 S1=>?_⟩
 cases hb:mj v (qN ++ Str.ofString ".") 48 with
 | true=>
  walk_at "sts"
  try with_reducible refine pA ?_
  walk_at "sts"
  exact q1 hb _ S1
 | false=>
  walk_at "sts"
  try with_reducible refine mR ?_
  walk_at "sts"
  exact ⟨rfl,(show 1≤sizeLine by decide),fun x H2 S2 X2=>q2 hb x H2 (S1.trans S2) X2⟩
def spX (K:PySem.W.Frag) (mg:Str→Option Value) (g:Str→Str→Hp→VK→Prop):Sp:=fun vs H Q E=>∃ v u:V,vs=[v,u]∧Thing K H v∧Thing K H u∧
 (∀ w,bf v u=some w→∀ e H',Same H H'→Ln H' e (aZ mg "NoRow") [("found",w)]→E (.ref (aZ mg "NoRow")) (some e) H')∧
 (∀ side top:Str,v= .str side→u= .str top→gU side→gU top→g side top H Q)
theorem Gf {v:V} (h:RB v=true):∃ z,v= .str z∧gU z:=by
 cases v with
 | str z=>
  refine ⟨z,rfl,?_,h⟩
  unfold RB mj at h
  simp only [Bool.and_eq_true,decide_eq_true_eq] at h
  omega
 | _=>cases h
theorem PK {z:Str} (h:Row z):RB (.str z)=true:=by
 unfold RB mj
 simp only [Bool.and_eq_true,decide_eq_true_eq]
 refine ⟨by have:=h.1;omega,List.all_eq_true.mpr fun c hc=>?_⟩
 have:=Jr c (h.2 c hc)
 unfold Cd at this
 rw [this];rfl
theorem Row.b {z:Str} (h:Row z):gU z:=⟨h.1,PK h⟩
theorem kW {H:Hp} {z:Str} (h:gU z):Thing K H (.str z):=.inl ⟨z,rfl,by have:=h.1;omega⟩
theorem zU {z y:Str} (h:gU z) (h':gU y):bf (.str z) (.str y)=none:=by
 unfold bf;rw [if_pos h.2,if_pos h'.2]
def gNon:Str→Str→Hp→VK→Prop:=fun _ _ H Q=>∀ H',Same H H'→Q .non H'
theorem uT:aF ["side","top"] ["side","top"] (au eQ):=⟨rfl,rfl,rfl,by decide+kernel,rfl,by decide+kernel,by decide+kernel⟩
theorem j0 (T:Txt K mg):Bs P w K mg base 4 "need_rows" ["side","top"] (spX K mg gNon):=by
 have jL:=jL (P:=P) (w:=w) (base:=base) T
 refine Fq T.d_need_rows uT (fun _ _ _ _ _ _ us hl=>L2.mL (fun _ _=>rfl) us hl) ?_ fun f cdv A outer s H vs Q E hr h=>?_
 ·rintro vs H Q E ⟨v,u,rfl,_⟩;rfl
 obtain ⟨v,u,rfl,hv,hu',qx,q⟩:=h
 have hu:=hr.units0
 have hu64:=hr.units
 refine ⟨_,(aq (bL (pQ jL (hr.mono (by decide)) (bB T3) dU (aa (aj 0 kz1f) ao) (by decide+kernel))) (aA (bL (pQ jL (hr.mono (by decide)) (bB T3) dU (aa (aj 1 kz1e) ao) (by decide+kernel))))),?_⟩
 walk_at "sts"
 refine ⟨v,rfl,hv,fun hb H1 S1=>?_,fun hb e H' S X=>qx v (by unfold bf;rw [if_neg (by rw [hb];decide)]) e H' S X⟩
 walk_at "sts"
 refine ⟨u,rfl,hu'.same S1,fun hb2 H2 S2=>?_,fun hb2 e H' S X=>qx u (by unfold bf;rw [if_pos hb,if_neg (by rw [hb2];decide)]) e H' (S1.trans S) X⟩
 walk_at "sts"
 obtain ⟨z,rfl,hz⟩:=Gf hb
 obtain ⟨y,rfl,hy⟩:=Gf hb2
 exact q z y rfl rfl hz hy _ (S1.trans S2)
def yx (c:Nat) (top:Str) (ab:List Int) (left:Int):Nat→Int
 | 0=>left
 | j+1=>if (decide (c=top.cps.getD j 0) || decide (ab.getD j 0 < yx c top ab left j))=true then ab.getD j 0 else yx c top ab left j
def sr (c:Nat) (top:Str) (ab:List Int) (left:Int) (j:Nat):Bool:=decide (c=top.cps.getD j 0) || decide (ab.getD j 0 < yx c top ab left j)
def T7 (b:Bool):Str:=if b=true then Str.ofString "o" else Str.ofString "x"
def tW (c:Nat) (top:Str) (ab:List Int) (left:Int) (j:Nat):List Str:=(List.range j).map fun k=>T7 (sr c top ab left k)
theorem Gg {c:Nat} {top:Str} {ab:List Int} {left:Int} {j:Nat}:∀ y∈tW c top ab left j,y.length=1:=fun y hy=>by
 obtain ⟨k,_,rfl⟩:=List.mem_map.mp hy
 unfold T7
 split <;> decide+kernel
def JM:Sp:=fun vs H Q _=>∃ (c:Nat) (top:Str) (left:Int) (a:Addr) (ab:List Int),vs=[.str ⟨#[c]⟩,.str top,.int left,.ref a]∧H a=some (.lst (ab.map V.int))∧top.cps.size=ab.length∧ab.length≤48∧
 ∀ H',Same H H'→Q (.str (Txt.join (Str.ofString "") (tW c top ab left ab.length))) H'
theorem dq:aF ["sign","top","left","above","signs","column","other"] ["sign","top","left","above"] (au aP):=⟨rfl,rfl,rfl,by decide+kernel,rfl,by decide+kernel,by decide+kernel⟩
theorem gW (T:Txt K mg):pC P w K mg base 1 "signs_of_row" ["sign","top","left","above"] JM:=by
 refine jz T.d_signs_of_row dq (fun _ _ _ _ _ _ us hl=>L2.LR (fun _ _ _ _=>rfl) us hl) ?_ fun f cdv A outer s H vs Q E hr h=>?_
 ·rintro vs H Q E ⟨c,top,left,a,ab,rfl,_⟩;rfl
 obtain ⟨c,top,left,a,ab,rfl,ha,hz,hl,q⟩:=h
 have hu:=hr.units0
 have hu64:=hr.units
 refine ⟨_,(aq (aC (i:=4) dq.nd rfl (Or.inl JK) (fc ao) rfl) (aq (bZ PassesOwn.never rfl (kj (K:=K) rfl rfl (bB kz1h) T.b_enumerate (aa (aj 1 kz1i) ao)) (jF (K:=K) rfl rfl (bu (aH (i:=5) dq.nd rfl (Or.inl Pz) rfl) (bu (aH (i:=6) dq.nd rfl (Or.inl T4) rfl) fj))) (aA (bV (gG (ir (bc (uF (K:=K) rfl hu64) (aj 0 kz1n) (aj 6 T4) (by first | exact aL _ | with_unfolding_all rfl)) (jg (bc za (aj 2 T5) (bO (K:=K) rfl (aj 3 T6) (aj 5 Pz)) (by first | exact aL _ | with_unfolding_all rfl))))) (aq (bL (fJ (K:=K) rfl PySem.F.plainAttrs_list PySem.F.slot_list_append PySem.F.type_list_append bN (aj 4 JK) (aa (nZ (bB kz1o) T.c_TOUCH (by decide+kernel)) ao))) (aA (aC (i:=2) dq.nd rfl (Or.inl T5) (bO (K:=K) rfl (aj 3 T6) (aj 5 Pz)) rfl))) (aA (bL (fJ (K:=K) rfl PySem.F.plainAttrs_list PySem.F.slot_list_append PySem.F.type_list_append bN (aj 4 JK) (aa (nZ (bB kz1p) T.c_CROSS (by decide+kernel)) ao))))))) (aA (aG (fJ (K:=K) rfl PySem.F.plainAttrs_str PySem.F.slot_str_join PySem.F.type_str_join Im m5 (aa (aj 4 JK) ao)))))),?_⟩
 walk_at "sts"
 have hs:20000≤sizeLine:=by decide
 refine iy rfl fun S0 nS=>?_
 have e0:=ak (H:=H) (a:=S0) (o:=.lst [])
 have Sm:=(Same.refl H).upd nS (o:=.lst [])
 generalize upd H S0 (.lst [])=H1 at e0 Sm ⊢
 walk_at "sts"
 refine .inl ⟨top,rfl,?_⟩
 refine Ex (fun j σ H'=>Same H H'∧H' S0=some (.lst ((tW c top ab left j).map V.str))∧∃ x5 x6,σ=[some (.str ⟨#[c]⟩),some (.str top),some (.int (yx c top ab left j)),some (.ref a),some (.ref S0),x5,x6])
  ⟨Sm,e0,none,none,rfl⟩ ?_ ?_
 ·rintro j σ H2 T0 hj ⟨S2,hS,x5,x6,rfl⟩ nT
  have hj':j < ab.length:=by rw [← hz];exact hj
  refine dh (xs:=[.int j,.str ⟨#[top.cps.getD j 0]⟩]) (SqT.of ak) rfl ?_
  have hS3:=aX nT hS (o:=.tup (jO top j))
  have S3:=S2.upd nT (o:=.tup (jO top j))
  generalize upd H2 T0 (.tup (jO top j))=H3 at hS3 S3 ⊢
  have ha3:=S3 _ _ ha
  have hix:uh (ab.map V.int) (j:Int)=some (.int (ab.getD j 0)):=by
   refine bF ?_
   rw [List.getElem?_map,List.getD_eq_getElem?_getD,List.getElem?_eq_getElem hj'];rfl
  walk_at "sts"
  have hlS:((tW c top ab left j).map V.str).length < sizeLine:=by unfold tW;simp;omega
  have step:(tW c top ab left (j+1)).map V.str=(tW c top ab left j).map V.str ++ [.str (T7 (sr c top ab left j))]:=by unfold tW;rw [List.range_succ,List.map_append,List.map_append];rfl
  have stepT:sr c top ab left j=true→yx c top ab left (j+1)=ab.getD j 0:=fun h=>by rw [yx];exact if_pos h
  have stepF:sr c top ab left j=false→yx c top ab left (j+1)=yx c top ab left j:=fun h=>by rw [yx];exact if_neg (fun z=>by unfold sr at h;rw [h] at z;cases z)
  refine uz (fun hk=>?_) (fun hk=>?_)
  ·have ec:c=top.cps.getD j 0:=by
    have:=Str.mk.inj (V.str.inj hk)
    simpa using this
   have hB:sr c top ab left j=true:=by unfold sr;rw [decide_eq_true ec];rfl
   walk_at "sts"
   refine ⟨.inl ⟨rfl,_,SqL.of hS3⟩,?_⟩
   walk_at "sts"
   refine bM hS3 hlS ?_
   have S4:=over (o:=.lst ((tW c top ab left j).map V.str ++ [.str (Str.ofString "o")])) S3 nS
   have hS4:=ak (H:=H3) (a:=S0) (o:=.lst ((tW c top ab left j).map V.str ++ [.str (Str.ofString "o")]))
   generalize upd H3 S0 (.lst ((tW c top ab left j).map V.str ++ [.str (Str.ofString "o")]))=H4 at S4 hS4 ⊢
   have ha4:=S4 _ _ ha
   walk_at "sts"
   refine bT (SqL.of ha4) hix ?_
   walk_at "sts"
   exact ⟨S4,by rw [hS4,step,hB];rfl,some (.int j),some (.str ⟨#[top.cps.getD j 0]⟩),by rw [stepT hB];rfl⟩
  ·have ec:¬ c=top.cps.getD j 0:=fun z=>hk (by rw [z])
   walk_at "sts"
   refine bT (SqL.of ha3) hix ?_
   walk_at "sts"
   refine uz (fun hg=>?_) (fun hg=>?_)
   ·have hB:sr c top ab left j=true:=by unfold sr;rw [decide_eq_false ec,Bool.false_or];exact decide_eq_true (by omega)
    walk_at "sts"
    refine ⟨.inl ⟨rfl,_,SqL.of hS3⟩,?_⟩
    walk_at "sts"
    refine bM hS3 hlS ?_
    have S4:=over (o:=.lst ((tW c top ab left j).map V.str ++ [.str (Str.ofString "o")])) S3 nS
    have hS4:=ak (H:=H3) (a:=S0) (o:=.lst ((tW c top ab left j).map V.str ++ [.str (Str.ofString "o")]))
    generalize upd H3 S0 (.lst ((tW c top ab left j).map V.str ++ [.str (Str.ofString "o")]))=H4 at S4 hS4 ⊢
    have ha4:=S4 _ _ ha
    walk_at "sts"
    refine bT (SqL.of ha4) hix ?_
    walk_at "sts"
    exact ⟨S4,by rw [hS4,step,hB];rfl,some (.int j),some (.str ⟨#[top.cps.getD j 0]⟩),by rw [stepT hB];rfl⟩
   ·have hB:sr c top ab left j=false:=by unfold sr;rw [decide_eq_false ec,Bool.false_or];exact decide_eq_false (by omega)
    walk_at "sts"
    refine ⟨.inl ⟨rfl,_,SqL.of hS3⟩,?_⟩
    walk_at "sts"
    refine bM hS3 hlS ?_
    have S4:=over (o:=.lst ((tW c top ab left j).map V.str ++ [.str (Str.ofString "x")])) S3 nS
    have hS4:=ak (H:=H3) (a:=S0) (o:=.lst ((tW c top ab left j).map V.str ++ [.str (Str.ofString "x")]))
    generalize upd H3 S0 (.lst ((tW c top ab left j).map V.str ++ [.str (Str.ofString "x")]))=H4 at S4 hS4 ⊢
    exact ⟨S4,by rw [hS4,step,hB];rfl,some (.int j),some (.str ⟨#[top.cps.getD j 0]⟩),by rw [stepF hB];rfl⟩
 ·rintro σ H2 ⟨S2,hS,x5,x6,rfl⟩
  rw [hz] at hS
  walk_at "sts"
  refine ⟨rfl,?_⟩
  walk_at "sts"
  have hs1:=Er (Gg (c:=c) (top:=top) (ab:=ab) (left:=left) (j:=ab.length))
  have e0:(Str.ofString "").length=0:=by decide+kernel
  refine Oj hS (by rw [hs1,e0];unfold tW;simp;omega) ?_
  exact q _ S2
end
local macro_rules | `(tactic| walk_at "sts") => `(tactic| (with_reducible repeat (first | refine rO ?_ | refine mR ?_ | refine pA ?_ | refine lX ?_ | refine lY ?_ | (refine' lN ?hz0 ?_; (case hz0 => with_unfolding_all rfl)) | refine Hm ?_ | refine rT ?_ | refine jc ?_ | refine iT ?_ | refine lO ?_ | refine tK ?_ | refine lH ?_ | refine iJ ?_ | refine lK ?_ | refine iI ?_ | refine rK ?_ | refine iM ?_ | refine rU ?_ | refine rP ?_ | refine iU ?_ | refine rM ?_ | refine lL ?_ | refine lM ?_ | refine rN ?_ | refine iQ ?_ | refine iR ?_ | refine lJ ?_ | refine iK ?_ | refine tL ?_ | refine tM ?_ | refine rQ ?_ | refine rR ?_ | refine lQ ?_ | refine iV ?_ | refine iW ?_ | refine iY ?_ | refine iZ ?_ | refine jb ?_ | refine lU ?_ | refine fV ?_ | refine ji ?_ | (refine' dh (SqT.of ?hz0) ?hz1 ?_; (case hz0 => first | assumption | exact ak); (case hz1 => rfl)) | refine fX ?_ | refine fZ ?_ | refine fY ?_ | refine gO ?_ | refine gP ?_ | refine jn ?_ | refine jo ?_ | refine lW ?_ | refine dX ?_ | refine rW ?_ | refine gJ ?_ | refine gK ?_ | refine jj ?_ | refine jk ?_ | refine jl ?_ | refine fW ?_ | refine jU ?_ | refine je ?_ | (refine' Hn ?hz0 ?_; (case hz0 => with_unfolding_all first | assumption | omega | (dsimp only <;> omega) | exact ⟨by omega, by omega⟩ | exact .inl ⟨by omega, by omega⟩ | exact .inr ⟨by omega, by omega⟩ | exact ⟨by decide, by decide, by decide⟩)) | (refine' jd ?hz0 ?_; (case hz0 => with_unfolding_all first | assumption | omega | (dsimp only <;> omega) | exact ⟨by omega, by omega⟩ | exact .inl ⟨by omega, by omega⟩ | exact .inr ⟨by omega, by omega⟩ | exact ⟨by decide, by decide, by decide⟩)) | (refine' bT (SqL.of ?hz0) ?hz1 ?_; (case hz0 => first | assumption | exact ak); (case hz1 => with_unfolding_all rfl)) | (refine' fG (SqT.of ?hz0) ?hz1 ?_; (case hz0 => first | assumption | exact ak); (case hz1 => with_unfolding_all rfl)) | (refine' eZ ?hz0 ?hz1 ?_; (case hz0 => first | assumption | exact ak); (case hz1 => with_unfolding_all rfl)) | refine gb ?_ | refine gf ?_ | refine lZ ?_ | refine jq ?_ | refine f9 ?_ | refine du ?_)))
local macro_rules | `(tactic| walk_at "stn") => `(tactic| (with_reducible repeat (first | refine rO ?_ | refine mR ?_ | refine pA ?_ | refine lX ?_ | refine lY ?_ | (refine' lN ?hz0 ?_; (case hz0 => with_unfolding_all rfl)) | refine Hm ?_ | refine rT ?_ | refine jc ?_ | refine iT ?_ | refine lO ?_ | refine lH ?_ | refine iJ ?_ | refine lK ?_ | refine iI ?_ | refine rK ?_ | refine iM ?_ | refine rU ?_ | refine rP ?_ | refine iU ?_ | refine rM ?_ | refine lL ?_ | refine lM ?_ | refine rN ?_ | refine iQ ?_ | refine iR ?_ | refine lJ ?_ | refine iK ?_ | refine tL ?_ | refine tM ?_ | refine rQ ?_ | refine rR ?_ | refine lQ ?_ | refine iV ?_ | refine iW ?_ | refine iY ?_ | refine iZ ?_ | refine jb ?_ | refine lU ?_ | refine fV ?_ | refine ji ?_ | (refine' dh (SqT.of ?hz0) ?hz1 ?_; (case hz0 => first | assumption | exact ak); (case hz1 => rfl)) | refine fX ?_ | refine fZ ?_ | refine fY ?_ | refine gO ?_ | refine gP ?_ | refine jn ?_ | refine jo ?_ | refine lW ?_ | refine dX ?_ | refine rW ?_ | refine gJ ?_ | refine gK ?_ | refine jj ?_ | refine jk ?_ | refine jl ?_ | refine fW ?_ | refine jU ?_ | refine je ?_ | (refine' Hn ?hz0 ?_; (case hz0 => with_unfolding_all first | assumption | omega | (dsimp only <;> omega) | exact ⟨by omega, by omega⟩ | exact .inl ⟨by omega, by omega⟩ | exact .inr ⟨by omega, by omega⟩ | exact ⟨by decide, by decide, by decide⟩)) | (refine' jd ?hz0 ?_; (case hz0 => with_unfolding_all first | assumption | omega | (dsimp only <;> omega) | exact ⟨by omega, by omega⟩ | exact .inl ⟨by omega, by omega⟩ | exact .inr ⟨by omega, by omega⟩ | exact ⟨by decide, by decide, by decide⟩)) | (refine' bT (SqL.of ?hz0) ?hz1 ?_; (case hz0 => first | assumption | exact ak); (case hz1 => with_unfolding_all rfl)) | (refine' fG (SqT.of ?hz0) ?hz1 ?_; (case hz0 => first | assumption | exact ak); (case hz1 => with_unfolding_all rfl)) | (refine' eZ ?hz0 ?hz1 ?_; (case hz0 => first | assumption | exact ak); (case hz1 => with_unfolding_all rfl)) | refine gb ?_ | refine gf ?_ | refine lZ ?_ | refine jq ?_ | refine f9 ?_ | refine du ?_)))
section
variable {P:Program} {w:World} {K:PySem.W.Frag} {mg:Str→Option Value} {base:Heap}
theorem PL:aQ bz "cells":=by decide+kernel
theorem kz1x:cJ bz "enumerate":=by decide+kernel
theorem PN:aQ bz "side":=by decide+kernel
theorem T8:aQ bz "sign":=by decide+kernel
theorem T9:aQ bz "row":=by decide+kernel
theorem JN:aQ bz "above":=by decide+kernel
theorem kz22:cJ bz "over_row":=by decide+kernel
theorem PP:aQ bz "left":=by decide+kernel
theorem PQ:aQ bz "signs":=by decide+kernel
theorem kz25:cJ bz "signs_of_row":=by decide+kernel
theorem Ua:aQ bz "top":=by decide+kernel
theorem PX:cJ bz "len":=by decide+kernel
theorem kz28:cJ bz "lines_above":=by decide+kernel
def Gh (c:Nat) (top:Str) (ab:List Int) (left:Int) (j:Nat):Int:=if sr c top ab left j=true then yx c top ab left j else ab.getD j 0
def JP (c:Nat) (top:Str) (ab:List Int) (left:Int) (n:Nat):List Int:=(List.range n).map (Gh c top ab left)
theorem JQ {c:Nat} {top:Str} {ab:List Int} {left:Int} {n:Nat}:(JP c top ab left n).length=n:=by simp [JP]
theorem Gi (c:Nat) (top:Str) (ab:List Int) (left:Int) (j:Nat):yx c top ab left (j+1)=if sr c top ab left j=true then ab.getD j 0 else yx c top ab left j:=rfl
def Ho (b:Bool):Nat:=if b=true then 111 else 120
theorem P0 (b:Bool):(T7 b).cps.toList=[Ho b]:=by cases b <;> decide+kernel
def uU (c:Nat) (top:Str) (ab:List Int) (left:Int) (n:Nat):Str:=⟨((List.range n).map fun k=>Ho (sr c top ab left k)).toArray⟩
theorem JR {a b:Str} (h:a.cps.toList=b.cps.toList):a=b:=by
 cases a;cases b
 exact congrArg Str.mk (Array.toList_inj.mp h)
theorem tX {α β:Type} (f:α→β):∀ l:List α,(l.map fun k=>[f k]).flatten=l.map f
 | []=>rfl
 | a :: l=>by rw [List.map_cons,List.flatten_cons,tX f l];rfl
theorem Cj {c:Nat} {top:Str} {ab:List Int} {left:Int} {n:Nat}:Txt.join (Str.ofString "") (tW c top ab left n)=uU c top ab left n:=by
 apply JR
 rw [Ep]
 unfold tW uU
 rw [List.map_map]
 have:((fun y:Str=>y.cps.toList) ∘ fun k=>T7 (sr c top ab left k))=fun k=>[Ho (sr c top ab left k)]:=by
  funext k;exact P0 _
 rw [this,tX]
theorem kY {c:Nat} {top:Str} {ab:List Int} {left:Int} {n:Nat}:(uU c top ab left n).cps.size=n:=by simp [uU]
theorem uV {c:Nat} {top:Str} {ab:List Int} {left:Int} {n j:Nat} (h:j < n):(uU c top ab left n).cps.getD j 0=Ho (sr c top ab left j):=by
 unfold uU
 simp [Array.getD,h]
theorem Gj {z:Str} {j:Nat} {b:Bool} (h:z.cps.getD j 0=Ho b):qP z j=b:=by
 unfold qP
 rw [h]
 cases b <;> decide+kernel
theorem uW {z:Str} {c:Nat} {top:Str} {ab:List Int} {left:Int} {n:Nat} (hz:∀ j,j < n→qP z j=sr c top ab left j):∀ j,j≤n→fO (qP z) ab left j=(JP c top ab left j,yx c top ab left j)
 | 0,_=>rfl
 | j+1,h=>by
  have ih:=uW hz j (by omega)
  have e:JP c top ab left (j+1)=JP c top ab left j ++ [Gh c top ab left j]:=by unfold JP;rw [List.range_succ,List.map_append];rfl
  rw [fO,ih,hz j (by omega),e,Gi]
  unfold Gh
  by_cases hc:sr c top ab left j=true
  ·rw [if_pos hc,if_pos hc,if_pos hc]
  ·rw [if_neg hc,if_neg hc,if_neg hc]
def su (m:Nat) (side top:Str):Nat→List Int
 | 0=>(List.range top.cps.size).map fun l=>((m+l:Nat):Int)
 | i+1=>JP (side.cps.getD i 0) top (su m side top i) ((m:Int) - 1 - i) top.cps.size
theorem kZ {m:Nat} {side top:Str}:∀ i,(su m side top i).length=top.cps.size
 | 0=>by simp [su]
 | i+1=>by rw [su,JQ]
def qT (m:Nat) (side top:Str) (i:Nat):Str:=uU (side.cps.getD i 0) top (su m side top i) ((m:Int) - 1 - i) top.cps.size
def wM (m:Nat) (side top:Str) (n:Nat):List Str:=(List.range n).map (qT m side top)
def cF (side top:Str):List Str:=wM side.cps.size side top side.cps.size
theorem Gk (m:Nat) (side top:Str) (n:Nat):wM m side top (n+1)=wM m side top n ++ [qT m side top n]:=by unfold wM;rw [List.range_succ,List.map_append];rfl
theorem zV (m:Nat) (side top:Str) (n:Nat):(wM m side top n).length=n:=by simp [wM]
def JV:Sp:=fun vs H Q _=>∃ (side top:Str),vs=[.str side,.str top]∧side.cps.size≤48∧top.cps.size≤48∧
 ∀ D H',H D=none→Same H H'→H' D=some (.lst ((cF side top).map V.str))→Q (.ref D) H'
theorem dg:aF ["side","top","above","cells","row","sign","left","signs"] ["side","top"] (au bz):=⟨rfl,rfl,rfl,by decide+kernel,rfl,by decide+kernel,by decide+kernel⟩
theorem mG (T:Txt K mg):pC P w K mg base 2 "cells_of" ["side","top"] JV:=by
 have dz:=dz (P:=P) (w:=w) (base:=base) T
 have gW:=gW (P:=P) (w:=w) (base:=base) T
 have fP:=fP (P:=P) (w:=w) (base:=base) T
 refine jz T.d_cells_of dg (fun _ _ _ _ _ _ us hl=>L2.mL (fun _ _=>rfl) us hl) ?_ fun f cdv A outer s H vs Q E hr h=>?_
 ·rintro vs H Q E ⟨side,top,rfl,_⟩;rfl
 obtain ⟨side,top,rfl,hs,ht,q⟩:=h
 have hu:=hr.units0
 have hu64:=hr.units
 refine ⟨_,(aq (aC (i:=2) dg.nd rfl (Or.inl JN) (bx dz (hr.mono (by decide)) (bB kz28) (aa (aD (aJ (K:=K) rfl) (bB PX) T.b_len bU (aa (aj 0 PN) ao) (by decide+kernel) (by decide+kernel)) (aa (aD (aJ (K:=K) rfl) (bB PX) T.b_len bU (aa (aj 1 Ua) ao) (by decide+kernel) (by decide+kernel)) ao)) (by decide+kernel)) rfl) (aq (aC (i:=3) dg.nd rfl (Or.inl PL) (fc ao) rfl) (aq (bZ PassesOwn.never rfl (kj (K:=K) rfl rfl (bB kz1x) T.b_enumerate (aa (aj 0 PN) ao)) (jF (K:=K) rfl rfl (bu (aH (i:=4) dg.nd rfl (Or.inl T9) rfl) (bu (aH (i:=5) dg.nd rfl (Or.inl T8) rfl) fj))) (aq (aC (i:=6) dg.nd rfl (Or.inl PP) (aU fH (aU fH (aD (aJ (K:=K) rfl) (bB PX) T.b_len bU (aa (aj 0 PN) ao) (by decide+kernel) (by decide+kernel)) aB) (aj 4 T9)) rfl) (aq (aC (i:=7) dg.nd rfl (Or.inl PQ) (bx gW (hr.mono (by decide)) (bB kz25) (aa (aj 5 T8) (aa (aj 1 Ua) (aa (aj 6 PP) (aa (aj 2 JN) ao)))) (by decide+kernel)) rfl) (aq (bL (fJ (K:=K) rfl PySem.F.plainAttrs_list PySem.F.slot_list_append PySem.F.type_list_append bN (aj 3 PL) (aa (aj 7 PQ) ao))) (aA (aC (i:=2) dg.nd rfl (Or.inl JN) (bO (K:=K) rfl (bx fP (hr.mono (by decide)) (bB kz22) (aa (aj 7 PQ) (aa (aj 6 PP) (aa (aj 2 JN) ao))) (by decide+kernel)) aB) rfl)))))) (aA (aG (aj 3 PL)))))),?_⟩
 walk_at "sts"
 have hz:1000≤sizeLine:=by decide
 have lz:side.length≤sizeLine:=Nat.le_trans hs (by decide)
 have ly:top.length≤sizeLine:=Nat.le_trans ht (by decide)
 refine gq lz ?_
 walk_at "sts"
 refine gq ly ?_
 walk_at "sts"
 refine ⟨side.cps.size,top.cps.size,rfl,hs,ht,fun A0 nA=>?_⟩
 have e0:((List.range top.cps.size).map fun l=>((side.cps.size+l:Nat):Int))=su side.cps.size side top 0:=rfl
 rw [e0]
 have SA:=(Same.refl H).upd nA (o:=.lst ((su side.cps.size side top 0).map V.int))
 have eA:=ak (H:=H) (a:=A0) (o:=.lst ((su side.cps.size side top 0).map V.int))
 generalize upd H A0 (.lst ((su side.cps.size side top 0).map V.int))=H1 at SA eA ⊢
 walk_at "sts"
 refine iy rfl fun D nD=>?_
 have SD:=SA.upd nD (o:=.lst [])
 have eD:=ak (H:=H1) (a:=D) (o:=.lst [])
 have eA2:=aX nD eA (o:=.lst [])
 have nDH:=SA.free nD
 have nAD:A0≠D:=fun z=>by rw [z,nD] at eA;cases eA
 generalize upd H1 D (.lst [])=H2 at SD eD eA2 ⊢
 walk_at "sts"
 refine .inl ⟨side,rfl,?_⟩
 refine Ex (fun i σ H'=>Same H H'∧H' D=some (.lst ((wM side.cps.size side top i).map V.str))∧∃ a x4 x5 x6 x7,H' a=some (.lst ((su side.cps.size side top i).map V.int))∧a≠D∧σ=[some (.str side),some (.str top),some (.ref a),some (.ref D),x4,x5,x6,x7])
  ⟨SD,eD,A0,none,none,none,none,eA2,nAD,rfl⟩ ?_ ?_
 ·rintro i σ H3 T0 hi ⟨S3,hD,a,x4,x5,x6,x7,ha,nad,rfl⟩ nT
  have hi':i < side.cps.size:=hi
  refine dh (xs:=[.int i,.str ⟨#[side.cps.getD i 0]⟩]) (SqT.of ak) rfl ?_
  have hD4:=aX nT hD (o:=.tup (jO side i))
  have ha4:=aX nT ha (o:=.tup (jO side i))
  have S4:=S3.upd nT (o:=.tup (jO side i))
  generalize upd H3 T0 (.tup (jO side i))=H4 at hD4 ha4 S4 ⊢
  walk_at "sts"
  refine gq lz ?_
  walk_at "sts"
  refine ⟨_,top,_,a,_,rfl,ha4,(kZ i).symm,by rw [kZ];exact ht,fun H5 S5=>?_⟩
  rw [Cj,kZ]
  have hD5:=S5 _ _ hD4
  have ha5:=S5 _ _ ha4
  walk_at "sts"
  refine ⟨.inl ⟨rfl,_,SqL.of hD5⟩,?_⟩
  walk_at "sts"
  refine bM hD5 (by rw [List.length_map,zV];omega) ?_
  have e1:(wM side.cps.size side top i).map V.str ++ [.str (uU (side.cps.getD i 0) top (su side.cps.size side top i) ((side.length:Int) - 1 - i) top.cps.size)]=(wM side.cps.size side top (i+1)).map V.str:=by rw [Gk,List.map_append];rfl
  rw [e1]
  have S6:=over (o:=.lst ((wM side.cps.size side top (i+1)).map V.str)) (S4.trans S5) nDH
  have hD6:=ak (H:=H5) (a:=D) (o:=.lst ((wM side.cps.size side top (i+1)).map V.str))
  have ha6:upd H5 D (.lst ((wM side.cps.size side top (i+1)).map V.str)) a=_:=(az nad).trans ha5
  generalize upd H5 D (.lst ((wM side.cps.size side top (i+1)).map V.str))=H6 at S6 hD6 ha6 ⊢
  walk_at "sts"
  refine ⟨_,_,a,_,rfl,ha6,by rw [kY,kZ],by rw [kZ];exact ht,fun t c1 b H7 nb _ S7 ht' hb _=>?_⟩
  rw [kZ,uW (n:=top.cps.size) (fun j hj=>Gj (uV hj)) _ (Nat.le_refl _)] at ht' hb
  have hD7:=S7 _ _ hD6
  have nbD:b≠D:=fun z=>by rw [z,hD6] at nb;cases nb
  walk_at "sts"
  exact ⟨S6.trans S7,hD7,b,_,_,_,_,hb,nbD,rfl⟩
 ·rintro σ H3 ⟨S3,hD,a,x4,x5,x6,x7,ha,nad,rfl⟩
  walk_at "sts"
  exact q D H3 nDH S3 hD
def CB (side top:Str):Nat→Nat→Bool:=cC (cF side top)
theorem Ck {side top:Str} {i:Nat} (h:i < side.cps.size):(cF side top).getD i ⟨#[]⟩=qT side.cps.size side top i:=by
 unfold cF wM
 rw [List.getD_eq_getElem?_getD,List.getElem?_map,List.getElem?_range h];rfl
theorem yz {side top:Str} {i:Nat} (h:i < side.cps.size):CB side top i=qP (qT side.cps.size side top i):=by unfold CB cC;rw [Ck h]
theorem Gm {side top:Str} {i j:Nat} (h:i < side.cps.size) (hj:j < top.cps.size):CB side top i j=sr (side.cps.getD i 0) top (su side.cps.size side top i) ((side.cps.size:Int) - 1 - i) j:=by
 rw [yz h]
 exact Gj (uV hj)
theorem ag {side top:Str}:∀ i,i≤side.cps.size→su side.cps.size side top i=ou side.cps.size (CB side top) top.cps.size i∧
  (i < side.cps.size→∀ j,j≤top.cps.size→yx (side.cps.getD i 0) top (su side.cps.size side top i) ((side.cps.size:Int) - 1 - i) j=((gA side.cps.size (CB side top) i j:Nat):Int)∧JP (side.cps.getD i 0) top (su side.cps.size side top i) ((side.cps.size:Int) - 1 - i) j=ou side.cps.size (CB side top) j (i+1))
 | 0,h=>⟨by rw [Ga];rfl,fun hi j hj=>ag_step (by rw [Ga];rfl) hi hj⟩
 | i+1,h=>by
  have ih:=(ag (side:=side) (top:=top) i (by omega)).2 (by omega) top.cps.size (Nat.le_refl _)
  have e:su side.cps.size side top (i+1)=ou side.cps.size (CB side top) top.cps.size (i+1):=ih.2
  exact ⟨e,fun hi j hj=>ag_step e hi hj⟩
where
 ag_step {side top:Str} {i j:Nat} (e:su side.cps.size side top i=ou side.cps.size (CB side top) top.cps.size i) (hi:i < side.cps.size) (hj:j≤top.cps.size):
   yx (side.cps.getD i 0) top (su side.cps.size side top i) ((side.cps.size:Int) - 1 - i) j=((gA side.cps.size (CB side top) i j:Nat):Int)∧JP (side.cps.getD i 0) top (su side.cps.size side top i) ((side.cps.size:Int) - 1 - i) j=ou side.cps.size (CB side top) j (i+1):=by
  have h1:=uW (z:=qT side.cps.size side top i) (c:=side.cps.getD i 0) (top:=top) (ab:=su side.cps.size side top i) (left:=(side.cps.size:Int) - 1 - i) (n:=top.cps.size) (fun l hl=>by rw [← yz hi];exact Gm hi hl) j hj
  have h2:=uP (m:=side.cps.size) (C:=CB side top) (far:=top.cps.size) (i:=i) j hj
  rw [← yz hi] at h1
  rw [← e,show ((gA side.cps.size (CB side top) i 0:Nat):Int)=(side.cps.size:Int) - 1 - i by rw [iz];omega,h1] at h2
  exact ⟨congrArg Prod.snd h2,congrArg Prod.fst h2⟩
theorem JX {side top:Str} {i j:Nat} (hi:i < side.cps.size) (hj:j < top.cps.size):CB side top i j=(decide (side.cps.getD i 0=top.cps.getD j 0) || decide (gD side.cps.size (CB side top) j i < gA side.cps.size (CB side top) i j)):=by
 rw [Gm hi hj]
 unfold sr
 rw [((ag i (by omega)).2 hi j (by omega)).1,(ag i (by omega)).1,yu hj]
 congr 1
 exact decide_eq_decide.mpr (by omega)
end
local macro_rules | `(tactic| walk_at "sts") => `(tactic| (with_reducible repeat (first | refine rO ?_ | refine mR ?_ | refine pA ?_ | refine lX ?_ | refine lY ?_ | (refine' lN ?hz0 ?_; (case hz0 => with_unfolding_all rfl)) | refine Hm ?_ | refine rT ?_ | refine jc ?_ | refine iT ?_ | refine lO ?_ | refine tK ?_ | refine lH ?_ | refine iJ ?_ | refine lK ?_ | refine iI ?_ | refine rK ?_ | refine iM ?_ | refine rU ?_ | refine rP ?_ | refine iU ?_ | refine rM ?_ | refine lL ?_ | refine lM ?_ | refine rN ?_ | refine iQ ?_ | refine iR ?_ | refine lJ ?_ | refine iK ?_ | refine tL ?_ | refine tM ?_ | refine rQ ?_ | refine rR ?_ | refine lQ ?_ | refine iV ?_ | refine iW ?_ | refine iY ?_ | refine iZ ?_ | refine jb ?_ | refine lU ?_ | refine fV ?_ | refine ji ?_ | (refine' dh (SqT.of ?hz0) ?hz1 ?_; (case hz0 => first | assumption | exact ak); (case hz1 => rfl)) | refine fX ?_ | refine fZ ?_ | refine fY ?_ | refine gO ?_ | refine gP ?_ | refine jn ?_ | refine jo ?_ | refine lW ?_ | refine dX ?_ | refine rW ?_ | refine gJ ?_ | refine gK ?_ | refine jj ?_ | refine jk ?_ | refine jl ?_ | refine fW ?_ | refine jU ?_ | refine je ?_ | (refine' Hn ?hz0 ?_; (case hz0 => with_unfolding_all first | assumption | omega | (dsimp only <;> omega) | exact ⟨by omega, by omega⟩ | exact .inl ⟨by omega, by omega⟩ | exact .inr ⟨by omega, by omega⟩ | exact ⟨by decide, by decide, by decide⟩)) | (refine' jd ?hz0 ?_; (case hz0 => with_unfolding_all first | assumption | omega | (dsimp only <;> omega) | exact ⟨by omega, by omega⟩ | exact .inl ⟨by omega, by omega⟩ | exact .inr ⟨by omega, by omega⟩ | exact ⟨by decide, by decide, by decide⟩)) | (refine' bT (SqL.of ?hz0) ?hz1 ?_; (case hz0 => first | assumption | exact ak); (case hz1 => with_unfolding_all rfl)) | (refine' fG (SqT.of ?hz0) ?hz1 ?_; (case hz0 => first | assumption | exact ak); (case hz1 => with_unfolding_all rfl)) | (refine' eZ ?hz0 ?hz1 ?_; (case hz0 => first | assumption | exact ak); (case hz1 => with_unfolding_all rfl)) | refine gb ?_ | refine gf ?_ | refine lZ ?_ | refine jq ?_ | refine f9 ?_ | refine du ?_)))
local macro_rules | `(tactic| walk_at "stn") => `(tactic| (with_reducible repeat (first | refine rO ?_ | refine mR ?_ | refine pA ?_ | refine lX ?_ | refine lY ?_ | (refine' lN ?hz0 ?_; (case hz0 => with_unfolding_all rfl)) | refine Hm ?_ | refine rT ?_ | refine jc ?_ | refine iT ?_ | refine lO ?_ | refine lH ?_ | refine iJ ?_ | refine lK ?_ | refine iI ?_ | refine rK ?_ | refine iM ?_ | refine rU ?_ | refine rP ?_ | refine iU ?_ | refine rM ?_ | refine lL ?_ | refine lM ?_ | refine rN ?_ | refine iQ ?_ | refine iR ?_ | refine lJ ?_ | refine iK ?_ | refine tL ?_ | refine tM ?_ | refine rQ ?_ | refine rR ?_ | refine lQ ?_ | refine iV ?_ | refine iW ?_ | refine iY ?_ | refine iZ ?_ | refine jb ?_ | refine lU ?_ | refine fV ?_ | refine ji ?_ | (refine' dh (SqT.of ?hz0) ?hz1 ?_; (case hz0 => first | assumption | exact ak); (case hz1 => rfl)) | refine fX ?_ | refine fZ ?_ | refine fY ?_ | refine gO ?_ | refine gP ?_ | refine jn ?_ | refine jo ?_ | refine lW ?_ | refine dX ?_ | refine rW ?_ | refine gJ ?_ | refine gK ?_ | refine jj ?_ | refine jk ?_ | refine jl ?_ | refine fW ?_ | refine jU ?_ | refine je ?_ | (refine' Hn ?hz0 ?_; (case hz0 => with_unfolding_all first | assumption | omega | (dsimp only <;> omega) | exact ⟨by omega, by omega⟩ | exact .inl ⟨by omega, by omega⟩ | exact .inr ⟨by omega, by omega⟩ | exact ⟨by decide, by decide, by decide⟩)) | (refine' jd ?hz0 ?_; (case hz0 => with_unfolding_all first | assumption | omega | (dsimp only <;> omega) | exact ⟨by omega, by omega⟩ | exact .inl ⟨by omega, by omega⟩ | exact .inr ⟨by omega, by omega⟩ | exact ⟨by decide, by decide, by decide⟩)) | (refine' bT (SqL.of ?hz0) ?hz1 ?_; (case hz0 => first | assumption | exact ak); (case hz1 => with_unfolding_all rfl)) | (refine' fG (SqT.of ?hz0) ?hz1 ?_; (case hz0 => first | assumption | exact ak); (case hz1 => with_unfolding_all rfl)) | (refine' eZ ?hz0 ?hz1 ?_; (case hz0 => first | assumption | exact ak); (case hz1 => with_unfolding_all rfl)) | refine gb ?_ | refine gf ?_ | refine lZ ?_ | refine jq ?_ | refine f9 ?_ | refine du ?_)))
section
variable {P:Program} {w:World} {K:PySem.W.Frag} {mg:Str→Option Value} {base:Heap}
theorem uX:(["line"]:List Str).Nodup:=by decide+kernel
theorem JZ:aQ cB "ways":=by decide+kernel
theorem Ub:cJ cB "enumerate":=by decide+kernel
theorem kz2b:aQ cB "coming":=by decide+kernel
theorem Uc:aQ cB "pairs":=by decide+kernel
theorem Qa:aQ cB "row":=by decide+kernel
theorem Qc:aQ cB "pair":=by decide+kernel
theorem Qd:aQ cB "column":=by decide+kernel
theorem kz2g:cJ cB "range":=by decide+kernel
theorem kz2h:aQ cB "many":=by decide+kernel
theorem Rn {m:Nat} {C:Nat→Nat→Bool} {far:Nat}:∀ n i j,i+j≤n→i < m→j < far→gA m C i j < m+far∧gD m C j i < m+far
 | n,0,0,_,hi,hj=>by rw [iz,iB];omega
 | 0,0,j+1,h,_,_=>absurd h (by omega)
 | 0,i+1,j,h,_,_=>absurd h (by omega)
 | n+1,0,j+1,h,hi,hj=>by
  have ih:=Rn (m:=m) (C:=C) (far:=far) n 0 j (by omega) hi (by omega)
  refine ⟨?_,by rw [iB];omega⟩
  rw [kJ];split
  ·exact ih.2
  ·exact ih.1
 | n+1,i+1,0,h,hi,hj=>by
  have ih:=Rn (m:=m) (C:=C) (far:=far) n i 0 (by omega) (by omega) hj
  refine ⟨by rw [iz];omega,?_⟩
  rw [kO];split
  ·exact ih.1
  ·exact ih.2
 | n+1,i+1,j+1,h,hi,hj=>by
  have h1:=Rn (m:=m) (C:=C) (far:=far) n (i+1) j (by omega) hi (by omega)
  have h2:=Rn (m:=m) (C:=C) (far:=far) n i (j+1) (by omega) (by omega) hj
  refine ⟨?_,?_⟩
  ·rw [kJ];split
   ·exact h1.2
   ·exact h1.1
  ·rw [kO];split
   ·exact h2.1
   ·exact h2.2
def stp (w:Nat→List (Int×Int)) (l:Nat) (q:Int×Int):Nat→List (Int×Int):=fun k=>if k=l then w k ++ [q] else w k
def zW (m:Nat) (C:Nat→Nat→Bool) (i:Nat) (w0:Nat→List (Int×Int)):Nat→Nat→List (Int×Int)
 | 0=>w0
 | j+1=>stp (stp (zW m C i w0 j) (gA m C i j) ((i:Int),(j:Int))) (gD m C j i) ((i:Int),(j:Int))
def qU (m:Nat) (C:Nat→Nat→Bool) (far:Nat):Nat→Nat→List (Int×Int)
 | 0=>fun _=>[]
 | i+1=>zW m C i (qU m C far i) far
theorem uY (w:Nat→List (Int×Int)) (l:Nat) (q:Int×Int) (k:Nat):(stp w l q k).length≤(w k).length+1:=by
 unfold stp;split <;> simp
theorem uZ {m:Nat} {C:Nat→Nat→Bool} {i:Nat} {w0:Nat→List (Int×Int)} (k:Nat):∀ j,(zW m C i w0 j k).length≤(w0 k).length+2*j
 | 0=>by simp [zW]
 | j+1=>by
  have ih:=uZ (m:=m) (C:=C) (i:=i) (w0:=w0) k j
  have h1:=uY (stp (zW m C i w0 j) (gA m C i j) ((i:Int),(j:Int))) (gD m C j i) ((i:Int),(j:Int)) k
  have h2:=uY (zW m C i w0 j) (gA m C i j) ((i:Int),(j:Int)) k
  show (stp _ _ _ k).length≤_
  omega
theorem u0 {m:Nat} {C:Nat→Nat→Bool} {far:Nat} (k:Nat):∀ i,(qU m C far i k).length≤2*(i*far)
 | 0=>by simp [qU]
 | i+1=>by
  have ih:=u0 (m:=m) (C:=C) (far:=far) k i
  have h1:=uZ (m:=m) (C:=C) (i:=i) (w0:=qU m C far i) k far
  show (zW m C i (qU m C far i) far k).length≤_
  have e:(i+1)*far=i*far+far:=Nat.succ_mul i far
  omega
def Wys (H:Hp) (Pd:Addr→Prop) (refs:List V) (n:Nat) (w:Nat→List (Int×Int)):Prop:=refs.length=n∧(∀ l,l < n→∃ p ws,refs[l]?=some (.ref p)∧Pd p∧H p=some (.lst ws)∧PrI H ws (w l))∧
 ∀ (l k:Nat) (p:Addr),l≠k→refs[l]?=some (.ref p)→refs[k]?≠some (.ref p)
theorem Wys.imp {H H':Hp} {Pd Pd':Addr→Prop} {refs:List V} {n:Nat} {w:Nat→List (Int×Int)} (h:Wys H Pd refs n w) (ht:∀ p us,H p=some (.tup us)→H' p=some (.tup us)) (hl:∀ c ws,Pd c→H c=some (.lst ws)→H' c=some (.lst ws)) (hp:∀ c,Pd c→Pd' c):Wys H' Pd' refs n w:=
 ⟨h.1,fun l hl'=>by
  obtain ⟨p,ws,e1,e2,e3,e4⟩:=h.2.1 l hl'
  exact ⟨p,ws,e1,hp p e2,hl p ws e2 e3,e4.imp ht⟩,h.2.2⟩
theorem Wys.same {H H':Hp} {Pd:Addr→Prop} {refs:List V} {n:Nat} {w:Nat→List (Int×Int)} (h:Wys H Pd refs n w) (s:Same H H'):Wys H' Pd refs n w:=h.imp (fun p us e=>s _ _ e) (fun c ws _ e=>s _ _ e) fun _ z=>z
theorem Wys.new {H:Hp} {Pd:Addr→Prop} {refs:List V} {n:Nat} {w:Nat→List (Int×Int)} {p:Addr} (h:Wys H Pd refs n w) (hn:H p=none) (hP:Pd p) (hw:w n=[]):Wys (upd H p (.lst [])) Pd (refs ++ [.ref p]) (n+1) w:=by
 have s:Same H (upd H p (.lst [])):=(Same.refl H).upd hn
 obtain ⟨h1,h2,h3⟩:=h
 have ne:∀ l:Nat,refs[l]?≠some (V.ref p):=fun l e=>by
  have hl:l < n:=by rw [← h1];exact (List.getElem?_eq_some_iff.mp e).1
  obtain ⟨p',ws,e1,_,e3,_⟩:=h2 l hl
  rw [e] at e1
  cases e1
  rw [hn] at e3;cases e3
 refine ⟨by rw [List.length_append,h1];rfl,fun l hl=>?_,fun l k q hlk e1 e2=>?_⟩
 ·by_cases e:l=n
  ·subst e
   exact ⟨p,[],by rw [List.getElem?_append_right (by omega),h1,Nat.sub_self];rfl,hP,ak,by rw [hw];trivial⟩
  ·obtain ⟨p',ws,e1,e2,e3,e4⟩:=h2 l (by omega)
   exact ⟨p',ws,by rw [List.getElem?_append_left (by omega)];exact e1,e2,s _ _ e3,e4.same s⟩
 ·by_cases hl:l < refs.length
  ·rw [List.getElem?_append_left hl] at e1
   by_cases hk:k < refs.length
   ·rw [List.getElem?_append_left hk] at e2
    exact h3 l k q hlk e1 e2
   ·rw [List.getElem?_append_right (by omega)] at e2
    have:k - refs.length=0:=by
     have:=(List.getElem?_eq_some_iff.mp e2).1
     simp at this;omega
    rw [this] at e2
    cases e2
    exact ne l e1
  ·rw [List.getElem?_append_right (by omega)] at e1
   have:l - refs.length=0:=by
    have:=(List.getElem?_eq_some_iff.mp e1).1
    simp at this;omega
   rw [this] at e1
   cases e1
   by_cases hk:k < refs.length
   ·rw [List.getElem?_append_left hk] at e2
    exact ne k e2
   ·have:=(List.getElem?_eq_some_iff.mp e2).1
    simp at this;omega
theorem Wys.app {H:Hp} {Pd:Addr→Prop} {refs ws:List V} {n l:Nat} {w:Nat→List (Int×Int)} {p q:Addr} {x y:Int} (h:Wys H Pd refs n w) (hl:l < n) (hp:refs[l]?=some (.ref p)) (hw:H p=some (.lst ws)) (hq:H q=some (.tup [.int x,.int y])):
  Wys (upd H p (.lst (ws ++ [.ref q]))) Pd refs n (stp w l (x,y)):=by
 obtain ⟨h1,h2,h3⟩:=h
 have ht:∀ r us,H r=some (.tup us)→upd H p (.lst (ws ++ [.ref q])) r=some (.tup us):=fun r us e=>by rw [az (fun z=>by rw [z,hw] at e;cases e)];exact e
 refine ⟨h1,fun k hk=>?_,h3⟩
 obtain ⟨p',us,e1,e2,e3,e4⟩:=h2 k hk
 by_cases e:k=l
 ·subst e
  rw [hp] at e1
  cases e1
  rw [hw] at e3
  cases e3
  refine ⟨p,_,hp,e2,ak,?_⟩
  unfold stp
  rw [if_pos rfl]
  exact PrI.push (ht _ _ hq) (e4.imp ht)
 ·have ne:p'≠p:=fun z=>by subst z;exact h3 k l p' e e1 hp
  refine ⟨p',us,e1,e2,by rw [az ne];exact e3,?_⟩
  unfold stp
  rw [if_neg e]
  exact e4.imp ht
theorem zX {m:Nat} {C:Nat→Nat→Bool} {far i j:Nat} (h:j < far):(wH m C far i)[j]?=some (((gA m C i j:Nat):Int),((gD m C j i:Nat):Int)):=by
 unfold wH
 rw [List.getElem?_map,List.getElem?_range h];rfl
theorem Gn {m:Nat} {C:Nat→Nat→Bool} {far i:Nat}:(wH m C far i).length=far:=by simp [wH]
def Qe:Sp:=fun vs H Q _=>∃ (m far:Nat) (C:Nat→Nat→Bool) (cm:Addr) (cs:List V),vs=[.int ((m:Int)+(far:Int)),.ref cm]∧m≤48∧far≤48∧H cm=some (.lst cs)∧Cmg H (fun _=>True) m C far cs m∧
 ∀ aw refs H',H aw=none→Same H H'→H' aw=some (.lst refs)→Wys H' (fun p=>H p=none) refs (m+far) (qU m C far m)→Q (.ref aw) H'
theorem fU:aF ["many","coming","ways","row","pairs","column","pair"] ["many","coming"] (au cB):=⟨rfl,rfl,rfl,by decide+kernel,rfl,by decide+kernel,by decide+kernel⟩
theorem oG (T:Txt K mg):pC P w K mg base 1 "ways_of" ["many","coming"] Qe:=by
 refine jz T.d_ways_of fU (fun _ _ _ _ _ _ us hl=>L2.mL (fun _ _=>rfl) us hl) ?_ fun f cdv A outer s H vs Q E hr h=>?_
 ·rintro vs H Q E ⟨m,far,C,cm,cs,rfl,_⟩;rfl
 obtain ⟨m,far,C,cm,cs,rfl,hm,hf,hcm,hG,q⟩:=h
 have hu:=hr.units0
 have hu64:=hr.units
 refine ⟨_,(aq (zA (i:=2) fU.nd rfl (Or.inl JZ) (sub:=[none]) (jx (N:=["many","coming","ways","row","pairs","column","pair"]) (sc:=au cB) (N':=["line"]) (by decide+kernel)) rfl rfl rfl (cA (bB kz2g) T.b_range (aa (aj 0 kz2h) ao)) (fun C s₀ H₀ ex=>(Bm 0 (by decide+kernel) uX)) (fun C s₀ H₀ ex=>pP) (fun C s₀ H₀ ex=>(fc ao)) rfl) (aq (bZ PassesOwn.never rfl (kj (K:=K) rfl rfl (bB Ub) T.b_enumerate (aa (aj 1 kz2b) ao)) (jF (K:=K) rfl rfl (bu (aH (i:=3) fU.nd rfl (Or.inl Qa) rfl) (bu (aH (i:=4) fU.nd rfl (Or.inl Uc) rfl) fj))) (aA (bZ PassesOwn.never rfl (kj (K:=K) rfl rfl (bB Ub) T.b_enumerate (aa (aj 4 Uc) ao)) (jF (K:=K) rfl rfl (bu (aH (i:=5) fU.nd rfl (Or.inl Qd) rfl) (bu (aH (i:=6) fU.nd rfl (Or.inl Qc) rfl) fj))) (aq (bL (fJ (K:=K) rfl PySem.F.plainAttrs_list PySem.F.slot_list_append PySem.F.type_list_append bN (bO (K:=K) rfl (aj 2 JZ) (bO (K:=K) rfl (aj 6 Qc) aB)) (aa (iu (aa (aj 3 Qa) (aa (aj 5 Qd) ao))) ao))) (aA (bL (fJ (K:=K) rfl PySem.F.plainAttrs_list PySem.F.slot_list_append PySem.F.type_list_append bN (bO (K:=K) rfl (aj 2 JZ) (bO (K:=K) rfl (aj 6 Qc) aB)) (aa (iu (aa (aj 3 Qa) (aa (aj 5 Qd) ao))) ao)))))))) (aA (aG (aj 2 JZ))))),?_⟩
 walk_at "sts"
 have hs:20000≤sizeLine:=by decide
 refine ⟨_,rfl,by omega,by omega,?_⟩
 rw [show ((m:Int)+(far:Int)).toNat=m+far by omega]
 refine vY (n:=m+far) (fun i ys H'=>Same H H'∧Wys H' (fun p=>H p=none) ys i (fun _=>[])) (by omega) ⟨Same.refl H,rfl,(fun l hl=>absurd hl (Nat.not_lt_zero _)),fun l k p _ e=>by simp at e⟩ ?_ ?_ ?_
 ·rintro i ys H' ⟨_,h⟩
  exact Nat.le_of_eq h.1
 ·rintro i ys H' hi ⟨s,h⟩
  walk_at "sts"
  refine ⟨KeepSt.set rfl,?_⟩
  walk_at "sts"
  refine iy rfl fun p np=>?_
  walk_at "sts"
  exact ⟨s.upd np,h.new np (Same.back s np) rfl⟩
 ·rintro refs H1 ⟨s1,hW⟩ aw naw
  have naw0:=Same.back s1 naw
  have s2:=s1.upd naw (o:=.lst refs)
  have haw:=ak (H:=H1) (a:=aw) (o:=.lst refs)
  have hW2:Wys (upd H1 aw (.lst refs)) (fun p=>H p=none∧p≠aw) refs (m+far) (qU m C far 0):=by
   obtain ⟨w1,w2,w3⟩:=hW
   refine ⟨w1,fun l hl=>?_,w3⟩
   obtain ⟨p,ws,e1,e2,e3,e4⟩:=w2 l hl
   exact ⟨p,ws,e1,⟨e2,fun z=>by rw [z,naw] at e3;cases e3⟩,aX naw e3,e4.same ((Same.refl H1).upd naw)⟩
  generalize upd H1 aw (.lst refs)=H2 at s2 haw hW2 ⊢
  walk_at "sts"
  refine .inr ⟨cm,_,rfl,SqL.of (s2 _ _ hcm),?_⟩
  refine kE (xs:=cs) (fun i σ H'=>Same H H'∧H' aw=some (.lst refs)∧Wys H' (fun p=>H p=none∧p≠aw) refs (m+far) (qU m C far i)∧∃ x3 x4 x5 x6,σ=[some (.int ((m:Int)+(far:Int))),some (.ref cm),some (.ref aw),x3,x4,x5,x6])
   ⟨s2,haw,hW2,_,_,_,_,rfl⟩ (fun i σ H' _ h=>SqL.of (h.1 _ _ hcm)) ?_ ?_
  ·rintro i σ H3 T0 x hx ⟨S3,h3,W3,x3,x4,x5,x6,rfl⟩ nT
   have hi:i < m:=by
    have:=(List.getElem?_eq_some_iff.mp hx).1
    rw [hG.1] at this;exact this
   obtain ⟨c,ws,e1,_,hc,hws⟩:=hG.2 i hi
   rw [hx] at e1
   cases e1
   have wl:=hws.len
   rw [Gn] at wl
   refine dh (xs:=[.int i,.ref c]) (SqT.of ak) rfl ?_
   have S4:=S3.upd nT (o:=.tup [.int i,.ref c])
   have h4:=aX nT h3 (o:=.tup [.int i,.ref c])
   have W4:=W3.same ((Same.refl H3).upd nT (o:=.tup [.int i,.ref c]))
   generalize upd H3 T0 (.tup [.int i,.ref c])=H4 at S4 h4 W4 ⊢
   walk_at "sts"
   refine .inr ⟨c,_,rfl,SqL.of (S4 _ _ hc),?_⟩
   refine kE (xs:=ws) (fun j σ H'=>Same H H'∧H' aw=some (.lst refs)∧Wys H' (fun p=>H p=none∧p≠aw) refs (m+far) (zW m C i (qU m C far i) j)∧∃ x5 x6,σ=[some (.int ((m:Int)+(far:Int))),some (.ref cm),some (.ref aw),some (.int i),some (.ref c),x5,x6])
    ⟨S4,h4,W4,_,_,rfl⟩ (fun i σ H' _ h=>SqL.of (h.1 _ _ hc)) ?_ ?_
   ·rintro j σ H5 T1 y hy ⟨S5,h5,W5,x5,x6,rfl⟩ nT1
    have hj:j < far:=by
     have:=(List.getElem?_eq_some_iff.mp hy).1
     omega
    obtain ⟨r,e2,hr'⟩:=hws.get (zX (m:=m) (C:=C) (i:=i) hj)
    rw [hy] at e2
    cases e2
    obtain ⟨l1,l2⟩:=Rn (m:=m) (C:=C) (far:=far) (i+j) i j (Nat.le_refl _) hi hj
    have wA:=u0 (m:=m) (C:=C) (far:=far)
    have wJ:=uZ (m:=m) (C:=C) (i:=i) (w0:=qU m C far i)
    have him:i*far≤48*48:=Nat.mul_le_mul (by omega) hf
    refine dh (xs:=[.int j,.ref r]) (SqT.of ak) rfl ?_
    have S6:=S5.upd nT1 (o:=.tup [.int j,.ref r])
    have h6:=aX nT1 h5 (o:=.tup [.int j,.ref r])
    have W6:=W5.same ((Same.refl H5).upd nT1 (o:=.tup [.int j,.ref r]))
    generalize upd H5 T1 (.tup [.int j,.ref r])=H6 at S6 h6 W6 ⊢
    obtain ⟨p,us,r1,⟨pn,pa⟩,hp,hpu⟩:=W6.2.1 _ l1
    have ul:=hpu.len
    have:=wA (gA m C i j) i
    have:=wJ (gA m C i j) j
    walk_at "sts"
    refine fG (SqT.of (S6 _ _ hr')) rfl ?_
    walk_at "sts"
    refine bT (SqL.of h6) (bF r1) ?_
    walk_at "sts"
    refine ⟨.inl ⟨rfl,_,SqL.of hp⟩,?_⟩
    walk_at "sts"
    refine iy rfl fun q1 nq1=>?_
    walk_at "sts"
    have S7:=S6.upd nq1 (o:=.tup [.int i,.int j])
    have h7:=aX nq1 h6 (o:=.tup [.int i,.int j])
    have W7:=W6.same ((Same.refl H6).upd nq1 (o:=.tup [.int i,.int j]))
    have hp7:=aX nq1 hp (o:=.tup [.int i,.int j])
    have hq7:=ak (H:=H6) (a:=q1) (o:=.tup [.int i,.int j])
    generalize upd H6 q1 (.tup [.int i,.int j])=H7 at S7 h7 W7 hp7 hq7 ⊢
    refine bM hp7 (by omega) ?_
    walk_at "sts"
    have S8:=Same.put (o:=.lst (us ++ [.ref q1])) S7 pn
    have h8:upd H7 p (.lst (us ++ [.ref q1])) aw=_:=(az (Ne.symm pa)).trans h7
    have W8:=W7.app l1 r1 hp7 hq7
    generalize upd H7 p (.lst (us ++ [.ref q1]))=H8 at S8 h8 W8 ⊢
    obtain ⟨p',us',r2,⟨pn',pa'⟩,hp',hpu'⟩:=W8.2.1 _ l2
    have ul':=hpu'.len
    have:=uY (zW m C i (qU m C far i) j) (gA m C i j) ((i:Int),(j:Int)) (gD m C j i)
    have:=wA (gD m C j i) i
    have:=wJ (gD m C j i) j
    walk_at "sts"
    refine fG (SqT.of (S8 _ _ hr')) rfl ?_
    walk_at "sts"
    refine bT (SqL.of h8) (bF r2) ?_
    walk_at "sts"
    refine ⟨.inl ⟨rfl,_,SqL.of hp'⟩,?_⟩
    walk_at "sts"
    refine iy rfl fun q2 nq2=>?_
    walk_at "sts"
    have S9:=S8.upd nq2 (o:=.tup [.int i,.int j])
    have h9:=aX nq2 h8 (o:=.tup [.int i,.int j])
    have W9:=W8.same ((Same.refl H8).upd nq2 (o:=.tup [.int i,.int j]))
    have hp9:=aX nq2 hp' (o:=.tup [.int i,.int j])
    have hq9:=ak (H:=H8) (a:=q2) (o:=.tup [.int i,.int j])
    generalize upd H8 q2 (.tup [.int i,.int j])=H9 at S9 h9 W9 hp9 hq9 ⊢
    refine bM hp9 (by omega) ?_
    walk_at "sts"
    exact ⟨Same.put S9 pn',(az (Ne.symm pa')).trans h9,W9.app l2 r2 hp9 hq9,_,_,rfl⟩
   ·rintro σ H5 ⟨S5,h5,W5,x5,x6,rfl⟩
    rw [wl] at W5
    exact ⟨S5,h5,W5,_,_,_,_,rfl⟩
  ·rintro σ H3 ⟨S3,h3,W3,x3,x4,x5,x6,rfl⟩
   rw [hG.1] at W3
   walk_at "sts"
   exact q aw refs H3 naw0 S3 h3 (W3.imp (fun _ _ z=>z) (fun _ _ _ z=>z) fun c z=>z.1)
end
section
variable {P:Program} {w:World} {K:PySem.W.Frag} {mg:Str→Option Value} {base:Heap}
theorem yC:aQ aM "self":=by decide+kernel
theorem kz2j:cJ aM "ways_of":=by decide+kernel
theorem J3:aQ aM "gone":=by decide+kernel
theorem J5:cJ aM "len":=by decide+kernel
theorem Gp:aQ aM "side":=by decide+kernel
theorem Gq:aQ aM "top":=by decide+kernel
theorem kz2o:cJ aM "over_cells":=by decide+kernel
theorem kz2p:cJ aM "cells_of":=by decide+kernel
theorem kz2q:cJ aM "need_rows":=by decide+kernel
abbrev mS (z:Str):Nat:=z.cps.size
structure BdO (H:Hp) (side top:Str) (ac am al aw:Addr):Prop where
 cells:H ac=some (.lst ((cF side top).map V.str))
 com:∃ cs,H am=some (.lst cs)∧Cmg H (fun _=>True) (mS side) (CB side top) (mS top) cs (mS side)
 lines:∃ R,H al=some (.lst (R.map V.int))∧jH (mS side) (CB side top) (mS top) R
 ways:∃ refs,H aw=some (.lst refs)∧Wys H (fun _=>True) refs (mS side+mS top) (qU (mS side) (CB side top) (mS top) (mS side))
theorem BdO.same {H H':Hp} {side top:Str} {ac am al aw:Addr} (h:BdO H side top ac am al aw) (s:Same H H'):BdO H' side top ac am al aw:=by
 obtain ⟨h1,⟨cs,h2,h3⟩,⟨R,h4,h5⟩,refs,h6,h7⟩:=h
 exact ⟨s _ _ h1,⟨cs,s _ _ h2,h3.same s⟩,⟨R,s _ _ h4,h5⟩,refs,s _ _ h6,h7.same s⟩
def bdF (side top:Str) (ac am al aw:Addr):List (Str×V):=[("held_side",.str side),("held_top",.str top),("held_cells",.ref ac),("held_coming",.ref am),("held_lines",.ref al),("held_ways",.ref aw)]
def Bd (mg:Str→Option Value) (H:Hp) (b:Addr) (side top:Str):Prop:=gU side∧gU top∧∃ dx ac am al aw,H b=some (.ins (aZ mg "Board") dx (bdF side top ac am al aw))∧BdO H side top ac am al aw
theorem Bd.same {H H':Hp} {b:Addr} {side top:Str} (h:Bd mg H b side top) (s:Same H H'):Bd mg H' b side top:=by
 obtain ⟨h1,h2,dx,ac,am,al,aw,hb,h⟩:=h
 exact ⟨h1,h2,dx,ac,am,al,aw,s _ _ hb,h.same s⟩
theorem qW (side top:Str):(cF side top).length=side.cps.size:=zV _ _ _ _
theorem o7 {side top:Str}:∀ z∈cF side top,z.cps.size=top.cps.size:=fun z hz=>by
 unfold cF wM at hz
 obtain ⟨i,_,rfl⟩:=List.mem_map.mp hz
 exact kY
def J6 (K:PySem.W.Frag) (mg:Str→Option Value):Sp:=fun vs H Q E=>∃ (x dx:Addr) (v u:V),vs=[.ref x,v,u]∧H x=some (.ins (aZ mg "Board") dx [])∧Thing K H v∧Thing K H u∧
 (∀ w,bf v u=some w→∀ e H',Same H H'→Ln H' e (aZ mg "NoRow") [("found",w)]→E (.ref (aZ mg "NoRow")) (some e) H')∧
 (∀ side top:Str,v= .str side→u= .str top→gU side→gU top→∀ H',Chg x H H'→Bd mg H' x side top→Q .non H')
theorem Chg.same {x:Addr} {H H1 H2:Hp} (c:Chg x H H1) (s:Same H1 H2):Chg x H H2:=fun b o n e=>s _ _ (c b o n e)
theorem Chg.put {x:Addr} {H H1:Hp} {o:HO} (c:Chg x H H1):Chg x H (upd H1 x o):=fun b u n e=>by rw [az n];exact c b u n e
theorem gY {f:Str} {y:V}:∀ {fs:List (Str×V)},(fs.map (·.1)).contains f=false→iG f y fs=fs ++ [(f,y)]
 | [],_=>rfl
 | (g,z) :: fs,h=>by
  simp only [List.map_cons,List.contains_cons,Bool.or_eq_false_iff] at h
  have hne:¬ g=f:=fun e=>by rw [e] at h;simp at h
  have ih:=gY (y:=y) (fs:=fs) h.2
  unfold iG
  simp [hne,ih]
theorem iC:aF ["self","side","top","gone"] ["self","side","top"] (au aM):=⟨rfl,rfl,rfl,by decide+kernel,rfl,by decide+kernel,by decide+kernel⟩
theorem dN (T:Txt K mg):pJ P w K mg base 5 "Board" "__init__" ["self","side","top"] (J6 K mg):=by
 have j0:=j0 (P:=P) (w:=w) (base:=base) T
 have mG:=mG (P:=P) (w:=w) (base:=base) T
 have jJ:=jJ (P:=P) (w:=w) (base:=base) T
 have oG:=oG (P:=P) (w:=w) (base:=base) T
 refine yq T.m_Board___init__ iC (fun _ _ _ _ _ _ us hl=>L2.vA (fun _ _ _=>rfl) us hl) ?_ fun f cdv A outer s H vs Q E hr h=>?_
 ·rintro vs H Q E ⟨x,dx,v,u,rfl,_⟩;rfl
 obtain ⟨x,dx,v,u,rfl,hx,hv,hu',qx,q⟩:=h
 have hu:=hr.units0
 have hu64:=hr.units
 refine ⟨_,(aq (bL (pQ j0 (hr.mono (by decide)) (bB kz2q) dU (aa (aj 1 Gp) (aa (aj 2 Gq) ao)) (by decide+kernel))) (aq (oh (K:=K) rfl (aj 0 yC) (aj 1 Gp)) (aq (oh (K:=K) rfl (aj 0 yC) (aj 2 Gq)) (aq (oh (K:=K) rfl (aj 0 yC) (bx mG (hr.mono (by decide)) (bB kz2p) (aa (aj 1 Gp) (aa (aj 2 Gq) ao)) (by decide+kernel))) (aq (aC (i:=3) iC.nd rfl (Or.inl J3) (bx jJ (hr.mono (by decide)) (bB kz2o) (aa (aD (aJ (K:=K) rfl) (bB J5) T.b_len bU (aa (aj 1 Gp) ao) (by decide+kernel) (by decide+kernel)) (aa (aD (aJ (K:=K) rfl) (bB J5) T.b_len bU (aa (aj 2 Gq) ao) (by decide+kernel) (by decide+kernel)) (aa (o6 (K:=K) rfl (aj 0 yC)) ao))) (by decide+kernel)) rfl) (aq (oh (K:=K) rfl (aj 0 yC) (bO (K:=K) rfl (aj 3 J3) aB)) (aq (oh (K:=K) rfl (aj 0 yC) (bO (K:=K) rfl (aj 3 J3) aB)) (aA (oh (K:=K) rfl (aj 0 yC) (bx oG (hr.mono (by decide)) (bB kz2j) (aa (aU aY (aD (aJ (K:=K) rfl) (bB J5) T.b_len bU (aa (aj 1 Gp) ao) (by decide+kernel) (by decide+kernel)) (aD (aJ (K:=K) rfl) (bB J5) T.b_len bU (aa (aj 2 Gq) ao) (by decide+kernel) (by decide+kernel))) (aa (bO (K:=K) rfl (aj 3 J3) aB) ao)) (by decide+kernel))))))))))),?_⟩
 walk_at "sts"
 refine ⟨v,u,rfl,hv,hu',qx,fun side top ev eu hs ht H1 S1=>?_⟩
 subst ev eu
 have q':=q side top rfl rfl hs ht
 clear q qx
 have cl:=T.o_Board.cl
 have na:=T.n_Board
 have lz:side.length≤sizeLine:=Nat.le_trans hs.1 (by decide)
 have ly:top.length≤sizeLine:=Nat.le_trans ht.1 (by decide)
 have hx1:=S1 _ _ hx
 have C1:Chg x H H1:=fun b o _ e=>S1 _ _ e
 walk_at "sts"
 refine ⟨x,_,dx,_,rfl,hx1,cl,na _ (by simp),by simp,?_⟩
 walk_at "sts"
 rw [gY (by show ([]:List Str).contains "held_side"=false;decide+kernel)]
 have hx2:=ak (H:=H1) (a:=x) (o:=.ins (aZ mg "Board") dx (([]:List (Str×V)) ++ ([("held_side",.str side)]:List (Str×V))))
 have C2:=Chg.put (o:=.ins (aZ mg "Board") dx (([]:List (Str×V)) ++ ([("held_side",.str side)]:List (Str×V)))) C1
 generalize hG2:upd H1 x (.ins (aZ mg "Board") dx (([]:List (Str×V)) ++ ([("held_side",.str side)]:List (Str×V))))=H2 at hx2 C2 ⊢
 replace hx2:H2 x=some (.ins (aZ mg "Board") dx ([("held_side",.str side)]:List (Str×V))):=hx2
 walk_at "sts"
 refine ⟨x,_,dx,_,rfl,hx2,cl,na _ (by simp),by simp,?_⟩
 walk_at "sts"
 rw [gY (by show (["held_side"]:List Str).contains "held_top"=false;decide+kernel)]
 have hx3:=ak (H:=H2) (a:=x) (o:=.ins (aZ mg "Board") dx (([("held_side",.str side)]:List (Str×V)) ++ ([("held_top",.str top)]:List (Str×V))))
 have C3:=Chg.put (o:=.ins (aZ mg "Board") dx (([("held_side",.str side)]:List (Str×V)) ++ ([("held_top",.str top)]:List (Str×V)))) C2
 generalize hG3:upd H2 x (.ins (aZ mg "Board") dx (([("held_side",.str side)]:List (Str×V)) ++ ([("held_top",.str top)]:List (Str×V))))=H3 at hx3 C3 ⊢
 replace hx3:H3 x=some (.ins (aZ mg "Board") dx ([("held_side",.str side),("held_top",.str top)]:List (Str×V))):=hx3
 walk_at "sts"
 refine ⟨side,top,rfl,hs.1,ht.1,fun ac H4 nac S4 hac=>?_⟩
 walk_at "sts"
 have hx4:=S4 _ _ hx3
 have C4:=Chg.same C3 S4
 refine ⟨x,_,dx,_,rfl,hx4,cl,na _ (by simp),by simp,?_⟩
 walk_at "sts"
 rw [gY (by show (["held_side","held_top"]:List Str).contains "held_cells"=false;decide+kernel)]
 have hx5:=ak (H:=H4) (a:=x) (o:=.ins (aZ mg "Board") dx (([("held_side",.str side),("held_top",.str top)]:List (Str×V)) ++ ([("held_cells",.ref ac)]:List (Str×V))))
 have C5:=Chg.put (o:=.ins (aZ mg "Board") dx (([("held_side",.str side),("held_top",.str top)]:List (Str×V)) ++ ([("held_cells",.ref ac)]:List (Str×V)))) C4
 generalize hG5:upd H4 x (.ins (aZ mg "Board") dx (([("held_side",.str side),("held_top",.str top)]:List (Str×V)) ++ ([("held_cells",.ref ac)]:List (Str×V))))=H5 at hx5 C5 ⊢
 replace hx5:H5 x=some (.ins (aZ mg "Board") dx ([("held_side",.str side),("held_top",.str top),("held_cells",.ref ac)]:List (Str×V))):=hx5
 have nx4:∀ {a:Addr} {us:List V},H4 a=some (.lst us)→a≠x:=fun {a us} h z=>by rw [z,hx4] at h;cases h
 have hac5:H5 ac=some (.lst ((cF side top).map V.str)):=by rw [← hG5,az (nx4 hac)];exact hac
 walk_at "sts"
 refine gq lz ?_
 walk_at "sts"
 refine gq ly ?_
 walk_at "sts"
 refine ⟨x,_,dx,_,_,rfl,hx5,cl,na _ (by simp),rfl,?_⟩
 walk_at "sts"
 refine ⟨mS side,mS top,cF side top,ac,rfl,hac5,qW side top,hs.1,ht.1,o7,fun t am al R H6 nal S6 ht6 hE hal hcm=>?_⟩
 walk_at "sts"
 obtain ⟨cs,hcm,hG⟩:=hcm
 have hx6:=S6 _ _ hx5
 have C6:=Chg.same C5 S6
 refine ⟨x,_,dx,_,rfl,hx6,cl,na _ (by simp),by simp,?_⟩
 walk_at "sts"
 rw [gY (by show (["held_side","held_top","held_cells"]:List Str).contains "held_coming"=false;decide+kernel)]
 have hx7:=ak (H:=H6) (a:=x) (o:=.ins (aZ mg "Board") dx (([("held_side",.str side),("held_top",.str top),("held_cells",.ref ac)]:List (Str×V)) ++ ([("held_coming",.ref am)]:List (Str×V))))
 have C7:=Chg.put (o:=.ins (aZ mg "Board") dx (([("held_side",.str side),("held_top",.str top),("held_cells",.ref ac)]:List (Str×V)) ++ ([("held_coming",.ref am)]:List (Str×V)))) C6
 generalize hG7:upd H6 x (.ins (aZ mg "Board") dx (([("held_side",.str side),("held_top",.str top),("held_cells",.ref ac)]:List (Str×V)) ++ ([("held_coming",.ref am)]:List (Str×V))))=H7 at hx7 C7 ⊢
 replace hx7:H7 x=some (.ins (aZ mg "Board") dx ([("held_side",.str side),("held_top",.str top),("held_cells",.ref ac),("held_coming",.ref am)]:List (Str×V))):=hx7
 have M7:Chg x H6 H7:=by rw [← hG7];exact Chg.put (Chg.refl x H6)
 have nt:t≠x:=fun z=>by rw [z,hx6] at ht6;cases ht6
 have ht7:=M7 t _ nt ht6
 walk_at "sts"
 refine ⟨x,_,dx,_,rfl,hx7,cl,na _ (by simp),by simp,?_⟩
 walk_at "sts"
 rw [gY (by show (["held_side","held_top","held_cells","held_coming"]:List Str).contains "held_lines"=false;decide+kernel)]
 have hx8:=ak (H:=H7) (a:=x) (o:=.ins (aZ mg "Board") dx (([("held_side",.str side),("held_top",.str top),("held_cells",.ref ac),("held_coming",.ref am)]:List (Str×V)) ++ ([("held_lines",.ref al)]:List (Str×V))))
 have C8:=Chg.put (o:=.ins (aZ mg "Board") dx (([("held_side",.str side),("held_top",.str top),("held_cells",.ref ac),("held_coming",.ref am)]:List (Str×V)) ++ ([("held_lines",.ref al)]:List (Str×V)))) C7
 generalize hG8:upd H7 x (.ins (aZ mg "Board") dx (([("held_side",.str side),("held_top",.str top),("held_cells",.ref ac),("held_coming",.ref am)]:List (Str×V)) ++ ([("held_lines",.ref al)]:List (Str×V))))=H8 at hx8 C8 ⊢
 replace hx8:H8 x=some (.ins (aZ mg "Board") dx ([("held_side",.str side),("held_top",.str top),("held_cells",.ref ac),("held_coming",.ref am),("held_lines",.ref al)]:List (Str×V))):=hx8
 have M8:Chg x H6 H8:=M7.trans (by rw [← hG8];exact Chg.put (Chg.refl x H7))
 have nx6:∀ {a:Addr} {us:List V},H6 a=some (.lst us)→a≠x:=fun {a us} h z=>by rw [z,hx6] at h;cases h
 have nxt6:∀ {a:Addr} {us:List V},H6 a=some (.tup us)→a≠x:=fun {a us} h z=>by rw [z,hx6] at h;cases h
 have ht8:=M8 t _ nt ht6
 have hcm8:=M8 am _ (nx6 hcm) hcm
 have hG8':Cmg H8 (fun _=>True) (mS side) (CB side top) (mS top) cs (mS side):=hG.imp (fun p us e=>M8 p _ (nxt6 e) e) (fun c ws _ e=>M8 c _ (nx6 e) e) fun _ z=>z
 have hal8:=M8 al _ (nx6 hal) hal
 have hac8:=M8 ac _ (nx6 (S6 _ _ hac5)) (S6 _ _ hac5)
 walk_at "sts"
 refine gq lz ?_
 walk_at "sts"
 refine gq ly ?_
 walk_at "sts"
 refine ⟨mS side,mS top,CB side top,am,cs,rfl,hs.1,ht.1,hcm8,hG8',fun aw refs H9 naw S9 haw hW=>?_⟩
 walk_at "sts"
 have hx9:=S9 _ _ hx8
 have C9:=Chg.same C8 S9
 have nx9:∀ {a:Addr} {us:List V},H9 a=some (.lst us)→a≠x:=fun {a us} h z=>by rw [z,hx9] at h;cases h
 have nxt9:∀ {a:Addr} {us:List V},H9 a=some (.tup us)→a≠x:=fun {a us} h z=>by rw [z,hx9] at h;cases h
 refine ⟨x,_,dx,_,rfl,hx9,cl,na _ (by simp),by simp,?_⟩
 walk_at "sts"
 rw [gY (by show (["held_side","held_top","held_cells","held_coming","held_lines"]:List Str).contains "held_ways"=false;decide+kernel)]
 have hx10:=ak (H:=H9) (a:=x) (o:=.ins (aZ mg "Board") dx (([("held_side",.str side),("held_top",.str top),("held_cells",.ref ac),("held_coming",.ref am),("held_lines",.ref al)]:List (Str×V)) ++ ([("held_ways",.ref aw)]:List (Str×V))))
 have C10:=Chg.put (o:=.ins (aZ mg "Board") dx (([("held_side",.str side),("held_top",.str top),("held_cells",.ref ac),("held_coming",.ref am),("held_lines",.ref al)]:List (Str×V)) ++ ([("held_ways",.ref aw)]:List (Str×V)))) C9
 generalize hG10:upd H9 x (.ins (aZ mg "Board") dx (([("held_side",.str side),("held_top",.str top),("held_cells",.ref ac),("held_coming",.ref am),("held_lines",.ref al)]:List (Str×V)) ++ ([("held_ways",.ref aw)]:List (Str×V))))=H10 at hx10 C10 ⊢
 replace hx10:H10 x=some (.ins (aZ mg "Board") dx ([("held_side",.str side),("held_top",.str top),("held_cells",.ref ac),("held_coming",.ref am),("held_lines",.ref al),("held_ways",.ref aw)]:List (Str×V))):=hx10
 have M10:Chg x H9 H10:=by rw [← hG10];exact Chg.put (Chg.refl x H9)
 refine q' H10 C10 ⟨hs,ht,dx,ac,am,al,aw,hx10,M10 ac _ (nx9 (S9 _ _ hac8)) (S9 _ _ hac8),⟨cs,M10 am _ (nx9 (S9 _ _ hcm8)) (S9 _ _ hcm8),(hG8'.same S9).imp (fun p us e=>M10 p _ (nxt9 e) e) (fun c ws _ e=>M10 c _ (nx9 e) e) fun _ z=>z⟩,⟨R,M10 al _ (nx9 (S9 _ _ hal8)) (S9 _ _ hal8),hE⟩,refs,M10 aw _ (nx9 haw) haw,hW.imp (fun p us e=>M10 p _ (nxt9 e) e) (fun c ws _ e=>M10 c _ (nx9 e) e) fun _ _=>trivial⟩
end
section
variable {P:Program} {w:World} {K:PySem.W.Frag} {mg:Str→Option Value} {base:Heap}
theorem kz2r:cJ d7 "list":=by decide+kernel
theorem kz2s:aQ d7 "self":=by decide+kernel
theorem kz2t:cJ d8 "list":=by decide+kernel
theorem kz2u:aQ d8 "self":=by decide+kernel
theorem kz2v:cJ bG "need_place":=by decide+kernel
theorem kz2w:cJ bG "len":=by decide+kernel
theorem kz2x:aQ bG "self":=by decide+kernel
theorem kz2y:aQ bG "line":=by decide+kernel
theorem kz2z:cJ eU "list":=by decide+kernel
theorem Ud:aQ eU "self":=by decide+kernel
theorem Ue:aQ eU "line":=by decide+kernel
theorem w6 {side top:Str} {ac am al aw:Addr} {m:Str} (h:(["held_side","held_top","held_cells","held_coming","held_lines","held_ways"]:List Str).contains m=false):(bdF side top ac am al aw).lookup m=none:=by
 unfold bdF
 simp only [List.contains_cons,Bool.or_eq_false_iff] at h
 obtain ⟨h1,h2,h3,h4,h5,h6,_⟩:=h
 simp only [List.lookup_cons,h1,h2,h3,h4,h5,h6,List.lookup_nil]
def J7 (mg:Str→Option Value):Sp:=fun vs H Q _=>∃ (b:Addr) (side top:Str),vs=[.ref b]∧Bd mg H b side top∧∀ q R H',H q=none→Same H H'→jH (mS side) (CB side top) (mS top) R→H' q=some (.lst (R.map V.int))→Q (.ref q) H'
theorem qX:aF ["self"] ["self"] (au d7):=⟨rfl,rfl,rfl,by decide+kernel,rfl,by decide+kernel,by decide+kernel⟩
theorem jr (T:Txt K mg):pJ P w K mg base 1 "Board" "lines" ["self"] (J7 mg):=by
 refine yq T.m_Board_lines qX (fun _ _ _ _ _ _ us hl=>L2.Ah (fun _=>rfl) us hl) ?_ fun f cdv A outer s H vs Q E hr h=>?_
 ·rintro vs H Q E ⟨b,side,top,rfl,_⟩;rfl
 obtain ⟨b,side,top,rfl,⟨hs,ht,dx,ac,am,al,aw,hb,hO⟩,q⟩:=h
 have hu:=hr.units0
 have hu64:=hr.units
 refine ⟨_,(aA (aG (m8 (mC (K:=K) rfl rfl) (bB kz2r) T.b_list il (aa (o6 (K:=K) rfl (aj 0 kz2s)) ao) (by decide+kernel) (by decide+kernel)))),?_⟩
 walk_at "sts"
 obtain ⟨R,hR,hE⟩:=hO.lines
 refine ⟨b,_,dx,_,_,rfl,hb,T.o_Board.cl,T.n_Board _ (by simp),rfl,?_⟩
 walk_at "sts"
 refine uA (SqL.of hR) fun l nl=>?_
 walk_at "sts"
 exact q l R _ nl ((Same.refl H).upd nl) hE ak
def Gr (mg:Str→Option Value):Sp:=fun vs H Q _=>∃ (b:Addr) (side top:Str),vs=[.ref b]∧Bd mg H b side top∧∀ q H',H q=none→Same H H'→H' q=some (.lst ((cF side top).map V.str))→Q (.ref q) H'
theorem qY:aF ["self"] ["self"] (au d8):=⟨rfl,rfl,rfl,by decide+kernel,rfl,by decide+kernel,by decide+kernel⟩
theorem jt (T:Txt K mg):pJ P w K mg base 1 "Board" "cells" ["self"] (Gr mg):=by
 refine yq T.m_Board_cells qY (fun _ _ _ _ _ _ us hl=>L2.Ah (fun _=>rfl) us hl) ?_ fun f cdv A outer s H vs Q E hr h=>?_
 ·rintro vs H Q E ⟨b,side,top,rfl,_⟩;rfl
 obtain ⟨b,side,top,rfl,⟨hs,ht,dx,ac,am,al,aw,hb,hO⟩,q⟩:=h
 have hu:=hr.units0
 have hu64:=hr.units
 refine ⟨_,(aA (aG (m8 (mC (K:=K) rfl rfl) (bB kz2t) T.b_list il (aa (o6 (K:=K) rfl (aj 0 kz2u)) ao) (by decide+kernel) (by decide+kernel)))),?_⟩
 walk_at "sts"
 refine ⟨b,_,dx,_,_,rfl,hb,T.o_Board.cl,T.n_Board _ (by simp),rfl,?_⟩
 walk_at "sts"
 refine uA (SqL.of hO.cells) fun l nl=>?_
 walk_at "sts"
 exact q l _ nl ((Same.refl H).upd nl) ak
def Vs (mg:Str→Option Value) (H:Hp) (E:XK) (v:V):Prop:=∀ e H',Same H H'→Ln H' e (aZ mg "NoPlace") [("found",v)]→E (.ref (aZ mg "NoPlace")) (some e) H'
theorem u5 {v:V} {n:Nat} (hb:inB v 0 ((n:Int) - 1)=true):∃ i:Nat,v= .int i∧i < n:=by
 cases v with
 | int z=>
  unfold inB at hb
  simp at hb
  exact ⟨z.toNat,by rw [Int.toNat_of_nonneg hb.1],by omega⟩
 | _=>cases hb
theorem gZ {i n:Nat} (h:i < n):inB (.int (i:Int)) 0 ((n:Int) - 1)=true:=by
 unfold inB
 simp
 omega
def J8 (K:PySem.W.Frag) (mg:Str→Option Value):Sp:=fun vs H Q E=>∃ (b:Addr) (side top:Str) (v:V),vs=[.ref b,v]∧Bd mg H b side top∧Kd K H v∧
 (inB v 0 (((mS side+mS top:Nat):Int) - 1)=false→Vs mg H E v)∧(inB v 0 (((mS side+mS top:Nat):Int) - 1)=true→Q .non H)
theorem mH:aF ["self","line"] ["self","line"] (au bG):=⟨rfl,rfl,rfl,by decide+kernel,rfl,by decide+kernel,by decide+kernel⟩
theorem bH (T:Txt K mg):pJ P w K mg base 4 "Board" "need_line" ["self","line"] (J8 K mg):=by
 have jK:=jK (P:=P) (w:=w) (base:=base) T
 refine yq T.m_Board_need_line mH (fun _ _ _ _ _ _ us hl=>L2.mL (fun _ _=>rfl) us hl) ?_ fun f cdv A outer s H vs Q E hr h=>?_
 ·rintro vs H Q E ⟨b,side,top,v,rfl,_⟩;rfl
 obtain ⟨b,side,top,v,rfl,hB,kv,q1,q2⟩:=h
 have hu:=hr.units0
 have hu64:=hr.units
 refine ⟨_,(aA (bL (pQ jK (hr.mono (by decide)) (bB kz2v) dU (aa (aj 1 kz2y) (aa aB (aa (aU fH (aD (aJ (K:=K) rfl) (bB kz2w) T.b_len bU (aa (o6 (K:=K) rfl (aj 0 kz2x)) ao) (by decide+kernel) (by decide+kernel)) aB) ao))) (by decide+kernel)))),?_⟩
 walk_at "sts"
 obtain ⟨hs,ht,dx,ac,am,al,aw,hb,hO⟩:=hB
 obtain ⟨R,hR,hE⟩:=hO.lines
 refine ⟨b,_,dx,_,_,rfl,hb,T.o_Board.cl,T.n_Board _ (by simp),rfl,?_⟩
 walk_at "sts"
 refine gn (SqL.of hR) ?_
 walk_at "sts"
 rw [List.length_map,hE.1]
 refine ⟨v,_,_,rfl,kv,fun hv=>?_,fun hv=>q1 hv⟩
 walk_at "sts"
 exact q2 hv
def Ug (K:PySem.W.Frag) (mg:Str→Option Value):Sp:=fun vs H Q E=>∃ (b:Addr) (side top:Str) (v:V),vs=[.ref b,v]∧Bd mg H b side top∧Kd K H v∧
 (inB v 0 (((mS side+mS top:Nat):Int) - 1)=false→Vs mg H E v)∧
 (∀ l:Nat,v= .int l→l < mS side+mS top→∀ q ws H',H q=none→Same H H'→H' q=some (.lst ws)→PrI H' ws (qU (mS side) (CB side top) (mS top) (mS side) l)→Q (.ref q) H')
theorem u6:aF ["self","line"] ["self","line"] (au eU):=⟨rfl,rfl,rfl,by decide+kernel,rfl,by decide+kernel,by decide+kernel⟩
theorem j4 (T:Txt K mg):pJ P w K mg base 5 "Board" "way" ["self","line"] (Ug K mg):=by
 have bH:=bH (P:=P) (w:=w) (base:=base) T
 refine yq T.m_Board_way u6 (fun _ _ _ _ _ _ us hl=>L2.mL (fun _ _=>rfl) us hl) ?_ fun f cdv A outer s H vs Q E hr h=>?_
 ·rintro vs H Q E ⟨b,side,top,v,rfl,_⟩;rfl
 obtain ⟨b,side,top,v,rfl,hB,kv,q1,q2⟩:=h
 have hu:=hr.units0
 have hu64:=hr.units
 refine ⟨_,(aq (bL (dD (aj 0 Ud) T.o_Board bH (hr.mono (by decide)) dU (aa (aj 1 Ue) ao))) (aA (aG (m8 (mC (K:=K) rfl rfl) (bB kz2z) T.b_list il (aa (bO (K:=K) rfl (o6 (K:=K) rfl (aj 0 Ud)) (aj 1 Ue)) ao) (by decide+kernel) (by decide+kernel))))),?_⟩
 walk_at "sts"
 have hB0:=hB
 obtain ⟨hs,ht,dx,ac,am,al,aw,hb,hO⟩:=hB
 refine ⟨b,dx,_,rfl,hb,w6 (by decide+kernel),?_⟩
 walk_at "sts"
 refine ⟨b,side,top,v,rfl,hB0,kv,fun hv=>q1 hv,fun hv=>?_⟩
 walk_at "sts"
 obtain ⟨l,rfl,hl⟩:=u5 hv
 obtain ⟨refs,hrf,hW⟩:=hO.ways
 obtain ⟨p,ws,e1,_,hp,hws⟩:=hW.2.1 l hl
 refine ⟨b,_,dx,_,_,rfl,hb,T.o_Board.cl,T.n_Board _ (by simp),rfl,?_⟩
 walk_at "sts"
 refine bT (SqL.of hrf) (bF e1) ?_
 walk_at "sts"
 refine uA (SqL.of hp) fun k nk=>?_
 walk_at "sts"
 exact q2 l rfl hl k ws _ nk ((Same.refl H).upd nk) ak (hws.same ((Same.refl H).upd nk))
end
section
variable {P:Program} {w:World} {K:PySem.W.Frag} {mg:Str→Option Value} {base:Heap}
theorem oH:(["cell","other","self"]:List Str).Nodup:=by decide+kernel
theorem Qf:KCc cT "self":=by decide+kernel
theorem Uh:aQ cT "line":=by decide+kernel
theorem kz34:KCc cT "other":=by decide+kernel
theorem PrI.item {H:Hp}:∀ {ws:List V} {L:List (Int×Int)} {k:Nat} {v:V},PrI H ws L→ws[k]?=some v→∃ q r,L[k]?=some q∧v= .ref r∧H r=some (.tup [.int q.1,.int q.2])
 | v :: vs,(x,y) :: L,0,u,⟨⟨p,e,hp⟩,_⟩,h=>⟨(x,y),p,rfl,(Option.some.inj h).symm.trans e,hp⟩
 | v :: vs,(x,y) :: L,k+1,u,⟨_,r⟩,h=>by
  obtain ⟨q,a,h1,h2,h3⟩:=PrI.item (k:=k) r (by simpa using h)
  exact ⟨q,a,by simpa using h1,h2,h3⟩
 | [],_,k,u,_,h=>by simp at h
 | _ :: _,[],_,_,z,_=>z.elim
theorem zY {m:Nat} {C:Nat→Nat→Bool} {i far:Nat} {w0:Nat→List (Int×Int)} {n l:Nat} (h0:∀ q∈w0 l,∃ a b:Nat,q=((a:Int),(b:Int))∧a < n∧b < far) (hi:i < n):∀ j,j≤far→∀ q∈zW m C i w0 j l,∃ a b:Nat,q=((a:Int),(b:Int))∧a < n∧b < far
 | 0,_,q,hq=>h0 q hq
 | j+1,hj,q,hq=>by
  have ih:=zY (m:=m) (C:=C) (i:=i) (far:=far) h0 hi j (by omega)
  have hq':q∈stp (stp (zW m C i w0 j) (gA m C i j) ((i:Int),(j:Int))) (gD m C j i) ((i:Int),(j:Int)) l:=hq
  unfold stp at hq'
  have new:q∈[((i:Int),(j:Int))]→∃ a b:Nat,q=((a:Int),(b:Int))∧a < n∧b < far:=fun h=>⟨i,j,List.mem_singleton.mp h,hi,by omega⟩
  split at hq'
  ·rcases List.mem_append.mp hq' with h | h
   ·split at h
    ·rcases List.mem_append.mp h with h | h
     ·exact ih q h
     ·exact new h
    ·exact ih q h
   ·exact new h
  ·split at hq'
   ·rcases List.mem_append.mp hq' with h | h
    ·exact ih q h
    ·exact new h
   ·exact ih q hq'
theorem zZ {m:Nat} {C:Nat→Nat→Bool} {far l:Nat}:∀ n,∀ q∈qU m C far n l,∃ a b:Nat,q=((a:Int),(b:Int))∧a < n∧b < far
 | 0,q,hq=>by cases hq
 | n+1,q,hq=>zY (m:=m) (C:=C) (i:=n) (far:=far) (w0:=qU m C far n) (n:=n+1) (fun q hq=>by
   obtain ⟨a,b,e,h1,h2⟩:=zZ n q hq
   exact ⟨a,b,e,by omega,h2⟩) (by omega) far (Nat.le_refl _) q hq
def lD (m:Nat) (C:Nat→Nat→Bool) (k:Nat) (q:Int×Int):Bool:=decide (k=gA m C q.1.toNat q.2.toNat) || decide (k=gD m C q.2.toNat q.1.toNat)
def Qg (side top:Str) (l k:Nat):List (Int×Int):=(qU (mS side) (CB side top) (mS top) (mS side) l).filter (lD (mS side) (CB side top) k)
theorem J9 (k a b:Nat):inV (.int (k:Int)) [.int (a:Int),.int (b:Int)]=(decide (k=a) || decide (k=b)):=by
 have key:∀ x y:Nat,vK (.int (x:Int)) (.int (y:Int))=decide (x=y):=fun x y=>by
  by_cases h:x=y
  ·subst h;rw [decide_eq_true rfl];exact qG rfl
  ·rw [decide_eq_false h]
   unfold vK
   simp
   omega
 have key2:∀ x y:Nat,vK (.int (y:Int)) (.int (x:Int))=decide (x=y):=fun x y=>by rw [key];exact decide_eq_decide.mpr ⟨Eq.symm,Eq.symm⟩
 unfold inV
 simp only [List.any_cons,List.any_nil,key2,Bool.or_false]
def z9 (K:PySem.W.Frag) (mg:Str→Option Value):Sp:=fun vs H Q E=>∃ (b:Addr) (side top:Str) (v u:V),vs=[.ref b,v,u]∧Bd mg H b side top∧Kd K H v∧Kd K H u∧
 (inB v 0 (((mS side+mS top:Nat):Int) - 1)=false→Vs mg H E v)∧(inB v 0 (((mS side+mS top:Nat):Int) - 1)=true→inB u 0 (((mS side+mS top:Nat):Int) - 1)=false→Vs mg H E u)∧
 (∀ l k:Nat,v= .int l→u= .int k→l < mS side+mS top→k < mS side+mS top→∀ q ws H',H q=none→Same H H'→H' q=some (.lst ws)→PrI H' ws (Qg side top l k)→Q (.ref q) H')
theorem qZ:aF ["self","line","other"] ["self","line","other"] (au cT):=⟨rfl,rfl,rfl,by decide+kernel,rfl,by decide+kernel,by decide+kernel⟩
theorem bA (T:Txt K mg):pJ P w K mg base 5 "Board" "meets" ["self","line","other"] (z9 K mg):=by
 have bH:=bH (P:=P) (w:=w) (base:=base) T
 refine yq T.m_Board_meets qZ (fun _ _ _ _ _ _ us hl=>L2.vA (fun _ _ _=>rfl) us hl) ?_ fun f cdv A outer s H vs Q E hr h=>?_
 ·rintro vs H Q E ⟨b,side,top,v,u,rfl,_⟩;rfl
 obtain ⟨b,side,top,v,u,rfl,hB,kv,ku,q1,q2,q3⟩:=h
 have hu:=hr.units0
 have hu64:=hr.units
 refine ⟨_,(aq (bL (dD (xW 0 Qf) T.o_Board bH (hr.mono (by decide)) dU (aa (aj 1 Uh) ao))) (aq (bL (dD (xW 0 Qf) T.o_Board bH (hr.mono (by decide)) dU (aa (xW 2 kz34) ao))) (aA (aG (uC (sub:=[none,some 2,some 0]) (jx (N:=["self","line","other"]) (sc:=au cT) (N':=["cell","other","self"]) (by decide+kernel)) rfl rfl rfl (jh (K:=K) rfl (bO (K:=K) rfl (o6 (K:=K) rfl (xW 0 Qf)) (aj 1 Uh))) (fun C s₀ H₀ ex=>(Bm 0 (by decide+kernel) oH)) (fun C s₀ H₀ ex=>(zu (bc (xR (K:=K) rfl) (zq 1 (by decide+kernel)) (bO (K:=K) rfl (bO (K:=K) rfl (o6 (K:=K) rfl (zq 2 (by decide+kernel))) (bO (K:=K) rfl (mZ 0 (by decide+kernel)) aB)) (bO (K:=K) rfl (mZ 0 (by decide+kernel)) aB)) (by first | exact aL _ | with_unfolding_all rfl)))) (fun C s₀ H₀ ex=>(mZ 0 (by decide+kernel)))))))),?_⟩
 walk_at "sts"
 have hz:20000≤sizeLine:=by decide
 have hB0:=hB
 obtain ⟨hs,ht,dx,ac,am,al,aw,hb,hO⟩:=hB
 refine ⟨b,dx,_,rfl,hb,w6 (by decide+kernel),?_⟩
 walk_at "sts"
 refine ⟨b,side,top,v,rfl,hB0,kv,fun hv=>q1 hv,fun hv=>?_⟩
 walk_at "sts"
 refine ⟨b,dx,_,rfl,hb,w6 (by decide+kernel),?_⟩
 walk_at "sts"
 refine ⟨b,side,top,u,rfl,hB0,ku,fun hv2=>q2 hv hv2,fun hv2=>?_⟩
 walk_at "sts"
 obtain ⟨l,rfl,hl⟩:=u5 hv
 obtain ⟨k,rfl,hk⟩:=u5 hv2
 obtain ⟨refs,hrf,hW⟩:=hO.ways
 obtain ⟨p,ws,e1,_,hp,hws⟩:=hW.2.1 l hl
 obtain ⟨cs,hcm,hG⟩:=hO.com
 have wl:=hws.len
 have wA:=u0 (m:=mS side) (C:=CB side top) (far:=mS top) l (mS side)
 have him:mS side*mS top≤48*48:=Nat.mul_le_mul hs.1 ht.1
 refine ⟨b,_,dx,_,_,rfl,hb,T.o_Board.cl,T.n_Board _ (by simp),rfl,?_⟩
 walk_at "sts"
 refine bT (SqL.of hrf) (bF e1) ?_
 walk_at "sts"
 refine .inl ⟨p,rfl,⟨_,SqL.of hp⟩,?_⟩
 refine tO (xs:=ws) (fun i ys H'=>H'=H∧PrI H ys (((qU (mS side) (CB side top) (mS top) (mS side) l).take i).filter (lD (mS side) (CB side top) k))∧ys.length≤i) (by omega) ⟨rfl,trivial,Nat.le_refl _⟩ ?_ ?_ ?_ ?_
 ·rintro i ys H' ⟨_,_,h⟩
  exact h
 ·rintro i ys H' ⟨rfl,_⟩
  exact SqL.of hp
 ·rintro i ys H' x hx ⟨rfl,hy,hyl⟩
  obtain ⟨cq,r,hL,rfl,hr2⟩:=hws.item hx
  obtain ⟨i',j',rfl,hi',hj'⟩:=zZ _ cq (List.mem_of_getElem? hL)
  obtain ⟨c,us,e2,_,hc,hus⟩:=hG.2 i' hi'
  obtain ⟨r2,e3,hr3⟩:=hus.get (zX hj')
  have tk:(qU (mS side) (CB side top) (mS top) (mS side) l).take (i+1)=(qU (mS side) (CB side top) (mS top) (mS side) l).take i ++ [((i':Int),(j':Int))]:=by rw [List.take_add_one,hL];rfl
  walk_at "sts"
  refine ⟨KeepSt.set rfl,?_⟩
  walk_at "sts"
  refine ⟨b,_,dx,_,_,rfl,hb,T.o_Board.cl,T.n_Board _ (by simp),rfl,?_⟩
  walk_at "sts"
  refine bT (SqL.of hcm) (bF e2) ?_
  walk_at "sts"
  refine bT (SqL.of hc) (bF e3) ?_
  walk_at "sts"
  refine .inr ⟨r2,_,rfl,.inr (SqT.of hr3),rfl,rfl,?_⟩
  walk_at "sts"
  have eI:inV (.int (k:Int)) [.int ((gA (mS side) (CB side top) i' j':Nat):Int),.int ((gD (mS side) (CB side top) j' i':Nat):Int)]=lD (mS side) (CB side top) k ((i':Int),(j':Int)):=J9 _ _ _
  rw [tk,List.filter_append]
  show if (inV (.int (k:Int)) [.int ((gA (mS side) (CB side top) i' j':Nat):Int),.int ((gD (mS side) (CB side top) j' i':Nat):Int)])=true then _ else _
  rw [eI]
  by_cases hc2:lD (mS side) (CB side top) k ((i':Int),(j':Int))=true
  ·rw [if_pos hc2,List.filter_cons_of_pos hc2]
   walk_at "sts"
   exact ⟨rfl,hy.push hr2,by simp;omega⟩
  ·rw [if_neg hc2,List.filter_cons_of_neg hc2,List.filter_nil,List.append_nil]
   exact ⟨rfl,hy,by omega⟩
 ·rintro ys H' ⟨rfl,hy,hyl⟩ D nD
  try walk_at "sts"
  rw [wl,List.take_length] at hy
  exact q3 l k rfl rfl hl hk D ys _ nD ((Same.refl H').upd nD) ak (hy.same ((Same.refl H').upd nD))
end
section
variable {P:Program} {w:World} {K:PySem.W.Frag} {mg:Str→Option Value} {base:Heap}
theorem Ui:aQ jA "_law_k":=by decide+kernel
theorem kz36:cJ jA "len":=by decide+kernel
theorem Uj:aQ jA "_law_script":=by decide+kernel
theorem Uk:aQ fM "_law_two_here":=by decide+kernel
theorem Qh:aQ fM "_law_one":=by decide+kernel
theorem Ul:aQ fM "_law_cell":=by decide+kernel
theorem kz3b:aQ fM "_law_k":=by decide+kernel
theorem Qi:aQ bJ "_law_cap":=by decide+kernel
theorem Qj:aQ bJ "_law_at_here":=by decide+kernel
theorem Qk:aQ bJ "_law_row":=by decide+kernel
theorem yD:aQ bJ "_law_new":=by decide+kernel
theorem Ql:cJ bJ "_law_mix":=by decide+kernel
theorem q9:aQ bJ "_law_cell":=by decide+kernel
theorem kz3i:cJ bJ "len":=by decide+kernel
theorem Um:cJ bJ "range":=by decide+kernel
theorem Gs:aQ bJ "_law_many":=by decide+kernel
theorem Qm:aQ bJ "_law_k":=by decide+kernel
theorem Qn:aQ bJ "_law_signs":=by decide+kernel
theorem Uo:aQ bJ "_law_shift":=by decide+kernel
theorem Qo:aQ bJ "_law_wide":=by decide+kernel
theorem Ka:aQ cY "_law_rows":=by decide+kernel
theorem Qp:aQ cY "_law_script":=by decide+kernel
theorem Kc:aQ cY "_law_cell":=by decide+kernel
theorem kz3s:cJ cY "_law_put":=by decide+kernel
theorem Up:aQ cY "_law_shift":=by decide+kernel
theorem Uq:aQ cY "_law_wide":=by decide+kernel
theorem kz3v:aQ cY "_law_cap":=by decide+kernel
theorem Ur:cJ cY "_law_at":=by decide+kernel
theorem Cm:aF ["_law_script","_law_k"] ["_law_script","_law_k"] (au jA):=⟨rfl,rfl,rfl,by decide+kernel,rfl,by decide+kernel,by decide+kernel⟩
theorem fu (T:Txt K mg):pC P w K mg base 1 "_law_at" ["_law_script","_law_k"] (Pb K):=by
 refine jz T.d_law_at Cm (fun _ _ _ _ _ _ us hl=>L2.mL (fun _ _=>rfl) us hl) ?_ fun f cdv A outer s H vs Q E hr h=>?_
 ·rintro vs H Q E ⟨a,ns,k,rfl,_⟩;rfl
 obtain ⟨a,ns,k,rfl,hS,h0,q⟩:=h
 have hu:=hr.units0
 have hu64:=hr.units
 refine ⟨_,(aq (bV (bc yZ (aj 1 Ui) (aD (aJ (K:=K) rfl) (bB kz36) T.b_len bU (aa (aj 0 Uj) ao) (by decide+kernel) (by decide+kernel)) (by first | exact aL _ | with_unfolding_all rfl)) (aA (aG (bO (K:=K) rfl (aj 0 Uj) (aj 1 Ui)))) bC) (aA (aG aB))),?_⟩
 walk_at "sts"
 refine ⟨_,_,rfl,.inl ⟨_,hS,rfl⟩,?_⟩
 walk_at "sts"
 refine uz (fun hk=>?_) (fun hk=>?_)
 ·rw [List.length_map] at hk
  walk_at "sts"
  refine bT hS (zp (v:=.int (ns.getD k.toNat 0)) h0 ?_) (q _)
  rw [List.getElem?_map,List.getD_eq_getElem?_getD,List.getElem?_eq_getElem (by omega)];rfl
 ·walk_at "sts"
  exact q _
def Us:Sp:=fun vs H Q _=>∃ n k:Int,vs=[.int n,.int k]∧∀ r,Q (.int r) H
theorem mJ:aF ["_law_cell","_law_k","_law_one","_law_two_here"] ["_law_cell","_law_k"] (au fM):=⟨rfl,rfl,rfl,by decide+kernel,rfl,by decide+kernel,by decide+kernel⟩
theorem eY (T:Txt K mg):pC P w K mg base 1 "_law_mix" ["_law_cell","_law_k"] Us:=by
 refine jz T.d_law_mix mJ (fun _ _ _ _ _ _ us hl=>L2.mL (fun _ _=>rfl) us hl) ?_ fun f cdv A outer s H vs Q E hr h=>?_
 ·rintro vs H Q E ⟨n,k,rfl,_⟩;rfl
 obtain ⟨n,k,rfl,q⟩:=h
 have hu:=hr.units0
 have hu64:=hr.units
 refine ⟨_,(aq (aC (i:=2) mJ.nd rfl (Or.inl Qh) (aU cP (aU jE (aU aY (aU aY (aU cP (aj 0 Ul) aB) (aU jE aB (aj 1 kz3b))) aB) aB) aB) rfl) (aq (aC (i:=3) mJ.nd rfl (Or.inl Uk) (aU cP (aU jE (aU aY (aU cP (aj 2 Qh) aB) aB) (aU aY (aU aY (aU gQ (aj 2 Qh) aB) (aU cP (aU gQ (aj 0 Ul) aB) aB)) aB)) aB) rfl) (aA (aG (aU gQ (aj 3 Uk) aB))))),?_⟩
 walk_at "sts"
 exact q _
theorem Lz (d:Int) (h0:0≤d) (h1:d < 27):∃ c,uh (Str.ofString "abcdefghijklmnopqrstuvwxyz.").cps.toList d=some c∧c∈GOOD:=by
 have key:∀ n:Nat,n < 27→∃ c,(Str.ofString "abcdefghijklmnopqrstuvwxyz.").cps.toList[n]?=some c∧c∈GOOD:=fun n hn=>by
  have hl:(Str.ofString "abcdefghijklmnopqrstuvwxyz.").cps.toList.length=27:=by decide+kernel
  refine ⟨_,List.getElem?_eq_getElem (by omega),?_⟩
  have all:∀ c∈(Str.ofString "abcdefghijklmnopqrstuvwxyz.").cps.toList,c∈GOOD:=by decide+kernel
  exact all _ (List.getElem_mem _)
 obtain ⟨c,e,hc⟩:=key d.toNat (by omega)
 refine ⟨c,?_,hc⟩
 have:d=((d.toNat:Nat):Int):=by omega
 rw [this]
 exact bF e
def gk (z:Str):Prop:=∀ c∈z.cps.toList,c∈GOOD
theorem tY {z:Str} {c:Nat} (h:gk z) (hc:c∈GOOD):gk (z ++ ⟨#[c]⟩):=fun d hd=>by
 have e:(z ++ ⟨#[c]⟩:Str).cps.toList=z.cps.toList ++ [c]:=by
  show (z.cps ++ #[c]).toList=_
  simp
 rw [e] at hd
 rcases List.mem_append.mp hd with k | k
 ·exact h d k
 ·rw [List.mem_singleton.mp k];exact hc
theorem nu (z y:Str):(z ++ y).length=z.length+y.length:=by
 show (z.cps ++ y.cps).size=_
 rw [Array.size_append];rfl
theorem tZ {z y:Str} (h:gk z) (h':gk y):gk (z ++ y):=fun d hd=>by
 have e:(z ++ y:Str).cps.toList=z.cps.toList ++ y.cps.toList:=by
  show (z.cps ++ y.cps).toList=_
  simp
 rw [e] at hd
 rcases List.mem_append.mp hd with k | k
 ·exact h d k
 ·exact h' d k
def Ut:Sp:=fun vs H Q _=>∃ (row:Str) (cell:Int) (cap:Nat) (wide shift:Int),vs=[.str row,.int cell,.int cap,.int wide,.int shift]∧gk row∧row.length≤cap∧1≤cap∧cap≤48∧1≤wide∧wide≤27∧∀ z:Str,gk z→z.length≤cap→Q (.str z) H
theorem wN {z:Str} {k:Nat} (h:gk z):gk (Txt.slice z none (some (k:Int))):=fun c hc=>by
 rw [v8] at hc
 exact h c (List.mem_of_mem_take hc)
theorem Cp {z:Str} {k:Nat} (h:gk z):gk (Txt.slice z (some (k:Int)) none):=fun c hc=>by
 rw [yg] at hc
 exact h c (List.mem_of_mem_drop hc)
theorem Ke (z:Str) (k:Nat):(Txt.slice z none (some (k:Int))).length≤k:=by
 have:(Txt.slice z none (some (k:Int))).length=(Txt.slice z none (some (k:Int))).cps.toList.length:=by simp [Str.length]
 rw [this,v8,List.length_take]
 exact Nat.min_le_left _ _
theorem bR:aF ["_law_row","_law_cell","_law_cap","_law_wide","_law_shift","_law_signs","_law_new","_law_many","_law_k","_law_at_here"] ["_law_row","_law_cell","_law_cap","_law_wide","_law_shift"] (au bJ):=⟨rfl,rfl,rfl,by decide+kernel,rfl,by decide+kernel,by decide+kernel⟩
theorem oJ (T:Txt K mg):pC P w K mg base 2 "_law_put" ["_law_row","_law_cell","_law_cap","_law_wide","_law_shift"] Ut:=by
 have eY:=eY (P:=P) (w:=w) (base:=base) T
 refine jz T.d_law_put bR (fun _ _ _ _ _ _ us hl=>L2.usN5 (fun _ _ _ _ _=>rfl) us hl) ?_ fun f cdv A outer s H vs Q E hr h=>?_
 ·rintro vs H Q E ⟨row,cell,cap,wide,shift,rfl,_⟩;rfl
 obtain ⟨row,cell,cap,wide,shift,rfl,hg,hl,hc1,hc2,hw1,hw2,q⟩:=h
 have hu:=hr.units0
 have hu64:=hr.units
 refine ⟨_,(aq (aC (i:=5) bR.nd rfl (Or.inl Qn) m5 rfl) (aq (aC (i:=6) bR.nd rfl (Or.inl yD) m5 rfl) (aq (bV (bc RC (aj 1 q9) (aU Nb aB aB) (by first | exact aL _ | with_unfolding_all rfl)) (aq (aC (i:=7) bR.nd rfl (Or.inl Gs) (aU cP (aj 1 q9) (aU aY (aj 2 Qi) aB)) rfl) (aq (aC (i:=1) bR.nd rfl (Or.inl q9) (aU gQ (aj 1 q9) (aU aY (aj 2 Qi) aB)) rfl) (aq (bZ PassesOwn.never rfl (cA (bB Um) T.b_range (aa (aj 7 Gs) ao)) (aH (i:=8) bR.nd rfl (Or.inl Qm) rfl) (aq (aC (i:=6) bR.nd rfl (Or.inl yD) (aU aY (aj 6 yD) (bO (K:=K) rfl (aj 5 Qn) (aU cP (aU aY (aj 4 Uo) (aU jE aB (aU cP (aj 1 q9) (aj 3 Qo)))) aB))) rfl) (aA (aC (i:=1) bR.nd rfl (Or.inl q9) (aU gQ (aj 1 q9) (aj 3 Qo)) rfl)))) (aA (aG (aj 6 yD)))))) bC) (aq (aC (i:=7) bR.nd rfl (Or.inl Gs) aB rfl) (aq (bV (bc (uF (K:=K) rfl hu64) (aU cP (aj 1 q9) aB) aB (by first | exact aL _ | with_unfolding_all rfl)) (aA (aC (i:=7) bR.nd rfl (Or.inl Gs) (aU aY aB (aU cP (bx eY (hr.mono (by decide)) (bB Ql) (aa (aj 1 q9) (aa aB ao)) (by decide+kernel)) aB)) rfl)) bC) (aq (bZ PassesOwn.never rfl (cA (bB Um) T.b_range (aa (aj 7 Gs) ao)) (aH (i:=8) bR.nd rfl (Or.inl Qm) rfl) (aA (aC (i:=6) bR.nd rfl (Or.inl yD) (aU aY (aj 6 yD) (bO (K:=K) rfl (aj 5 Qn) (aU cP (aU aY (aj 4 Uo) (aU jE aB (aU cP (bx eY (hr.mono (by decide)) (bB Ql) (aa (aj 1 q9) (aa (aU aY (aj 8 Qm) aB) ao)) (by decide+kernel)) (aj 3 Qo)))) aB))) rfl))) (aq (aC (i:=9) bR.nd rfl (Or.inl Qj) (aU cP (bx eY (hr.mono (by decide)) (bB Ql) (aa (aj 1 q9) (aa aB ao)) (by decide+kernel)) (aU aY (aD (aJ (K:=K) rfl) (bB kz3i) T.b_len bU (aa (aj 0 Qk) ao) (by decide+kernel) (by decide+kernel)) aB)) rfl) (aA (aG (pO (pN (K:=K) rfl) (aU aY (aU aY (pO (pN (K:=K) rfl) (aj 0 Qk) uB (m7 (aj 9 Qj))) (aj 6 yD)) (pO (pN (K:=K) rfl) (aj 0 Qk) (m7 (aj 9 Qj)) uB)) uB (m7 (aj 2 Qi)))))))))))),?_⟩
 walk_at "sts"
 have hz:20000≤sizeLine:=by decide
 have hsl:(Str.ofString "abcdefghijklmnopqrstuvwxyz.").length≤sizeLine:=Nat.le_trans (show _≤100 by decide+kernel) (by decide)
 have gE:gk (Str.ofString ""):=fun c hc=>by
  have e:(Str.ofString "").cps.toList=[]:=by decide+kernel
  rw [e] at hc;cases hc
 have lE:(Str.ofString "").length=0:=by decide+kernel
 refine uz (fun hg1=>?_) (fun hg1=>?_)
 ·clear hg1
  walk_at "sts"
  obtain ⟨mn,emn⟩:∃ mn:Nat,cell % ((cap:Int)+1)=mn:=⟨_,(Int.toNat_of_nonneg (Int.emod_nonneg _ (by omega))).symm⟩
  have hmn:mn≤cap:=by have:=Int.emod_lt_of_pos cell (show (0:Int) < (cap:Int)+1 by omega);omega
  rw [emn]
  refine ⟨_,rfl,by omega,by omega,?_⟩
  rw [show ((mn:Int)).toNat=mn by omega]
  refine cV (n:=mn) (fun i σ H'=>H'=H∧∃ (c':Int) (y:Str) (x8 x9:Option V),σ=[some (.str row),some (.int c'),some (.int cap),some (.int wide),some (.int shift),some (.str (Str.ofString "abcdefghijklmnopqrstuvwxyz.")),some (.str y),some (.int mn),x8,x9]∧gk y∧y.length=i)
   ⟨rfl,_,_,_,_,rfl,gE,lE⟩ ?_ ?_
  ·rintro i σ H' hi ⟨rfl,c',y,x8,x9,rfl,hy,hyl⟩
   obtain ⟨d,hd,hdg⟩:=Lz ((shift+5*(c' % wide)) % 27) (Int.emod_nonneg _ (by decide)) (Int.emod_lt_of_pos _ (by decide))
   walk_at "sts"
   refine oZ hsl hd ?_
   walk_at "sts"
   refine qy (by rw [Iz];omega) ?_
   walk_at "sts"
   exact ⟨rfl,_,_,_,_,rfl,tY hy hdg,by rw [nu,Iz];omega⟩
  ·rintro σ H' ⟨rfl,c',y,x8,x9,rfl,hy,hyl⟩
   walk_at "sts"
   exact q y hy (by omega)
 ·clear hg1
  walk_at "stn"
  with_reducible refine tK ?_
  walk_at "stn"
  with_reducible refine Ft (fun σ H'=>H'=H∧∃ mn:Nat,1≤mn∧mn≤12∧σ=[some (.str row),some (.int cell),some (.int cap),some (.int wide),some (.int shift),some (.str (Str.ofString "abcdefghijklmnopqrstuvwxyz.")),some (.str (Str.ofString "")),some (.int mn),none,none]) ?_ ?_
  rotate_left
  ·intro N hN
   walk_at "stn"
   refine uz (fun h=>?_) (fun h=>?_)
   ·walk_at "stn"
    refine ⟨_,_,rfl,fun r=>?_⟩
    walk_at "stn"
    obtain ⟨m1,e1⟩:∃ m1:Nat,2+r % 11=m1:=⟨(2+r % 11).toNat,by omega⟩
    rw [e1]
    exact hN _ _ ⟨rfl,m1,by omega,by omega,rfl⟩
   ·walk_at "stn"
    exact hN _ _ ⟨rfl,1,by omega,by omega,rfl⟩
  ·rintro σ H' ⟨rfl,mn,h1,h12,rfl⟩
   walk_at "sts"
   refine ⟨_,rfl,by omega,by omega,?_⟩
   rw [show ((mn:Int)).toNat=mn by omega]
   refine cV (n:=mn) (fun i σ G=>G=H'∧∃ (y:Str) (x8 x9:Option V),σ=[some (.str row),some (.int cell),some (.int cap),some (.int wide),some (.int shift),some (.str (Str.ofString "abcdefghijklmnopqrstuvwxyz.")),some (.str y),some (.int mn),x8,x9]∧gk y∧y.length=i)
    ⟨rfl,_,_,_,rfl,gE,lE⟩ ?_ ?_
   ·rintro i σ G hi ⟨rfl,y,x8,x9,rfl,hy,hyl⟩
    walk_at "sts"
    refine ⟨_,_,rfl,fun r=>?_⟩
    walk_at "sts"
    obtain ⟨d,hd,hdg⟩:=Lz ((shift+5*(r % wide)) % 27) (Int.emod_nonneg _ (by decide)) (Int.emod_lt_of_pos _ (by decide))
    refine oZ hsl hd ?_
    walk_at "sts"
    refine qy (by rw [Iz];omega) ?_
    walk_at "sts"
    exact ⟨rfl,_,_,_,rfl,tY hy hdg,by rw [nu,Iz];omega⟩
   ·rintro σ G ⟨rfl,y,x8,x9,rfl,hy,hyl⟩
    have lr:row.length≤sizeLine:=by omega
    walk_at "sts"
    refine ⟨_,_,rfl,fun r=>?_⟩
    walk_at "sts"
    refine gq lr ?_
    walk_at "sts"
    obtain ⟨k,ek⟩:∃ k:Nat,r % ((row.length:Int)+1)=k:=⟨_,(Int.toNat_of_nonneg (Int.emod_nonneg _ (by omega))).symm⟩
    rw [ek]
    have l1:=Txt.slice_le row none (some (k:Int))
    have l2:=Txt.slice_le row (some (k:Int)) none
    walk_at "sts"
    refine Es lr ?_
    walk_at "sts"
    refine qy (by omega) ?_
    walk_at "sts"
    refine Es lr ?_
    walk_at "sts"
    refine qy (by rw [nu];omega) ?_
    walk_at "sts"
    refine Es (by rw [nu,nu];omega) ?_
    walk_at "sts"
    exact q _ (wN (tZ (tZ (wN hg) hy) (Cp hg))) (Ke _ _)
theorem Kf {xs:List V} {lo hi:Option Int} {x:V} (h:x∈my xs lo hi):x∈xs:=by
 unfold my at h
 first
 | exact List.mem_of_mem_drop (List.mem_of_mem_take h)
 | exact List.mem_of_mem_take (List.mem_of_mem_drop h)
def Uu (K:PySem.W.Frag):Sp:=fun vs H Q _=>∃ (a:Addr) (ns:List Int) (cap:Nat),vs=[.ref a,.int cap]∧SqL K H a (ns.map V.int)∧ns.length≤63∧1≤cap∧cap≤48∧∀ (r:Addr) (z y:Str) H',Same H H'→H' r=some (.lst [.str z,.str y])→Row z→Row y→z.length≤cap→y.length≤cap→Q (.ref r) H'
theorem ie:aF ["_law_script","_law_cap","_law_wide","_law_shift","_law_rows","_law_cell"] ["_law_script","_law_cap"] (au cY):=⟨rfl,rfl,rfl,by decide+kernel,rfl,by decide+kernel,by decide+kernel⟩
theorem oK (T:Txt K mg):pC P w K mg base 3 "_law_two" ["_law_script","_law_cap"] (Uu K):=by
 have fu:=fu (P:=P) (w:=w) (base:=base) T
 have oJ:=oJ (P:=P) (w:=w) (base:=base) T
 refine jz T.d_law_two ie (fun _ _ _ _ _ _ us hl=>L2.mL (fun _ _=>rfl) us hl) ?_ fun f cdv A outer s H vs Q E hr h=>?_
 ·rintro vs H Q E ⟨a,ns,cap,rfl,_⟩;rfl
 obtain ⟨a,ns,cap,rfl,hS,hlen,hc1,hc2,q⟩:=h
 have hu:=hr.units0
 have hu64:=hr.units
 refine ⟨_,(aq (aC (i:=2) ie.nd rfl (Or.inl Uq) (bO (K:=K) rfl (fc (aa aB (aa aB (aa aB (aa aB (aa aB (aa aB ao))))))) (aU cP (bx fu (hr.mono (by decide)) (bB Ur) (aa (aj 0 Qp) (aa aB ao)) (by decide+kernel)) aB)) rfl) (aq (aC (i:=3) ie.nd rfl (Or.inl Up) (aU cP (aU gQ (bx fu (hr.mono (by decide)) (bB Ur) (aa (aj 0 Qp) (aa aB ao)) (by decide+kernel)) aB) aB) rfl) (aq (aC (i:=4) ie.nd rfl (Or.inl Ka) (fc (aa m5 (aa m5 ao))) rfl) (aq (bZ PassesOwn.never rfl (jh (K:=K) rfl (pO (pN (K:=K) rfl) (aj 0 Qp) (m7 aB) (m7 aB))) (aH (i:=5) ie.nd rfl (Or.inl Kc) rfl) (aA (uD (ts:=vJ) (bx oJ (hr.mono (by decide)) (bB kz3s) (aa (bO (K:=K) rfl (aj 4 Ka) (aU cP (aj 5 Kc) aB)) (aa (aU gQ (aj 5 Kc) aB) (aa (aj 1 kz3v) (aa (aj 2 Uq) (aa (aj 3 Up) ao))))) (by decide+kernel)) (xX (aj 4 Ka) (aU cP (aj 5 Kc) aB) set_list)))) (aA (aG (aj 4 Ka))))))),?_⟩
 walk_at "sts"
 have hz:20000≤sizeLine:=by decide
 refine iy rfl fun p1 n1=>?_
 walk_at "sts"
 have S1:=(Same.refl H).upd n1 (o:=.lst [.int 2,.int 3,.int 1,.int 4,.int 6,.int 27])
 have f1:=ak (H:=H) (a:=p1) (o:=.lst [.int 2,.int 3,.int 1,.int 4,.int 6,.int 27])
 generalize upd H p1 (.lst [.int 2,.int 3,.int 1,.int 4,.int 6,.int 27])=H1 at S1 f1 ⊢
 refine ⟨a,ns,0,rfl,S1.seq hS,by omega,fun c0=>?_⟩
 walk_at "sts"
 obtain ⟨wd,hwd,ewd⟩:=Lg (vs:=[V.int 2,.int 3,.int 1,.int 4,.int 6,.int 27]) (d:=c0 % 6) (by omega) (by show c0 % 6 < 6;omega)
 obtain ⟨wide,rfl,hw1,hw2⟩:∃ wide:Int,wd= .int wide∧1≤wide∧wide≤27:=by
  simp only [List.mem_cons,List.mem_nil_iff,or_false] at hwd
  rcases hwd with rfl | rfl | rfl | rfl | rfl | rfl <;> exact ⟨_,rfl,by decide,by decide⟩
 refine bT (SqL.of f1) ewd ?_
 walk_at "sts"
 refine ⟨a,ns,0,rfl,S1.seq hS,by omega,fun c1=>?_⟩
 walk_at "sts"
 refine iy rfl fun rw nrw=>?_
 walk_at "sts"
 have S2:=S1.upd nrw (o:=.lst [.str (Str.ofString ""),.str (Str.ofString "")])
 have f2:=ak (H:=H1) (a:=rw) (o:=.lst [.str (Str.ofString ""),.str (Str.ofString "")])
 have nrw0:=Same.back S1 nrw
 generalize upd H1 rw (.lst [.str (Str.ofString ""),.str (Str.ofString "")])=H2 at S2 f2 ⊢
 walk_at "sts"
 refine Sg (S2.seq hS) fun sl nsl=>?_
 walk_at "sts"
 have S3:=S2.upd nsl (o:=.lst (my (ns.map V.int) (some 1) (some 63)))
 have f3:=aX nsl f2 (o:=.lst (my (ns.map V.int) (some 1) (some 63)))
 have f4:=ak (H:=H2) (a:=sl) (o:=.lst (my (ns.map V.int) (some 1) (some 63)))
 have nsl0:H2 sl=none:=nsl
 have srw:sl≠rw:=fun z=>by rw [z,f2] at nsl;cases nsl
 generalize upd H2 sl (.lst (my (ns.map V.int) (some 1) (some 63)))=H3 at S3 f3 f4 ⊢
 have gE:gk (Str.ofString ""):=fun c hc=>by
  have e:(Str.ofString "").cps.toList=[]:=by decide+kernel
  rw [e] at hc;cases hc
 have lE:(Str.ofString "").length=0:=by decide+kernel
 have sG:=S3
 refine .inl ⟨sl,rfl,⟨_,SqL.of f4⟩,?_⟩
 refine ju (xs:=my (ns.map V.int) (some 1) (some 63)) (fun i σ H'=>∃ (z y:Str) (x5:Option V),σ=[some (.ref a),some (.int cap),some (.int wide),some (.int (c1 / 6 % 27)),some (.ref rw),x5]∧Same H H'∧H' sl=some (.lst (my (ns.map V.int) (some 1) (some 63)))∧H' rw=some (.lst [.str z,.str y])∧gk z∧gk y∧z.length≤cap∧y.length≤cap)
  ⟨_,_,_,rfl,S3,f4,f3,gE,gE,by omega,by omega⟩ (fun i σ H' _ h=>?_) ?_ ?_
 ·obtain ⟨_,_,_,_,_,h,_⟩:=h
  exact SqL.of h
 ·rintro k v σ H' hk ⟨z,y,x5,rfl,s,h4,h3,gz,gy,lz,ly⟩
  obtain ⟨n,rfl⟩:∃ n:Int,v= .int n:=by
   have hm:=Kf (List.mem_of_getElem? hk)
   obtain ⟨n,_,e⟩:=List.mem_map.mp hm
   exact ⟨n,e.symm⟩
  have h2:n % 2=0∨n % 2=1:=by omega
  rcases h2 with e | e
  ·walk_at "sts"
   rw [e]
   refine bT (SqL.of h3) rfl ?_
   walk_at "sts"
   refine ⟨z,_,cap,wide,_,rfl,gz,lz,hc1,hc2,hw1,hw2,fun z' gz' lz'=>?_⟩
   walk_at "sts"
   rw [e]
   refine eZ h3 (n:=0) rfl ?_
   walk_at "sts"
   exact ⟨z',y,_,rfl,Same.put s nrw0,by rw [az srw];exact h4,ak,gz',gy,lz',ly⟩
  ·walk_at "sts"
   rw [e]
   refine bT (SqL.of h3) rfl ?_
   walk_at "sts"
   refine ⟨y,_,cap,wide,_,rfl,gy,ly,hc1,hc2,hw1,hw2,fun z' gz' lz'=>?_⟩
   walk_at "sts"
   rw [e]
   refine eZ h3 (n:=1) rfl ?_
   walk_at "sts"
   exact ⟨z,z',_,rfl,Same.put s nrw0,by rw [az srw];exact h4,ak,gz,gz',lz,lz'⟩
 ·rintro σ H' ⟨z,y,x5,rfl,s,h4,h3,gz,gy,lz,ly⟩
  walk_at "sts"
  exact q rw z y H' s h3 ⟨by omega,gz⟩ ⟨by omega,gy⟩ lz ly
end
section
variable {P:Program} {w:World} {K:PySem.W.Frag} {mg:Str→Option Value} {base:Heap}
theorem kz3x:cJ b8 "range":=by decide+kernel
theorem Gu:aQ b8 "_law_k":=by decide+kernel
theorem Gv:aQ b8 "_law_found":=by decide+kernel
theorem kz40:aQ b8 "_law_due":=by decide+kernel
theorem Qq:cJ b8 "isinstance":=by decide+kernel
theorem kz42:cJ b8 "bool":=by decide+kernel
theorem kz43:cJ b8 "int":=by decide+kernel
theorem kz44:cJ b8 "len":=by decide+kernel
theorem kz45:cJ b8 "tuple":=by decide+kernel
theorem kz46:cJ bW "range":=by decide+kernel
theorem Qs:cJ bW "len":=by decide+kernel
theorem Qt:aQ bW "_law_due":=by decide+kernel
theorem Qu:aQ bW "_law_k":=by decide+kernel
theorem kz4a:cJ bW "_law_pair":=by decide+kernel
theorem Qv:aQ bW "_law_found":=by decide+kernel
theorem kz4c:cJ bW "isinstance":=by decide+kernel
theorem kz4d:cJ bW "list":=by decide+kernel
def Qw:Sp:=fun vs H Q _=>∃ (a b:Addr) (x y:Int),vs=[.ref a,.ref b]∧H a=some (.tup [.int x,.int y])∧H b=some (.tup [.int x,.int y])∧Q (.bl true) H
theorem o8:aF ["_law_found","_law_due","_law_k"] ["_law_found","_law_due"] (au b8):=⟨rfl,rfl,rfl,by decide+kernel,rfl,by decide+kernel,by decide+kernel⟩
theorem di (T:Txt K mg):pC P w K mg base 1 "_law_pair" ["_law_found","_law_due"] Qw:=by
 refine jz T.d_law_pair o8 (fun _ _ _ _ _ _ us hl=>L2.mL (fun _ _=>rfl) us hl) ?_ fun f cdv A outer s H vs Q E hr h=>?_
 ·rintro vs H Q E ⟨a,b,x,y,rfl,_⟩;rfl
 obtain ⟨a,b,x,y,rfl,ha,hb,q⟩:=h
 have hu:=hr.units0
 have hu64:=hr.units
 refine ⟨_,(aq (bV (gG (ir (dB (cG (aD (cH (K:=K) rfl) (bB Qq) T.b_isinstance bh (aa (aj 0 Gv) (aa (pG (bB kz45) T.b_tuple En (by decide+kernel) (by decide+kernel)) ao)) (by decide+kernel) (by decide+kernel)))) (jg (bc (gH (K:=K) rfl hu64) (aD (aJ (K:=K) rfl) (bB kz44) T.b_len bU (aa (aj 0 Gv) ao) (by decide+kernel) (by decide+kernel)) aB (by first | exact aL _ | with_unfolding_all rfl))))) (aA (aG jf)) bC) (aq (bZ PassesOwn.never rfl (cA (bB kz3x) T.b_range (aa aB ao)) (aH (i:=2) o8.nd rfl (Or.inl Gu) rfl) (aA (bV (gG (ir (dB (cG (aD (cH (K:=K) rfl) (bB Qq) T.b_isinstance bh (aa (bO (K:=K) rfl (aj 0 Gv) (aj 2 Gu)) (aa (pG (bB kz43) T.b_int xU (by decide+kernel) (by decide+kernel)) ao)) (by decide+kernel) (by decide+kernel)))) (ir (cG (aD (cH (K:=K) rfl) (bB Qq) T.b_isinstance bh (aa (bO (K:=K) rfl (aj 0 Gv) (aj 2 Gu)) (aa (pG (bB kz42) T.b_bool uy (by decide+kernel) (by decide+kernel)) ao)) (by decide+kernel) (by decide+kernel))) (jg (bc (gH (K:=K) rfl hu64) (bO (K:=K) rfl (aj 0 Gv) (aj 2 Gu)) (bO (K:=K) rfl (aj 1 kz40) (aj 2 Gu)) (by first | exact aL _ | with_unfolding_all rfl)))))) (aA (aG jf)) bC))) (aA (aG jf)))),?_⟩
 walk_at "sts"
 refine gw (.tup ha) rfl ?_
 walk_at "sts"
 refine Oi (SqT.of ha) ?_
 walk_at "sts"
 rw [show decide (V.int (([V.int x,V.int y]:List V).length:Int)=V.int 2)=true by rfl]
 walk_at "sts"
 refine ⟨_,rfl,by decide,by decide,?_⟩
 refine cV (n:=2) (fun i σ H'=>H'=H∧∃ x2,σ=[some (.ref a),some (.ref b),x2]) ⟨rfl,none,rfl⟩ ?_ ?_
 ·rintro i σ H' hi ⟨rfl,x2,rfl⟩
  obtain ⟨z,hat⟩:∃ z:Int,uh [V.int x,V.int y] (0+(i:Int))=some (.int z):=by
   match i,hi with
   | 0,_=>exact ⟨x,rfl⟩
   | 1,_=>exact ⟨y,rfl⟩
  walk_at "sts"
  refine fG (SqT.of ha) hat ?_
  walk_at "sts"
  refine gw (.int _) (b:=true) (by rfl) ?_
  walk_at "sts"
  refine fG (SqT.of ha) hat ?_
  walk_at "sts"
  refine gw (.int _) (b:=false) (by rfl) ?_
  walk_at "sts"
  refine fG (SqT.of ha) hat ?_
  walk_at "sts"
  refine fG (SqT.of hb) hat ?_
  walk_at "sts"
  rw [decide_eq_true rfl]
  walk_at "sts"
  exact ⟨rfl,_,rfl⟩
 ·rintro σ H' ⟨rfl,x2,rfl⟩
  walk_at "sts"
  exact q
def Kg:Sp:=fun vs H Q _=>∃ (a b:Addr) (ws us:List V) (L:List (Int×Int)),vs=[.ref a,.ref b]∧H a=some (.lst ws)∧H b=some (.lst us)∧PrI H ws L∧PrI H us L∧L.length≤10000∧Q (.bl true) H
theorem nF:aF ["_law_found","_law_due","_law_k"] ["_law_found","_law_due"] (au bW):=⟨rfl,rfl,rfl,by decide+kernel,rfl,by decide+kernel,by decide+kernel⟩
theorem dH (T:Txt K mg):pC P w K mg base 2 "_law_pairs" ["_law_found","_law_due"] Kg:=by
 have di:=di (P:=P) (w:=w) (base:=base) T
 refine jz T.d_law_pairs nF (fun _ _ _ _ _ _ us hl=>L2.mL (fun _ _=>rfl) us hl) ?_ fun f cdv A outer s H vs Q E hr h=>?_
 ·rintro vs H Q E ⟨a,b,ws,us,L,rfl,_⟩;rfl
 obtain ⟨a,b,ws,us,L,rfl,ha,hb,hw,hu2,hl,q⟩:=h
 have hu:=hr.units0
 have hu64:=hr.units
 refine ⟨_,(aq (bV (gG (ir (dB (cG (aD (cH (K:=K) rfl) (bB kz4c) T.b_isinstance bh (aa (aj 0 Qv) (aa (pG (bB kz4d) T.b_list il (by decide+kernel) (by decide+kernel)) ao)) (by decide+kernel) (by decide+kernel)))) (jg (bc (gH (K:=K) rfl hu64) (aD (aJ (K:=K) rfl) (bB Qs) T.b_len bU (aa (aj 0 Qv) ao) (by decide+kernel) (by decide+kernel)) (aD (aJ (K:=K) rfl) (bB Qs) T.b_len bU (aa (aj 1 Qt) ao) (by decide+kernel) (by decide+kernel)) (by first | exact aL _ | with_unfolding_all rfl))))) (aA (aG jf)) bC) (aq (bZ PassesOwn.never rfl (cA (bB kz46) T.b_range (aa (aD (aJ (K:=K) rfl) (bB Qs) T.b_len bU (aa (aj 1 Qt) ao) (by decide+kernel) (by decide+kernel)) ao)) (aH (i:=2) nF.nd rfl (Or.inl Qu) rfl) (aA (bV (dB (cG (bx di (hr.mono (by decide)) (bB kz4a) (aa (bO (K:=K) rfl (aj 0 Qv) (aj 2 Qu)) (aa (bO (K:=K) rfl (aj 1 Qt) (aj 2 Qu)) ao)) (by decide+kernel)))) (aA (aG jf)) bC))) (aA (aG jf)))),?_⟩
 walk_at "sts"
 have hz:20000≤sizeLine:=by decide
 have l1:=hw.len
 have l2:=hu2.len
 refine gw (.lst ha) rfl ?_
 walk_at "sts"
 refine gn (SqL.of ha) ?_
 walk_at "sts"
 refine gn (SqL.of hb) ?_
 walk_at "sts"
 rw [l1,l2,decide_eq_true rfl]
 walk_at "sts"
 refine gn (SqL.of hb) ?_
 walk_at "sts"
 rw [l2]
 refine ⟨_,rfl,by omega,by omega,?_⟩
 rw [show ((L.length:Int)).toNat=L.length by omega]
 refine cV (n:=L.length) (fun i σ H'=>H'=H∧∃ x2,σ=[some (.ref a),some (.ref b),x2]) ⟨rfl,none,rfl⟩ ?_ ?_
 ·rintro i σ H' hi ⟨rfl,x2,rfl⟩
  have eL:L[i]?=some L[i]:=List.getElem?_eq_getElem hi
  obtain ⟨r,e1,h1⟩:=hw.get eL
  obtain ⟨r',e2,h2⟩:=hu2.get eL
  rw [Int.zero_add]
  walk_at "sts"
  refine bT (SqL.of ha) (bF e1) ?_
  walk_at "sts"
  refine bT (SqL.of hb) (bF e2) ?_
  walk_at "sts"
  refine ⟨r,r',_,_,rfl,h1,h2,?_⟩
  walk_at "sts"
  exact ⟨rfl,_,rfl⟩
 ·rintro σ H' ⟨rfl,x2,rfl⟩
  walk_at "sts"
  exact q
end
section
variable {P:Program} {w:World} {K:PySem.W.Frag} {mg:Str→Option Value} {base:Heap}
section
variable {m far:Nat} {C:Nat→Nat→Bool}
def fr (m far:Nat) (C:Nat→Nat→Bool) (i j p:Nat):Nat:=
 if p < m - 1 - i then p
 else if p < m - 1 - i+j then gD m C (p - (m - 1 - i)) (i+1)
 else if p=m - 1 - i+j then gA m C i j
 else if p≤m - 1 - i+far then gD m C (p - (m - 1 - i) - 1) i
 else gA m C (i - 1 - (p - (m - 1 - i+far+1))) far
theorem rm {i j p:Nat} (h:p < m - 1 - i):fr m far C i j p=p:=if_pos h
theorem rn {i j p:Nat} (h1:m - 1 - i≤p) (h2:p < m - 1 - i+j):fr m far C i j p=gD m C (p - (m - 1 - i)) (i+1):=by
 unfold fr;rw [if_neg (by omega),if_pos h2]
theorem j5 {i j:Nat}:fr m far C i j (m - 1 - i+j)=gA m C i j:=by
 unfold fr;rw [if_neg (by omega),if_neg (by omega),if_pos rfl]
theorem j6 {i j p:Nat} (h1:m - 1 - i+j < p) (h2:p≤m - 1 - i+far):fr m far C i j p=gD m C (p - (m - 1 - i) - 1) i:=by
 unfold fr;rw [if_neg (by omega),if_neg (by omega),if_neg (by omega),if_pos h2]
theorem rB {i j p:Nat} (hj:j≤far) (h:m - 1 - i+far < p):fr m far C i j p=gA m C (i - 1 - (p - (m - 1 - i+far+1))) far:=by
 unfold fr;rw [if_neg (by omega),if_neg (by omega),if_neg (by omega),if_neg (by omega)]
def sw (p0 p:Nat):Nat:=if p=p0 then p0+1 else if p=p0+1 then p0 else p
theorem Uv (p0:Nat):sw p0 p0=p0+1:=if_pos rfl
theorem Uw (p0:Nat):sw p0 (p0+1)=p0:=by unfold sw;rw [if_neg (by omega),if_pos rfl]
theorem sw_n {p0 p:Nat} (h1:p≠p0) (h2:p≠p0+1):sw p0 p=p:=by unfold sw;rw [if_neg h1,if_neg h2]
theorem Ux {p0 p q:Nat} (h:p < q) (hn:¬ (p=p0∧q=p0+1)):sw p0 p < sw p0 q:=by
 unfold sw
 split <;> split <;> (try split) <;> (try split) <;> omega
theorem Uy {p0 p n:Nat} (h:p < n) (h0:p0+1 < n):sw p0 p < n:=by
 unfold sw
 split <;> (try split) <;> omega
theorem pU {i j:Nat} (hj:j < far) (p:Nat):fr m far C i (j+1) p=fr m far C i j (if C i j=true then p else sw (m - 1 - i+j) p):=by
 have hb:m - 1 - i+(j+1)=m - 1 - i+j+1:=by omega
 by_cases e1:p=m - 1 - i+j
 ·subst e1
  rw [rn (by omega) (by omega),show m - 1 - i+j - (m - 1 - i)=j by omega,kO]
  by_cases hc:C i j=true
  ·rw [if_pos hc,if_pos hc,j5]
  ·rw [if_neg hc,if_neg hc,Uv,j6 (by omega) (by omega),show m - 1 - i+j+1 - (m - 1 - i) - 1=j by omega]
 by_cases e2:p=m - 1 - i+j+1
 ·subst e2
  rw [← hb,j5,kJ,hb]
  by_cases hc:C i j=true
  ·rw [if_pos hc,if_pos hc,j6 (by omega) (by omega),show m - 1 - i+j+1 - (m - 1 - i) - 1=j by omega]
  ·rw [if_neg hc,if_neg hc,Uw,j5]
 have e3:(if C i j=true then p else sw (m - 1 - i+j) p)=p:=by
  split
  ·rfl
  ·exact sw_n e1 e2
 rw [e3]
 by_cases h1:p < m - 1 - i
 ·rw [rm h1,rm h1]
 by_cases h2:p < m - 1 - i+j
 ·rw [rn (by omega) (by omega),rn (by omega) h2]
 by_cases h3:p≤m - 1 - i+far
 ·rw [j6 (by omega) h3,j6 (by omega) h3]
 ·rw [rB (by omega) (by omega),rB (by omega) (by omega)]
theorem Gw {i:Nat} (hi:i+1 < m) (p:Nat):fr m far C (i+1) 0 p=fr m far C i far p:=by
 by_cases h1:p < m - 1 - (i+1)
 ·rw [rm h1,rm (by omega)]
 by_cases h2:p=m - 1 - (i+1)
 ·rw [rm (i:=i) (by omega),show p=m - 1 - (i+1)+0 by omega,j5,iz];omega
 by_cases h3:p≤m - 1 - (i+1)+far
 ·rw [j6 (by omega) h3,rn (by omega) (by omega),show p - (m - 1 - (i+1)) - 1=p - (m - 1 - i) by omega]
 rw [rB (by omega) (by omega)]
 by_cases h4:p=m - 1 - i+far
 ·rw [h4,j5,show i+1 - 1 - (m - 1 - i+far - (m - 1 - (i+1)+far+1))=i by omega]
 ·rw [rB (Nat.le_refl _) (by omega),show i+1 - 1 - (p - (m - 1 - (i+1)+far+1))=i - 1 - (p - (m - 1 - i+far+1)) by omega]
theorem wO (hm:0 < m) {p:Nat} (hp:p < m+far):fr m far C 0 0 p=p:=by
 by_cases h1:p < m - 1 - 0
 ·exact rm h1
 by_cases h2:p=m - 1 - 0+0
 ·rw [h2,j5,iz];omega
 rw [j6 (by omega) (by omega),iB];omega
def rG (m far:Nat) (C:Nat→Nat→Bool) (i j a b:Nat):Prop:=∃ i' j',(i' < i∨(i'=i∧j' < j))∧i' < m∧j' < far∧C i' j'=false∧gA m C i' j'=a∧gD m C j' i'=b
theorem nG {i j a b:Nat} (hi:i < m) (hj:j < far):rG m far C i (j+1) a b↔rG m far C i j a b∨(C i j=false∧gA m C i j=a∧gD m C j i=b):=by
 constructor
 ·rintro ⟨i',j',h,h1,h2,h3,h4,h5⟩
  by_cases e:i'=i∧j'=j
  ·obtain ⟨rfl,rfl⟩:=e
   exact .inr ⟨h3,h4,h5⟩
  ·exact .inl ⟨i',j',by omega,h1,h2,h3,h4,h5⟩
 ·rintro (⟨i',j',h,r⟩ | ⟨h3,h4,h5⟩)
  ·exact ⟨i',j',by omega,r⟩
  ·exact ⟨i,j,by omega,hi,hj,h3,h4,h5⟩
theorem pW {i a b:Nat}:rG m far C (i+1) 0 a b↔rG m far C i far a b:=by
 constructor <;> (rintro ⟨i',j',h,h1,h2,r⟩;exact ⟨i',j',by omega,h1,h2,r⟩)
def Ord (m far:Nat) (C:Nat→Nat→Bool) (i j:Nat):Prop:=∀ p q,p < q→q < m+far→(fr m far C i j p < fr m far C i j q∧¬ rG m far C i j (fr m far C i j p) (fr m far C i j q))∨(fr m far C i j q < fr m far C i j p∧rG m far C i j (fr m far C i j q) (fr m far C i j p))
theorem Ord.inj {i j p q:Nat} (h:Ord m far C i j) (hp:p < m+far) (hq:q < m+far) (e:fr m far C i j p=fr m far C i j q):p=q:=by
 rcases Nat.lt_trichotomy p q with g | g | g
 ·rcases h p q g hq with z | z <;> omega
 ·exact g
 ·rcases h q p g hp with z | z <;> omega
theorem Gx {i j:Nat} (hR:∀ i j,i < m→j < far→C i j=false→gA m C i j≤gD m C j i) (hi:i < m) (hj:j < far) (h:Ord m far C i j):Ord m far C i (j+1):=by
 intro p q hpq hq
 by_cases hc:C i j=true
 ·rw [pU hj,pU hj,if_pos hc,if_pos hc]
  have e:∀ a b,rG m far C i (j+1) a b↔rG m far C i j a b:=fun a b=>by
   rw [nG hi hj]
   exact ⟨fun z=>z.elim id fun z=>(by rw [hc] at z;cases z.1),.inl⟩
  rw [e,e]
  exact h p q hpq hq
 ·have hcf:C i j=false:=by simpa using hc
  have h0:m - 1 - i+j+1 < m+far:=by omega
  have ha:fr m far C i j (m - 1 - i+j)=gA m C i j:=j5
  have hd:fr m far C i j (m - 1 - i+j+1)=gD m C j i:=by rw [j6 (by omega) (by omega),show m - 1 - i+j+1 - (m - 1 - i) - 1=j by omega]
  rw [pU hj,pU hj,if_neg hc,if_neg hc]
  by_cases e:p=m - 1 - i+j∧q=m - 1 - i+j+1
  ·obtain ⟨rfl,rfl⟩:=e
   rw [Uv,Uw,ha,hd]
   have:=hR i j hi hj hcf
   rcases h _ _ hpq hq with z | z
   ·rw [ha,hd] at z
    exact .inr ⟨z.1,(nG hi hj).mpr (.inr ⟨hcf,rfl,rfl⟩)⟩
   ·rw [ha,hd] at z;omega
  ·have hs:=Ux hpq e
   have hq':=Uy hq h0
   have hp':sw (m - 1 - i+j) p < m+far:=by omega
   have key:∀ x y,(x=sw (m - 1 - i+j) p∧y=sw (m - 1 - i+j) q)∨(x=sw (m - 1 - i+j) q∧y=sw (m - 1 - i+j) p)→fr m far C i j y < fr m far C i j x∨(rG m far C i (j+1) (fr m far C i j x) (fr m far C i j y)↔rG m far C i j (fr m far C i j x) (fr m far C i j y)):=by
    intro x y hxy
    by_cases hlt:fr m far C i j y < fr m far C i j x
    ·exact .inl hlt
    ·refine .inr ?_
     rw [nG hi hj]
     refine ⟨fun z=>z.elim id fun z=>?_,.inl⟩
     exfalso
     have hx:x < m+far:=by omega
     have hy:y < m+far:=by omega
     have e1:=h.inj hx (show m - 1 - i+j < m+far by omega) (by rw [ha,z.2.1])
     have e2:=h.inj hy h0 (by rw [hd,z.2.2])
     rcases hxy with ⟨u1,u2⟩ | ⟨u1,u2⟩
     ·have g1:sw (m - 1 - i+j) p=m - 1 - i+j:=by omega
      have g2:sw (m - 1 - i+j) q=m - 1 - i+j+1:=by omega
      unfold sw at g1 g2
      split at g1 <;> split at g2 <;> (try split at g1) <;> (try split at g2) <;> omega
     ·omega
   rcases h _ _ hs hq' with z | z
   ·rcases key _ _ (.inl ⟨rfl,rfl⟩) with g | g
    ·omega
    ·exact .inl ⟨z.1,fun y=>z.2 (g.mp y)⟩
   ·rcases key _ _ (.inr ⟨rfl,rfl⟩) with g | g
    ·omega
    ·exact .inr ⟨z.1,g.mpr z.2⟩
theorem nH (hR:∀ i j,i < m→j < far→C i j=false→gA m C i j≤gD m C j i):∀ i j,i < m→j≤far→Ord m far C i j
 | 0,0,hi,_=>fun p q hpq hq=>by
  rw [wO (by omega) (by omega),wO (by omega) hq]
  refine .inl ⟨hpq,?_⟩
  rintro ⟨i',j',h,_⟩
  omega
 | i+1,0,hi,_=>fun p q hpq hq=>by
  rw [Gw hi,Gw hi,pW,pW]
  exact nH hR i far (by omega) (Nat.le_refl _) p q hpq hq
 | i,j+1,hi,hj=>Gx hR hi (by omega) (nH hR i j hi (by omega))
termination_by i j=>(i,j)
theorem rC (hR:∀ i j,i < m→j < far→C i j=false→gA m C i j≤gD m C j i) {i j:Nat} (hi:i < m) (hj:j < far):(gA m C i j < gD m C j i∧¬ rG m far C i j (gA m C i j) (gD m C j i))∨(gD m C j i < gA m C i j∧rG m far C i j (gD m C j i) (gA m C i j)):=by
 have h:=nH hR i j hi (by omega) (m - 1 - i+j) (m - 1 - i+j+1) (by omega) (by omega)
 rw [j5,j6 (by omega) (by omega),show m - 1 - i+j+1 - (m - 1 - i) - 1=j by omega] at h
 exact h
theorem absent (hR:∀ i j,i < m→j < far→C i j=false→gA m C i j≤gD m C j i) {i j p l:Nat} (hi:i < m) (hj:j < far) (hp:p < m+far) (h1:p≠m - 1 - i+j) (h2:p≠m - 1 - i+j+1) (hl:fr m far C i j p=l):gA m C i j≠l∧gD m C j i≠l:=by
 have h:=nH hR i j hi (by omega)
 refine ⟨fun e=>h1 (h.inj hp (by omega) (by rw [j5,hl,e])),fun e=>h2 (h.inj hp (by omega) ?_)⟩
 rw [j6 (p:=m - 1 - i+j+1) (by omega) (by omega),show m - 1 - i+j+1 - (m - 1 - i) - 1=j by omega,hl,e]
theorem Gy (hR:∀ i j,i < m→j < far→C i j=false→gA m C i j≤gD m C j i) {i j j' l:Nat} (hi:i < m) (h1:j < j') (h2:j' < far) (hl:gD m C j (i+1)=l):gA m C i j'≠l∧gD m C j' i≠l:=
 absent hR (p:=m - 1 - i+j) hi h2 (by omega) (by omega) (by omega) (by rw [rn (by omega) (by omega),show m - 1 - i+j - (m - 1 - i)=j by omega];exact hl)
theorem Kh (hR:∀ i j,i < m→j < far→C i j=false→gA m C i j≤gD m C j i) {i j j' l:Nat} (hi:i+1 < m) (h1:j' < j) (h2:j < far) (hl:gD m C j (i+1)=l):gA m C (i+1) j'≠l∧gD m C j' (i+1)≠l:=
 absent hR (p:=m - 1 - (i+1)+j+1) hi (by omega) (by omega) (by omega) (by omega) (by rw [j6 (by omega) (by omega),show m - 1 - (i+1)+j+1 - (m - 1 - (i+1)) - 1=j by omega];exact hl)
theorem Gz (hR:∀ i j,i < m→j < far→C i j=false→gA m C i j≤gD m C j i) {i i' j' l:Nat} (h0:i < i') (h1:i' < m) (h2:j' < far) (hl:gA m C i far=l):gA m C i' j'≠l∧gD m C j' i'≠l:=
 absent hR (p:=m - 1 - i'+far+1+(i' - 1 - i)) h1 h2 (by omega) (by omega) (by omega) (by rw [rB (by omega) (by omega),show i' - 1 - (m - 1 - i'+far+1+(i' - 1 - i) - (m - 1 - i'+far+1))=i by omega];exact hl)
theorem GC (hR:∀ i j,i < m→j < far→C i j=false→gA m C i j≤gD m C j i) {i' j' l:Nat} (h1:i' < m - 1 - l) (h2:j' < far):gA m C i' j'≠l∧gD m C j' i'≠l:=
 absent hR (p:=l) (by omega) h2 (by omega) (by omega) (by omega) (rm (by omega))
theorem GD (hR:∀ i j,i < m→j < far→C i j=false→gA m C i j≤gD m C j i) {j' l:Nat} (hm:0 < m) (h1:m+j' < l) (h2:l < m+far):gA m C 0 j'≠l∧gD m C j' 0≠l:=
 absent hR (p:=l) hm (by omega) h2 (by omega) (by omega) (by rw [j6 (by omega) (by omega),iB];omega)
theorem wQ (hR:∀ i j,i < m→j < far→C i j=false→gA m C i j≤gD m C j i) {R:List Int} (hE:jH m C far R) {a b:Nat} (hab:a < b) (hb:b < m+far):
  ∃ x y:Int,R[a]?=some x∧R[b]?=some y∧(y < x↔rG m far C m 0 a b):=by
 obtain ⟨hl,h1,h2⟩:=hE
 by_cases hm:m=0
 ·subst hm
  have g:∀ c,c < far→R[c]?=some (c:Int):=fun c hc=>by have:=h1 c hc;rw [iB] at this;simpa using this
  refine ⟨a,b,g a (by omega),g b (by omega),?_⟩
  constructor
  ·intro z;omega
  ·rintro ⟨i',j',_,z,_⟩;omega
 ·have hat:∀ p,p < m+far→R[fr m far C (m - 1) far p]?=some (p:Int):=fun p hp=>by
   by_cases e1:p < far
   ·rw [rn (by omega) (by omega),show p - (m - 1 - (m - 1))=p by omega,show m - 1+1=m by omega]
    exact h1 p e1
   ·by_cases e2:p=far
    ·subst e2
     rw [show fr m p C (m - 1) p p=gA m C (m - 1) p from by
      have:=j5 (m:=m) (far:=p) (C:=C) (i:=m - 1) (j:=p)
      rwa [show m - 1 - (m - 1)+p=p by omega] at this]
     rw [h2 (m - 1) (by omega)];congr 1;omega
    ·rw [rB (Nat.le_refl _) (by omega),h2 _ (by omega)];congr 1;omega
  have sur:∀ c,c < m+far→∃ p,p < m+far∧fr m far C (m - 1) far p=c:=fun c hc=>by
   have:=(jC (m:=m) (C:=C) far).mem_iff (a:=c)
   rcases List.mem_append.mp (this.mpr (List.mem_range.mpr hc)) with h | h
   ·obtain ⟨k,hk,rfl⟩:=List.mem_map.mp h
    have hk:=List.mem_range.mp hk
    refine ⟨far+(m - 1 - k),by omega,?_⟩
    by_cases e:k=m - 1
    ·subst e
     have:=j5 (m:=m) (far:=far) (C:=C) (i:=m - 1) (j:=far)
     rwa [show m - 1 - (m - 1)+far=far+(m - 1 - (m - 1)) by omega] at this
    ·rw [rB (Nat.le_refl _) (by omega)];congr 1;omega
   ·obtain ⟨k,hk,rfl⟩:=List.mem_map.mp h
    have hk:=List.mem_range.mp hk
    exact ⟨k,by omega,by rw [rn (by omega) (by omega),show k - (m - 1 - (m - 1))=k by omega,show m - 1+1=m by omega]⟩
  obtain ⟨p,hp,ep⟩:=sur a (by omega)
  obtain ⟨q,hq,eq⟩:=sur b hb
  have ra:=hat p hp
  have rb:=hat q hq
  rw [ep] at ra
  rw [eq] at rb
  refine ⟨p,q,ra,rb,?_⟩
  have hO:=nH hR (m - 1) far (by omega) (Nat.le_refl _)
  have ec:rG m far C m 0 a b↔rG m far C (m - 1) far a b:=by
   have:=pW (m:=m) (far:=far) (C:=C) (i:=m - 1) (a:=a) (b:=b)
   rwa [show m - 1+1=m by omega] at this
  rw [ec]
  rcases Nat.lt_trichotomy p q with g | g | g
  ·rcases hO p q g hq with z | z
   ·rw [ep,eq] at z
    exact ⟨fun y=>by omega,fun y=>absurd y z.2⟩
   ·rw [ep,eq] at z;omega
  ·subst g;rw [ep] at eq;omega
  ·rcases hO q p g hp with z | z
   ·rw [ep,eq] at z;omega
   ·rw [ep,eq] at z
    exact ⟨fun _=>z.2,fun _=>by omega⟩
end
end
section
variable {P:Program} {w:World} {K:PySem.W.Frag} {mg:Str→Option Value} {base:Heap}
section
variable {m far:Nat} {C:Nat→Nat→Bool}
abbrev II:=Int×Int
def Aa (i j:Nat):List II:=(List.range j).map fun k:Nat=>((i:Int),(k:Int))
def o9 (far i j:Nat):List II:=(List.range i).flatMap (fun k=>Aa k far) ++ Aa i j
theorem GF (i j:Nat):Aa i (j+1)=Aa i j ++ [((i:Int),(j:Int))]:=by unfold Aa;rw [List.range_succ,List.map_append];rfl
theorem j7 (far i j:Nat):o9 far i (j+1)=o9 far i j ++ [((i:Int),(j:Int))]:=by unfold o9;rw [GF,List.append_assoc]
theorem pX (far i:Nat):o9 far (i+1) 0=o9 far i far:=by
 unfold o9
 rw [List.range_succ,List.flatMap_append,List.flatMap_cons,List.flatMap_nil,List.append_nil,show Aa (i+1) 0=[] from rfl,List.append_nil]
theorem nJ {far:Nat} {P:Nat→Nat→Prop} (h0:P 0 0) (hs:∀ i j,j < far→P i j→P i (j+1)) (hr:∀ i,P i far→P (i+1) 0):∀ i j,j≤far→P i j
 | 0,0,_=>h0
 | i+1,0,_=>hr i (nJ h0 hs hr i far (Nat.le_refl _))
 | i,j+1,h=>hs i j (by omega) (nJ h0 hs hr i j (by omega))
termination_by i j=>(i,j)
def fB (m:Nat) (C:Nat→Nat→Bool) (far l i j:Nat):List II:=(o9 far i j).filter (lD m C l)
theorem jM (l i j:Nat):lD m C l ((i:Int),(j:Int))=(decide (l=gA m C i j) || decide (l=gD m C j i)):=rfl
theorem u9 {l i j:Nat} (h:gA m C i j=l∨gD m C j i=l):fB m C far l i (j+1)=fB m C far l i j ++ [((i:Int),(j:Int))]:=by
 unfold fB
 rw [j7,List.filter_append,List.filter_cons_of_pos (by rw [jM];rcases h with h | h <;> simp [h]),List.filter_nil]
theorem GJ {l i j:Nat} (h:gA m C i j≠l∧gD m C j i≠l):fB m C far l i (j+1)=fB m C far l i j:=by
 unfold fB
 rw [j7,List.filter_append,List.filter_cons_of_neg (by rw [jM];simp;exact ⟨fun z=>h.1 z.symm,fun z=>h.2 z.symm⟩),List.filter_nil,List.append_nil]
theorem pY (l i:Nat):fB m C far l (i+1) 0=fB m C far l i far:=by unfold fB;rw [pX]
theorem wR {l i:Nat} (a:Nat):∀ n,(∀ k,a≤k→k < a+n→gA m C i k≠l∧gD m C k i≠l)→fB m C far l i (a+n)=fB m C far l i a
 | 0,_=>rfl
 | n+1,h=>by
  rw [← Nat.add_assoc,GJ (h (a+n) (by omega) (by omega))]
  exact wR a n fun k h1 h2=>h k h1 (by omega)
theorem lg {l i a b:Nat} (hab:a≤b) (h:∀ k,a≤k→k < b→gA m C i k≠l∧gD m C k i≠l):fB m C far l i b=fB m C far l i a:=by
 have:=wR (m:=m) (C:=C) (far:=far) (l:=l) (i:=i) a (b - a) fun k h1 h2=>h k h1 (by omega)
 rwa [show a+(b - a)=b by omega] at this
theorem rD {l i:Nat}:∀ n,(∀ i' k,i≤i'→i' < i+n→k < far→gA m C i' k≠l∧gD m C k i'≠l)→fB m C far l (i+n) 0=fB m C far l i 0
 | 0,_=>rfl
 | n+1,h=>by
  rw [← Nat.add_assoc,pY,lg (a:=0) (Nat.zero_le _) fun k _ hk=>h (i+n) k (by omega) (by omega) hk]
  exact rD n fun i' k h1 h2 h3=>h i' k h1 (by omega) h3
theorem vd (hR:∀ i j,i < m→j < far→C i j=false→gA m C i j≤gD m C j i) (l:Nat):∀ n,n≤m→qU m C far n l=fB m C far l n 0
 | 0,_=>rfl
 | n+1,hn=>by
  have key:∀ j,j≤far→zW m C n (qU m C far n) j l=fB m C far l n j:=by
   intro j
   induction j with
   | zero=>intro _;exact vd hR l n (by omega)
   | succ j ih=>
    intro hj
    show stp (stp (zW m C n (qU m C far n) j) (gA m C n j) ((n:Int),(j:Int))) (gD m C j n) ((n:Int),(j:Int)) l=_
    have ne:gA m C n j≠gD m C j n:=by rcases rC hR (i:=n) (j:=j) (by omega) (by omega) with z | z <;> omega
    unfold stp
    by_cases h1:l=gD m C j n
    ·rw [if_pos h1,if_neg (fun z=>ne (by omega)),ih (by omega),u9 (.inr h1.symm)]
    ·rw [if_neg h1]
     by_cases h2:l=gA m C n j
     ·rw [if_pos h2,ih (by omega),u9 (.inl h2.symm)]
     ·rw [if_neg h2,ih (by omega),GJ ⟨fun z=>h2 z.symm,fun z=>h1 z.symm⟩]
  show zW m C n (qU m C far n) far l=_
  rw [key far (Nat.le_refl _),pY]
def At (m:Nat) (C:Nat→Nat→Bool) (l i j:Nat) (lev:Bool):Prop:=if lev=true then gA m C i j=l else gD m C j i=l
theorem yE (hR:∀ i j,i < m→j < far→C i j=false→gA m C i j≤gD m C j i) {l:Nat} (hl:l < m+far):At m C l (m - 1 - l) (l - m) (decide (l < m))∧(m - 1 - l < m∨m=0)∧l - m≤far∧(0 < m→fB m C far l (m - 1 - l) (l - m)=[]):=by
 unfold At
 by_cases h:l < m
 ·rw [if_pos (by simpa using h),show l - m=0 by omega,iz]
  refine ⟨by omega,by omega,by omega,fun hm=>?_⟩
  have:=rD (m:=m) (C:=C) (far:=far) (l:=l) (i:=0) (m - 1 - l) fun i' k _ h2 h3=>GC hR (by omega) h3
  rw [Nat.zero_add] at this
  rw [this];rfl
 ·rw [if_neg (by simpa using h),show m - 1 - l=0 by omega,iB]
  refine ⟨by omega,by omega,by omega,fun hm=>?_⟩
  rw [lg (a:=0) (Nat.zero_le _) fun k _ h2=>GD hR hm (by omega) hl];rfl
theorem Cq (hR:∀ i j,i < m→j < far→C i j=false→gA m C i j≤gD m C j i) {l i j:Nat} {lev:Bool} (hi:i < m) (hj:j < far) (h:At m C l i j lev):
  fB m C far l i (j+1)=fB m C far l i j ++ [((i:Int),(j:Int))]∧(((C i j).xor lev=true→At m C l i (j+1) true)∧((C i j).xor lev=false→At m C l (i+1) j false∧fB m C far l (i+1) (if i+1 < m then j else 0)=fB m C far l i (j+1))):=by
 have hin:gA m C i j=l∨gD m C j i=l:=by
  unfold At at h
  cases lev with
  | true=>exact .inl h
  | false=>exact .inr h
 refine ⟨u9 hin,fun hx=>?_,fun hx=>?_⟩
 ·show gA m C i (j+1)=l
  rw [kJ]
  cases lev with
  | true=>rw [if_neg (by intro z;rw [z] at hx;cases hx)];exact h
  | false=>rw [if_pos (by simpa using hx)];exact h
 ·have hd:gD m C j (i+1)=l:=by
   rw [kO]
   cases lev with
   | true=>rw [if_pos (by simpa using hx)];exact h
   | false=>rw [if_neg (by intro z;rw [z] at hx;cases hx)];exact h
  refine ⟨hd,?_⟩
  have e1:fB m C far l (i+1) 0=fB m C far l i (j+1):=by rw [pY,lg (a:=j+1) (by omega) fun k h1 h2=>Gy hR hi (by omega) h2 hd]
  split
  ·next h'=>rw [lg (a:=0) (Nat.zero_le _) fun k _ h2=>Kh hR h' h2 hj hd,e1]
  ·exact e1
theorem yF (hR:∀ i j,i < m→j < far→C i j=false→gA m C i j≤gD m C j i) {l i:Nat} (hi:i < m) (h:gA m C i far=l):fB m C far l m 0=fB m C far l i far:=by
 rw [← pY]
 have:=rD (m:=m) (C:=C) (far:=far) (l:=l) (i:=i+1) (m - (i+1)) fun i' k h1 h2 h3=>Gz hR (by omega) (by omega) h3 h
 rwa [show i+1+(m - (i+1))=m by omega] at this
def vg (m:Nat) (C:Nat→Nat→Bool) (a b:Nat) (q:II):Bool:=lD m C a q && lD m C b q
def gm (m:Nat) (C:Nat→Nat→Bool) (far a b i j:Nat):List II:=(o9 far i j).filter (vg m C a b)
theorem GK (a b:Nat) (q:II):vg m C a b q=vg m C b a q:=Bool.and_comm _ _
theorem rE (a b i j:Nat):gm m C far a b i j=gm m C far b a i j:=by unfold gm;congr 1;funext q;exact GK a b q
theorem yG (a b i j:Nat):(fB m C far a i j).filter (lD m C b)=gm m C far a b i j:=by
 unfold fB gm
 rw [List.filter_filter]
 congr 1
 funext q
 exact Bool.and_comm _ _
theorem GP {a b i j:Nat} (hab:a≠b) (h:vg m C a b ((i:Int),(j:Int))=true):(gA m C i j=a∧gD m C j i=b)∨(gA m C i j=b∧gD m C j i=a):=by
 unfold vg at h
 rw [Bool.and_eq_true,jM,jM,Bool.or_eq_true,Bool.or_eq_true,decide_eq_true_iff,decide_eq_true_iff,decide_eq_true_iff,decide_eq_true_iff] at h
 omega
theorem GQ {a b i j:Nat} (h:(gA m C i j=a∧gD m C j i=b)∨(gA m C i j=b∧gD m C j i=a)):vg m C a b ((i:Int),(j:Int))=true:=by
 unfold vg
 rw [Bool.and_eq_true,jM,jM,Bool.or_eq_true,Bool.or_eq_true,decide_eq_true_iff,decide_eq_true_iff,decide_eq_true_iff,decide_eq_true_iff]
 omega
theorem vh {a b i j:Nat} (h:vg m C a b ((i:Int),(j:Int))=true):gm m C far a b i (j+1)=gm m C far a b i j ++ [((i:Int),(j:Int))]:=by
 unfold gm
 rw [j7,List.filter_append,List.filter_cons_of_pos h,List.filter_nil]
theorem yH {a b i j:Nat} (h:vg m C a b ((i:Int),(j:Int))=false):gm m C far a b i (j+1)=gm m C far a b i j:=by
 unfold gm
 rw [j7,List.filter_append,List.filter_cons_of_neg (by rw [h];exact Bool.false_ne_true),List.filter_nil,List.append_nil]
theorem vm (a b i:Nat):gm m C far a b (i+1) 0=gm m C far a b i far:=by unfold gm;rw [pX]
def Ab (Ek:Nat→Nat→Bool) (q:II):Bool:=Ek q.1.toNat q.2.toNat
structure Rule (m far:Nat) (C:Nat→Nat→Bool) (Ek:Nat→Nat→Bool):Prop where
 eq:∀ i j,i < m→j < far→C i j=(Ek i j || decide (gD m C j i < gA m C i j))
variable {Ek:Nat→Nat→Bool}
theorem Rule.le (r:Rule m far C Ek):∀ i j,i < m→j < far→C i j=false→gA m C i j≤gD m C j i:=fun i j hi hj h=>by
 rw [r.eq i j hi hj,Bool.or_eq_false_iff,decide_eq_false_iff_not] at h
 omega
theorem t6 (r:Rule m far C Ek) {a b i j:Nat} (hab:a < b) (hi:i < m) (hj:j < far) (h:vg m C a b ((i:Int),(j:Int))=true):
  (C i j=false↔Ek i j=false∧¬ rG m far C i j a b)∧(¬ rG m far C i j a b→gA m C i j=a∧gD m C j i=b):=by
 have hb:=GP (by omega) h
 have ho:=rC r.le hi hj
 have he:=r.eq i j hi hj
 by_cases hc:rG m far C i j a b
 ·refine ⟨⟨fun z=>?_,fun z=>absurd hc z.2⟩,fun z=>absurd hc z⟩
  have hle:=r.le i j hi hj z
  rcases hb with ⟨e1,e2⟩ | ⟨e1,e2⟩
  ·rw [e1,e2] at ho
   rcases ho with y | y
   ·exact absurd hc y.2
   ·omega
  ·omega
 ·have hg:gA m C i j=a∧gD m C j i=b:=by
   rcases hb with z | ⟨e1,e2⟩
   ·exact z
   ·rw [e1,e2] at ho
    rcases ho with y | y
    ·omega
    ·exact absurd y.2 hc
  refine ⟨?_,fun _=>hg⟩
  rw [he,hg.1,hg.2,decide_eq_false (by omega),Bool.or_false]
  exact ⟨fun z=>⟨z,hc⟩,fun z=>z.1⟩
theorem ph (r:Rule m far C Ek) {a b:Nat} (hab:a < b):∀ i j,j≤far→(i < m∨(i=m∧j=0))→((∃ q∈gm m C far a b i j,Ab Ek q=false)↔rG m far C i j a b):=by
 refine nJ (P:=fun i j=>(i < m∨(i=m∧j=0))→((∃ q∈gm m C far a b i j,Ab Ek q=false)↔rG m far C i j a b)) ?_ ?_ ?_
 ·intro _
  constructor
  ·rintro ⟨q,hq,_⟩;cases hq
  ·rintro ⟨i',j',h,_⟩;omega
 ·intro i j hj ih hi
  have hi':i < m:=by omega
  have ih:=ih (.inl hi')
  rw [nG hi' hj,← ih]
  by_cases hb:vg m C a b ((i:Int),(j:Int))=true
  ·rw [vh hb]
   have cr:=t6 r hab hi' hj hb
   constructor
   ·rintro ⟨q,hq,hl⟩
    rcases List.mem_append.mp hq with hq | hq
    ·exact .inl ⟨q,hq,hl⟩
    ·rw [List.mem_singleton.mp hq] at hl
     by_cases hc:rG m far C i j a b
     ·exact .inl (ih.mpr hc)
     ·exact .inr ⟨cr.1.mpr ⟨hl,hc⟩,cr.2 hc⟩
   ·rintro (⟨q,hq,hl⟩ | ⟨hc,_⟩)
    ·exact ⟨q,List.mem_append_left _ hq,hl⟩
    ·exact ⟨_,List.mem_append_right _ (List.mem_singleton.mpr rfl),(cr.1.mp hc).1⟩
  ·have hbf:vg m C a b ((i:Int),(j:Int))=false:=by simpa using hb
   rw [yH hbf]
   refine ⟨.inl,fun z=>z.elim id fun z=>absurd (GQ (.inl z.2)) hb⟩
 ·intro i ih hi
  rw [vm,pW]
  exact ih (by omega)
theorem pZ {far i j:Nat} {q:II} (h:q∈o9 far i j):∃ a b:Nat,q=((a:Int),(b:Int))∧(a < i∧b < far∨a=i∧b < j):=by
 unfold o9 at h
 rcases List.mem_append.mp h with h | h
 ·obtain ⟨k,hk,h⟩:=List.mem_flatMap.mp h
  obtain ⟨l,hl,rfl⟩:=List.mem_map.mp h
  exact ⟨k,l,rfl,.inl ⟨List.mem_range.mp hk,List.mem_range.mp hl⟩⟩
 ·obtain ⟨l,hl,rfl⟩:=List.mem_map.mp h
  exact ⟨i,l,rfl,.inr ⟨rfl,List.mem_range.mp hl⟩⟩
theorem GR {a b:Nat}:∀ i j,j≤far→∀ (k:Nat) (q:II),(gm m C far a b i j)[k]?=some q→∃ i' j':Nat,q=((i':Int),(j':Int))∧(i' < i∧j' < far∨i'=i∧j' < j)∧vg m C a b q=true∧(gm m C far a b i j).take k=gm m C far a b i' j':=by
 refine nJ (P:=fun i j=>∀ (k:Nat) (q:II),(gm m C far a b i j)[k]?=some q→∃ i' j':Nat,q=((i':Int),(j':Int))∧(i' < i∧j' < far∨i'=i∧j' < j)∧vg m C a b q=true∧(gm m C far a b i j).take k=gm m C far a b i' j') ?_ ?_ ?_
 ·intro k q h
  rw [show gm m C far a b 0 0=[] from rfl] at h
  simp at h
 ·intro i j hj ih k q h
  by_cases hb:vg m C a b ((i:Int),(j:Int))=true
  ·rw [vh hb] at h ⊢
   by_cases hk:k < (gm m C far a b i j).length
   ·rw [List.getElem?_append_left hk] at h
    obtain ⟨i',j',e,h1,h2,h3⟩:=ih k q h
    exact ⟨i',j',e,by omega,h2,by rw [List.take_append_of_le_length (by omega)];exact h3⟩
   ·rw [List.getElem?_append_right (by omega)] at h
    have hz:k - (gm m C far a b i j).length=0:=by
     have:=(List.getElem?_eq_some_iff.mp h).1
     simp at this;omega
    rw [hz] at h
    cases h
    exact ⟨i,j,rfl,by omega,hb,by rw [show k=(gm m C far a b i j).length by omega,List.take_left]⟩
  ·have hbf:vg m C a b ((i:Int),(j:Int))=false:=by simpa using hb
   rw [yH hbf] at h ⊢
   obtain ⟨i',j',e,h1,h2,h3⟩:=ih k q h
   exact ⟨i',j',e,by omega,h2,h3⟩
 ·intro i ih k q h
  rw [vm] at h ⊢
  obtain ⟨i',j',e,h1,h2,h3⟩:=ih k q h
  exact ⟨i',j',e,by omega,h2,h3⟩
theorem wU (r:Rule m far C Ek) {a b k:Nat} {q:II} (hab:a < b) (h:(gm m C far a b m 0)[k]?=some q):∃ i j:Nat,q=((i:Int),(j:Int))∧i < m∧j < far∧(C i j=false↔Ek i j=false∧∀ p∈(gm m C far a b m 0).take k,Ab Ek p=true):=by
 obtain ⟨i,j,e,h1,h2,h3⟩:=GR m 0 (Nat.zero_le _) k q h
 subst e
 have hi:i < m:=by omega
 have hj:j < far:=by omega
 refine ⟨i,j,rfl,hi,hj,?_⟩
 rw [(t6 r hab hi hj h2).1,h3,← ph r hab i j (by omega) (.inl hi)]
 refine and_congr_right fun _=>⟨fun z p hp=>?_,fun z ⟨p,hp,hl⟩=>?_⟩
 ·cases e:Ab Ek p with
  | true=>rfl
  | false=>exact absurd ⟨p,hp,e⟩ z
 ·rw [z p hp] at hl;cases hl
def mK (Ek:Nat→Nat→Bool) (L:List II):Option II:=L.find? fun q=>!Ab Ek q
theorem Cr (L:List II) (q:II):mK Ek (L ++ [q])=match mK Ek L with
  | some p=>some p
  | none=>if Ab Ek q=true then none else some q:=by
 unfold mK
 rw [List.find?_append]
 cases List.find? (fun q=>!Ab Ek q) L with
 | some p=>rfl
 | none=>
  rw [Option.none_or,List.find?_cons]
  cases Ab Ek q <;> rfl
theorem oM {L:List II} (h:mK Ek L=none):∀ p∈L,Ab Ek p=true:=fun p hp=>by
 have:=List.find?_eq_none.mp h p hp
 simpa using this
theorem lu {L:List II} {q:II} (h:mK Ek L=some q):q∈L∧Ab Ek q=false:=⟨List.mem_of_find?_eq_some h,by have:=List.find?_some h;simpa using this⟩
end
end
section
variable {P:Program} {w:World} {K:PySem.W.Frag} {mg:Str→Option Value} {base:Heap}
theorem Uz:aQ aV "met":=by decide+kernel
theorem Kl:aQ aV "cell":=by decide+kernel
theorem UG:aQ aV "self":=by decide+kernel
theorem kz4h:cJ aV "CROSS":=by decide+kernel
theorem UJ:aQ aV "line":=by decide+kernel
theorem UL:aQ aV "other":=by decide+kernel
def MR (r:R2):Prop:=∀ x y H Q Q',(∀ v H1,Q v H1→Q' v H1)→r x y H Q→r x y H Q'
def ME (te:TE):Prop:=∀ σ H Q Q',(∀ v H1,Q v H1→Q' v H1)→te σ H Q→te σ H Q'
def MT (te:TT):Prop:=∀ σ H Q Q',(∀ v H1,Q v H1→Q' v H1)→te σ H Q→te σ H Q'
theorem LC (g:Int→Int→V):MR (Hk g):=by
 rintro x y H Q Q' h ⟨i,j,e1,e2,q⟩
 exact ⟨i,j,e1,e2,h _ _ q⟩
theorem vo (i:Nat):ME (lA i):=by
 rintro σ H Q Q' h ⟨v,e,q⟩
 exact ⟨v,e,h _ _ q⟩
theorem LK {r:R2} {ta tb:TE} (hr:MR r) (ha:ME ta) (hb:ME tb):ME (Df r ta tb):=fun σ H Q Q' h q=>ha σ H _ _ (fun x H1 q1=>hb σ H1 _ _ (fun y H2 q2=>hr _ _ _ _ _ h q2) q1) q
theorem Ac {te:TE} (h:ME te):MT (zb te):=fun σ H Q Q' hq q=>h σ H _ _ (fun x H1 ⟨k,e,q1⟩=>⟨k,e,hq _ _ q1⟩) q
theorem Qx {t u:TT} (h:MT t) (h2:MT u):MT (Hs t u):=fun σ H Q Q' hq q=>h σ H _ _ (fun c H1 q1=>by
 cases c with
 | true=>rw [if_pos rfl] at q1 ⊢;exact h2 _ _ _ _ hq q1
 | false=>rw [if_neg Bool.false_ne_true] at q1 ⊢;exact hq _ _ q1) q
theorem p6 {side top:Str} {i j:Nat} (hi:i < mS side) (hj:j < mS top):∃ z:Str,(cF side top)[i]?=some z∧z.cps.size=mS top∧uh z.cps.toList (j:Int)=some (Ho (CB side top i j)):=by
 refine ⟨qT side.cps.size side top i,?_,kY,?_⟩
 ·unfold cF wM
  rw [List.getElem?_map,List.getElem?_range hi];rfl
 ·refine bF ?_
  have hz:(qT side.cps.size side top i).cps.size=top.cps.size:=kY
  have h1:=uV (c:=side.cps.getD i 0) (top:=top) (ab:=su side.cps.size side top i) (left:=(side.cps.size:Int) - 1 - i) (n:=top.cps.size) hj
  rw [← Gm hi hj] at h1
  rw [← h1,Array.getElem?_toList]
  show (qT side.cps.size side top i).cps[j]?=some ((qT side.cps.size side top i).cps.getD j 0)
  have hj':j < (qT side.cps.size side top i).cps.size:=by rw [hz];exact hj
  simp [Array.getD,hj']
theorem Qy (b:Bool):decide (V.str ⟨#[Ho b]⟩=V.str (Str.ofString "x"))=!b:=by cases b <;> decide+kernel
theorem ox_o (b:Bool):decide (V.str ⟨#[Ho b]⟩=V.str (Str.ofString "o"))=b:=by cases b <;> decide+kernel
def t7 (side top:Str) (i j:Nat):Bool:=decide (side.cps.getD i 0=top.cps.getD j 0)
theorem gC (side top:Str):Rule (mS side) (mS top) (CB side top) (t7 side top):=⟨fun i j hi hj=>JX hi hj⟩
def xB (side top:Str) (q:II):Bool:=!CB side top q.1.toNat q.2.toNat
def GX (side top:Str) (L:List II):Option II:=L.find? (xB side top)
theorem nM {side top:Str} {l:Nat} (k:Nat):Qg side top l k=gm (mS side) (CB side top) (mS top) l k (mS side) 0:=by
 unfold Qg
 rw [vd (gC side top).le l _ (Nat.le_refl _),yG]
def Km (K:PySem.W.Frag) (mg:Str→Option Value):Sp:=fun vs H Q _=>∃ (b:Addr) (side top:Str) (l k:Nat),vs=[.ref b,.int l,.int k]∧Bd mg H b side top∧l < mS side+mS top∧k < mS side+mS top∧
 ∀ H',Same H H'→(l=k→Q .non H')∧(l≠k→(GX side top (gm (mS side) (CB side top) (mS top) l k (mS side) 0)=none→Q .non H')∧∀ q r,GX side top (gm (mS side) (CB side top) (mS top) l k (mS side) 0)=some q→H' r=some (.tup [.int q.1,.int q.2])→Q (.ref r) H')
theorem GZ {side top:Str} {L:List II} {q:II} (h:GX side top L=none):GX side top (L ++ [q])=if xB side top q=true then some q else none:=by
 unfold GX at h ⊢
 rw [List.find?_append,h,Option.none_or,List.find?_cons]
 cases xB side top q <;> rfl
theorem Ko {side top:Str} {L M:List II} {q:II} (h:GX side top L=some q):GX side top (L ++ M)=some q:=by
 unfold GX at h ⊢
 rw [List.find?_append,h];rfl
theorem G7 {side top:Str} {a b:Nat} {q:II} (h:q∈gm (mS side) (CB side top) (mS top) a b (mS side) 0):∃ i j:Nat,q=((i:Int),(j:Int))∧i < mS side∧j < mS top:=by
 unfold gm at h
 obtain ⟨i,j,e,hij⟩:=pZ (List.mem_filter.mp h).1
 exact ⟨i,j,e,by omega,by omega⟩
theorem nO (far:Nat):∀ i,(o9 far i 0).length=i*far
 | 0=>by simp [o9,Aa]
 | i+1=>by
  rw [pX]
  unfold o9
  have:=nO far i
  unfold o9 at this
  rw [show Aa i 0=[] from rfl,List.append_nil] at this
  rw [List.length_append,this]
  simp [Aa,Nat.succ_mul]
theorem p7 {side top:Str} (a b:Nat) (hs:gU side) (ht:gU top):(gm (mS side) (CB side top) (mS top) a b (mS side) 0).length≤2304:=by
 have h1:(gm (mS side) (CB side top) (mS top) a b (mS side) 0).length≤(o9 (mS top) (mS side) 0).length:=List.length_filter_le _ _
 rw [nO] at h1
 have:mS side*mS top≤48*48:=Nat.mul_le_mul hs.1 ht.1
 omega
theorem ig {H:Hp} (n:Int):Kd K H (.int n):=.inl ⟨n,rfl⟩
theorem dO:aF ["self","line","other","met","cell"] ["self","line","other"] (au aV):=⟨rfl,rfl,rfl,by decide+kernel,rfl,by decide+kernel,by decide+kernel⟩
theorem aW (T:Txt K mg):pJ P w K mg base 6 "Board" "crossed_at" ["self","line","other"] (Km K mg):=by
 have bA:=bA (P:=P) (w:=w) (base:=base) T
 refine yq T.m_Board_crossed_at dO (fun _ _ _ _ _ _ us hl=>L2.vA (fun _ _ _=>rfl) us hl) ?_ fun f cdv A outer s H vs Q E hr h=>?_
 ·rintro vs H Q E ⟨b,side,top,l,k,rfl,_⟩;rfl
 obtain ⟨b,side,top,l,k,rfl,hB,hl,hk,q⟩:=h
 have hu:=hr.units0
 have hu64:=hr.units
 refine ⟨_,(aq (aC (i:=3) dO.nd rfl (Or.inl Uz) (dD (aj 0 UG) T.o_Board bA (hr.mono (by decide)) dU (aa (aj 1 UJ) (aa (aj 2 UL) ao))) rfl) (aq (bV (bc (jm (K:=K) rfl hu64) (aj 1 UJ) (aj 2 UL) (by first | exact aL _ | with_unfolding_all rfl)) (aA (aG jy)) bC) (aq (O1 (bZ PassesOwn.never rfl (jh (K:=K) rfl (aj 3 Uz)) (aH (i:=4) dO.nd rfl (Or.inl Kl) rfl) (aA (bV (bc (jm (K:=K) rfl hu64) (bO (K:=K) rfl (bO (K:=K) rfl (o6 (K:=K) rfl (aj 0 UG)) (bO (K:=K) rfl (aj 4 Kl) aB)) (bO (K:=K) rfl (aj 4 Kl) aB)) (nZ (bB kz4h) T.c_CROSS (by decide+kernel)) (by first | exact aL _ | with_unfolding_all rfl)) (aA (aG (aj 4 Kl))) bC)))) (aA (aG jy))))),?_⟩
 walk_at "sts"
 have hB0:=hB
 obtain ⟨hs,ht,dx,ac,am,al,aw,hb,hO⟩:=hB
 have hz:20000≤sizeLine:=by decide
 refine ⟨b,dx,_,rfl,hb,w6 (by decide+kernel),?_⟩
 walk_at "sts"
 refine ⟨b,side,top,.int l,.int k,rfl,hB0,ig _,ig _,(fun z=>by rw [gZ hl] at z;cases z),(fun _ z=>by rw [gZ hk] at z;cases z),fun l' k' e1 e2 _ _ t ws H1 nt S1 ht1 hP=>?_⟩
 obtain rfl:l=l':=by have:=V.int.inj e1;omega
 obtain rfl:k=k':=by have:=V.int.inj e2;omega
 rw [nM] at hP
 walk_at "sts"
 refine uz (fun h=>?_) (fun h=>?_)
 ·walk_at "sts"
  exact (q H1 S1).1 (by have:=V.int.inj h;omega)
 ·have hne:l≠k:=fun z=>h (by rw [z])
  obtain ⟨q1,q2⟩:=(q H1 S1).2 hne
  have hll:=p7 l k hs ht
  walk_at "sts"
  refine .inl ⟨t,rfl,⟨_,SqL.of ht1⟩,?_⟩
  refine ju (xs:=ws) (fun n σ G=>G=H1∧GX side top ((gm (mS side) (CB side top) (mS top) l k (mS side) 0).take n)=none∧∃ x4,σ=[some (.ref b),some (.int (l:Int)),some (.int (k:Int)),some (.ref t),x4]) ⟨rfl,rfl,_,rfl⟩ (fun i σ G _ h=>by rw [h.1];exact SqL.of ht1) ?_ ?_
  ·rintro n v σ G hv ⟨rfl,hf,x4,rfl⟩
   obtain ⟨cq,r,hL,rfl,hr2⟩:=hP.item hv
   obtain ⟨i,j,rfl,hi,hj⟩:=G7 (List.mem_of_getElem? hL)
   obtain ⟨z,ez,zl,hc⟩:=p6 (side:=side) (top:=top) hi hj
   have tk:(gm (mS side) (CB side top) (mS top) l k (mS side) 0).take (n+1)=(gm (mS side) (CB side top) (mS top) l k (mS side) 0).take n ++ [((i:Int),(j:Int))]:=by rw [List.take_add_one,hL];rfl
   replace hr2:G r=some (.tup [.int (i:Int),.int (j:Int)]):=hr2
   have hb1:=S1 _ _ hb
   have hcl:=S1 _ _ hO.cells
   have hzl:z.length≤sizeLine:=by show z.cps.size≤_;rw [zl];exact Nat.le_trans ht.1 (by decide)
   walk_at "sts"
   refine ⟨b,_,dx,_,_,rfl,hb1,T.o_Board.cl,T.n_Board _ (by simp),rfl,?_⟩
   walk_at "sts"
   refine bT (SqL.of hcl) (bF (show ((cF side top).map V.str)[i]?=some (.str z) by rw [List.getElem?_map,ez];rfl)) ?_
   walk_at "sts"
   refine oZ hzl hc ?_
   walk_at "sts"
   rw [Qy]
   have hx:xB side top ((i:Int),(j:Int))=!CB side top i j:=rfl
   have hsn:=GZ (q:=((i:Int),(j:Int))) hf
   rw [← tk,hx] at hsn
   cases e:CB side top i j with
   | true=>
    rw [e] at hsn
    rw [show (!true)=false from rfl]
    walk_at "sts"
    exact ⟨rfl,hsn,_,rfl⟩
   | false=>
    rw [e] at hsn
    rw [show (!false)=true from rfl]
    walk_at "sts"
    refine q2 ((i:Int),(j:Int)) r ?_ hr2
    rw [show (if (!false)=true then some ((i:Int),(j:Int)) else none)=some ((i:Int),(j:Int)) from rfl] at hsn
    rw [← List.take_append_drop (n+1) (gm (mS side) (CB side top) (mS top) l k (mS side) 0)]
    exact Ko hsn
  ·rintro σ G ⟨rfl,hf,x4,rfl⟩
   walk_at "sts"
   have hwl:=hP.len
   rw [hwl,List.take_length] at hf
   exact q1 hf
end
local macro_rules | `(tactic| walk_at "sts") => `(tactic| (with_reducible repeat (first | refine rO ?_ | refine mR ?_ | refine pA ?_ | refine lX ?_ | refine lY ?_ | (refine' lN ?hz0 ?_; (case hz0 => with_unfolding_all rfl)) | refine Hm ?_ | refine rT ?_ | refine jc ?_ | refine iT ?_ | refine lO ?_ | refine tK ?_ | refine lH ?_ | refine iJ ?_ | refine lK ?_ | refine iI ?_ | refine rK ?_ | refine iM ?_ | refine rU ?_ | refine rP ?_ | refine iU ?_ | refine rM ?_ | refine lL ?_ | refine lM ?_ | refine rN ?_ | refine iQ ?_ | refine iR ?_ | refine lJ ?_ | refine iK ?_ | refine uN ?_ | refine uM ?_ | refine rQ ?_ | refine rR ?_ | refine lQ ?_ | refine iV ?_ | refine iW ?_ | refine iY ?_ | refine iZ ?_ | refine jb ?_ | refine lU ?_ | refine fV ?_ | refine ji ?_ | (refine' dh (SqT.of ?hz0) ?hz1 ?_; (case hz0 => first | assumption | exact ak); (case hz1 => rfl)) | refine fX ?_ | refine fZ ?_ | refine fY ?_ | refine gO ?_ | refine gP ?_ | refine jn ?_ | refine jo ?_ | refine lW ?_ | refine dX ?_ | refine rW ?_ | refine gJ ?_ | refine gK ?_ | refine jj ?_ | refine jk ?_ | refine jl ?_ | refine fW ?_ | refine jU ?_ | refine je ?_ | (refine' Hn ?hz0 ?_; (case hz0 => with_unfolding_all first | assumption | omega | (dsimp only <;> omega) | exact ⟨by omega, by omega⟩ | exact .inl ⟨by omega, by omega⟩ | exact .inr ⟨by omega, by omega⟩ | exact ⟨by decide, by decide, by decide⟩)) | (refine' jd ?hz0 ?_; (case hz0 => with_unfolding_all first | assumption | omega | (dsimp only <;> omega) | exact ⟨by omega, by omega⟩ | exact .inl ⟨by omega, by omega⟩ | exact .inr ⟨by omega, by omega⟩ | exact ⟨by decide, by decide, by decide⟩)) | (refine' bT (SqL.of ?hz0) ?hz1 ?_; (case hz0 => first | assumption | exact ak); (case hz1 => with_unfolding_all rfl)) | (refine' fG (SqT.of ?hz0) ?hz1 ?_; (case hz0 => first | assumption | exact ak); (case hz1 => with_unfolding_all rfl)) | (refine' eZ ?hz0 ?hz1 ?_; (case hz0 => first | assumption | exact ak); (case hz1 => with_unfolding_all rfl)) | refine gb ?_ | refine gf ?_ | refine lZ ?_ | refine jq ?_ | refine f9 ?_ | refine du ?_)))
local macro_rules | `(tactic| walk_at "stn") => `(tactic| (with_reducible repeat (first | refine rO ?_ | refine mR ?_ | refine pA ?_ | refine lX ?_ | refine lY ?_ | (refine' lN ?hz0 ?_; (case hz0 => with_unfolding_all rfl)) | refine Hm ?_ | refine rT ?_ | refine jc ?_ | refine iT ?_ | refine lO ?_ | refine lH ?_ | refine iJ ?_ | refine lK ?_ | refine iI ?_ | refine rK ?_ | refine iM ?_ | refine rU ?_ | refine rP ?_ | refine iU ?_ | refine rM ?_ | refine lL ?_ | refine lM ?_ | refine rN ?_ | refine iQ ?_ | refine iR ?_ | refine lJ ?_ | refine iK ?_ | refine uN ?_ | refine uM ?_ | refine rQ ?_ | refine rR ?_ | refine lQ ?_ | refine iV ?_ | refine iW ?_ | refine iY ?_ | refine iZ ?_ | refine jb ?_ | refine lU ?_ | refine fV ?_ | refine ji ?_ | (refine' dh (SqT.of ?hz0) ?hz1 ?_; (case hz0 => first | assumption | exact ak); (case hz1 => rfl)) | refine fX ?_ | refine fZ ?_ | refine fY ?_ | refine gO ?_ | refine gP ?_ | refine jn ?_ | refine jo ?_ | refine lW ?_ | refine dX ?_ | refine rW ?_ | refine gJ ?_ | refine gK ?_ | refine jj ?_ | refine jk ?_ | refine jl ?_ | refine fW ?_ | refine jU ?_ | refine je ?_ | (refine' Hn ?hz0 ?_; (case hz0 => with_unfolding_all first | assumption | omega | (dsimp only <;> omega) | exact ⟨by omega, by omega⟩ | exact .inl ⟨by omega, by omega⟩ | exact .inr ⟨by omega, by omega⟩ | exact ⟨by decide, by decide, by decide⟩)) | (refine' jd ?hz0 ?_; (case hz0 => with_unfolding_all first | assumption | omega | (dsimp only <;> omega) | exact ⟨by omega, by omega⟩ | exact .inl ⟨by omega, by omega⟩ | exact .inr ⟨by omega, by omega⟩ | exact ⟨by decide, by decide, by decide⟩)) | (refine' bT (SqL.of ?hz0) ?hz1 ?_; (case hz0 => first | assumption | exact ak); (case hz1 => with_unfolding_all rfl)) | (refine' fG (SqT.of ?hz0) ?hz1 ?_; (case hz0 => first | assumption | exact ak); (case hz1 => with_unfolding_all rfl)) | (refine' eZ ?hz0 ?hz1 ?_; (case hz0 => first | assumption | exact ak); (case hz1 => with_unfolding_all rfl)) | refine gb ?_ | refine gf ?_ | refine lZ ?_ | refine jq ?_ | refine f9 ?_ | refine du ?_)))
section
variable {P:Program} {w:World} {K:PySem.W.Frag} {mg:Str→Option Value} {base:Heap}
theorem UT:aQ cM "_law_far":=by decide+kernel
theorem Cu:aQ cM "_law_many":=by decide+kernel
theorem wV:aQ cM "_law_i":=by decide+kernel
theorem Kp:aQ cM "_law_way_here":=by decide+kernel
theorem yI:aQ cM "_law_j":=by decide+kernel
theorem Kq:aQ cM "_law_level":=by decide+kernel
theorem kz4q:aQ cM "_law_cells":=by decide+kernel
theorem Qz:aQ cM "_law_line":=by decide+kernel
theorem UV:cJ cM "max":=by decide+kernel
def muW (N:Int) (σ:St) (_:Hp):Nat:=match σ[4]?,σ[5]? with
 | some (some (V.int z)),some (some (V.int y))=>(N - z - y).toNat
 | _,_=>0
def QB:Sp:=fun vs H Q _=>∃ (c:Addr) (side top:Str) (l:Nat),vs=[.ref c,.int (mS side:Nat),.int (mS top:Nat),.int l]∧gU side∧gU top∧H c=some (.lst ((cF side top).map V.str))∧l < mS side+mS top∧
 ∀ (t w:Addr) (ws:List V) (e:Int) (H':Hp),H w=none→Same H H'→H' t=some (.tup [.ref w,.int e])→H' w=some (.lst ws)→PrI H' ws (fB (mS side) (CB side top) (mS top) l (mS side) 0)→(∀ R,jH (mS side) (CB side top) (mS top) R→R[l]?=some e)→Q (.ref t) H'
theorem Ks {side top:Str} (l:Nat) {i j:Nat} (hs:gU side) (ht:gU top) (hi:i < mS side) (hj:j≤mS top):(fB (mS side) (CB side top) (mS top) l i j).length≤2400:=by
 have h1:(fB (mS side) (CB side top) (mS top) l i j).length≤(o9 (mS top) i j).length:=List.length_filter_le _ _
 have h2:(o9 (mS top) i j).length=i*mS top+j:=by
  have:=nO (mS top) i
  unfold o9 at this ⊢
  rw [show Aa i 0=[] from rfl,List.append_nil] at this
  rw [List.length_append,this];simp [Aa]
 have a1:mS side≤48:=hs.1
 have a2:mS top≤48:=ht.1
 have:i*mS top≤48*48:=Nat.mul_le_mul (by omega) a2
 omega
theorem dI:aF ["_law_cells","_law_many","_law_far","_law_line","_law_i","_law_j","_law_level","_law_way_here"] ["_law_cells","_law_many","_law_far","_law_line"] (au cM):=⟨rfl,rfl,rfl,by decide+kernel,rfl,by decide+kernel,by decide+kernel⟩
theorem oN (T:Txt K mg):pC P w K mg base 1 "_law_way" ["_law_cells","_law_many","_law_far","_law_line"] QB:=by
 refine jz T.d_law_way dI (fun _ _ _ _ _ _ us hl=>L2.LR (fun _ _ _ _=>rfl) us hl) ?_ fun f cdv A outer s H vs Q E hr h=>?_
 ·rintro vs H Q E ⟨c,side,top,l,rfl,_⟩;rfl
 obtain ⟨c,side,top,l,rfl,hs,ht,hc,hl,q⟩:=h
 have hu:=hr.units0
 have hu64:=hr.units
 refine ⟨_,(aq (aC (i:=4) dI.nd rfl (Or.inl wV) (aD (sI rfl) (bB UV) T.b_max El (aa aB (aa (aU fH (aU fH (aj 1 Cu) aB) (aj 3 Qz)) ao)) (by decide+kernel) (by decide+kernel)) rfl) (aq (aC (i:=5) dI.nd rfl (Or.inl yI) (aD (sI rfl) (bB UV) T.b_max El (aa aB (aa (aU fH (aj 3 Qz) (aj 1 Cu)) ao)) (by decide+kernel) (by decide+kernel)) rfl) (aq (aC (i:=6) dI.nd rfl (Or.inl Kq) (lV yZ (aj 3 Qz) (aj 1 Cu) (by first | exact aL _ | with_unfolding_all rfl)) rfl) (aq (aC (i:=7) dI.nd rfl (Or.inl Kp) (fc ao) rfl) (aq (Ew PassesOwn.never (gG (qz (bc yZ (aj 4 wV) (aj 1 Cu) (by first | exact aL _ | with_unfolding_all rfl)) (m6 (bc yZ (aj 5 yI) (aj 2 UT) (by first | exact aL _ | with_unfolding_all rfl))))) (aq (bL (fJ (K:=K) rfl PySem.F.plainAttrs_list PySem.F.slot_list_append PySem.F.type_list_append bN (aj 7 Kp) (aa (iu (aa (aj 4 wV) (aa (aj 5 yI) ao))) ao))) (aq (bV (bc (jm (K:=K) rfl hu64) (bO (K:=K) rfl (bO (K:=K) rfl (aj 0 kz4q) (aj 4 wV)) (aj 5 yI)) m5 (by first | exact aL _ | with_unfolding_all rfl)) (aA (aC (i:=6) dI.nd rfl (Or.inl Kq) (Lh (aj 6 Kq)) rfl)) bC) (aA (bV (cG (aj 6 Kq)) (aA (aC (i:=5) dI.nd rfl (Or.inl yI) (aU aY (aj 5 yI) aB) rfl)) (aA (aC (i:=4) dI.nd rfl (Or.inl wV) (aU aY (aj 4 wV) aB) rfl))))))) (aq (bV (bc (jm (K:=K) rfl hu64) (aj 4 wV) (aj 1 Cu) (by first | exact aL _ | with_unfolding_all rfl)) (aA (aG (iu (aa (aj 7 Kp) (aa (aj 5 yI) ao))))) bC) (aA (aG (iu (aa (aj 7 Kp) (aa (aU fH (aU fH (aU aY (aj 2 UT) (aj 1 Cu)) aB) (aj 4 wV)) ao))))))))))),?_⟩
 walk_at "sts"
 have hz:20000≤sizeLine:=by decide
 have hR:=(gC side top).le
 have hs48:mS side≤48:=hs.1
 have ht48:mS top≤48:=ht.1
 obtain ⟨w1,w2,w3,w4⟩:=yE hR hl
 refine cR rfl fun w H1 nw S1 hw=>?_
 walk_at "sts"
 rw [show (if (mS side:Int) - 1 - (l:Int) > 0 then (mS side:Int) - 1 - (l:Int) else 0)=((mS side - 1 - l:Nat):Int) by split <;> omega,show (if (l:Int) - (mS side:Int) > 0 then (l:Int) - (mS side:Int) else 0)=((l - mS side:Nat):Int) by split <;> omega,show decide ((l:Int) < (mS side:Int))=decide (l < mS side) from decide_eq_decide.mpr (by omega)]
 refine De (fun σ G=>∃ (i j:Nat) (lev:Bool) (ws:List V),σ=[some (.ref c),some (.int (mS side:Nat)),some (.int (mS top:Nat)),some (.int (l:Int)),some (.int (i:Int)),some (.int (j:Int)),some (.bl lev),some (.ref w)]∧i≤mS side∧j≤mS top∧At (mS side) (CB side top) l i j lev∧(i=mS side→lev=false∧j < mS top)∧(i < mS side→j=mS top→lev=true)∧Same H G∧G w=some (.lst ws)∧PrI G ws (if i < mS side then fB (mS side) (CB side top) (mS top) l i j else fB (mS side) (CB side top) (mS top) l (mS side) 0)) (muW ((mS side:Int)+(mS top:Int)))
  ⟨mS side - 1 - l,l - mS side,decide (l < mS side),[],rfl,by omega,by omega,w1,fun e=>⟨decide_eq_false (by omega),by omega⟩,fun h1 h2=>decide_eq_true (by omega),S1,hw,?_⟩ ?_ ?_
 ·by_cases h:mS side - 1 - l < mS side
  ·rw [if_pos h,w4 (by omega)];trivial
  ·rw [if_neg h,show mS side=0 by omega];trivial
 ·rintro σ G ⟨i,j,lev,ws,rfl,hi,hj,hA,hm,hf,s,hw',hP⟩
  walk_at "sts"
  by_cases hi':i < mS side
  ·rw [if_pos hi'] at hP
   rw [decide_eq_true (show (i:Int) < (mS side:Int) by omega)]
   walk_at "sts"
   by_cases hj':j < mS top
   ·rw [decide_eq_true (show (j:Int) < (mS top:Int) by omega)]
    obtain ⟨z,ez,zl,hch⟩:=p6 (side:=side) (top:=top) hi' hj'
    obtain ⟨t1,t2,t3⟩:=Cq hR hi' hj' hA
    have hwl:=hP.len
    have hsl:=Ks (side:=side) (top:=top) l hs ht hi' hj
    have hzl:z.length≤sizeLine:=by show z.cps.size≤_;omega
    walk_at "sts"
    refine ⟨.inl ⟨rfl,_,SqL.of hw'⟩,?_⟩
    walk_at "sts"
    refine cR rfl fun p G2 np s2 hp=>?_
    walk_at "sts"
    refine bM (s2 _ _ hw') (by omega) ?_
    have sG:=Same.put (o:=.lst (ws ++ [.ref p])) (s.trans s2) nw
    have hw3:=ak (H:=G2) (a:=w) (o:=.lst (ws ++ [.ref p]))
    have hP3:PrI (upd G2 w (.lst (ws ++ [.ref p]))) (ws ++ [.ref p]) (fB (mS side) (CB side top) (mS top) l i (j+1)):=by
     rw [t1]
     refine PrI.push ?_ ((hP.same s2).upd (s2 _ _ hw'))
     rw [az (fun z=>by rw [z,s2 _ _ hw'] at hp;cases hp)];exact hp
    generalize upd G2 w (.lst (ws ++ [.ref p]))=G3 at sG hw3 hP3 ⊢
    have hc3:=sG _ _ hc
    walk_at "sts"
    refine bT (SqL.of hc3) (bF (show ((cF side top).map V.str)[i]?=some (.str z) by rw [List.getElem?_map,ez];rfl)) ?_
    walk_at "sts"
    refine oZ hzl hch ?_
    walk_at "sts"
    rw [ox_o]
    have fin:∀ (lev':Bool),(CB side top i j).xor lev=lev'→(lev'=true→(∃ (i' j':Nat) (lv:Bool) (ws:List V),([some (.ref c),some (.int (mS side:Nat)),some (.int (mS top:Nat)),some (.int (l:Int)),some (.int (i:Int)),some (.int ((j:Int)+1)),some (.bl lev'),some (.ref w)]:St)=[some (.ref c),some (.int (mS side:Nat)),some (.int (mS top:Nat)),some (.int (l:Int)),some (.int (i':Int)),some (.int (j':Int)),some (.bl lv),some (.ref w)]∧i'≤mS side∧j'≤mS top∧At (mS side) (CB side top) l i' j' lv∧(i'=mS side→lv=false∧j' < mS top)∧(i' < mS side→j'=mS top→lv=true)∧Same H G3∧G3 w=some (.lst ws)∧PrI G3 ws (if i' < mS side then fB (mS side) (CB side top) (mS top) l i' j' else fB (mS side) (CB side top) (mS top) l (mS side) 0)))
      ∧(lev'=false→(∃ (i' j':Nat) (lv:Bool) (ws:List V),([some (.ref c),some (.int (mS side:Nat)),some (.int (mS top:Nat)),some (.int (l:Int)),some (.int ((i:Int)+1)),some (.int (j:Int)),some (.bl lev'),some (.ref w)]:St)=[some (.ref c),some (.int (mS side:Nat)),some (.int (mS top:Nat)),some (.int (l:Int)),some (.int (i':Int)),some (.int (j':Int)),some (.bl lv),some (.ref w)]∧i'≤mS side∧j'≤mS top∧At (mS side) (CB side top) l i' j' lv∧(i'=mS side→lv=false∧j' < mS top)∧(i' < mS side→j'=mS top→lv=true)∧Same H G3∧G3 w=some (.lst ws)∧PrI G3 ws (if i' < mS side then fB (mS side) (CB side top) (mS top) l i' j' else fB (mS side) (CB side top) (mS top) l (mS side) 0))):=by
     intro lev' e
     refine ⟨fun h=>?_,fun h=>?_⟩
     ·subst h
      refine ⟨i,j+1,true,_,rfl,by omega,by omega,t2 e,fun z=>by omega,fun _ _=>rfl,sG,hw3,?_⟩
      rw [if_pos hi'];exact hP3
     ·subst h
      obtain ⟨u1,u2⟩:=t3 e
      refine ⟨i+1,j,false,_,rfl,by omega,by omega,u1,fun _=>⟨rfl,hj'⟩,fun _ z=>by omega,sG,hw3,?_⟩
      by_cases hi2:i+1 < mS side
      ·rw [if_pos hi2] at u2 ⊢;rw [u2];exact hP3
      ·rw [if_neg hi2] at u2 ⊢;rw [show mS side=i+1 by omega] at u2 ⊢;rw [show i+1=mS side by omega] at u2 ⊢;rw [u2];exact hP3
    cases e:CB side top i j with
    | true=>
     rw [e] at fin
     walk_at "sts"
     cases lev with
     | true=>
      walk_at "sts"
      refine ⟨(fin false rfl).2 rfl,?_⟩
      show ((mS side:Int)+(mS top:Int) - ((i:Int)+1) - (j:Int)).toNat < ((mS side:Int)+(mS top:Int) - (i:Int) - (j:Int)).toNat
      omega
     | false=>
      walk_at "sts"
      refine ⟨(fin true rfl).1 rfl,?_⟩
      show ((mS side:Int)+(mS top:Int) - (i:Int) - ((j:Int)+1)).toNat < ((mS side:Int)+(mS top:Int) - (i:Int) - (j:Int)).toNat
      omega
    | false=>
     rw [e] at fin
     walk_at "sts"
     cases lev with
     | true=>
      walk_at "sts"
      refine ⟨(fin true rfl).1 rfl,?_⟩
      show ((mS side:Int)+(mS top:Int) - (i:Int) - ((j:Int)+1)).toNat < ((mS side:Int)+(mS top:Int) - (i:Int) - (j:Int)).toNat
      omega
     | false=>
      walk_at "sts"
      refine ⟨(fin false rfl).2 rfl,?_⟩
      show ((mS side:Int)+(mS top:Int) - ((i:Int)+1) - (j:Int)).toNat < ((mS side:Int)+(mS top:Int) - (i:Int) - (j:Int)).toNat
      omega
   ·rw [decide_eq_false (show ¬ (j:Int) < (mS top:Int) by omega)]
    obtain rfl:j=mS top:=by omega
    have hlv:=hf hi' rfl
    subst hlv
    have hg:gA (mS side) (CB side top) i (mS top)=l:=hA
    walk_at "sts"
    rw [decide_eq_false (show ¬ V.int (i:Int)=V.int (mS side:Int) from fun z=>by have:=V.int.inj z;omega)]
    walk_at "sts"
    refine cR rfl fun t G2 nt s2 ht2=>?_
    walk_at "sts"
    refine q t w ws _ G2 nw (s.trans s2) ht2 (s2 _ _ hw') ?_ fun R hE=>?_
    ·rw [yF hR hi' hg];exact hP.same s2
    ·rw [← hg,hE.2.2 i hi'];congr 1;omega
  ·rw [decide_eq_false (show ¬ (i:Int) < (mS side:Int) by omega)]
   obtain rfl:i=mS side:=by omega
   obtain ⟨hlv,hj2⟩:=hm rfl
   subst hlv
   have hg:gD (mS side) (CB side top) j (mS side)=l:=hA
   rw [if_neg (by omega)] at hP
   walk_at "sts"
   rw [decide_eq_true (rfl:V.int (mS side:Int)=V.int (mS side:Int))]
   walk_at "sts"
   refine cR rfl fun t G2 nt s2 ht2=>?_
   walk_at "sts"
   refine q t w ws _ G2 nw (s.trans s2) ht2 (s2 _ _ hw') (hP.same s2) fun R hE=>?_
   rw [← hg];exact hE.2.1 j hj2
 ·exact Qx (Ac (LK (LC _) (vo _) (vo _))) (Ac (LK (LC _) (vo _) (vo _)))
end
section
variable {P:Program} {w:World} {K:PySem.W.Frag} {mg:Str→Option Value} {base:Heap}
def kp (s:Nat×Nat):List Key:=[.inl (s.1:Int),.inl (s.2:Int)]
theorem QC {s t:Nat×Nat} (h:kp s=kp t):s=t:=by
 unfold kp at h
 simp only [List.cons.injEq,Sum.inl.injEq,and_true] at h
 exact Prod.ext (by omega) (by omega)
def dZ (Z:List ((Nat×Nat)×V)):List (List Key×V):=Z.map fun x=>(kp x.1,x.2)
theorem oO (Z:List ((Nat×Nat)×V)) (s:Nat×Nat):cX (dZ Z) (kp s)=Z.lookup s:=by
 induction Z with
 | nil=>rfl
 | cons x Z ih=>
  show cX ((kp x.1,x.2) :: dZ Z) (kp s)=_
  by_cases h:x.1=s
  ·subst h
   rw [dj rfl,List.lookup_cons,beq_self_eq_true]
  ·rw [dm (fun z=>h (QC z)),ih,List.lookup_cons]
   have:(s == x.1)=false:=by simpa using fun z:s=x.1=>h z.symm
   rw [this]
theorem yJ (Z:List ((Nat×Nat)×V)):(dZ Z).length=Z.length:=by simp [dZ]
theorem vp (Z:List ((Nat×Nat)×V)) (s:Nat×Nat) (v:V):dZ Z ++ [(kp s,v)]=dZ (Z ++ [(s,v)]):=by unfold dZ;rw [List.map_append];rfl
theorem vq {Z:List ((Nat×Nat)×V)} {s:Nat×Nat} {v:V} (h:Z.lookup s=some v):(s,v)∈Z:=by
 induction Z with
 | nil=>cases h
 | cons x Z ih=>
  rw [List.lookup_cons] at h
  by_cases e:s=x.1
  ·subst e
   rw [beq_self_eq_true] at h
   cases h
   exact List.mem_cons_self ..
  ·have:(s == x.1)=false:=by simpa using e
   rw [this] at h
   exact List.mem_cons_of_mem _ (ih h)
theorem lw {Z:List ((Nat×Nat)×V)} {s:Nat×Nat} (h:Z.lookup s=none):s ∉ Z.map (·.1):=by
 induction Z with
 | nil=>simp
 | cons x Z ih=>
  rw [List.lookup_cons] at h
  by_cases e:s=x.1
  ·subst e;rw [beq_self_eq_true] at h;cases h
  ·have:(s == x.1)=false:=by simpa using e
   rw [this] at h
   simp [e]
   simpa using ih h
structure DL (H0 G:Hp) (d:Addr) (Z:List ((Nat×Nat)×V)) (c:Nat×Nat→List V):Prop where
 hd:G d=some (.dT (dZ Z))
 nd:(Z.map (·.1)).Nodup
 val:∀ x∈Z,∃ p,x.2= .ref p∧G p=some (.lst (c x.1))∧H0 p=none
 inj:∀ x∈Z,∀ y∈Z,x.2=y.2→x=y
 non:∀ s,s ∉ Z.map (·.1)→c s=[]
theorem DL.same {H0 G G':Hp} {d:Addr} {Z:List ((Nat×Nat)×V)} {c:Nat×Nat→List V} (h:DL H0 G d Z c) (s:Same G G'):DL H0 G' d Z c:=
 ⟨s _ _ h.hd,h.nd,fun x hx=>by
  obtain ⟨p,e,hp,n⟩:=h.val x hx
  exact ⟨p,e,s _ _ hp,n⟩,h.inj,h.non⟩
theorem DL.low {H0 H1 G:Hp} {d:Addr} {Z:List ((Nat×Nat)×V)} {c:Nat×Nat→List V} (h:DL H1 G d Z c) (s:Same H0 H1):DL H0 G d Z c:=
 ⟨h.hd,h.nd,fun x hx=>by
  obtain ⟨p,e,hp,n⟩:=h.val x hx
  exact ⟨p,e,hp,Same.back s n⟩,h.inj,h.non⟩
def cu (c:Nat×Nat→List V) (s:Nat×Nat) (w:V):Nat×Nat→List V:=fun t=>if t=s then c s ++ [w] else c t
theorem DL.ext {H0 G:Hp} {d:Addr} {Z:List ((Nat×Nat)×V)} {c c':Nat×Nat→List V} (h:DL H0 G d Z c) (e:∀ s,c s=c' s):DL H0 G d Z c':=by
 have:c=c':=funext e
 rw [← this];exact h
theorem DL.nil {H0 G:Hp} {d:Addr} (h:G d=some (.dT [])):DL H0 G d [] fun _=>[]:=⟨h,List.nodup_nil,(fun x hx=>nomatch hx),(fun x hx=>nomatch hx),fun _ _=>rfl⟩
theorem DL.old {H0 G:Hp} {d:Addr} {Z:List ((Nat×Nat)×V)} {c:Nat×Nat→List V} (h:DL H0 G d Z c) {s:Nat×Nat} {v:V} (e:cX (dZ Z) (kp s)=some v) (w:V):
  ∃ p,v= .ref p∧G p=some (.lst (c s))∧H0 p=none∧DL H0 (upd G p (.lst (c s ++ [w]))) d Z (cu c s w):=by
 rw [oO] at e
 have hm:=vq e
 obtain ⟨p,rfl,hp,n⟩:=h.val _ hm
 refine ⟨p,rfl,hp,n,⟨by rw [az (fun z=>by rw [← z,h.hd] at hp;cases hp)];exact h.hd,h.nd,fun x hx=>?_,h.inj,fun t ht=>?_⟩⟩
 ·obtain ⟨p',e',hp',n'⟩:=h.val x hx
  refine ⟨p',e',?_,n'⟩
  by_cases ex:x.1=s
  ·have:x=(s,V.ref p):=by
    have h1:=h.nd
    obtain ⟨i,hi,e1⟩:=List.mem_iff_getElem.mp hx
    obtain ⟨j,hj,e2⟩:=List.mem_iff_getElem.mp hm
    have:i=j:=(List.getElem_inj h1 (h₀:=by simpa using hi) (h₁:=by simpa using hj)).mp (by simp [e1,e2,ex])
    subst this
    exact e1.symm.trans e2
   subst this
   cases e'
   rw [ak]
   unfold cu
   rw [if_pos rfl]
  ·have hne:p'≠p:=fun z=>ex (by rw [h.inj x hx _ hm (by rw [e',z])])
   rw [az hne,hp']
   unfold cu
   rw [if_neg ex]
 ·unfold cu
  rw [if_neg (fun z=>ht (by rw [z];exact List.mem_map.mpr ⟨_,hm,rfl⟩))]
  exact h.non t ht
theorem DL.new {H0 G:Hp} {d p:Addr} {Z:List ((Nat×Nat)×V)} {c:Nat×Nat→List V} (h:DL H0 G d Z c) {s:Nat×Nat} (e:cX (dZ Z) (kp s)=none) (w:V) (hp:G p=some (.lst [])) (hn:H0 p=none) (hf:∀ x∈Z,x.2≠.ref p):
  upd G d (.dT (dZ Z ++ [(kp s,.ref p)])) p=some (.lst [])∧DL H0 (upd (upd G d (.dT (dZ Z ++ [(kp s,.ref p)]))) p (.lst ([] ++ [w]))) d (Z ++ [(s,.ref p)]) (cu c s w):=by
 rw [oO] at e
 have hs:=lw e
 have hdp:d≠p:=fun z=>by rw [← z,h.hd] at hp;cases hp
 have hcs:=h.non s hs
 refine ⟨by rw [az (Ne.symm hdp)];exact hp,⟨by rw [az hdp,ak,vp],?_,fun x hx=>?_,fun x hx y hy exy=>?_,fun t ht=>?_⟩⟩
 ·rw [List.map_append]
  exact pM h.nd hs
 ·rcases List.mem_append.mp hx with hx | hx
  ·obtain ⟨p',e',hp',n'⟩:=h.val x hx
   have h1:p'≠p:=fun z=>hf x hx (by rw [e',z])
   have h2:p'≠d:=fun z=>by rw [z,h.hd] at hp';cases hp'
   refine ⟨p',e',?_,n'⟩
   rw [az h1,az h2,hp']
   unfold cu
   rw [if_neg (fun z=>hs (by rw [← z];exact List.mem_map.mpr ⟨x,hx,rfl⟩))]
  ·rw [List.mem_singleton.mp hx]
   refine ⟨p,rfl,?_,hn⟩
   rw [ak]
   unfold cu
   rw [if_pos rfl,hcs]
 ·rcases List.mem_append.mp hx with hx | hx <;> rcases List.mem_append.mp hy with hy | hy
  ·exact h.inj x hx y hy exy
  ·rw [List.mem_singleton.mp hy] at exy ⊢
   exact absurd exy (hf x hx)
  ·rw [List.mem_singleton.mp hx] at exy ⊢
   exact absurd exy.symm (hf y hy)
  ·rw [List.mem_singleton.mp hx,List.mem_singleton.mp hy]
 ·rw [List.map_append] at ht
  have h1:t≠s:=fun z=>ht (by rw [z];exact List.mem_append_right _ (List.mem_singleton.mpr rfl))
  unfold cu
  rw [if_neg h1]
  exact h.non t fun z=>ht (List.mem_append_left _ z)
theorem DL.fresh {H0 G:Hp} {d p:Addr} {Z:List ((Nat×Nat)×V)} {c:Nat×Nat→List V} (h:DL H0 G d Z c) (hn:G p=none):∀ x∈Z,x.2≠.ref p:=fun x hx z=>by
 obtain ⟨p',e',hp',_⟩:=h.val x hx
 rw [e'] at z
 cases z
 rw [hn] at hp';cases hp'
theorem DL.get {H0 G:Hp} {d:Addr} {Z:List ((Nat×Nat)×V)} {c:Nat×Nat→List V} (h:DL H0 G d Z c) (s:Nat×Nat):(cX (dZ Z) (kp s)=none∧c s=[])∨∃ p,cX (dZ Z) (kp s)=some (.ref p)∧G p=some (.lst (c s))∧s∈Z.map (·.1):=by
 cases e:cX (dZ Z) (kp s) with
 | none=>exact .inl ⟨rfl,h.non s (lw (by rw [← oO];exact e))⟩
 | some v=>
  rw [oO] at e
  obtain ⟨p,e',hp,_⟩:=h.val _ (vq e)
  cases e'
  exact .inr ⟨p,rfl,hp,List.mem_map.mpr ⟨_,vq e,rfl⟩⟩
section
variable {m far:Nat} {C:Nat→Nat→Bool}
def cI (s:Nat×Nat):II:=((s.1:Int),(s.2:Int))
theorem QD {s t:Nat×Nat} (h:cI s=cI t):s=t:=by
 unfold cI at h
 have h1:(s.1:Int)=t.1:=congrArg Prod.fst h
 have h2:(s.2:Int)=t.2:=congrArg Prod.snd h
 exact Prod.ext (by omega) (by omega)
theorem QF (far:Nat):∀ i j,j≤far→(o9 far i j).Nodup:=by
 refine nJ (P:=fun i j=>(o9 far i j).Nodup) List.nodup_nil (fun i j hj ih=>?_) (fun i ih=>by rw [pX];exact ih)
 rw [j7]
 refine pM ih fun h=>?_
 obtain ⟨a,b,e,hab⟩:=pZ h
 have h1:=congrArg Prod.fst e
 have h2:=congrArg Prod.snd e
 simp only at h1 h2
 omega
theorem QG {i j a b:Nat} (h:a < i∧b < far∨a=i∧b < j):((a:Int),(b:Int))∈o9 far i j:=by
 unfold o9 Aa
 rcases h with ⟨h1,h2⟩ | ⟨rfl,h2⟩
 ·exact List.mem_append_left _ (List.mem_flatMap.mpr ⟨a,List.mem_range.mpr h1,List.mem_map.mpr ⟨b,List.mem_range.mpr h2,rfl⟩⟩)
 ·exact List.mem_append_right _ (List.mem_map.mpr ⟨b,List.mem_range.mpr h2,rfl⟩)
def Ku (m:Nat) (C:Nat→Nat→Bool) (far l:Nat) (s:Nat×Nat):List Nat:=if s.1 < m∧s.2 < far then (List.range l).filter (fun k=>lD m C k (cI s)) else []
theorem vy {l:Nat} {s:Nat×Nat}:cI s∈fB m C far l m 0↔(s.1 < m∧s.2 < far)∧lD m C l (cI s)=true:=by
 unfold fB
 rw [List.mem_filter]
 refine and_congr_left fun _=>⟨fun h=>?_,fun h=>QG (.inl h)⟩
 obtain ⟨a,b,e,hab⟩:=pZ h
 have h1:(s.1:Int)=a:=congrArg Prod.fst e
 have h2:(s.2:Int)=b:=congrArg Prod.snd e
 omega
theorem G8 (l:Nat) (s:Nat×Nat):Ku m C far (l+1) s=Ku m C far l s ++ (if cI s∈fB m C far l m 0 then [l] else []):=by
 unfold Ku
 by_cases hb:s.1 < m∧s.2 < far
 ·rw [if_pos hb,if_pos hb,List.range_succ,List.filter_append]
  congr 1
  by_cases hc:lD m C l (cI s)=true
  ·rw [if_pos (vy.mpr ⟨hb,hc⟩)]
   exact (List.filter_cons_of_pos (p:=fun k=>lD m C k (cI s)) hc).trans rfl
  ·rw [if_neg (fun z=>hc (vy.mp z).2)]
   exact (List.filter_cons_of_neg (p:=fun k=>lD m C k (cI s)) hc).trans rfl
 ·rw [if_neg hb,if_neg hb,if_neg (fun z=>hb (vy.mp z).1)];rfl
theorem QH {n x y:Nat} (hxy:x < y) (hy:y < n) (f:Nat→Bool) (hf:∀ k,k < n→(f k=true↔k=x∨k=y)):(List.range n).filter f=[x,y]:=by
 refine List.Perm.eq_of_pairwise (le:=(· ≤ ·)) (fun a b _ _ h1 h2=>Nat.le_antisymm h1 h2) ?_ (by simp;omega) ?_
 ·exact (List.pairwise_lt_range.imp fun h=>Nat.le_of_lt h).filter _
 ·refine (List.perm_ext_iff_of_nodup (List.nodup_range.filter _) (by simp;omega)).mpr fun k=>?_
  rw [List.mem_filter,List.mem_range]
  simp only [List.mem_cons,List.mem_nil_iff,or_false]
  constructor
  ·rintro ⟨h1,h2⟩
   exact (hf k h1).mp h2
  ·intro h
   exact ⟨by omega,(hf k (by omega)).mpr h⟩
theorem Kv (hR:∀ i j,i < m→j < far→C i j=false→gA m C i j≤gD m C j i) {i j:Nat} (hi:i < m) (hj:j < far):∃ x y:Nat,x < y∧y < m+far∧Ku m C far (m+far) (i,j)=[x,y]∧∀ a b,a < b→(vg m C a b ((i:Int),(j:Int))=true↔(a,b)=(x,y)):=by
 have hl:=Rn (m:=m) (C:=C) (far:=far) (i+j) i j (Nat.le_refl _) hi hj
 have key:∀ x y:Nat,x < y→y < m+far→(gA m C i j=x∧gD m C j i=y∨gA m C i j=y∧gD m C j i=x)→Ku m C far (m+far) (i,j)=[x,y]∧∀ a b,a < b→(vg m C a b ((i:Int),(j:Int))=true↔(a,b)=(x,y)):=by
  intro x y hxy hy hg
  refine ⟨?_,fun a b hab=>⟨fun h=>?_,fun h=>?_⟩⟩
  ·unfold Ku
   rw [if_pos ⟨hi,hj⟩]
   refine QH hxy hy _ fun k _=>?_
   show lD m C k ((i:Int),(j:Int))=true↔_
   rw [jM,Bool.or_eq_true,decide_eq_true_iff,decide_eq_true_iff]
   omega
  ·have:=GP (by omega) h
   exact Prod.ext (by show a=x;omega) (by show b=y;omega)
  ·cases h
   exact GQ (by omega)
 rcases rC hR hi hj with h | h
 ·exact ⟨_,_,h.1,hl.2,(key _ _ h.1 hl.2 (.inl ⟨rfl,rfl⟩)).1,(key _ _ h.1 hl.2 (.inl ⟨rfl,rfl⟩)).2⟩
 ·exact ⟨_,_,h.1,hl.1,(key _ _ h.1 hl.1 (.inr ⟨rfl,rfl⟩)).1,(key _ _ h.1 hl.1 (.inr ⟨rfl,rfl⟩)).2⟩
end
end
local macro_rules | `(tactic| walk_at "sts") => `(tactic| (with_reducible repeat (first | refine rO ?_ | refine mR ?_ | refine pA ?_ | refine lX ?_ | refine lY ?_ | (refine' lN ?hz0 ?_; (case hz0 => with_unfolding_all rfl)) | refine Hm ?_ | refine rT ?_ | refine jc ?_ | refine iT ?_ | refine lO ?_ | refine tK ?_ | refine lH ?_ | refine iJ ?_ | refine lK ?_ | refine iI ?_ | refine rK ?_ | refine iM ?_ | refine rU ?_ | refine rP ?_ | refine iU ?_ | refine rM ?_ | refine lL ?_ | refine lM ?_ | refine rN ?_ | refine iQ ?_ | refine iR ?_ | refine lJ ?_ | refine iK ?_ | refine uN ?_ | refine uM ?_ | refine rQ ?_ | refine rR ?_ | refine lQ ?_ | refine iV ?_ | refine iW ?_ | refine iY ?_ | refine iZ ?_ | refine jb ?_ | refine lU ?_ | refine fV ?_ | refine ji ?_ | (refine' dh (SqT.of ?hz0) ?hz1 ?_; (case hz0 => first | assumption | exact ak); (case hz1 => rfl)) | refine fX ?_ | refine fZ ?_ | refine fY ?_ | refine gO ?_ | refine gP ?_ | refine jn ?_ | refine jo ?_ | refine lW ?_ | refine dX ?_ | refine rW ?_ | refine gJ ?_ | refine gK ?_ | refine jj ?_ | refine jk ?_ | refine jl ?_ | refine fW ?_ | refine jU ?_ | refine je ?_ | (refine' Hn ?hz0 ?_; (case hz0 => with_unfolding_all first | assumption | omega | (dsimp only <;> omega) | exact ⟨by omega, by omega⟩ | exact .inl ⟨by omega, by omega⟩ | exact .inr ⟨by omega, by omega⟩ | exact ⟨by decide, by decide, by decide⟩)) | (refine' jd ?hz0 ?_; (case hz0 => with_unfolding_all first | assumption | omega | (dsimp only <;> omega) | exact ⟨by omega, by omega⟩ | exact .inl ⟨by omega, by omega⟩ | exact .inr ⟨by omega, by omega⟩ | exact ⟨by decide, by decide, by decide⟩)) | (refine' bT (SqL.of ?hz0) ?hz1 ?_; (case hz0 => first | assumption | exact ak); (case hz1 => with_unfolding_all rfl)) | (refine' fG (SqT.of ?hz0) ?hz1 ?_; (case hz0 => first | assumption | exact ak); (case hz1 => with_unfolding_all rfl)) | (refine' eZ ?hz0 ?hz1 ?_; (case hz0 => first | assumption | exact ak); (case hz1 => with_unfolding_all rfl)) | refine gb ?_ | refine gf ?_ | refine lZ ?_ | refine jq ?_ | refine Fx ?_ | refine Fw ?_ | refine zN ?_ | refine f9 ?_ | refine du ?_ | refine FT ?_ | refine zQ ?_ | refine wz ?_)))
local macro_rules | `(tactic| walk_at "stn") => `(tactic| (with_reducible repeat (first | refine rO ?_ | refine mR ?_ | refine pA ?_ | refine lX ?_ | refine lY ?_ | (refine' lN ?hz0 ?_; (case hz0 => with_unfolding_all rfl)) | refine Hm ?_ | refine rT ?_ | refine jc ?_ | refine iT ?_ | refine lO ?_ | refine lH ?_ | refine iJ ?_ | refine lK ?_ | refine iI ?_ | refine rK ?_ | refine iM ?_ | refine rU ?_ | refine rP ?_ | refine iU ?_ | refine rM ?_ | refine lL ?_ | refine lM ?_ | refine rN ?_ | refine iQ ?_ | refine iR ?_ | refine lJ ?_ | refine iK ?_ | refine uN ?_ | refine uM ?_ | refine rQ ?_ | refine rR ?_ | refine lQ ?_ | refine iV ?_ | refine iW ?_ | refine iY ?_ | refine iZ ?_ | refine jb ?_ | refine lU ?_ | refine fV ?_ | refine ji ?_ | (refine' dh (SqT.of ?hz0) ?hz1 ?_; (case hz0 => first | assumption | exact ak); (case hz1 => rfl)) | refine fX ?_ | refine fZ ?_ | refine fY ?_ | refine gO ?_ | refine gP ?_ | refine jn ?_ | refine jo ?_ | refine lW ?_ | refine dX ?_ | refine rW ?_ | refine gJ ?_ | refine gK ?_ | refine jj ?_ | refine jk ?_ | refine jl ?_ | refine fW ?_ | refine jU ?_ | refine je ?_ | (refine' Hn ?hz0 ?_; (case hz0 => with_unfolding_all first | assumption | omega | (dsimp only <;> omega) | exact ⟨by omega, by omega⟩ | exact .inl ⟨by omega, by omega⟩ | exact .inr ⟨by omega, by omega⟩ | exact ⟨by decide, by decide, by decide⟩)) | (refine' jd ?hz0 ?_; (case hz0 => with_unfolding_all first | assumption | omega | (dsimp only <;> omega) | exact ⟨by omega, by omega⟩ | exact .inl ⟨by omega, by omega⟩ | exact .inr ⟨by omega, by omega⟩ | exact ⟨by decide, by decide, by decide⟩)) | (refine' bT (SqL.of ?hz0) ?hz1 ?_; (case hz0 => first | assumption | exact ak); (case hz1 => with_unfolding_all rfl)) | (refine' fG (SqT.of ?hz0) ?hz1 ?_; (case hz0 => first | assumption | exact ak); (case hz1 => with_unfolding_all rfl)) | (refine' eZ ?hz0 ?hz1 ?_; (case hz0 => first | assumption | exact ak); (case hz1 => with_unfolding_all rfl)) | refine gb ?_ | refine gf ?_ | refine lZ ?_ | refine jq ?_ | refine Fx ?_ | refine Fw ?_ | refine zN ?_ | refine f9 ?_ | refine du ?_ | refine FT ?_ | refine zQ ?_ | refine wz ?_)))
section
variable {P:Program} {w:World} {K:PySem.W.Frag} {mg:Str→Option Value} {base:Heap}
theorem QJ:aQ bQ "_law_met_here":=by decide+kernel
theorem QK:cJ bQ "range":=by decide+kernel
theorem kz4v:aQ bQ "_law_many":=by decide+kernel
theorem QL:aQ bQ "_law_i":=by decide+kernel
theorem kz4x:aQ bQ "_law_far":=by decide+kernel
theorem QM:aQ bQ "_law_j":=by decide+kernel
theorem Kw:aQ bQ "_law_lines":=by decide+kernel
theorem UW:cJ bQ "len":=by decide+kernel
theorem QQ:aQ bQ "_law_there":=by decide+kernel
theorem U0:aQ bQ "_law_ways":=by decide+kernel
theorem QR:aQ bQ "_law_line":=by decide+kernel
theorem U4:aQ bQ "_law_cell":=by decide+kernel
theorem DL.add {H0 G:Hp} {d p:Addr} {Z:List ((Nat×Nat)×V)} {c:Nat×Nat→List V} (h:DL H0 G d Z c) {s:Nat×Nat} (e:cX (dZ Z) (kp s)=none) (hp:G p=some (.lst [])) (hn:H0 p=none) (hf:∀ x∈Z,x.2≠.ref p):
  DL H0 (upd G d (.dT (dZ Z ++ [(kp s,.ref p)]))) d (Z ++ [(s,.ref p)]) c∧cX (dZ (Z ++ [(s,.ref p)])) (kp s)=some (.ref p):=by
 have e0:=e
 rw [oO] at e
 have hs:=lw e
 have hdp:d≠p:=fun z=>by rw [← z,h.hd] at hp;cases hp
 have hcs:=h.non s hs
 refine ⟨⟨by rw [ak,vp],by rw [List.map_append];exact pM h.nd hs,fun x hx=>?_,fun x hx y hy exy=>?_,fun t ht=>?_⟩,?_⟩
 ·rcases List.mem_append.mp hx with hx | hx
  ·obtain ⟨p',e',hp',n'⟩:=h.val x hx
   exact ⟨p',e',by rw [az (fun z=>by rw [z,h.hd] at hp';cases hp')];exact hp',n'⟩
  ·rw [List.mem_singleton.mp hx]
   exact ⟨p,rfl,by rw [az (Ne.symm hdp),hcs];exact hp,hn⟩
 ·rcases List.mem_append.mp hx with hx | hx <;> rcases List.mem_append.mp hy with hy | hy
  ·exact h.inj x hx y hy exy
  ·rw [List.mem_singleton.mp hy] at exy ⊢
   exact absurd exy (hf x hx)
  ·rw [List.mem_singleton.mp hx] at exy ⊢
   exact absurd exy.symm (hf y hy)
  ·rw [List.mem_singleton.mp hx,List.mem_singleton.mp hy]
 ·rw [List.map_append] at ht
  exact h.non t fun z=>ht (List.mem_append_left _ z)
 ·rw [← vp,← vO _ e0,DG,if_pos rfl]
def WL (H:Hp) (us:List V) (n:Nat) (f:Nat→List II):Prop:=us.length=n∧∀ l,l < n→∃ p ws,us[l]?=some (.ref p)∧H p=some (.lst ws)∧PrI H ws (f l)
def dR (side top:Str) (a b:Nat):List II:=gm (mS side) (CB side top) (mS top) a b (mS side) 0
def Met (H0 G:Hp) (d:Addr) (side top:Str):Prop:=∃ Z c,DL H0 G d Z c∧(∀ a b,a < b→PrI G (c (a,b)) (dR side top a b))∧(∀ x∈Z,x.1.1 < x.1.2∧x.1.2 < mS side+mS top)∧Z.length≤3000
theorem Met.same {H0 G G':Hp} {d:Addr} {side top:Str} (h:Met H0 G d side top) (s:Same G G'):Met H0 G' d side top:=by
 obtain ⟨Z,c,h1,h2,h3,h4⟩:=h
 exact ⟨Z,c,h1.same s,fun a b hab=>(h2 a b hab).same s,h3,h4⟩
def U6:Sp:=fun vs H Q _=>∃ (a:Addr) (us:List V) (side top:Str),vs=[.ref a,.int (mS side:Nat),.int (mS top:Nat)]∧H a=some (.lst us)∧gU side∧gU top∧WL H us (mS side+mS top) (fun l=>fB (mS side) (CB side top) (mS top) l (mS side) 0)∧
 ∀ d H',H d=none→Same H H'→Met H H' d side top→Q (.ref d) H'
def cW (side top:Str) (l n:Nat) (s:Nat×Nat):List V:=(Ku (mS side) (CB side top) (mS top) l s ++ (if cI s∈(fB (mS side) (CB side top) (mS top) l (mS side) 0).take n then [l] else [])).map fun k:Nat=>V.int (k:Int)
theorem QS {side top:Str} (l:Nat):(fB (mS side) (CB side top) (mS top) l (mS side) 0).Nodup:=(QF _ _ _ (Nat.zero_le _)).filter _
theorem Ad {side top:Str} {l n:Nat} {t:Nat×Nat} (h:(fB (mS side) (CB side top) (mS top) l (mS side) 0)[n]?=some (cI t)) (s:Nat×Nat):cu (cW side top l n) t (.int (l:Int)) s=cW side top l (n+1) s:=by
 have hnd:=QS (side:=side) (top:=top) l
 have hn:cI t ∉ (fB (mS side) (CB side top) (mS top) l (mS side) 0).take n:=fun hm=>by
  obtain ⟨k,hk,e⟩:=List.mem_iff_getElem.mp hm
  rw [List.length_take] at hk
  rw [List.getElem_take] at e
  obtain ⟨hn',e'⟩:=List.getElem?_eq_some_iff.mp h
  have:=(List.getElem_inj hnd).mp (e.trans e'.symm)
  omega
 have tk:(fB (mS side) (CB side top) (mS top) l (mS side) 0).take (n+1)=(fB (mS side) (CB side top) (mS top) l (mS side) 0).take n ++ [cI t]:=by rw [List.take_add_one,h];rfl
 unfold cu
 by_cases e:s=t
 ·subst e
  rw [if_pos rfl]
  unfold cW
  rw [if_neg hn,tk,if_pos (List.mem_append_right _ (List.mem_singleton.mpr rfl)),List.append_nil,List.map_append];rfl
 ·rw [if_neg e]
  unfold cW
  rw [tk]
  congr 2
  by_cases hm:cI s∈(fB (mS side) (CB side top) (mS top) l (mS side) 0).take n
  ·rw [if_pos hm,if_pos (List.mem_append_left _ hm)]
  ·rw [if_neg hm,if_neg fun z=>(List.mem_append.mp z).elim hm fun z=>e (QD (List.mem_singleton.mp z))]
theorem Ky {side top:Str} (l:Nat) (s:Nat×Nat):cW side top l (fB (mS side) (CB side top) (mS top) l (mS side) 0).length s=cW side top (l+1) 0 s:=by
 unfold cW
 rw [List.take_length,List.take_zero,G8,if_neg (fun z:cI s∈([]:List II)=>nomatch z),List.append_nil]
theorem G9 {side top:Str} (s:Nat×Nat):cW side top 0 0 s=[]:=by
 unfold cW Ku
 rw [List.take_zero,if_neg (fun z:cI s∈([]:List II)=>nomatch z)]
 split <;> rfl
theorem Ha {side top:Str} {l n:Nat} {q:II} (h:(fB (mS side) (CB side top) (mS top) l (mS side) 0)[n]?=some q):∃ t:Nat×Nat,q=cI t∧t.1 < mS side∧t.2 < mS top:=by
 have hm:=List.mem_of_getElem? h
 unfold fB at hm
 obtain ⟨a,b,e,hab⟩:=pZ (List.mem_filter.mp hm).1
 exact ⟨(a,b),e,by show a < _;omega,by show b < _;omega⟩
theorem wW {side top:Str} (l:Nat) (hs:gU side) (ht:gU top):(fB (mS side) (CB side top) (mS top) l (mS side) 0).length≤2304:=by
 have h1:(fB (mS side) (CB side top) (mS top) l (mS side) 0).length≤(o9 (mS top) (mS side) 0).length:=List.length_filter_le _ _
 rw [nO] at h1
 have:mS side*mS top≤48*48:=Nat.mul_le_mul hs.1 ht.1
 omega
theorem dJ:aF ["_law_ways","_law_many","_law_far","_law_there","_law_line","_law_cell","_law_met_here","_law_i","_law_j","_law_lines"] ["_law_ways","_law_many","_law_far"] (au bQ):=⟨rfl,rfl,rfl,by decide+kernel,rfl,by decide+kernel,by decide+kernel⟩
theorem oR (T:Txt K mg):pC P w K mg base 1 "_law_met" ["_law_ways","_law_many","_law_far"] U6:=by
 refine jz T.d_law_met dJ (fun _ _ _ _ _ _ us hl=>L2.vA (fun _ _ _=>rfl) us hl) ?_ fun f cdv A outer s H vs Q E hr h=>?_
 ·rintro vs H Q E ⟨a,us,side,top,rfl,_⟩;rfl
 obtain ⟨a,us,side,top,rfl,ha,hs,ht,hW,q⟩:=h
 have hu:=hr.units0
 have hu64:=hr.units
 refine ⟨_,(aq (aC (i:=3) dJ.nd rfl (Or.inl QQ) zM rfl) (aq (bZ PassesOwn.never rfl (cA (bB QK) T.b_range (aa (aD (aJ (K:=K) rfl) (bB UW) T.b_len bU (aa (aj 0 U0) ao) (by decide+kernel) (by decide+kernel)) ao)) (aH (i:=4) dJ.nd rfl (Or.inl QR) rfl) (aA (bZ PassesOwn.never rfl (jh (K:=K) rfl (bO (K:=K) rfl (aj 0 U0) (aj 4 QR))) (aH (i:=5) dJ.nd rfl (Or.inl U4) rfl) (aA (bL (uO (K:=K) rfl PySem.F.plainAttrs_list PySem.F.slot_list_append PySem.F.type_list_append bN (ww hu64 (aj 3 QQ) (aj 5 U4) (fc ao)) (aa (aj 4 QR) ao))))))) (aq (aC (i:=6) dJ.nd rfl (Or.inl QJ) zM rfl) (aq (bZ PassesOwn.never rfl (cA (bB QK) T.b_range (aa (aj 1 kz4v) ao)) (aH (i:=7) dJ.nd rfl (Or.inl QL) rfl) (aA (bZ PassesOwn.never rfl (cA (bB QK) T.b_range (aa (aj 2 kz4x) ao)) (aH (i:=8) dJ.nd rfl (Or.inl QM) rfl) (aq (aC (i:=9) dJ.nd rfl (Or.inl Kw) (zP hu64 (aj 3 QQ) (iu (aa (aj 7 QL) (aa (aj 8 QM) ao))) (fc ao)) rfl) (aq (bV (bc (gH (K:=K) rfl hu64) (aD (aJ (K:=K) rfl) (bB UW) T.b_len bU (aa (aj 9 Kw) ao) (by decide+kernel) (by decide+kernel)) aB (by first | exact aL _ | with_unfolding_all rfl)) (aA (aG jy)) bC) (aA (bL (uO (K:=K) rfl PySem.F.plainAttrs_list PySem.F.slot_list_append PySem.F.type_list_append bN (ww hu64 (aj 6 QJ) (iu (aa (bO (K:=K) rfl (aj 9 Kw) aB) (aa (bO (K:=K) rfl (aj 9 Kw) aB) ao))) (fc ao)) (aa (iu (aa (aj 7 QL) (aa (aj 8 QM) ao))) ao))))))))) (aA (aG (aj 6 QJ))))))),?_⟩
 walk_at "sts"
 have hz:1000000≤sizeLine:=by decide
 have hR:=(gC side top).le
 have hs48:mS side≤48:=hs.1
 have ht48:mS top≤48:=ht.1
 have hul:=hW.1
 intro d nd
 have S1:=(Same.refl H).upd nd (o:=.dT [])
 have hd:=ak (H:=H) (a:=d) (o:=.dT [])
 generalize upd H d (.dT [])=H1 at S1 hd ⊢
 walk_at "sts"
 refine gn (SqL.of (S1 _ _ ha)) ?_
 walk_at "sts"
 rw [hul]
 refine ⟨_,rfl,by omega,by omega,?_⟩
 rw [show (((mS side+mS top:Nat):Int)).toNat=mS side+mS top by omega]
 refine cV (n:=mS side+mS top) (fun l σ G=>Same H G∧(∃ Z,DL H G d Z (cW side top l 0)∧Z.length≤l*2304)∧∃ x4 x5,σ=[some (.ref a),some (.int (mS side:Nat)),some (.int (mS top:Nat)),some (.ref d),x4,x5,none,none,none,none]) ⟨S1,⟨[],(DL.nil hd).ext fun s=>(G9 s).symm,Nat.zero_le _⟩,_,_,rfl⟩ ?_ ?_
 ·rintro l σ G hl ⟨s,⟨Z,hD,hZ⟩,x4,x5,rfl⟩
  rw [Int.zero_add]
  obtain ⟨p,ws,e,hp,hP⟩:=hW.2 l hl
  have hwl:=hP.len
  have hsl:=wW (side:=side) (top:=top) l hs ht
  have e2:(l+1)*2304=l*2304+2304:=by omega
  walk_at "sts"
  refine bT (SqL.of (s _ _ ha)) (bF e) ?_
  walk_at "sts"
  refine .inl ⟨p,rfl,⟨_,SqL.of (s _ _ hp)⟩,?_⟩
  refine ju (xs:=ws) (fun n σ G=>Same H G∧(∃ Z,DL H G d Z (cW side top l n)∧Z.length≤l*2304+n)∧∃ x5,σ=[some (.ref a),some (.int (mS side:Nat)),some (.int (mS top:Nat)),some (.ref d),some (.int (l:Int)),x5,none,none,none,none]) ⟨s,⟨Z,hD,by omega⟩,_,rfl⟩ (fun i σ G _ h=>SqL.of (h.1 _ _ hp)) ?_ ?_
  ·rintro n v σ G hv ⟨s,⟨Z,hD,hZ⟩,x5,rfl⟩
   obtain ⟨cq,r,hL,rfl,hr⟩:=(hP.same s).item hv
   obtain ⟨t,rfl,ht1,ht2⟩:=Ha hL
   have hn:n < 2304:=Nat.lt_of_lt_of_le (List.getElem?_eq_some_iff.mp hL).1 hsl
   replace hr:G r=some (.tup ((kp t).map kV)):=hr
   have cl:(cW side top l n t).length≤200:=by
    unfold cW Ku
    rw [List.length_map,List.length_append]
    have a1:(if t.1 < mS side∧t.2 < mS top then (List.range l).filter (fun k=>lD (mS side) (CB side top) k (cI t)) else []).length≤l:=by
     split
     ·exact Nat.le_trans (List.length_filter_le _ _) (by simp)
     ·exact Nat.zero_le _
    have a2:(if cI t∈(fB (mS side) (CB side top) (mS top) l (mS side) 0).take n then [l] else []).length≤1:=by split <;> simp
    omega
   walk_at "sts"
   refine ⟨d,rfl,.inr ⟨_,.inl hD.hd⟩,?_⟩
   walk_at "sts"
   refine cR rfl fun e1 G2 ne1 s2 he1=>?_
   walk_at "sts"
   have hD2:=hD.same s2
   have hr2:=s2 _ _ hr
   have s12:=s.trans s2
   have ne0:=Same.back s ne1
   refine ⟨_,kp t,r,hD2.hd,rfl,hr2,by rw [yJ];omega,fun v ev=>?_,fun ev=>?_⟩
   ·obtain ⟨p',rfl,hp',np',hD3⟩:=hD2.old ev (.int (l:Int))
    refine ⟨.inl ⟨rfl,_,SqL.of hp'⟩,?_⟩
    walk_at "sts"
    refine bM hp' (by omega) ?_
    exact ⟨Same.put s12 np',⟨Z,hD3.ext fun s=>Ad hL s,by omega⟩,_,rfl⟩
   ·obtain ⟨h1,hD3⟩:=hD2.new ev (.int (l:Int)) he1 ne0 (hD.fresh ne1)
    refine ⟨.inl ⟨rfl,_,SqL.of h1⟩,?_⟩
    walk_at "sts"
    refine bM h1 (by simp;omega) ?_
    exact ⟨Same.put (Same.put s12 nd) ne0,⟨_,hD3.ext fun s=>Ad hL s,by rw [List.length_append];show Z.length+1≤_;omega⟩,_,rfl⟩
  ·rintro σ G ⟨s,⟨Z,hD,hZ⟩,x5,rfl⟩
   rw [hwl] at hD hZ
   have hZ':Z.length≤l*2304+2304:=Nat.le_trans hZ (Nat.add_le_add_left hsl _)
   exact ⟨s,⟨Z,hD.ext fun s=>Ky l s,by omega⟩,_,_,rfl⟩
 rintro σ H2 ⟨S2,⟨Z,hD,hZ⟩,x4,x5,rfl⟩
 walk_at "sts"
 intro d2 nd2
 have nd20:=Same.back S2 nd2
 have S3:=(Same.refl H2).upd nd2 (o:=.dT [])
 have hd2:=ak (H:=H2) (a:=d2) (o:=.dT [])
 generalize upd H2 d2 (.dT [])=H3 at S3 hd2 ⊢
 walk_at "sts"
 refine ⟨_,rfl,by omega,by omega,?_⟩
 rw [show (((mS side:Nat):Int)).toNat=mS side by omega]
 refine cV (n:=mS side) (fun i σ G=>Same H2 G∧(∃ Z c,DL H2 G d2 Z c∧(∀ a b,a < b→PrI G (c (a,b)) (gm (mS side) (CB side top) (mS top) a b i 0))∧(∀ x∈Z,x.1.1 < x.1.2∧x.1.2 < mS side+mS top)∧Z.length≤i*mS top)∧∃ x7 x8 x9,σ=[some (.ref a),some (.int (mS side:Nat)),some (.int (mS top:Nat)),some (.ref d),x4,x5,some (.ref d2),x7,x8,x9]) ⟨S3,⟨[],_,DL.nil hd2,(fun a b _=>trivial),(fun x hx=>nomatch hx),Nat.zero_le _⟩,_,_,_,rfl⟩ ?_ ?_
 ·rintro i σ G hi ⟨s,⟨Z2,c2,hD2,hP2,hk2,hl2⟩,x7,x8,x9,rfl⟩
  rw [Int.zero_add]
  have im:i*mS top≤48*48:=Nat.mul_le_mul (by omega) ht48
  walk_at "sts"
  refine ⟨_,rfl,by omega,by omega,?_⟩
  rw [show (((mS top:Nat):Int)).toNat=mS top by omega]
  refine cV (n:=mS top) (fun j σ G=>Same H2 G∧(∃ Z c,DL H2 G d2 Z c∧(∀ a b,a < b→PrI G (c (a,b)) (gm (mS side) (CB side top) (mS top) a b i j))∧(∀ x∈Z,x.1.1 < x.1.2∧x.1.2 < mS side+mS top)∧Z.length≤i*mS top+j)∧∃ x8 x9,σ=[some (.ref a),some (.int (mS side:Nat)),some (.int (mS top:Nat)),some (.ref d),x4,x5,some (.ref d2),some (.int (i:Int)),x8,x9]) ⟨s,⟨Z2,c2,hD2,hP2,hk2,hl2⟩,_,_,rfl⟩ ?_ ?_
  ·rintro j σ G hj ⟨s,⟨Z2,c2,hD2,hP2,hk2,hl2⟩,x8,x9,rfl⟩
   rw [Int.zero_add]
   obtain ⟨x,y,hxy,hy,hlc,hb⟩:=Kv hR hi hj
   have hc:cW side top (mS side+mS top) 0 (i,j)=[.int (x:Int),.int (y:Int)]:=by
    unfold cW
    rw [hlc,List.take_zero,if_neg (fun z:cI (i,j)∈([]:List II)=>nomatch z)];rfl
   walk_at "sts"
   refine ⟨d,rfl,.inr ⟨_,.inl (hD.same s).hd⟩,?_⟩
   walk_at "sts"
   refine cR rfl fun k1 G2 nk1 s2 hk1=>?_
   walk_at "sts"
   refine cR rfl fun e1 G3 ne1 s3 he1=>?_
   walk_at "sts"
   have s23:=s2.trans s3
   refine ⟨_,DGet.t (k:=kp (i,j)) ((hD.same (s.trans s23)).hd) (s3 _ _ hk1),?_⟩
   obtain ⟨p,ep,hp⟩:∃ p,cX (dZ Z) (kp (i,j))=some (.ref p)∧H2 p=some (.lst [.int (x:Int),.int (y:Int)]):=by
    rcases hD.get (i,j) with h | ⟨p,h1,h2,_⟩
    ·rw [hc] at h;cases h.2
    ·rw [hc] at h2;exact ⟨p,h1,h2⟩
   rw [ep,Option.getD_some]
   have hp3:=s23 _ _ (s _ _ hp)
   walk_at "sts"
   refine gn (SqL.of hp3) ?_
   walk_at "sts"
   rw [show (!decide (V.int (([V.int (x:Int),V.int (y:Int)]:List V).length:Int)=V.int 2))=false from rfl]
   walk_at "sts"
   refine ⟨d2,rfl,.inr ⟨_,.inl (s23 _ _ hD2.hd)⟩,?_⟩
   walk_at "sts"
   refine cR rfl fun k2 G4 nk2 s4 hk2'=>?_
   walk_at "sts"
   refine cR rfl fun e2 G5 ne2 s5 he2=>?_
   walk_at "sts"
   have s25:=s23.trans (s4.trans s5)
   have sA:=s.trans s25
   have hD5:=hD2.same s25
   have ne20:=Same.back (s.trans (s23.trans s4)) ne2
   have im:i*mS top≤48*48:=Nat.mul_le_mul (by omega) ht48
   have hne:∀ a b,a < b→(a,b)≠(x,y)→gm (mS side) (CB side top) (mS top) a b i (j+1)=gm (mS side) (CB side top) (mS top) a b i j:=fun a b hab hn=>yH (by
    cases e:vg (mS side) (CB side top) a b ((i:Int),(j:Int)) with
    | false=>rfl
    | true=>exact absurd ((hb a b hab).mp e) hn)
   have hye:gm (mS side) (CB side top) (mS top) x y i (j+1)=gm (mS side) (CB side top) (mS top) x y i j ++ [((i:Int),(j:Int))]:=vh ((hb x y hxy).mpr rfl)
   have clen:(c2 (x,y)).length≤2400:=by
    have h1:=(hP2 x y hxy).len
    have h2:(gm (mS side) (CB side top) (mS top) x y i j).length≤(o9 (mS top) i j).length:=List.length_filter_le _ _
    have h3:(o9 (mS top) i j).length=i*mS top+j:=by
     have:=nO (mS top) i
     unfold o9 at this ⊢
     rw [show Aa i 0=[] from rfl,List.append_nil] at this
     rw [List.length_append,this];simp [Aa]
    omega
   refine ⟨_,kp (x,y),k2,hD5.hd,rfl,s5 _ _ hk2',by rw [yJ];omega,fun v ev=>?_,fun ev=>?_⟩
   ·obtain ⟨p',rfl,hp',np',_⟩:=hD5.old ev .non
    refine ⟨.inl ⟨rfl,_,SqL.of hp'⟩,?_⟩
    walk_at "sts"
    refine cR rfl fun T' G6 nT s6 hT=>?_
    walk_at "sts"
    obtain ⟨p'',ep'',hp6,np6,hD7⟩:=(hD5.same s6).old ev (.ref T')
    cases ep''
    refine bM hp6 (by omega) ?_
    refine ⟨Same.put (sA.trans s6) np6,⟨Z2,_,hD7,fun a b hab=>?_,hk2,by omega⟩,_,_,rfl⟩
    have pr:=((hP2 a b hab).same (s25.trans s6)).upd (o:=.lst (c2 (x,y) ++ [.ref T'])) hp6
    unfold cu
    by_cases e:(a,b)=(x,y)
    ·rw [if_pos e]
     cases e
     rw [hye]
     refine PrI.push ?_ pr
     rw [az (fun z=>by rw [z,hp6] at hT;cases hT)];exact hT
    ·rw [if_neg e,hne a b hab e];exact pr
   ·obtain ⟨hD6,ev6⟩:=hD5.add ev he2 ne20 ((hD2.same (s23.trans s4)).fresh ne2)
    have h1:upd G5 d2 (.dT (dZ Z2 ++ [(kp (x,y),.ref e2)])) e2=some (.lst []):=by rw [az (fun z=>by rw [z,hD5.hd] at he2;cases he2)];exact he2
    have sB:=Same.put (o:=.dT (dZ Z2 ++ [(kp (x,y),.ref e2)])) sA nd2
    have hP6:∀ a b,a < b→PrI (upd G5 d2 (.dT (dZ Z2 ++ [(kp (x,y),.ref e2)]))) (c2 (a,b)) (gm (mS side) (CB side top) (mS top) a b i j):=fun a b hab=>((hP2 a b hab).same s25).imp fun p us e=>by rw [az (fun z=>by rw [z,hD5.hd] at e;cases e)];exact e
    generalize upd G5 d2 (.dT (dZ Z2 ++ [(kp (x,y),.ref e2)]))=G5' at hD6 h1 sB hP6 ⊢
    refine ⟨.inl ⟨rfl,_,SqL.of h1⟩,?_⟩
    walk_at "sts"
    refine cR rfl fun T' G6 nT s6 hT=>?_
    walk_at "sts"
    obtain ⟨p'',ep'',hp6,np6,hD7⟩:=(hD6.same s6).old ev6 (.ref T')
    cases ep''
    have hcn:c2 (x,y)=[]:=by
     have:=s6 _ _ h1
     rw [hp6] at this
     injection this with this
     injection this
    rw [hcn] at hp6 hD7
    refine bM hp6 (by simp;omega) ?_
    refine ⟨Same.put (sB.trans s6) np6,⟨_,_,hD7,fun a b hab=>?_,fun z hz=>?_,by rw [List.length_append];show Z2.length+1≤_;omega⟩,_,_,rfl⟩
    ·have pr:=((hP6 a b hab).same s6).upd (o:=.lst ([] ++ [.ref T'])) hp6
     unfold cu
     by_cases e:(a,b)=(x,y)
     ·rw [if_pos e]
      cases e
      rw [hye]
      refine PrI.push ?_ pr
      rw [az (fun z=>by rw [z,hp6] at hT;cases hT)];exact hT
     ·rw [if_neg e,hne a b hab e];exact pr
    ·rcases List.mem_append.mp hz with hz | hz
     ·exact hk2 z hz
     ·rw [List.mem_singleton.mp hz];exact ⟨hxy,hy⟩
  ·rintro σ G ⟨s,⟨Z2,c2,hD2,hP2,hk2,hl2⟩,x8,x9,rfl⟩
   exact ⟨s,⟨Z2,c2,hD2,fun a b hab=>by rw [vm];exact hP2 a b hab,hk2,by rw [Nat.succ_mul];exact hl2⟩,_,_,_,rfl⟩
 ·rintro σ G ⟨s,⟨Z2,c2,hD2,hP2,hk2,hl2⟩,x7,x8,x9,rfl⟩
  walk_at "sts"
  have im:mS side*mS top≤48*48:=Nat.mul_le_mul hs48 ht48
  exact q d2 G nd20 (S2.trans s) ⟨Z2,c2,hD2.low S2,hP2,hk2,by omega⟩
end
section
variable {P:Program} {w:World} {K:PySem.W.Frag} {mg:Str→Option Value} {base:Heap}
theorem rF:(["_law_sign"]:List Str).Nodup:=by decide+kernel
theorem kz55:cJ aN "sorted":=by decide+kernel
theorem QT:aQ aN "_law_lines":=by decide+kernel
theorem QV:cJ aN "list":=by decide+kernel
theorem kz58:cJ aN "range":=by decide+kernel
theorem U8:aQ aN "_law_many":=by decide+kernel
theorem U9:aQ aN "_law_far":=by decide+kernel
theorem QW:aQ aN "_law_line":=by decide+kernel
theorem Hb:cJ aN "isinstance":=by decide+kernel
theorem kz5d:cJ aN "bool":=by decide+kernel
theorem kz5e:cJ aN "int":=by decide+kernel
theorem QX:aQ aN "_law_cells":=by decide+kernel
theorem Kz:aQ aN "_law_text":=by decide+kernel
theorem kz5h:cJ aN "all":=by decide+kernel
theorem Va:cJ aN "len":=by decide+kernel
theorem kz5j:cJ aN "str":=by decide+kernel
theorem yK {m far:Nat} {C:Nat→Nat→Bool} {R:List Int} (hR:∀ i j,i < m→j < far→C i j=false→gA m C i j≤gD m C j i) (hE:jH m C far R):R.Perm ((List.range (m+far)).map fun k:Nat=>(k:Int)):=by
 have hn:R.Nodup:=by
  rw [List.nodup_iff_pairwise_ne,List.pairwise_iff_getElem]
  intro a b ha hb hab
  obtain ⟨x,y,hx,hy,hxy⟩:=wQ hR hE hab (by rw [hE.1] at hb;exact hb)
  rw [List.getElem?_eq_getElem ha] at hx
  rw [List.getElem?_eq_getElem hb] at hy
  cases hx;cases hy
  intro e
  have e1:¬ R[b] < R[a]:=by omega
  have nc:¬ rG m far C m 0 a b:=fun z=>e1 (hxy.mpr z)
  have key:∀ c (hc:c < R.length),∃ p:Nat,p < m+far∧R[c]=(p:Int)∧((∃ j,j < far∧c=gD m C j m∧p=j)∨∃ i,i < m∧c=gA m C i far∧p=far+(m - 1 - i)):=fun c hc=>by
   rw [hE.1] at hc
   rcases List.mem_append.mp ((jC (m:=m) (C:=C) far).mem_iff.mpr (List.mem_range.mpr hc)) with h | h
   ·obtain ⟨i,hi,rfl⟩:=List.mem_map.mp h
    have hi:=List.mem_range.mp hi
    have:=hE.2.2 i hi
    rw [List.getElem?_eq_getElem (by rw [hE.1];exact hc)] at this
    exact ⟨far+(m - 1 - i),by omega,Option.some.inj this,.inr ⟨i,hi,rfl,rfl⟩⟩
   ·obtain ⟨j,hj,rfl⟩:=List.mem_map.mp h
    have hj:=List.mem_range.mp hj
    have:=hE.2.1 j hj
    rw [List.getElem?_eq_getElem (by rw [hE.1];exact hc)] at this
    exact ⟨j,by omega,Option.some.inj this,.inl ⟨j,hj,rfl,rfl⟩⟩
  obtain ⟨p,hp,ep,hp2⟩:=key a ha
  obtain ⟨q,hq,eq,hq2⟩:=key b hb
  have epq:p=q:=by rw [ep,eq] at e;omega
  rcases hp2 with ⟨j,hj,e2,e3⟩ | ⟨i,hi,e2,e3⟩ <;> rcases hq2 with ⟨j',hj',e4,e5⟩ | ⟨i',hi',e4,e5⟩
  ·have:j=j':=by omega
   subst this;omega
  ·omega
  ·omega
  ·have:i=i':=by omega
   subst this;omega
 refine (List.perm_ext_iff_of_nodup hn ?_).mpr fun z=>⟨fun h=>?_,fun h=>?_⟩
 ·exact List.Pairwise.map _ (fun a b h e=>h (by omega)) List.nodup_range
 ·obtain ⟨c,hc,rfl⟩:=List.mem_iff_getElem.mp h
  rw [hE.1] at hc
  rcases List.mem_append.mp ((jC (m:=m) (C:=C) far).mem_iff.mpr (List.mem_range.mpr hc)) with h | h
  ·obtain ⟨i,hi,rfl⟩:=List.mem_map.mp h
   have hi:=List.mem_range.mp hi
   have:=hE.2.2 i hi
   rw [List.getElem?_eq_getElem (by rw [hE.1];exact hc)] at this
   rw [Option.some.inj this]
   exact List.mem_map.mpr ⟨_,List.mem_range.mpr (by omega),rfl⟩
  ·obtain ⟨j,hj,rfl⟩:=List.mem_map.mp h
   have hj:=List.mem_range.mp hj
   have:=hE.2.1 j hj
   rw [List.getElem?_eq_getElem (by rw [hE.1];exact hc)] at this
   rw [Option.some.inj this]
   exact List.mem_map.mpr ⟨_,List.mem_range.mpr (by omega),rfl⟩
 ·obtain ⟨p,hp,rfl⟩:=List.mem_map.mp h
  have hp:=List.mem_range.mp hp
  by_cases e:p < far
  ·exact List.mem_of_getElem? (hE.2.1 p e)
  ·have:=hE.2.2 (m - 1 - (p - far)) (by omega)
   rw [show far+(m - 1 - (m - 1 - (p - far)))=p by omega] at this
   exact List.mem_of_getElem? this
theorem QZ {ms ns us:List Int} (h1:ms.Perm us) (s1:ms.Pairwise (· ≤ ·)) (h2:ns.Perm us) (s2:ns.Pairwise (· ≤ ·)):ms=ns:=
 List.Perm.eq_of_pairwise (fun a b _ _ h1 h2=>Int.le_antisymm h1 h2) s1 s2 (h1.trans h2.symm)
theorem wX (ns:List Int):PySem.SeqAt.shaped (.list (ns.map PyData.int))=true:=qI (n:=1) (v9 (n:=0) fun d hd=>by
 obtain ⟨z,_,rfl⟩:=List.mem_map.mp hd
 exact ⟨rfl,Nat.le_refl _⟩) (by omega)
theorem Vb (n:Nat):(List.range n).map (fun _=>V.bl true)=(List.replicate n true).map V.bl:=by
 induction n with
 | zero=>rfl
 | succ n ih=>rw [List.range_succ,List.map_append,ih,List.replicate_succ',List.map_append];rfl
theorem Cv (n:Nat):(List.replicate n true).all id=true:=by simp
theorem Vc (b:Bool):(!(Builtin.Str.occurrences (Str.ofString "xo") ⟨#[Ho b]⟩ 0 (Str.ofString "xo").length 1).isEmpty)=true:=by cases b <;> decide+kernel
theorem wY {side top:Str} {z:Str} (hz:z∈cF side top) {j:Nat} {c:Nat} (h:z.cps.toList[j]?=some c):∃ b,c=Ho b:=by
 unfold cF wM at hz
 obtain ⟨i,_,rfl⟩:=List.mem_map.mp hz
 unfold qT uU at h
 rw [List.toList_toArray,List.getElem?_map] at h
 cases e:(List.range top.cps.size)[j]? with
 | none=>rw [e] at h;cases h
 | some k=>rw [e] at h;exact ⟨_,(Option.some.inj h).symm⟩
def KC (K:PySem.W.Frag):Sp:=fun vs H Q _=>∃ (l c:Addr) (R:List Int) (side top:Str),vs=[.ref l,.ref c,.int (mS side:Nat),.int (mS top:Nat)]∧gU side∧gU top∧mS side≤16∧mS top≤16∧H l=some (.lst (R.map V.int))∧jH (mS side) (CB side top) (mS top) R∧H c=some (.lst ((cF side top).map V.str))∧∀ H',Same H H'→Q (.bl true) H'
theorem jN:aF ["_law_lines","_law_cells","_law_many","_law_far","_law_text","_law_line"] ["_law_lines","_law_cells","_law_many","_law_far"] (au aN):=⟨rfl,rfl,rfl,by decide+kernel,rfl,by decide+kernel,by decide+kernel⟩
theorem j8 (T:Txt K mg):pC P w K mg base 1 "_law_forms" ["_law_lines","_law_cells","_law_many","_law_far"] (KC K):=by
 refine jz T.d_law_forms jN (fun _ _ _ _ _ _ us hl=>L2.LR (fun _ _ _ _=>rfl) us hl) ?_ fun f cdv A outer s H vs Q E hr h=>?_
 ·rintro vs H Q E ⟨l,c,R,side,top,rfl,_⟩;rfl
 obtain ⟨l,c,R,side,top,rfl,hs,ht,hs16,ht16,hl,hE,hc,q⟩:=h
 have hu:=hr.units0
 have hu64:=hr.units
 refine ⟨_,(aq (bV (gG (ir (dB (cG (aD (cH (K:=K) rfl) (bB Hb) T.b_isinstance bh (aa (aj 0 QT) (aa (pG (bB QV) T.b_list il (by decide+kernel) (by decide+kernel)) ao)) (by decide+kernel) (by decide+kernel)))) (ir (dB (cG (aD (cH (K:=K) rfl) (bB Hb) T.b_isinstance bh (aa (aj 1 QX) (aa (pG (bB QV) T.b_list il (by decide+kernel) (by decide+kernel)) ao)) (by decide+kernel) (by decide+kernel)))) (jg (bc (gH (K:=K) rfl hu64) (aD (aJ (K:=K) rfl) (bB Va) T.b_len bU (aa (aj 1 QX) ao) (by decide+kernel) (by decide+kernel)) (aj 2 U8) (by first | exact aL _ | with_unfolding_all rfl)))))) (aA (aG jf)) bC) (aq (bZ PassesOwn.never rfl (jh (K:=K) rfl (aj 1 QX)) (aH (i:=4) jN.nd rfl (Or.inl Kz) rfl) (aA (bV (gG (ir (dB (cG (aD (cH (K:=K) rfl) (bB Hb) T.b_isinstance bh (aa (aj 4 Kz) (aa (pG (bB kz5j) T.b_str Eo (by decide+kernel) (by decide+kernel)) ao)) (by decide+kernel) (by decide+kernel)))) (ir (bc (gH (K:=K) rfl hu64) (aD (aJ (K:=K) rfl) (bB Va) T.b_len bU (aa (aj 4 Kz) ao) (by decide+kernel) (by decide+kernel)) (aj 3 U9) (by first | exact aL _ | with_unfolding_all rfl)) (jg (dB (cG (aD (vU rfl) (bB kz5h) T.b_all Em (aa (uC (sub:=[none]) (jx (N:=["_law_lines","_law_cells","_law_many","_law_far","_law_text","_law_line"]) (sc:=au aN) (N':=["_law_sign"]) (by decide+kernel)) rfl rfl rfl (jh (K:=K) rfl (aj 4 Kz)) (fun C s₀ H₀ ex=>(Bm 0 (by decide+kernel) rF)) (fun C s₀ H₀ ex=>pP) (fun C s₀ H₀ ex=>(lV (O6 (K:=K) rfl hu64) (mZ 0 (by decide+kernel)) m5 (by first | exact aL _ | with_unfolding_all rfl)))) ao) (by decide+kernel) (by decide+kernel)))))))) (aA (aG jf)) bC))) (aq (bZ PassesOwn.never rfl (jh (K:=K) rfl (aj 0 QT)) (aH (i:=5) jN.nd rfl (Or.inl QW) rfl) (aA (bV (gG (ir (dB (cG (aD (cH (K:=K) rfl) (bB Hb) T.b_isinstance bh (aa (aj 5 QW) (aa (pG (bB kz5e) T.b_int xU (by decide+kernel) (by decide+kernel)) ao)) (by decide+kernel) (by decide+kernel)))) (jg (cG (aD (cH (K:=K) rfl) (bB Hb) T.b_isinstance bh (aa (aj 5 QW) (aa (pG (bB kz5d) T.b_bool uy (by decide+kernel) (by decide+kernel)) ao)) (by decide+kernel) (by decide+kernel)))))) (aA (aG jf)) bC))) (aA (aG (lV (jm (K:=K) rfl hu64) (aD uJ (bB kz55) T.b_sorted Bl (aa (aj 0 QT) ao) (by decide+kernel) (by decide+kernel)) (yj rfl (bB QV) T.b_list (bB kz58) T.b_range (aa (aU aY (aj 2 U8) (aj 3 U9)) ao)) (by first | exact aL _ | with_unfolding_all rfl))))))),?_⟩
 walk_at "sts"
 have hz:1000000≤sizeLine:=by decide
 have hRl:=hE.1
 refine gw (.lst hl) rfl ?_
 walk_at "sts"
 refine gw (.lst hc) rfl ?_
 walk_at "sts"
 refine gn (SqL.of hc) ?_
 walk_at "sts"
 rw [List.length_map,qW,decide_eq_true rfl]
 walk_at "sts"
 refine .inl ⟨c,rfl,⟨_,SqL.of hc⟩,?_⟩
 refine ju (xs:=(cF side top).map V.str) (fun i σ G=>Same H G∧∃ x4,σ=[some (.ref l),some (.ref c),some (.int (mS side:Nat)),some (.int (mS top:Nat)),x4,none]) ⟨Same.refl H,_,rfl⟩ (fun i σ G _ h=>SqL.of (h.1 _ _ hc)) ?_ ?_
 ·rintro i v σ G hv ⟨s,x4,rfl⟩
  obtain ⟨z,hzm,rfl⟩:=List.mem_map.mp (List.mem_of_getElem? hv)
  have zs:=o7 z hzm
  have zl:z.length≤sizeLine:=by show z.cps.size≤_;rw [zs];show mS top≤_;omega
  walk_at "sts"
  refine gw (.str _) rfl ?_
  walk_at "sts"
  refine gq zl ?_
  walk_at "sts"
  rw [show z.length=mS top from zs,decide_eq_true rfl]
  walk_at "sts"
  refine .inr (.inr ⟨z,rfl,?_⟩)
  refine BX (fun i ys G'=>G'=G∧ys=(List.range i).map fun _=>V.bl true) zl ⟨rfl,rfl⟩ ?_ ?_ ?_
  ·rintro i ys G' ⟨_,rfl⟩
   simp
  ·rintro i ys G' ch hch ⟨rfl,rfl⟩
   obtain ⟨bb,rfl⟩:=wY hzm hch
   walk_at "sts"
   refine ⟨KeepSt.set rfl,?_⟩
   walk_at "sts"
   rw [Vc]
   exact ⟨rfl,Jm rfl⟩
  ·rintro ys G' D G2 ⟨rfl,rfl⟩ nD s2 hD
   rw [Vb] at hD
   try walk_at "sts"
   refine ⟨D,_,rfl,hD,?_⟩
   walk_at "sts"
   rw [Cv]
   walk_at "sts"
   exact ⟨s.trans s2,_,rfl⟩
 rintro σ H1 ⟨S1,x4,rfl⟩
 walk_at "sts"
 refine .inl ⟨l,rfl,⟨_,SqL.of (S1 _ _ hl)⟩,?_⟩
 refine ju (xs:=R.map V.int) (fun i σ G=>Same H G∧∃ x5,σ=[some (.ref l),some (.ref c),some (.int (mS side:Nat)),some (.int (mS top:Nat)),x4,x5]) ⟨S1,_,rfl⟩ (fun i σ G _ h=>SqL.of (h.1 _ _ hl)) ?_ ?_
 ·rintro i v σ G hv ⟨s,x5,rfl⟩
  obtain ⟨z,hzm,rfl⟩:=List.mem_map.mp (List.mem_of_getElem? hv)
  walk_at "sts"
  refine gw (.int _) rfl ?_
  walk_at "sts"
  refine gw (.int _) rfl ?_
  walk_at "sts"
  exact ⟨s,_,rfl⟩
 rintro σ H2 ⟨S2,x5,rfl⟩
 walk_at "sts"
 refine Fv (S2 _ _ hl) (by omega) fun qq ms nq pe pw=>?_
 have S3:=(Same.refl H2).upd nq (o:=.lst (ms.map V.int))
 have hq:=ak (H:=H2) (a:=qq) (o:=.lst (ms.map V.int))
 generalize upd H2 qq (.lst (ms.map V.int))=H3 at S3 hq ⊢
 walk_at "sts"
 rw [show (mS side:Int)+(mS top:Int)=((mS side+mS top:Nat):Int) by omega]
 refine Jl (by omega) fun q2 nq2=>?_
 have S4:=(Same.refl H3).upd nq2 (o:=.lst ((List.range (mS side+mS top)).map fun i:Nat=>V.int (0+(i:Int)*1)))
 have hq2:=ak (H:=H3) (a:=q2) (o:=.lst ((List.range (mS side+mS top)).map fun i:Nat=>V.int (0+(i:Int)*1)))
 generalize upd H3 q2 (.lst ((List.range (mS side+mS top)).map fun i:Nat=>V.int (0+(i:Int)*1)))=H4 at S4 hq2 ⊢
 have hms:ms=(List.range (mS side+mS top)).map fun k:Nat=>(k:Int):=QZ (pe.trans (yK (gC side top).le hE)) pw (List.Perm.refl _) (List.Pairwise.map _ (fun a b h=>by omega) (List.pairwise_lt_range (n:=mS side+mS top)))
 have hq3:H4 q2=some (.lst (ms.map V.int)):=by
  rw [hq2,hms,List.map_map]
  congr 2
  refine List.map_congr_left fun k _=>?_
  show V.int (0+(k:Int)*1)=V.int (k:Int)
  congr 1;omega
 try walk_at "sts"
 refine .inl (.inl (EY (km.mpr ⟨qq,_,rfl,S4 _ _ hq,qD _⟩) (km.mpr ⟨q2,_,rfl,hq3,qD _⟩) (wX _) ?_))
 exact q _ (S2.trans (S3.trans S4))
end
section
variable {P:Program} {w:World} {K:PySem.W.Frag} {mg:Str→Option Value} {base:Heap}
theorem kz5k:cJ aK "_law_pair":=by decide+kernel
theorem yL:aQ aK "_law_crossed":=by decide+kernel
theorem KD:aQ aK "_law_found":=by decide+kernel
theorem kz5n:cJ aK "_law_pairs":=by decide+kernel
theorem Q0:aQ aK "_law_both":=by decide+kernel
theorem Q3:aQ aK "_law_there":=by decide+kernel
theorem yM:aQ aK "_law_a":=by decide+kernel
theorem yN:aQ aK "_law_b":=by decide+kernel
theorem KH:aQ aK "_law_board":=by decide+kernel
theorem Vd:aQ aK "_law_lines":=by decide+kernel
theorem KJ:aQ aK "_law_j":=by decide+kernel
theorem KN:aQ aK "_law_i":=by decide+kernel
theorem Q4:aQ aK "_law_unlike":=by decide+kernel
theorem kz5x:aQ aK "_law_cells":=by decide+kernel
theorem kz5y:aQ aK "_law_side":=by decide+kernel
theorem kz5z:aQ aK "_law_top":=by decide+kernel
theorem kz60:aQ aK "_law_met_here":=by decide+kernel
theorem KQ {side top:Str} {a b:Nat} (hab:a < b):GX side top (dR side top a b)=mK (t7 side top) (dR side top a b):=by
 have r:=gC side top
 have hx:∀ (k:Nat) (q:II),(dR side top a b)[k]?=some q→(xB side top q=true↔Ab (t7 side top) q=false∧∀ p∈(dR side top a b).take k,Ab (t7 side top) p=true):=fun k q hq=>by
  obtain ⟨i,j,rfl,hi,hj,h⟩:=wU r hab hq
  show (!CB side top i j)=true↔t7 side top i j=false∧_
  rw [Bool.not_eq_true',h]
  exact Iff.rfl
 cases e:mK (t7 side top) (dR side top a b) with
 | none=>
  have hl:=oM e
  refine List.find?_eq_none.mpr fun p hp=>?_
  obtain ⟨k,hk,ek⟩:=List.mem_iff_getElem.mp hp
  intro hc
  have:=((hx k p (by rw [List.getElem?_eq_getElem hk,ek])).mp hc).1
  rw [hl p hp] at this;cases this
 | some q=>
  obtain ⟨h1,as,bs,h2,h3⟩:=List.find?_eq_some_iff_append.mp e
  have hq:(dR side top a b)[as.length]?=some q:=by rw [h2,List.getElem?_append_right (Nat.le_refl _),Nat.sub_self];rfl
  have htk:(dR side top a b).take as.length=as:=by rw [h2,List.take_left]
  refine List.find?_eq_some_iff_append.mpr ⟨(hx _ q hq).mpr ⟨by simpa using h1,fun p hp=>?_⟩,as,bs,h2,fun p hp=>?_⟩
  ·rw [htk] at hp
   have:=h3 p hp
   simpa using this
  ·have hl:Ab (t7 side top) p=true:=by have:=h3 p hp;simpa using this
   obtain ⟨k,hk,ek⟩:=List.mem_iff_getElem.mp hp
   have hpk:(dR side top a b)[k]?=some p:=by rw [h2,List.getElem?_append_left hk,List.getElem?_eq_getElem hk,ek]
   cases hxp:xB side top p with
   | false=>rfl
   | true=>have:=((hx k p hpk).mp hxp).1;rw [hl] at this;cases this
theorem Q5 (a b:Nat):decide (V.str ⟨#[a]⟩=V.str ⟨#[b]⟩)=decide (a=b):=by
 refine decide_eq_decide.mpr ⟨fun h=>?_,fun h=>by rw [h]⟩
 have h1:=V.str.inj h
 have h2:=congrArg (fun z:Str=>z.cps.toList) h1
 simpa using h2
def crV (H:Hp) (v:V) (o:Option II):Prop:=match o with
 | none=>v= .non
 | some q=>∃ r,v= .ref r∧H r=some (.tup [.int q.1,.int q.2])
theorem crV.same {H H':Hp} {v:V} {o:Option II} (h:crV H v o) (s:Same H H'):crV H' v o:=by
 cases o with
 | none=>exact h
 | some q=>
  obtain ⟨r,e,hr⟩:=h
  exact ⟨r,e,s _ _ hr⟩
def KR (K:PySem.W.Frag) (mg:Str→Option Value):Sp:=fun vs H Q _=>∃ (b c l d:Addr) (side top:Str) (R:List Int) (H0:Hp) (x y:Nat),vs=[.ref b,.str side,.str top,.ref c,.ref l,.ref d,.int x,.int y]∧Bd mg H b side top∧H c=some (.lst ((cF side top).map V.str))∧H l=some (.lst (R.map V.int))∧jH (mS side) (CB side top) (mS top) R∧Met H0 H d side top∧x < y∧y < mS side+mS top∧∀ H',Same H H'→Q (.bl true) H'
theorem Q6 {R:List Int} {k:Nat} {x:Int} (h:R[k]?=some x):(R.map V.int)[k]?=some (.int x):=by rw [List.getElem?_map,h];rfl
theorem bI:aF ["_law_board","_law_side","_law_top","_law_cells","_law_lines","_law_met_here","_law_a","_law_b","_law_both","_law_crossed","_law_i","_law_j","_law_unlike","_law_found","_law_there"] ["_law_board","_law_side","_law_top","_law_cells","_law_lines","_law_met_here","_law_a","_law_b"] (au aK):=⟨rfl,rfl,rfl,by decide+kernel,rfl,by decide+kernel,by decide+kernel⟩
theorem j9 (T:Txt K mg):pC P w K mg base 7 "_law_apart" ["_law_board","_law_side","_law_top","_law_cells","_law_lines","_law_met_here","_law_a","_law_b"] (KR K mg):=by
 have aW:=aW (P:=P) (w:=w) (base:=base) T
 have bA:=bA (P:=P) (w:=w) (base:=base) T
 have dH:=dH (P:=P) (w:=w) (base:=base) T
 have di:=di (P:=P) (w:=w) (base:=base) T
 refine jz T.d_law_apart bI (fun _ _ _ _ _ _ us hl=>L2.usN8 (fun _ _ _ _ _ _ _ _=>rfl) us hl) ?_ fun f cdv A outer s H vs Q E hr h=>?_
 ·rintro vs H Q E ⟨b,c,l,d,side,top,R,H0,x,y,rfl,_⟩;rfl
 obtain ⟨b,c,l,d,side,top,R,H0,x,y,rfl,hB,hc,hl,hE,hM,hxy,hy,q⟩:=h
 have hu:=hr.units0
 have hu64:=hr.units
 refine ⟨_,(aq (aC (i:=8) bI.nd rfl (Or.inl Q0) (zP hu64 (aj 5 kz60) (iu (aa (aj 6 yM) (aa (aj 7 yN) ao))) (fc ao)) rfl) (aq (aC (i:=9) bI.nd rfl (Or.inl yL) jy rfl) (aq (bZ PassesOwn.never rfl (jh (K:=K) rfl (aj 8 Q0)) (jF (K:=K) rfl rfl (bu (aH (i:=10) bI.nd rfl (Or.inl KN) rfl) (bu (aH (i:=11) bI.nd rfl (Or.inl KJ) rfl) fj))) (aq (aC (i:=12) bI.nd rfl (Or.inl Q4) (lV (gH (K:=K) rfl hu64) (bO (K:=K) rfl (aj 1 kz5y) (aj 10 KN)) (bO (K:=K) rfl (aj 2 kz5z) (aj 11 KJ)) (by first | exact aL _ | with_unfolding_all rfl)) rfl) (aq (bV (bc (gH (K:=K) rfl hu64) (lV (jm (K:=K) rfl hu64) (bO (K:=K) rfl (bO (K:=K) rfl (aj 3 kz5x) (aj 10 KN)) (aj 11 KJ)) m5 (by first | exact aL _ | with_unfolding_all rfl)) (Eu (aj 12 Q4) (Et (lV qH (aj 9 yL) jy (by first | exact aL _ | with_unfolding_all rfl)))) (by first | exact aL _ | with_unfolding_all rfl)) (aA (aG jf)) bC) (aA (bV (gG (qz (cG (aj 12 Q4)) (m6 (bc qH (aj 9 yL) jy (by first | exact aL _ | with_unfolding_all rfl))))) (aA (aC (i:=9) bI.nd rfl (Or.inl yL) (iu (aa (aj 10 KN) (aa (aj 11 KJ) ao))) rfl)) bC))))) (aq (bV (bc (gH (K:=K) rfl hu64) (lV za (bO (K:=K) rfl (aj 4 Vd) (aj 6 yM)) (bO (K:=K) rfl (aj 4 Vd) (aj 7 yN)) (by first | exact aL _ | with_unfolding_all rfl)) (lV kI (aj 9 yL) jy (by first | exact aL _ | with_unfolding_all rfl)) (by first | exact aL _ | with_unfolding_all rfl)) (aA (aG jf)) bC) (aq (bV (bc (jm (K:=K) rfl hu64) (aU cP (aU yU (aU aY (aj 6 yM) (aj 7 yN)) aB) aB) aB (by first | exact aL _ | with_unfolding_all rfl)) (aq (aC (i:=13) bI.nd rfl (Or.inl KD) (dD (aj 0 KH) T.o_Board aW (hr.mono (by decide)) (iw fun _ _=>rfl) (aa (aj 7 yN) (aa (aj 6 yM) ao))) rfl) (aA (aC (i:=14) bI.nd rfl (Or.inl Q3) (dD (aj 0 KH) T.o_Board bA (hr.mono (by decide)) (iw fun _ _=>rfl) (aa (aj 6 yM) (aa (aj 7 yN) ao))) rfl))) (aq (aC (i:=14) bI.nd rfl (Or.inl Q3) (dD (aj 0 KH) T.o_Board bA (hr.mono (by decide)) (iw fun _ _=>rfl) (aa (aj 7 yN) (aa (aj 6 yM) ao))) rfl) (aA (aC (i:=13) bI.nd rfl (Or.inl KD) (dD (aj 0 KH) T.o_Board aW (hr.mono (by decide)) (iw fun _ _=>rfl) (aa (aj 6 yM) (aa (aj 7 yN) ao))) rfl)))) (aq (bV (dB (cG (bx dH (hr.mono (by decide)) (bB kz5n) (aa (aj 14 Q3) (aa (aj 8 Q0) ao)) (by decide+kernel)))) (aA (aG jf)) bC) (aq (bV (bc qH (aj 9 yL) jy (by first | exact aL _ | with_unfolding_all rfl)) (aA (aG (lV qH (aj 13 KD) jy (by first | exact aL _ | with_unfolding_all rfl)))) bC) (aA (aG (bx di (hr.mono (by decide)) (bB kz5k) (aa (aj 13 KD) (aa (aj 9 yL) ao)) (by decide+kernel))))))))))),?_⟩
 walk_at "sts"
 have hz:1000000≤sizeLine:=by decide
 have hs:=hB.1
 have ht:=hB.2.1
 have hs48:mS side≤48:=hs.1
 have ht48:mS top≤48:=ht.1
 have lz:side.length≤sizeLine:=Nat.le_trans hs.1 (by decide)
 have ly:top.length≤sizeLine:=Nat.le_trans ht.1 (by decide)
 obtain ⟨_,_,dx,ac,am,al,aw,hb,hO⟩:=id hB
 obtain ⟨Z,cc,hD,hP,hk,hZl⟩:=id hM
 have hll:=p7 (side:=side) (top:=top) x y hs ht
 refine ⟨d,rfl,.inr ⟨_,.inl hD.hd⟩,?_⟩
 walk_at "sts"
 refine cR rfl fun k1 H1 nk1 S1 hk1=>?_
 walk_at "sts"
 refine cR rfl fun e1 H2 ne1 S2 he1=>?_
 walk_at "sts"
 have U2:=S1.trans S2
 refine ⟨_,DGet.t (k:=kp (x,y)) (U2 _ _ hD.hd) (S2 _ _ hk1),?_⟩
 obtain ⟨p,us,ep,hp,hPr⟩:∃ p us,(cX (dZ Z) (kp (x,y))).getD (V.ref e1)= .ref p∧H2 p=some (.lst us)∧PrI H2 us (dR side top x y):=by
  have hPx:=(hP x y hxy).same U2
  rcases hD.get (x,y) with ⟨h1,h2⟩ | ⟨p,h1,h2,_⟩
  ·rw [h2] at hPx
   exact ⟨e1,[],by rw [h1];rfl,he1,hPx⟩
  ·exact ⟨p,_,by rw [h1];rfl,U2 _ _ h2,hPx⟩
 rw [ep]
 have hul:=hPr.len
 walk_at "sts"
 refine .inl ⟨p,rfl,⟨_,SqL.of hp⟩,?_⟩
 refine ju (xs:=us) (fun n σ G=>Same H2 G∧∃ (v:V) (x10 x11 x12:Option V),crV G v (mK (t7 side top) ((dR side top x y).take n))∧σ=[some (.ref b),some (.str side),some (.str top),some (.ref c),some (.ref l),some (.ref d),some (.int (x:Int)),some (.int (y:Int)),some (.ref p),some v,x10,x11,x12,none,none]) ⟨Same.refl H2,.non,_,_,_,rfl,rfl⟩ (fun i σ G _ h=>SqL.of (h.1 _ _ hp)) ?_ ?_
 ·rintro n v σ G hv ⟨s,vc,x10,x11,x12,hcr,rfl⟩
  obtain ⟨cq,r,hL,rfl,hr2⟩:=(hPr.same s).item hv
  obtain ⟨i,j,rfl,hi,hj,hsg⟩:=wU (gC side top) hxy hL
  obtain ⟨z,ez,zl,hch⟩:=p6 (side:=side) (top:=top) hi hj
  have hzl:z.length≤sizeLine:=by show z.cps.size≤_;omega
  replace hr2:G r=some (.tup [.int (i:Int),.int (j:Int)]):=hr2
  have hsi:uh side.cps.toList (i:Int)=some (side.cps.getD i 0):=bF (by
   have:i < side.cps.size:=hi
   simp [Array.getD,this])
  have htj:uh top.cps.toList (j:Int)=some (top.cps.getD j 0):=bF (by
   have:j < top.cps.size:=hj
   simp [Array.getD,this])
  have tk:(dR side top x y).take (n+1)=(dR side top x y).take n ++ [((i:Int),(j:Int))]:=by rw [List.take_add_one,hL];rfl
  have hsn:=Cr (Ek:=t7 side top) ((dR side top x y).take n) ((i:Int),(j:Int))
  rw [← tk,show Ab (t7 side top) ((i:Int),(j:Int))=t7 side top i j from rfl] at hsn
  have hcG:=s _ _ (U2 _ _ hc)
  refine dh (SqT.of hr2) rfl ?_
  walk_at "sts"
  refine oZ lz hsi ?_
  walk_at "sts"
  refine oZ ly htj ?_
  walk_at "sts"
  rw [Q5,show decide (side.cps.getD i 0=top.cps.getD j 0)=t7 side top i j from rfl]
  walk_at "sts"
  refine bT (SqL.of hcG) (bF (show ((cF side top).map V.str)[i]?=some (.str z) by rw [List.getElem?_map,ez];rfl)) ?_
  walk_at "sts"
  refine oZ hzl hch ?_
  walk_at "sts"
  rw [Qy]
  cases eE:t7 side top i j with
  | true=>
   rw [eE] at hsn hsg
   have hC:CB side top i j=true:=by
    cases e:CB side top i j with
    | true=>rfl
    | false=>cases (hsg.mp e).1
   rw [hC]
   rw [show (!true)=false from rfl]
   walk_at "sts"
   rw [decide_eq_true (rfl:V.bl false=V.bl false)]
   walk_at "sts"
   refine ⟨s,vc,_,_,_,?_,rfl⟩
   rw [hsn]
   cases e:mK (t7 side top) ((dR side top x y).take n) with
   | none=>rw [e] at hcr;exact hcr
   | some q=>rw [e] at hcr;exact hcr
  | false=>
   rw [eE] at hsn hsg
   rw [show (!false)=true from rfl]
   cases e:mK (t7 side top) ((dR side top x y).take n) with
   | none=>
    rw [e] at hcr hsn
    obtain rfl:vc= .non:=hcr
    have hC:CB side top i j=false:=hsg.mpr ⟨rfl,oM e⟩
    rw [hC,show (!false)=true from rfl]
    walk_at "sts"
    rw [decide_eq_true (rfl:V.non=V.non)]
    walk_at "sts"
    rw [decide_eq_true (rfl:V.bl true=V.bl true)]
    walk_at "sts"
    rw [decide_eq_true (rfl:V.non=V.non)]
    walk_at "sts"
    refine cR rfl fun t G2 nt s2 ht2=>?_
    walk_at "sts"
    refine ⟨s.trans s2,_,_,_,_,?_,rfl⟩
    rw [hsn]
    exact ⟨t,rfl,ht2⟩
   | some cq=>
    rw [e] at hcr hsn
    obtain ⟨rc,rfl,hrc⟩:=hcr
    have hC:CB side top i j=true:=by
     cases eC:CB side top i j with
     | true=>rfl
     | false=>
      have h1:=(hsg.mp eC).2 cq (lu e).1
      rw [(lu e).2] at h1;cases h1
    rw [hC,show (!true)=false from rfl]
    walk_at "sts"
    rw [decide_eq_false (show ¬ V.ref rc=V.non from fun z=>by cases z)]
    walk_at "sts"
    rw [decide_eq_true (rfl:V.bl false=V.bl false)]
    walk_at "sts"
    rw [decide_eq_false (show ¬ V.ref rc=V.non from fun z=>by cases z)]
    walk_at "sts"
    refine ⟨s,_,_,_,_,?_,rfl⟩
    rw [hsn]
    exact ⟨rc,rfl,hrc⟩
 rintro σ H3 ⟨S3,vc,x10,x11,x12,hcr,rfl⟩
 rw [hul,List.take_length] at hcr
 have U3:=U2.trans S3
 obtain ⟨ex,ey,hex,hey,hord⟩:=wQ (gC side top).le hE hxy hy
 have hcf:=ph (gC side top) hxy (mS side) 0 (Nat.zero_le _) (.inr ⟨rfl,rfl⟩)
 have hlG:=U3 _ _ hl
 have hB3:=hB.same U3
 have hb3:=U3 _ _ hb
 have hp3:=S3 _ _ hp
 have hPr3:=hPr.same S3
 have hxl:x < mS side+mS top:=by omega
 have hlen:(dR side top x y).length≤2304:=hll
 have hfc:=KQ (side:=side) (top:=top) hxy
 have tail:∀ (G:Hp) (w:Addr) (ws:List V) (vf:V) (R':V→Hp→Prop),Same H3 G→G w=some (.lst ws)→PrI G ws (dR side top x y)→crV G vf (mK (t7 side top) (dR side top x y))→True:=fun _ _ _ _ _ _ _ _ _=>trivial
 clear tail
 walk_at "sts"
 refine bT (SqL.of hlG) (bF (Q6 hex)) ?_
 walk_at "sts"
 refine bT (SqL.of hlG) (bF (Q6 hey)) ?_
 walk_at "sts"
 have hnone:decide (ey < ex)=!decide (vc=V.non):=by
  cases e:mK (t7 side top) (dR side top x y) with
  | none=>
   rw [e] at hcr
   rw [show vc=V.non from hcr,decide_eq_true rfl]
   refine decide_eq_false fun h=>?_
   obtain ⟨q,hq,hl2⟩:=hcf.mpr (hord.mp h)
   rw [oM e q hq] at hl2;cases hl2
  | some q=>
   rw [e] at hcr
   obtain ⟨r,rfl,_⟩:=hcr
   rw [decide_eq_false (show ¬ V.ref r=V.non from fun z=>by cases z)]
   exact decide_eq_true (hord.mpr (hcf.mp ⟨q,(lu e).1,(lu e).2⟩))
 rw [hnone,decide_eq_true (rfl:V.bl (!decide (vc=V.non))=V.bl (!decide (vc=V.non)))]
 walk_at "stn"
 with_reducible show Al _ _ _ _ _
 with_reducible refine Ft (fun σ G=>Same H3 G∧∃ (vf:V) (w:Addr) (ws:List V),crV G vf (mK (t7 side top) (dR side top x y))∧G w=some (.lst ws)∧PrI G ws (dR side top x y)∧σ=[some (.ref b),some (.str side),some (.str top),some (.ref c),some (.ref l),some (.ref d),some (.int (x:Int)),some (.int (y:Int)),some (.ref p),some vc,x10,x11,x12,some vf,some (.ref w)]) ?_ ?_
 rotate_left
 ·intro N hN
  walk_at "sts"
  refine uz (fun h=>?_) (fun h=>?_)
  ·clear h
   walk_at "sts"
   refine ⟨b,dx,_,rfl,hb3,w6 (by decide+kernel),?_⟩
   walk_at "sts"
   refine ⟨b,side,top,y,x,rfl,hB3,hy,hxl,fun H4 S4=>⟨fun z=>by omega,fun _=>?_⟩⟩
   rw [rE,show gm (mS side) (CB side top) (mS top) x y (mS side) 0=dR side top x y from rfl,hfc]
   have key:∀ vf,crV H4 vf (mK (t7 side top) (dR side top x y))→uL (aZ mg "Board") "meets" (z9 K mg) (fun _ _ _ _=>False) (lA 0) (sJ (lA 6) (sJ (lA 7) Dl)) [some (.ref b),some (.str side),some (.str top),some (.ref c),some (.ref l),some (.ref d),some (.int (x:Int)),some (.int (y:Int)),some (.ref p),some vc,x10,x11,x12,some vf,none] H4 (fun v G=>N [some (.ref b),some (.str side),some (.str top),some (.ref c),some (.ref l),some (.ref d),some (.int (x:Int)),some (.int (y:Int)),some (.ref p),some vc,x10,x11,x12,some vf,some v] G):=fun vf hvf=>by
    walk_at "sts"
    refine ⟨b,dx,_,rfl,S4 _ _ hb3,w6 (by decide+kernel),?_⟩
    walk_at "sts"
    refine ⟨b,side,top,.int x,.int y,rfl,hB3.same S4,ig _,ig _,(fun z=>by rw [gZ hxl] at z;cases z),(fun _ z=>by rw [gZ hy] at z;cases z),fun l' k' e1 e2 _ _ t ws H5 nt S5 ht1 hP5=>?_⟩
    obtain rfl:x=l':=by have:=V.int.inj e1;omega
    obtain rfl:y=k':=by have:=V.int.inj e2;omega
    rw [nM] at hP5
    exact hN _ _ ⟨S4.trans S5,vf,t,ws,hvf.same S5,ht1,hP5,rfl⟩
   refine ⟨fun hn=>?_,fun q r hq hr=>?_⟩
   ·exact key .non (by rw [hn];rfl)
   ·exact key (.ref r) (by rw [hq];exact ⟨r,rfl,hr⟩)
  ·clear h
   walk_at "sts"
   refine ⟨b,dx,_,rfl,hb3,w6 (by decide+kernel),?_⟩
   walk_at "sts"
   refine ⟨b,side,top,.int y,.int x,rfl,hB3,ig _,ig _,(fun z=>by rw [gZ hy] at z;cases z),(fun _ z=>by rw [gZ hxl] at z;cases z),fun l' k' e1 e2 _ _ t ws H4 nt S4 ht1 hP4=>?_⟩
   obtain rfl:y=l':=by have:=V.int.inj e1;omega
   obtain rfl:x=k':=by have:=V.int.inj e2;omega
   rw [nM,rE] at hP4
   walk_at "sts"
   refine ⟨b,dx,_,rfl,S4 _ _ hb3,w6 (by decide+kernel),?_⟩
   walk_at "sts"
   refine ⟨b,side,top,x,y,rfl,hB3.same S4,hxl,hy,fun H5 S5=>⟨fun z=>by omega,fun _=>?_⟩⟩
   rw [show gm (mS side) (CB side top) (mS top) x y (mS side) 0=dR side top x y from rfl,hfc]
   refine ⟨fun hn=>?_,fun q r hq hr=>?_⟩
   ·exact hN _ _ ⟨S4.trans S5,.non,t,ws,by rw [hn];rfl,S5 _ _ ht1,hP4.same S5,rfl⟩
   ·exact hN _ _ ⟨S4.trans S5,.ref r,t,ws,by rw [hq];exact ⟨r,rfl,hr⟩,S5 _ _ ht1,hP4.same S5,rfl⟩
 rintro σ G ⟨sG,vf,w',ws,hvf,hw,hPw,rfl⟩
 walk_at "sts"
 refine ⟨w',p,ws,us,dR side top x y,rfl,hw,sG _ _ hp3,hPw,hPr3.same sG,by omega,?_⟩
 walk_at "sts"
 cases e:mK (t7 side top) (dR side top x y) with
 | none=>
  rw [e] at hcr hvf
  obtain rfl:vc= .non:=hcr
  obtain rfl:vf= .non:=hvf
  rw [decide_eq_true (rfl:V.non=V.non)]
  walk_at "sts"
  rw [decide_eq_true (rfl:V.non=V.non)]
  exact q _ (U3.trans sG)
 | some cq=>
  rw [e] at hcr hvf
  obtain ⟨rc,rfl,hrc⟩:=hcr
  obtain ⟨rf,rfl,hrf⟩:=hvf
  rw [decide_eq_false (show ¬ V.ref rc=V.non from fun z=>by cases z)]
  walk_at "sts"
  refine ⟨rf,rc,cq.1,cq.2,rfl,hrf,sG _ _ hrc,?_⟩
  walk_at "sts"
  exact q _ (U3.trans sG)
end
section
variable {P:Program} {w:World} {K:PySem.W.Frag} {mg:Str→Option Value} {base:Heap}
theorem Hc:(["_law_cell","_law_cells"]:List Str).Nodup:=by decide+kernel
theorem KY:cJ bD "range":=by decide+kernel
theorem sy:aQ bD "_law_many":=by decide+kernel
theorem Cw:aQ bD "_law_far":=by decide+kernel
theorem Q7:aQ bD "_law_b":=by decide+kernel
theorem Ve:aQ bD "_law_a":=by decide+kernel
theorem kz66:cJ bD "_law_apart":=by decide+kernel
theorem Hd:aQ bD "_law_met_here":=by decide+kernel
theorem KZ:aQ bD "_law_lines":=by decide+kernel
theorem K1:KCc bD "_law_cells":=by decide+kernel
theorem Hf:aQ bD "_law_top":=by decide+kernel
theorem Hg:aQ bD "_law_side":=by decide+kernel
theorem vz:aQ bD "_law_board":=by decide+kernel
theorem kz6d:cJ bD "min":=by decide+kernel
theorem K3:cJ bD "len":=by decide+kernel
theorem K4:aQ bD "_law_pairs_here":=by decide+kernel
theorem Vf:aQ bD "_law_k":=by decide+kernel
theorem kz6h:cJ bD "_law_pair":=by decide+kernel
theorem K5:aQ bD "_law_crossed":=by decide+kernel
theorem Q8:aQ bD "_law_told":=by decide+kernel
theorem Vg:cJ bD "Board":=by decide+kernel
theorem K6:aQ bD "_law_pair_here":=by decide+kernel
theorem Q9:cJ bD "_law_at":=by decide+kernel
theorem K7:aQ bD "_law_script":=by decide+kernel
theorem kz6o:cJ bD "list":=by decide+kernel
theorem kz6p:cJ bD "_law_met":=by decide+kernel
theorem Ra:aQ bD "_law_ways":=by decide+kernel
theorem wZ:aQ bD "_law_line":=by decide+kernel
theorem Vh:cJ bD "_law_pairs":=by decide+kernel
theorem K8:aQ bD "_law_way_here":=by decide+kernel
theorem Vi:aQ bD "_law_end":=by decide+kernel
theorem kz6v:cJ bD "_law_way":=by decide+kernel
theorem kz6w:cJ bD "_law_forms":=by decide+kernel
theorem kz6x:cJ bD "_law_two":=by decide+kernel
theorem Vj:aQ bD "_law_pick":=by decide+kernel
theorem kz6z:cJ bD "_law_mix":=by decide+kernel
def WN (H:Hp) (wy:Addr) (us:List V) (n:Nat) (f:Nat→List II):Prop:=us.length=n∧∀ l,l < n→∃ p ws,us[l]?=some (.ref p)∧p≠wy∧H p=some (.lst ws)∧PrI H ws (f l)
theorem WN.wl {H:Hp} {wy:Addr} {us:List V} {n:Nat} {f:Nat→List II} (h:WN H wy us n f):WL H us n f:=⟨h.1,fun l hl=>by
 obtain ⟨p,ws,e,_,hp,hP⟩:=h.2 l hl
 exact ⟨p,ws,e,hp,hP⟩⟩
theorem WN.same {H H':Hp} {wy:Addr} {us:List V} {n:Nat} {f:Nat→List II} (h:WN H wy us n f) (s:Same H H'):WN H' wy us n f:=⟨h.1,fun l hl=>by
 obtain ⟨p,ws,e,hn,hp,hP⟩:=h.2 l hl
 exact ⟨p,ws,e,hn,s _ _ hp,hP.same s⟩⟩
theorem WN.push {H:Hp} {wy w:Addr} {us vs ws:List V} {n:Nat} {f:Nat→List II} {o:HO} (h:WN H wy us n f) (hwy:H wy=some (.lst vs)) (hw:w≠wy) (hl:H w=some (.lst ws)) (hP:PrI H ws (f n)):WN (upd H wy o) wy (us ++ [.ref w]) (n+1) f:=by
 refine ⟨by rw [List.length_append,h.1];rfl,fun l hl2=>?_⟩
 by_cases e:l=n
 ·subst e
  exact ⟨w,ws,by rw [List.getElem?_append_right (by rw [h.1];exact Nat.le_refl _),h.1,Nat.sub_self];rfl,hw,by rw [az hw];exact hl,hP.upd hwy⟩
 ·obtain ⟨p,vs',e1,hn,hp,hP'⟩:=h.2 l (by omega)
  exact ⟨p,vs',by rw [List.getElem?_append_left (by rw [h.1];omega)];exact e1,hn,by rw [az hn];exact hp,hP'.upd hwy⟩
theorem Hh {m far:Nat} {C:Nat→Nat→Bool} (l i j:Nat):gm m C far l l i j=fB m C far l i j:=by
 unfold gm fB
 congr 1
 funext q
 exact Bool.and_self _
def pD (q:Int×Int):PyData:=.tuple [.int q.1,.int q.2]
theorem K9 {H:Hp} {p:Addr} {q:Int×Int} (h:H p=some (.tup [.int q.1,.int q.2])):DR H (pD q) (.ref p):=by
 unfold pD
 rw [DR]
 exact ⟨p,_,rfl,h,by rw [DRs];exact ⟨_,_,rfl,by rw [DR],by rw [DRs];exact ⟨_,_,rfl,by rw [DR],by rw [DRs]⟩⟩⟩
theorem oU {H:Hp}:∀ {ws:List V} {L:List (Int×Int)},PrI H ws L→DRs H (L.map pD) ws
 | [],[],_=>by rw [List.map_nil,DRs]
 | v :: vs,(x,y) :: L,⟨⟨p,e,hp⟩,r⟩=>by
  rw [List.map_cons,DRs]
  exact ⟨v,vs,rfl,by rw [e];exact K9 hp,oU r⟩
theorem Ae (es:List PyData):PyData.eqv (.list es) (.list [])=es.isEmpty:=by
 cases es <;> simp [PyData.eqv,PyData.eqvAll]
theorem t8 (ps:List (Int×Int)):PySem.SeqAt.shaped (.list (ps.map pD))=true:=qI (n:=2) (v9 (n:=1) fun d hd=>by
 obtain ⟨p,_,rfl⟩:=List.mem_map.mp hd
 exact Bw (n:=0) fun e he=>by
  simp only [List.mem_cons,List.mem_nil_iff,or_false] at he
  rcases he with rfl | rfl <;> exact Jk _) (by omega)
theorem Af {H:Hp} {Q:VK} {p e:Addr} {ws:List V} {L:List II} (hp:H p=some (.lst ws)) (hw:PrI H ws L) (he:H e=some (.lst [])) (h:Q (.bl L.isEmpty) H):yc K (.ref p) (.ref e) H Q:=
 Fb (d:=.list (L.map pD)) (e:=.list []) (km.mpr ⟨p,ws,rfl,hp,oU hw⟩) (km.mpr ⟨e,[],rfl,he,uE.mpr rfl⟩) (t8 _) rfl (by rw [Ae,List.isEmpty_map];exact h)
theorem Ag {H:Hp} {Q:VK} {p e:Addr} {ws:List V} {L:List II} (hp:H p=some (.lst ws)) (hw:PrI H ws L) (he:H e=some (.lst [])) (h:Q (.bl (!L.isEmpty)) H):Bp K (.ref p) (.ref e) H Q:=
 Fd (d:=.list (L.map pD)) (e:=.list []) (km.mpr ⟨p,ws,rfl,hp,oU hw⟩) (km.mpr ⟨e,[],rfl,he,uE.mpr rfl⟩) (t8 _) rfl (by rw [Ae,List.isEmpty_map];exact h)
theorem Hi {side top:Str} (L:List II):GX side top L=(L.filter (xB side top)).head?:=List.head?_filter.symm
theorem yO {H H2:Hp} {x dx:Addr} {o1 o2:HO} (nx:H x=none) (nd:H dx=none) (c:Chg x (upd (upd H dx o1) x o2) H2):Same H H2:=fun b o e=>by
 have h1:b≠x:=fun z=>by rw [z,nx] at e;cases e
 have h2:b≠dx:=fun z=>by rw [z,nd] at e;cases e
 exact c b o h1 (by rw [az h1,az h2];exact e)
def LQ (K:PySem.W.Frag):Sp:=fun vs H Q _=>∃ (a:Addr) (ns:List Int),vs=[.ref a]∧SqL K H a (ns.map V.int)∧ns.length≤63∧∀ H',Q (.bl true) H'
theorem cU:aF ["_law_script","_law_pick","_law_side","_law_top","_law_many","_law_far","_law_board","_law_cells","_law_lines","_law_ways","_law_line","_law_way_here","_law_end","_law_met_here","_law_pairs_here","_law_k","_law_pair_here","_law_crossed","_law_told","_law_b","_law_a"] ["_law_script"] (au bD):=⟨rfl,rfl,rfl,by decide+kernel,rfl,by decide+kernel,by decide+kernel⟩
theorem Rb (T:Txt K mg) {f0:Addr} {fd0:FuncData} (F0:Fun K "law" "law" bD f0 fd0):mQ P w K mg base xK 8 f0 fd0 ["_law_script"] (LQ K):=by
 have eY:=eY (P:=P) (w:=w) (base:=base) T
 have fu:=fu (P:=P) (w:=w) (base:=base) T
 have oK:=oK (P:=P) (w:=w) (base:=base) T
 have dN:=dN (P:=P) (w:=w) (base:=base) T
 have aW:=aW (P:=P) (w:=w) (base:=base) T
 have bA:=bA (P:=P) (w:=w) (base:=base) T
 have jt:=jt (P:=P) (w:=w) (base:=base) T
 have jr:=jr (P:=P) (w:=w) (base:=base) T
 have j8:=j8 (P:=P) (w:=w) (base:=base) T
 have oN:=oN (P:=P) (w:=w) (base:=base) T
 have dH:=dH (P:=P) (w:=w) (base:=base) T
 have j4:=j4 (P:=P) (w:=w) (base:=base) T
 have oR:=oR (P:=P) (w:=w) (base:=base) T
 have di:=di (P:=P) (w:=w) (base:=base) T
 have j9:=j9 (P:=P) (w:=w) (base:=base) T
 refine okJ F0 cU ?_ fun f cdv A outer s H vs Q E hr h=>?_
 ·rintro vs H Q E ⟨a,ns,rfl,_⟩;rfl
 obtain ⟨a,ns,rfl,hS,hlen,q⟩:=h
 have hu:=hr.units0
 have hu64:=hr.units
 refine ⟨_,(aq (aC (i:=1) cU.nd rfl (Or.inl Vj) (aU cP (bx eY (hr.mono (by decide)) (bB kz6z) (aa (bx fu (hr.mono (by decide)) (bB Q9) (aa (aj 0 K7) (aa aB ao)) (by decide+kernel)) (aa aB ao)) (by decide+kernel)) aB) rfl) (aq (zy (bx oK (hr.mono (by decide)) (bB kz6x) (aa (aj 0 K7) (aa (bO (K:=K) rfl (fc (aa aB (aa aB (aa aB (aa aB (aa aB ao)))))) (aj 1 Vj)) ao)) (by decide+kernel)) (zx (K:=K) rfl rfl (bu (aH (i:=2) cU.nd rfl (Or.inl Hg) rfl) (bu (aH (i:=3) cU.nd rfl (Or.inl Hf) rfl) fj)))) (aq (aC (i:=4) cU.nd rfl (Or.inl sy) (aD (aJ (K:=K) rfl) (bB K3) T.b_len bU (aa (aj 2 Hg) ao) (by decide+kernel) (by decide+kernel)) rfl) (aq (aC (i:=5) cU.nd rfl (Or.inl Cw) (aD (aJ (K:=K) rfl) (bB K3) T.b_len bU (aa (aj 3 Hf) ao) (by decide+kernel) (by decide+kernel)) rfl) (aq (aC (i:=6) cU.nd rfl (Or.inl vz) (zO T.o_Board dN (hr.mono (by decide)) (bB Vg) (iw fun _ _=>rfl) (aa (aj 2 Hg) (aa (aj 3 Hf) ao)) (by decide+kernel)) rfl) (aq (bV (gG (qz (bc (jm (K:=K) rfl hu64) (aU cP (bx fu (hr.mono (by decide)) (bB Q9) (aa (aj 0 K7) (aa aB ao)) (by decide+kernel)) aB) aB (by first | exact aL _ | with_unfolding_all rfl)) (m6 (bc za (aj 4 sy) aB (by first | exact aL _ | with_unfolding_all rfl))))) (aq (bL (uO (K:=K) rfl PySem.F.plainAttrs_list PySem.F.slot_list_append PySem.F.type_list_append bN (dD (aj 6 vz) T.o_Board bA (hr.mono (by decide)) (iw fun _ _=>rfl) (aa aB (aa (aU fH (aj 4 sy) aB) ao))) (aa (iu (aa aB (aa aB ao))) ao))) (aA (bV (bc kI (dD (aj 6 vz) T.o_Board aW (hr.mono (by decide)) (iw fun _ _=>rfl) (aa (aU fH (aj 4 sy) aB) (aa (aU fH (aj 4 sy) aB) ao))) jy (by first | exact aL _ | with_unfolding_all rfl)) (aA (aG jf)) bC))) bC) (aq (aC (i:=7) cU.nd rfl (Or.inr K1) (wk (aj 6 vz) T.o_Board jt (hr.mono (by decide)) (iw fun _ _=>rfl)) rfl) (aq (aC (i:=8) cU.nd rfl (Or.inl KZ) (wk (aj 6 vz) T.o_Board jr (hr.mono (by decide)) (iw fun _ _=>rfl)) rfl) (aq (bV (dB (cG (bx j8 (hr.mono (by decide)) (bB kz6w) (aa (aj 8 KZ) (aa (xW 7 K1) (aa (aj 4 sy) (aa (aj 5 Cw) ao)))) (by decide+kernel)))) (aA (aG jf)) bC) (aq (aC (i:=9) cU.nd rfl (Or.inl Ra) (fc ao) rfl) (aq (bZ PassesOwn.never rfl (cA (bB KY) T.b_range (aa (aU aY (aj 4 sy) (aj 5 Cw)) ao)) (aH (i:=10) cU.nd rfl (Or.inl wZ) rfl) (aq (zy (bx oN (hr.mono (by decide)) (bB kz6v) (aa (xW 7 K1) (aa (aj 4 sy) (aa (aj 5 Cw) (aa (aj 10 wZ) ao)))) (by decide+kernel)) (zx (K:=K) rfl rfl (bu (aH (i:=11) cU.nd rfl (Or.inl K8) rfl) (bu (aH (i:=12) cU.nd rfl (Or.inl Vi) rfl) fj)))) (aq (bL (fJ (K:=K) rfl PySem.F.plainAttrs_list PySem.F.slot_list_append PySem.F.type_list_append bN (aj 9 Ra) (aa (aj 11 K8) ao))) (aq (bV (gG (ir (bc (gH (K:=K) rfl hu64) (aj 12 Vi) (bO (K:=K) rfl (aj 8 KZ) (aj 10 wZ)) (by first | exact aL _ | with_unfolding_all rfl)) (ir (dB (cG (bx dH (hr.mono (by decide)) (bB Vh) (aa (dD (aj 6 vz) T.o_Board j4 (hr.mono (by decide)) (iw fun _ _=>rfl) (aa (aj 10 wZ) ao)) (aa (aj 11 K8) ao)) (by decide+kernel)))) (jg (dB (cG (bx dH (hr.mono (by decide)) (bB Vh) (aa (dD (aj 6 vz) T.o_Board bA (hr.mono (by decide)) (iw fun _ _=>rfl) (aa (aj 10 wZ) (aa (aj 10 wZ) ao))) (aa (aj 11 K8) ao)) (by decide+kernel)))))))) (aA (aG jf)) bC) (aA (bV (bc kI (dD (aj 6 vz) T.o_Board aW (hr.mono (by decide)) (iw fun _ _=>rfl) (aa (aj 10 wZ) (aa (aj 10 wZ) ao))) jy (by first | exact aL _ | with_unfolding_all rfl)) (aA (aG jf)) bC)))))) (aq (aC (i:=13) cU.nd rfl (Or.inl Hd) (bx oR (hr.mono (by decide)) (bB kz6p) (aa (aj 9 Ra) (aa (aj 4 sy) (aa (aj 5 Cw) ao))) (by decide+kernel)) rfl) (aq (bV (bc qH (aj 13 Hd) jy (by first | exact aL _ | with_unfolding_all rfl)) (aA (aG jf)) bC) (aq (aC (i:=14) cU.nd rfl (Or.inl K4) (m8 (yt rfl) (bB kz6o) T.b_list il (aa (aj 13 Hd) ao) (by decide+kernel) (by decide+kernel)) rfl) (aq (bZ PassesOwn.never rfl (cA (bB KY) T.b_range (aa (aD (Av rfl) (bB kz6d) T.b_min Og (aa aB (aa (aD (aJ (K:=K) rfl) (bB K3) T.b_len bU (aa (aj 14 K4) ao) (by decide+kernel) (by decide+kernel)) ao)) (by decide+kernel) (by decide+kernel)) ao)) (aH (i:=15) cU.nd rfl (Or.inl Vf) rfl) (aq (aC (i:=16) cU.nd rfl (Or.inl K6) (bO (K:=K) rfl (aj 14 K4) (aU cP (aU aY (aU yU (bx fu (hr.mono (by decide)) (bB Q9) (aa (aj 0 K7) (aa aB ao)) (by decide+kernel)) aB) (aU jE aB (aj 15 Vf))) (aD (aJ (K:=K) rfl) (bB K3) T.b_len bU (aa (aj 14 K4) ao) (by decide+kernel) (by decide+kernel)))) rfl) (aq (zA (i:=17) cU.nd rfl (Or.inl K5) (sub:=[none,some 7]) (jx (N:=["_law_script","_law_pick","_law_side","_law_top","_law_many","_law_far","_law_board","_law_cells","_law_lines","_law_ways","_law_line","_law_way_here","_law_end","_law_met_here","_law_pairs_here","_law_k","_law_pair_here","_law_crossed","_law_told","_law_b","_law_a"]) (sc:=au bD) (N':=["_law_cell","_law_cells"]) (by decide+kernel)) rfl rfl rfl (jh (K:=K) rfl (O8 hu64 (aj 13 Hd) (aj 16 K6))) (fun C s₀ H₀ ex=>(Bm 0 (by decide+kernel) Hc)) (fun C s₀ H₀ ex=>(zu (bc (jm (K:=K) rfl hu64) (bO (K:=K) rfl (bO (K:=K) rfl (zq 1 (by decide+kernel)) (bO (K:=K) rfl (mZ 0 (by decide+kernel)) aB)) (bO (K:=K) rfl (mZ 0 (by decide+kernel)) aB)) m5 (by first | exact aL _ | with_unfolding_all rfl)))) (fun C s₀ H₀ ex=>(mZ 0 (by decide+kernel))) rfl) (aq (aC (i:=18) cU.nd rfl (Or.inl Q8) (dD (zO T.o_Board dN (hr.mono (by decide)) (bB Vg) (iw fun _ _=>rfl) (aa (aj 2 Hg) (aa (aj 3 Hf) ao)) (by decide+kernel)) T.o_Board aW (hr.mono (by decide)) (iw fun _ _=>rfl) (aa (bO (K:=K) rfl (aj 16 K6) aB) (aa (bO (K:=K) rfl (aj 16 K6) aB) ao))) rfl) (aA (bV (gG (ir (gG (qz (bc (jm (K:=K) rfl hu64) (aj 17 K5) (fc ao) (by first | exact aL _ | with_unfolding_all rfl)) (m6 (bc kI (aj 18 Q8) jy (by first | exact aL _ | with_unfolding_all rfl))))) (jg (gG (qz (bc (gH (K:=K) rfl hu64) (aj 17 K5) (fc ao) (by first | exact aL _ | with_unfolding_all rfl)) (m6 (dB (cG (bx di (hr.mono (by decide)) (bB kz6h) (aa (aj 18 Q8) (aa (bO (K:=K) rfl (aj 17 K5) aB) ao)) (by decide+kernel)))))))))) (aA (aG jf)) bC)))))) (aq (bZ PassesOwn.never rfl (cA (bB KY) T.b_range (aa (aU aY (aj 4 sy) (aj 5 Cw)) ao)) (aH (i:=19) cU.nd rfl (Or.inl Q7) rfl) (aA (bZ PassesOwn.never rfl (cA (bB KY) T.b_range (aa (aj 19 Q7) ao)) (aH (i:=20) cU.nd rfl (Or.inl Ve) rfl) (aA (bV (dB (cG (bx j9 (hr.mono (by decide)) (bB kz66) (aa (aj 6 vz) (aa (aj 2 Hg) (aa (aj 3 Hf) (aa (xW 7 K1) (aa (aj 8 KZ) (aa (aj 13 Hd) (aa (aj 20 Ve) (aa (aj 19 Q7) ao)))))))) (by decide+kernel)))) (aA (aG jf)) bC))))) (aA (aG jf)))))))))))))))))),?_⟩
 walk_at "sts"
 have hz:1000000≤sizeLine:=by decide
 refine ⟨a,ns,0,rfl,hS,by omega,fun c0=>?_⟩
 walk_at "sts"
 refine ⟨_,_,rfl,fun mx=>?_⟩
 walk_at "sts"
 refine cR rfl fun pc H1 npc S1 f1=>?_
 walk_at "sts"
 obtain ⟨cpv,hcp,ecp⟩:=Lg (vs:=[V.int 8,.int 8,.int 8,.int 8,.int 16]) (d:=mx % 5) (by omega) (by show mx % 5 < 5;omega)
 obtain ⟨cap,rfl,hc1,hc2⟩:∃ cap:Nat,cpv= .int cap∧1≤cap∧cap≤16:=by
  simp only [List.mem_cons,List.mem_nil_iff,or_false] at hcp
  rcases hcp with rfl | rfl | rfl | rfl | rfl <;> first | exact ⟨8,rfl,by decide,by decide⟩ | exact ⟨16,rfl,by decide,by decide⟩
 refine bT (SqL.of f1) ecp ?_
 walk_at "sts"
 refine ⟨a,ns,cap,rfl,S1.seq hS,hlen,hc1,by omega,fun rw z y H2 S2 hrw rz0 ry0 lz ly=>?_⟩
 walk_at "sts"
 have rz:=rz0.b
 have ry:=ry0.b
 have hzl:mS z≤16:=by show z.length≤_;omega
 have hyl:mS y≤16:=by show y.length≤_;omega
 have ez:z.length=mS z:=rfl
 have ey:y.length=mS y:=rfl
 have U2:=S1.trans S2
 walk_at "sts"
 refine IV (SqL.of hrw) rfl ?_
 walk_at "sts"
 refine gq (by rw [ez];omega) ?_
 walk_at "sts"
 refine gq (by rw [ey];omega) ?_
 walk_at "sts"
 rintro b0 db0 nx nd _
 refine ⟨b0,db0,.str z,.str y,rfl,ak,kW rz,kW ry,(fun w hw=>by rw [zU rz ry] at hw;cases hw),fun s' t' hq1 hq2 hs' ht' H3 C Bb0=>⟨rfl,?_⟩⟩
 obtain rfl:z=s':=by injection hq1
 obtain rfl:y=t':=by injection hq2
 have S3:=yO nx nd C
 obtain ⟨_,_,eb0,_,_,_,_,hb0,hO⟩:=id Bb0
 clear C hq1 hq2 hs' ht' hO nx nd
 have U3:=U2.trans S3
 rw [ez,ey]
 walk_at "stn"
 with_reducible show Al _ _ _ _ _
 with_reducible refine Ft (fun σ G=>Same H3 G∧σ=[some (.ref a),some (.int (mx % 5)),some (.str z),some (.str y),some (.int (mS z:Nat)),some (.int (mS y:Nat)),some (.ref b0),none,none,none,none,none,none,none,none,none,none,none,none,none,none]) ?_ ?_
 rotate_left
 ·intro N hN
  walk_at "sts"
  refine ⟨a,ns,1,rfl,U3.seq hS,by omega,fun c1=>?_⟩
  walk_at "sts"
  by_cases hc:c1 % 2=0∧0 < mS z
  ·rw [hc.1,decide_eq_true (rfl:V.int 0=V.int 0)]
   walk_at "sts"
   rw [show decide ((0:Int) < (mS z:Int))=true from decide_eq_true (by omega)]
   walk_at "sts"
   have em:(mS z:Int) - 1=((mS z - 1:Nat):Int):=by omega
   have h0:0 < mS z+mS y:=by omega
   have h1:mS z - 1 < mS z+mS y:=by omega
   refine ⟨b0,eb0,_,rfl,hb0,w6 (by decide+kernel),?_⟩
   walk_at "sts"
   rw [em]
   refine ⟨b0,z,y,.int 0,.int ((mS z - 1:Nat):Int),rfl,Bb0,ig _,ig _,(fun z=>by rw [show (V.int 0)= .int ((0:Nat):Int) from rfl,gZ h0] at z;cases z),(fun _ z=>by rw [gZ h1] at z;cases z),fun l' k' e1 e2 _ _ t ws H4 nt S4 ht1 hP4=>?_⟩
   walk_at "sts"
   refine ⟨.inl ⟨rfl,_,SqL.of ht1⟩,?_⟩
   walk_at "sts"
   refine cR rfl fun t0 H5 nt0 S5 ht0=>?_
   walk_at "sts"
   have wl:ws.length≤2304:=by rw [hP4.len,nM];exact p7 _ _ rz ry
   refine bM (S5 _ _ ht1) (by omega) ?_
   have S6:Same H3 (upd H5 t (.lst (ws ++ [.ref t0]))):=Same.put (S4.trans S5) nt
   generalize upd H5 t (.lst (ws ++ [.ref t0]))=H6 at S6 ⊢
   walk_at "sts"
   refine ⟨b0,eb0,_,rfl,S6 _ _ hb0,w6 (by decide+kernel),?_⟩
   walk_at "sts"
   rw [em]
   refine ⟨b0,z,y,mS z - 1,mS z - 1,rfl,Bb0.same S6,h1,h1,fun H7 S7=>⟨fun _=>?_,fun h=>absurd rfl h⟩⟩
   walk_at "sts"
   rw [decide_eq_true (rfl:V.non=V.non)]
   walk_at "sts"
   exact hN _ _ ⟨S6.trans S7,rfl⟩
  ·have key:N [some (.ref a),some (.int (mx % 5)),some (.str z),some (.str y),some (.int (mS z:Nat)),some (.int (mS y:Nat)),some (.ref b0),none,none,none,none,none,none,none,none,none,none,none,none,none,none] H3:=hN _ _ ⟨Same.refl H3,rfl⟩
   by_cases h2:c1 % 2=0
   ·rw [h2,decide_eq_true (rfl:V.int 0=V.int 0)]
    walk_at "sts"
    rw [show decide ((0:Int) < (mS z:Int))=false from decide_eq_false (by omega)]
    walk_at "sts"
    exact key
   ·rw [decide_eq_false (show ¬ V.int (c1 % 2)=V.int 0 from fun z=>h2 (V.int.inj z))]
    walk_at "sts"
    exact key
 rintro σ H4 ⟨S4,rfl⟩
 walk_at "sts"
 refine ⟨b0,eb0,_,rfl,S4 _ _ hb0,w6 (by decide+kernel),?_⟩
 walk_at "sts"
 refine ⟨b0,z,y,rfl,Bb0.same S4,fun kc H5 nkc S5 hkc=>?_⟩
 walk_at "sts"
 have U5:=S4.trans S5
 refine ⟨b0,eb0,_,rfl,U5 _ _ hb0,w6 (by decide+kernel),?_⟩
 walk_at "sts"
 refine ⟨b0,z,y,rfl,Bb0.same U5,fun kl R H6 nkl S6 hE hkl=>?_⟩
 walk_at "sts"
 have hkc6:=S6 _ _ hkc
 refine ⟨kl,kc,R,z,y,rfl,rz,ry,hzl,hyl,hkl,hE,hkc6,fun H7 S7=>?_⟩
 walk_at "sts"
 have U7:=U5.trans (S6.trans S7)
 have hkc7:=S7 _ _ hkc6
 have hkl7:=S7 _ _ hkl
 have B7:=Bb0.same U7
 have hb7:=U7 _ _ hb0
 have V7:=U3.trans U7
 clear S1 S2 S3 S4 S5 S6 S7 U2 U3 U5 Bb0 hb0 hkc hkl hkc6 f1 npc ecp hcp
 walk_at "sts"
 refine cR rfl fun wy H8 nwy S8 hwy=>?_
 walk_at "sts"
 rw [show (mS z:Int)+(mS y:Int)=((mS z+mS y:Nat):Int) by omega]
 refine ⟨_,rfl,by omega,by omega,?_⟩
 rw [show (((mS z+mS y:Nat):Int)).toNat=mS z+mS y by omega]
 refine cV (n:=mS z+mS y) (fun l σ G=>Same H7 G∧(∃ us,G wy=some (.lst us)∧WN G wy us l (fun l=>fB (mS z) (CB z y) (mS y) l (mS z) 0))∧∃ x10 x11 x12,σ=[some (.ref a),some (.int (mx % 5)),some (.str z),some (.str y),some (.int (mS z:Nat)),some (.int (mS y:Nat)),some (.ref b0),some (.ref kc),some (.ref kl),some (.ref wy),x10,x11,x12,none,none,none,none,none,none,none,none]) ⟨S8,⟨[],hwy,rfl,fun l hl=>absurd hl (Nat.not_lt_zero _)⟩,_,_,_,rfl⟩ ?_ ?_
 ·rintro l σ G hl ⟨s,⟨us,hus,hW⟩,x10,x11,x12,rfl⟩
  rw [Int.zero_add]
  walk_at "sts"
  refine ⟨kc,z,y,l,rfl,rz,ry,s _ _ hkc7,hl,fun t w ws e G1 nw s1 ht hw hP hen=>?_⟩
  walk_at "sts"
  refine ⟨t,_,rfl,.inl (SqT.of ht),rfl,?_⟩
  walk_at "sts"
  have hwn:w≠wy:=fun z=>by rw [z,hus] at nw;cases nw
  have ul:us.length=l:=hW.1
  refine ⟨.inl ⟨rfl,_,SqL.of (s1 _ _ hus)⟩,?_⟩
  walk_at "sts"
  refine bM (s1 _ _ hus) (by omega) ?_
  have W2:=(hW.same s1).push (o:=.lst (us ++ [.ref w])) (s1 _ _ hus) hwn hw hP
  have s2:Same H7 (upd G1 wy (.lst (us ++ [.ref w]))):=Same.put (s.trans s1) nwy
  have hwy2:=ak (H:=G1) (a:=wy) (o:=.lst (us ++ [.ref w]))
  have hw2:upd G1 wy (.lst (us ++ [.ref w])) w=some (.lst ws):=by rw [az hwn];exact hw
  have hP2:=hP.upd (s1 _ _ hus) (o:=.lst (us ++ [.ref w]))
  generalize upd G1 wy (.lst (us ++ [.ref w]))=G2 at W2 s2 hwy2 hw2 hP2 ⊢
  have hll:=wW (side:=z) (top:=y) l rz ry
  walk_at "sts"
  refine bT (SqL.of (s2 _ _ hkl7)) (bF (Q6 (hen R hE))) ?_
  walk_at "sts"
  rw [decide_eq_true (rfl:V.int e=V.int e)]
  walk_at "sts"
  refine ⟨b0,eb0,_,rfl,s2 _ _ hb7,w6 (by decide+kernel),?_⟩
  walk_at "sts"
  refine ⟨b0,z,y,.int (l:Int),rfl,B7.same s2,ig _,(fun z=>by rw [gZ hl] at z;cases z),fun l' e1 _ t1 ws1 G3 _ s3 ht1 hP3=>?_⟩
  obtain rfl:l=l':=by have:=V.int.inj e1;omega
  rw [vd (gC z y).le l _ (Nat.le_refl _)] at hP3
  walk_at "sts"
  refine ⟨t1,w,ws1,ws,_,rfl,ht1,s3 _ _ hw2,hP3,hP2.same s3,by omega,?_⟩
  walk_at "sts"
  have s4:=s2.trans s3
  refine ⟨b0,eb0,_,rfl,s4 _ _ hb7,w6 (by decide+kernel),?_⟩
  walk_at "sts"
  refine ⟨b0,z,y,.int (l:Int),.int (l:Int),rfl,B7.same s4,ig _,ig _,(fun z=>by rw [gZ hl] at z;cases z),(fun _ z=>by rw [gZ hl] at z;cases z),fun l1 k1 e1 e2 _ _ t2 ws2 G4 _ s5 ht2 hP4=>?_⟩
  obtain rfl:l=l1:=by have:=V.int.inj e1;omega
  obtain rfl:l=k1:=by have:=V.int.inj e2;omega
  rw [nM,Hh] at hP4
  walk_at "sts"
  refine ⟨t2,w,ws2,ws,_,rfl,ht2,s5 _ _ (s3 _ _ hw2),hP4,(hP2.same s3).same s5,by omega,?_⟩
  walk_at "sts"
  walk_at "sts"
  have s6:=s4.trans s5
  refine ⟨b0,eb0,_,rfl,s6 _ _ hb7,w6 (by decide+kernel),?_⟩
  walk_at "sts"
  refine ⟨b0,z,y,l,l,rfl,B7.same s6,hl,hl,fun G5 s7=>⟨fun _=>?_,fun h=>absurd rfl h⟩⟩
  walk_at "sts"
  rw [decide_eq_true (rfl:V.non=V.non)]
  walk_at "sts"
  have s8:=s3.trans (s5.trans s7)
  exact ⟨s2.trans s8,⟨_,s8 _ _ hwy2,W2.same s8⟩,_,_,_,rfl⟩
 rintro σ H9 ⟨S9,⟨us,hus,hW⟩,x10,x11,x12,rfl⟩
 walk_at "sts"
 refine ⟨wy,us,z,y,rfl,hus,rz,ry,hW.wl,fun d HA nd SA hM=>?_⟩
 walk_at "sts"
 have UA:=S9.trans SA
 have hkcA:=UA _ _ hkc7
 have hklA:=UA _ _ hkl7
 have BA:=B7.same UA
 have VA:=V7.trans UA
 clear S8 S9 SA UA hW hus hwy nwy hkc7 hkl7 B7 hb7
 walk_at "sts"
 rw [decide_eq_false (show ¬ V.ref d=V.non from fun z=>by cases z)]
 walk_at "sts"
 obtain ⟨Z,cc,hD,hPm,hkz,hZl⟩:=id hM
 refine ⟨d,_,rfl,hD.hd,fun lq bs nq lbs hbs=>?_⟩
 walk_at "sts"
 have SB:=(Same.refl HA).upd nq (o:=.lst (bs.map V.ref))
 have hlq:=ak (H:=HA) (a:=lq) (o:=.lst (bs.map V.ref))
 generalize upd HA lq (.lst (bs.map V.ref))=HB at SB hlq ⊢
 rw [yJ] at lbs
 walk_at "sts"
 refine gn (SqL.of hlq) ?_
 walk_at "sts"
 rw [List.length_map,lbs]
 obtain ⟨mn,emn,hmn⟩:∃ mn:Nat,(if (Z.length:Int) < 2 then (Z.length:Int) else 2)=(mn:Int)∧mn≤Z.length∧mn≤2:=by
  by_cases h:(Z.length:Int) < 2
  ·exact ⟨Z.length,by rw [if_pos h],Nat.le_refl _,by omega⟩
  ·exact ⟨2,by rw [if_neg h];rfl,by omega,Nat.le_refl _⟩
 rw [emn]
 refine ⟨_,rfl,by omega,by omega,?_⟩
 rw [show ((mn:Nat):Int).toNat=mn by omega]
 refine cV (n:=mn) (fun l σ G=>Same HB G∧∃ x15 x16 x17 x18,σ=[some (.ref a),some (.int (mx % 5)),some (.str z),some (.str y),some (.int (mS z:Nat)),some (.int (mS y:Nat)),some (.ref b0),some (.ref kc),some (.ref kl),some (.ref wy),x10,x11,x12,some (.ref d),some (.ref lq),x15,x16,x17,x18,none,none]) ⟨Same.refl HB,_,_,_,_,rfl⟩ ?_ ?_
 ·rintro l σ G hl ⟨s,x15,x16,x17,x18,rfl⟩
  rw [Int.zero_add]
  have sA:=SB.trans s
  walk_at "sts"
  refine ⟨a,ns,1,rfl,(VA.trans sA).seq hS,by omega,fun c2=>?_⟩
  walk_at "sts"
  refine gn (SqL.of (s _ _ hlq)) ?_
  walk_at "sts"
  rw [List.length_map,lbs]
  refine ⟨_,_,rfl,rfl,by omega,?_⟩
  obtain ⟨ix,eix⟩:∃ ix:Nat,(c2 / 2+5*(l:Int)) % (Z.length:Int)=ix:=⟨_,(Int.toNat_of_nonneg (Int.emod_nonneg _ (by omega))).symm⟩
  have hix:ix < Z.length:=by have:=Int.emod_lt_of_pos (c2 / 2+5*(l:Int)) (show (0:Int) < (Z.length:Int) by omega);omega
  have exs:∃ e,Z[ix]?=some e:=⟨_,List.getElem?_eq_getElem hix⟩
  obtain ⟨⟨pr,v⟩,hZx⟩:=exs
  have exb:∃ e,bs[ix]?=some e:=⟨_,List.getElem?_eq_getElem (lbs.symm ▸ hix)⟩
  obtain ⟨pa,hbx⟩:=exb
  have hpa:HA pa=some (.tup ((kp pr).map kV)):=hbs ix pa (kp pr) v hbx (by unfold dZ;rw [List.getElem?_map,hZx];rfl)
  have hmem:(pr,v)∈Z:=List.mem_of_getElem? hZx
  obtain ⟨hpr1,hpr2⟩:pr.1 < pr.2∧pr.2 < mS z+mS y:=hkz _ hmem
  obtain ⟨p,ev,hp⟩:∃ p,cX (dZ Z) (kp pr)=some (.ref p)∧HA p=some (.lst (cc pr)):=by
   rcases hD.get pr with ⟨h1,_⟩ | ⟨p,h1,h2,_⟩
   ·rw [oO] at h1
    exact absurd (List.mem_map.mpr ⟨_,hmem,rfl⟩) (lw h1)
   ·exact ⟨p,h1,h2⟩
  have hPr:PrI HA (cc pr) (dR z y pr.1 pr.2):=hPm pr.1 pr.2 hpr1
  have hll:=p7 (side:=z) (top:=y) pr.1 pr.2 rz ry
  have hul:=hPr.len
  have hul2:(cc pr).length≤2304:=by rw [hul];exact hll
  have hpG:=sA _ _ hp
  have hPG:=hPr.same sA
  have hcG:=sA _ _ hkcA
  have hDG:=DGet.t (k:=kp pr) (sA _ _ hD.hd) (sA _ _ hpa)
  rw [ev] at hDG
  have hpaG:G pa=some (.tup [.int (pr.1:Int),.int (pr.2:Int)]):=sA _ _ hpa
  have hat:uh (bs.map V.ref) ((c2 / 2+5*(l:Int)) % (Z.length:Int))=some (V.ref pa):=by
   rw [eix]
   exact bF (by rw [List.getElem?_map,hbx];rfl)
  refine bT (SqL.of (s _ _ hlq)) hat ?_
  walk_at "sts"
  refine ⟨d,_,rfl,hDG,?_⟩
  walk_at "sts"
  refine .inl ⟨p,rfl,⟨_,SqL.of hpG⟩,?_⟩
  refine yr (xs:=cc pr) (fun i ys G'=>G'=G∧PrI G ys (((dR z y pr.1 pr.2).take i).filter (xB z y))∧ys.length≤i) (by omega) ⟨rfl,trivial,Nat.le_refl _⟩ ?_ ?_ ?_ ?_
  ·rintro i ys G' ⟨_,_,h⟩
   exact h
  ·rintro i ys G' ⟨rfl,_⟩
   exact SqL.of hpG
  ·rintro i ys G' x hx ⟨rfl,hy,hyl⟩
   obtain ⟨cq,r,hL,rfl,hr2⟩:=hPG.item hx
   obtain ⟨i',j',rfl,hi',hj'⟩:=G7 (List.mem_of_getElem? hL)
   obtain ⟨zr,ezr,zl,hch⟩:=p6 (side:=z) (top:=y) hi' hj'
   have hzl:zr.length≤sizeLine:=by show zr.cps.size≤_;omega
   have tk:(dR z y pr.1 pr.2).take (i+1)=(dR z y pr.1 pr.2).take i ++ [((i':Int),(j':Int))]:=by rw [List.take_add_one,hL];rfl
   walk_at "sts"
   refine ⟨KeepSt.set rfl,?_⟩
   walk_at "sts"
   refine bT (SqL.of hcG) (bF (show ((cF z y).map V.str)[i']?=some (.str zr) by rw [List.getElem?_map,ezr];rfl)) ?_
   walk_at "sts"
   refine oZ hzl hch ?_
   walk_at "sts"
   rw [Qy,tk,List.filter_append]
   have hxB:xB z y ((i':Int),(j':Int))=!CB z y i' j':=rfl
   cases eC:CB z y i' j' with
   | true=>
    rw [eC] at hxB
    show if false=true then _ else _
    walk_at "sts"
    refine ⟨rfl,?_,by omega⟩
    rw [List.filter_cons_of_neg (by rw [hxB];decide),List.filter_nil,List.append_nil]
    exact hy
   | false=>
    rw [eC] at hxB
    show if true=true then _ else _
    walk_at "sts"
    refine ⟨rfl,?_,by simp;omega⟩
    rw [List.filter_cons_of_pos (by rw [hxB];rfl),List.filter_nil]
    exact hy.push hr2
  rintro ys G' cl G2 ⟨rfl,hY,_⟩ nc s2 hcl
  rw [hul,List.take_length] at hY
  try walk_at "sts"
  rintro b1 db1 nx nd _
  refine ⟨b1,db1,.str z,.str y,rfl,ak,kW rz,kW ry,(fun w hw=>by rw [zU rz ry] at hw;cases hw),fun s' t' hq1 hq2 hs' ht' G3 C B1=>⟨rfl,?_⟩⟩
  obtain rfl:z=s':=by injection hq1
  obtain rfl:y=t':=by injection hq2
  have s3:=s2.trans (yO nx nd C)
  obtain ⟨_,_,eb1,_,_,_,_,hb1,hO⟩:=id B1
  have hcl3:=yO nx nd C _ _ hcl
  have hY3:=hY.same s3
  clear C hq1 hq2 hs' ht' hO nx nd
  try walk_at "sts"
  refine ⟨b1,eb1,_,rfl,hb1,w6 (by decide+kernel),?_⟩
  walk_at "sts"
  refine fG (SqT.of (s3 _ _ hpaG)) rfl ?_
  walk_at "sts"
  refine fG (SqT.of (s3 _ _ hpaG)) rfl ?_
  walk_at "sts"
  refine ⟨b1,z,y,pr.2,pr.1,rfl,B1,hpr2,by omega,fun G4 s4=>⟨fun z=>by omega,fun _=>?_⟩⟩
  rw [rE,show gm (mS z) (CB z y) (mS y) pr.1 pr.2 (mS z) 0=dR z y pr.1 pr.2 from rfl,Hi]
  have hY4:=hY3.same s4
  have hcl4:=s4 _ _ hcl3
  cases eL:(dR z y pr.1 pr.2).filter (xB z y) with
  | nil=>
   rw [eL] at hY4
   refine ⟨fun _=>?_,fun q r hq hr=>by cases hq⟩
   walk_at "sts"
   refine cR rfl fun e1 G5 ne1 s5 he1=>?_
   walk_at "sts"
   refine .inl (.inl (Af (s5 _ _ hcl4) (hY4.same s5) he1 ?_))
   walk_at "sts"
   show if true=true then _ else _
   walk_at "sts"
   rw [decide_eq_true (rfl:V.non=V.non)]
   walk_at "sts"
   refine cR rfl fun e2 G6 ne2 s6 he2=>?_
   walk_at "sts"
   refine Ag (s6 _ _ (s5 _ _ hcl4)) ((hY4.same s5).same s6) he2 ?_
   walk_at "sts"
   show if false=true then _ else _
   walk_at "sts"
   exact ⟨s.trans (s3.trans (s4.trans (s5.trans s6))),_,_,_,_,rfl⟩
  | cons cq M=>
   rw [eL] at hY4
   refine ⟨fun z=>(by cases z),fun q r hq hr=>?_⟩
   obtain rfl:cq=q:=Option.some.inj hq
   walk_at "sts"
   refine cR rfl fun e1 G5 ne1 s5 he1=>?_
   walk_at "sts"
   refine .inl (.inl (Af (s5 _ _ hcl4) (hY4.same s5) he1 ?_))
   walk_at "sts"
   show if false=true then _ else _
   walk_at "sts"
   refine cR rfl fun e2 G6 ne2 s6 he2=>?_
   walk_at "sts"
   refine Ag (s6 _ _ (s5 _ _ hcl4)) ((hY4.same s5).same s6) he2 ?_
   walk_at "sts"
   show if true=true then _ else _
   walk_at "sts"
   obtain ⟨r0,er0,hr0⟩:=((hY4.same s5).same s6).get (k:=0) (q:=cq) rfl
   refine bT (SqL.of (s6 _ _ (s5 _ _ hcl4))) (bF (j:=0) er0) ?_
   walk_at "sts"
   refine ⟨r,r0,cq.1,cq.2,rfl,s6 _ _ (s5 _ _ hr),hr0,?_⟩
   walk_at "sts"
   exact ⟨s.trans (s3.trans (s4.trans (s5.trans s6))),_,_,_,_,rfl⟩
 rintro σ HC ⟨SC,x15,x16,x17,x18,rfl⟩
 have UC:=SB.trans SC
 walk_at "sts"
 rw [show (mS z:Int)+(mS y:Int)=((mS z+mS y:Nat):Int) by omega]
 refine ⟨_,rfl,by omega,by omega,?_⟩
 rw [show (((mS z+mS y:Nat):Int)).toNat=mS z+mS y by omega]
 refine cV (n:=mS z+mS y) (fun l σ G=>Same HC G∧∃ x19 x20,σ=[some (.ref a),some (.int (mx % 5)),some (.str z),some (.str y),some (.int (mS z:Nat)),some (.int (mS y:Nat)),some (.ref b0),some (.ref kc),some (.ref kl),some (.ref wy),x10,x11,x12,some (.ref d),some (.ref lq),x15,x16,x17,x18,x19,x20]) ⟨Same.refl HC,_,_,rfl⟩ ?_ ?_
 ·rintro n σ G hn ⟨s,x19,x20,rfl⟩
  rw [Int.zero_add]
  walk_at "sts"
  refine ⟨_,rfl,by omega,by omega,?_⟩
  rw [show ((n:Nat):Int).toNat=n by omega]
  refine cV (n:=n) (fun l σ G=>Same HC G∧∃ x20,σ=[some (.ref a),some (.int (mx % 5)),some (.str z),some (.str y),some (.int (mS z:Nat)),some (.int (mS y:Nat)),some (.ref b0),some (.ref kc),some (.ref kl),some (.ref wy),x10,x11,x12,some (.ref d),some (.ref lq),x15,x16,x17,x18,some (.int (n:Int)),x20]) ⟨s,_,rfl⟩ ?_ ?_
  ·rintro l σ G2 hl ⟨s2,x20,rfl⟩
   rw [Int.zero_add]
   have s3:=UC.trans s2
   walk_at "sts"
   refine ⟨b0,kc,kl,d,z,y,R,_,l,n,rfl,BA.same s3,s3 _ _ hkcA,s3 _ _ hklA,hE,hM.same s3,hl,hn,fun G3 s4=>?_⟩
   walk_at "sts"
   exact ⟨s2.trans s4,_,rfl⟩
  ·rintro σ G2 ⟨s2,x20,rfl⟩
   exact ⟨s2,_,_,rfl⟩
 ·rintro σ G ⟨s,x19,x20,rfl⟩
  walk_at "sts"
  exact q _
end
end My
def PySem.W.Fast.tw6162460765718497716:Nat:=0
def PySem.W.Fast.tw12296799300825888650:Nat:=0
def PySem.W.Fast.tw11612099021797483183:Nat:=0
def PySem.W.Fast.tw13529615115300758381:Nat:=0
def PySem.W.Fast.tw4942068052196138566:Nat:=0
def PySem.W.Fast.tw11738063507049852653:Nat:=0
def PySem.W.Fast.tw4307874048400730365:Nat:=0
def PySem.W.Fast.tw10242493162777851122:Nat:=0
def PySem.W.Fast.tw17149860422909435982:Nat:=0
def PySem.W.Fast.tw2779366976200819790:Nat:=0
def PySem.W.Fast.tw8377199500498215469:Nat:=0
def PySem.W.Fast.tw4544932098342637620:Nat:=0
def PySem.W.Fast.tw13209695363264751658:Nat:=0
def PySem.W.Fast.tw2376741422119297108:Nat:=0
def PySem.W.Fast.tw7232357483941292925:Nat:=0
def PySem.W.Fast.tw8835871661913216629:Nat:=0
def PySem.W.Fast.tw10930850806178314351:Nat:=0
def PySem.W.Fast.tw10757831090028182652:Nat:=0
def PySem.W.Fast.tw13996104389209441216:Nat:=0
def PySem.W.Fast.tw7325950384123498867:Nat:=0
def PySem.W.Fast.tw793517019311852023:Nat:=0
def PySem.W.Fast.tw1420098678598105181:Nat:=0
def PySem.W.Fast.tw8885396343165174218:Nat:=0
def PySem.W.Fast.tw12383991880143384160:Nat:=0
def PySem.W.Fast.tw9085112484644743205:Nat:=0
def PySem.W.Fast.tw10795091329072277377:Nat:=0
def PySem.W.Fast.tw3260061753506954826:Nat:=0
def PySem.W.Fast.tw5989458430947563376:Nat:=0
def PySem.W.Fast.tw4184227097488353633:Nat:=0
def PySem.W.Fast.tw203846326200704341:Nat:=0
def PySem.W.Fast.tw1479900225490660972:Nat:=0
def PySem.W.Fast.tw4532379244972494281:Nat:=0
def PySem.W.Fast.tw122459858760946781:Nat:=0
def PySem.W.Fast.tw10270738773460733708:Nat:=0
def PySem.W.Fast.tw15349466486464089846:Nat:=0
def PySem.W.Fast.tw3398143274229340267:Nat:=0
def PySem.W.Fast.tw10418514366088764774:Nat:=0
def PySem.W.Fast.tw4185249826452608515:Nat:=0
def PySem.W.Fast.tw11911304101570208934:Nat:=0
def PySem.W.Fast.tw1666844575865972816:Nat:=0
def PySem.W.Fast.tw10008857359807845580:Nat:=0
def PySem.W.Fast.tw2910436947595280823:Nat:=0
def PySem.W.Fast.tw247433764535596978:Nat:=0
def PySem.W.Fast.tw13131098044939099734:Nat:=0
def PySem.W.Fast.tw2461127156337161189:Nat:=0
def PySem.W.Fast.tw3765493699123542761:Nat:=0
def PySem.W.Fast.tw5409533997979982386:Nat:=0
def PySem.W.Fast.tw5955340353507569401:Nat:=0
def PySem.W.Fast.tw1843443020797694824:Nat:=0
def PySem.W.Fast.tw9305908372629284115:Nat:=0
def PySem.W.Fast.tw11823051637780914250:Nat:=0
def PySem.W.Fast.tw15184960386940664790:Nat:=0
def PySem.W.Fast.tw14214386661231853468:Nat:=0
def PySem.W.Fast.tw13680787306929759793:Nat:=0
def PySem.W.Fast.tw20811928175982293:Nat:=0
def PySem.W.Fast.tw11597660688418151801:Nat:=0
def PySem.W.Fast.tw9734402806799059636:Nat:=0
def PySem.W.Fast.tw4098378024117574150:Nat:=0
def PySem.W.Fast.tw5878376447158833696:Nat:=0
def PySem.W.Fast.tw7809765688270819877:Nat:=0
def PySem.W.Fast.tw2655780798327834833:Nat:=0
def PySem.W.Fast.tw18344557290028279788:Nat:=0
def PySem.W.Fast.tw588051986081739978:Nat:=0
def PySem.W.Fast.tw13115275298533576185:Nat:=0
def PySem.W.Fast.tw11603164513795842810:Nat:=0
def PySem.W.Fast.tw9490137352552871109:Nat:=0
def PySem.W.Fast.tw7314272103135207821:Nat:=0
def PySem.W.Fast.tw4374004951208313892:Nat:=0
def PySem.W.Fast.tw491453970736389342:Nat:=0
def PySem.W.Fast.tw4242289011954626657:Nat:=0
def PySem.W.Fast.tw9388797323796006334:Nat:=0
def PySem.W.Fast.tw11805624862636250440:Nat:=0
def PySem.W.Fast.tw9639267202684846237:Nat:=0
def PySem.W.Fast.tw7046368755625460996:Nat:=0
def PySem.W.Fast.tw4729893960469336847:Nat:=0
def PySem.W.Fast.tw1682191073354422645:Nat:=0
def PySem.W.Fast.tw10530197245047027402:Nat:=0
def PySem.W.Fast.tw11734259239315855101:Nat:=0
def PySem.W.Fast.tw14267222511480384297:Nat:=0
def PySem.W.Fast.tw8054288500480817273:Nat:=0
def PySem.W.Fast.tw7872345698870575968:Nat:=0
def PySem.W.Fast.tw8208286068764044396:Nat:=0
def PySem.W.Fast.tw12416788313143799739:Nat:=0
def PySem.W.Fast.tw8280881556907377910:Nat:=0
def PySem.W.Fast.tw90101035725171135:Nat:=0
def PySem.W.Fast.tw15722569621267977037:Nat:=0
def PySem.W.Fast.tw7700611607788814602:Nat:=0
def PySem.W.Fast.tw865204344331852137:Nat:=0
def PySem.W.Fast.tw17882120853622927434:Nat:=0
def PySem.W.Fast.tw11762661041301163535:Nat:=0
def PySem.W.Fast.tw11406231923556533547:Nat:=0
def PySem.W.Fast.tw12546470142821931865:Nat:=0
def PySem.W.Fast.tw3615313558133699453:Nat:=0
def PySem.W.Fast.tw14794207277935810841:Nat:=0
def PySem.W.Fast.tw17195710964220133892:Nat:=0
def PySem.W.Fast.tw10948114862111046444:Nat:=0
def PySem.W.Fast.tw9425187803618106419:Nat:=0
def PySem.W.Fast.tw10470737468608253296:Nat:=0
def PySem.W.Fast.tw13139909122591635288:Nat:=0
def PySem.W.Fast.tw10853719398976767769:Nat:=0
def PySem.W.Fast.tw556288045525396354:Nat:=0
def PySem.W.Fast.tw10165132935425506835:Nat:=0
def PySem.W.Fast.tw17775186076255569489:Nat:=0
def PySem.W.Fast.tw18442203503884314773:Nat:=0
def PySem.W.Fast.tw8997647951850087294:Nat:=0
def PySem.W.Fast.tw5543320707744248763:Nat:=0
def PySem.W.Fast.tw10417669004668486387:Nat:=0
def PySem.W.Fast.tw5224865414827212884:Nat:=0
def PySem.W.Fast.tw7048984077430290276:Nat:=0
def PySem.W.Fast.tw16093688377553874037:Nat:=0
def PySem.W.Fast.tw18092466315244130957:Nat:=0
def PySem.W.Fast.tw11669584751974893354:Nat:=0
def PySem.W.Fast.tw8300830098083237591:Nat:=0
def PySem.W.Fast.tw14786754792767654735:Nat:=0
def PySem.W.Fast.tw5040319107578990181:Nat:=0
def PySem.W.Fast.tw16608453726539100109:Nat:=0
def PySem.W.Fast.tw6655573491619269807:Nat:=0
def PySem.W.Fast.tw1821504686952093237:Nat:=0
def PySem.W.Fast.tw12674022123318197403:Nat:=0
def PySem.W.Fast.tw10541636349108573730:Nat:=0
def PySem.W.Fast.tw13479751122905126546:Nat:=0
def PySem.W.Fast.tw9509844689495451079:Nat:=0
def PySem.W.Fast.tw15942272875954414692:Nat:=0
def PySem.W.Fast.tw711594303558722683:Nat:=0
def PySem.W.Fast.tw6155095057676719612:Nat:=0
def PySem.W.Fast.tw15360225286104438061:Nat:=0
def PySem.W.Fast.tw10347775116852702065:Nat:=0
def PySem.W.Fast.tw14151242743983746652:Nat:=0
def PySem.W.Fast.tw2726897895552851757:Nat:=0
def PySem.W.Fast.tw5821776408426197205:Nat:=0
def PySem.W.Fast.tw17895696899224703935:Nat:=0
def PySem.W.Fast.tw7434347219060519327:Nat:=0
def PySem.W.Fast.tw14282679247870689329:Nat:=0
def PySem.W.Fast.tw13535335634098938150:Nat:=0
def PySem.W.Fast.tw1535334841625310896:Nat:=0
def PySem.W.Fast.tw1426361300367700422:Nat:=0
def PySem.W.Fast.tw2343282182958268730:Nat:=0
def PySem.W.Fast.tw6747194764848702678:Nat:=0
def PySem.W.Fast.tw6478992123596343654:Nat:=0
def PySem.W.Fast.tw16551161713253017989:Nat:=0
def PySem.W.Fast.tw11091058036347610621:Nat:=0
def PySem.W.Fast.tw7336211726848146696:Nat:=0
def PySem.W.Fast.tw5137794435854072147:Nat:=0
def PySem.W.Fast.tw6095884595263727948:Nat:=0
def PySem.W.Fast.tw10776607266092991869:Nat:=0
def PySem.W.Fast.tw9067575499629612614:Nat:=0
def PySem.W.Fast.tw7359783246038384239:Nat:=0
def PySem.W.Fast.tw8724861377640045210:Nat:=0
def PySem.W.Fast.tw7744021363902638134:Nat:=0
def PySem.W.Fast.tw5212258422241283959:Nat:=0
def PySem.W.Fast.tw15406255024308643627:Nat:=0
def PySem.W.Fast.tw5231703346536087095:Nat:=0
def PySem.W.Fast.tw838994848787613886:Nat:=0
def PySem.W.Fast.tw17775286227517311357:Nat:=0
def PySem.W.Fast.tw16918777092630927383:Nat:=0
def PySem.W.Fast.tw7964255114371653529:Nat:=0
def PySem.W.Fast.tw4140831182759625542:Nat:=0
def PySem.W.Fast.tw11842637704296365465:Nat:=0
def PySem.W.Fast.tw14088965497398777360:Nat:=0
def PySem.W.Fast.tw9739659975101555617:Nat:=0
def PySem.W.Fast.tw15522720336849589386:Nat:=0
def PySem.W.Fast.tw16573470032343430782:Nat:=0
def PySem.W.Fast.tw4536884519859457734:Nat:=0
def PySem.W.Fast.tw9751921669441007472:Nat:=0
def PySem.W.Fast.tw10033109602497431021:Nat:=0
def PySem.W.Fast.tw18101097897888929772:Nat:=0
def PySem.W.Fast.tw6116143900068479567:Nat:=0
def PySem.W.Fast.tw11570833597871934741:Nat:=0
def PySem.W.Fast.tw3140561270531826869:Nat:=0
def PySem.W.Fast.tw11195675510558622346:Nat:=0
def PySem.W.Fast.tw16856750713806182001:Nat:=0
def PySem.W.Fast.tw4854453581846380738:Nat:=0
def PySem.W.Fast.tw1712251242877585627:Nat:=0
def PySem.W.Fast.tw15843914470125170653:Nat:=0
def PySem.W.Fast.tw10514302042136582384:Nat:=0
def PySem.W.Fast.tw14137745821343119319:Nat:=0
def PySem.W.Fast.tw4012455255272010339:Nat:=0
def PySem.W.Fast.tw17749883202593130836:Nat:=0
def PySem.W.Fast.tw11505892440632594059:Nat:=0
def PySem.W.Fast.tw7023248235704325843:Nat:=0
def PySem.W.Fast.tw15449627006876012594:Nat:=0
def PySem.W.Fast.tw18007720717288527456:Nat:=0
def PySem.W.Fast.tw13881405991926849750:Nat:=0
def PySem.W.Fast.tw6876649652664004398:Nat:=0
def PySem.W.Fast.tw10567212900925055721:Nat:=0
def PySem.W.Fast.tw16672057215392308009:Nat:=0
def PySem.W.Fast.tw9860285564916788376:Nat:=0
def PySem.W.Fast.tw14647582840702972937:Nat:=0
def PySem.W.Fast.tw17764233800918053605:Nat:=0
def PySem.W.Fast.tw14862751246064088745:Nat:=0
def PySem.W.Fast.tw3755793612689427199:Nat:=0
def PySem.W.Fast.tw16300646835345254093:Nat:=0
def PySem.W.Fast.tw14021267944762092406:Nat:=0
def PySem.W.Fast.tw5399637073963569438:Nat:=0
def PySem.W.Fast.tw490643880907104858:Nat:=0
def PySem.W.Fast.tw6936807106461630371:Nat:=0
def PySem.W.Fast.tw6309715607848311109:Nat:=0
def PySem.W.Fast.tw3025981594079307434:Nat:=0
def PySem.W.Fast.tw13528401145735444519:Nat:=0
def PySem.W.Fast.tw12647813327306226129:Nat:=0
def PySem.W.Fast.tw6171379503360024087:Nat:=0
def PySem.W.Fast.tw9539523799693034506:Nat:=0
def PySem.W.Fast.tw12699890934680855206:Nat:=0
def PySem.W.Fast.tw5255424877649135503:Nat:=0
def PySem.W.Fast.tw6612750960956825870:Nat:=0
def PySem.W.Fast.tw5517748932803616698:Nat:=0
def PySem.W.Fast.tw11651529868196647300:Nat:=0
def PySem.W.Fast.tw5302490537523790259:Nat:=0
def PySem.W.Fast.tw6596538160161944861:Nat:=0
def PySem.W.Fast.tw9930559034398115971:Nat:=0
def PySem.W.Fast.tw6129519137611675941:Nat:=0
def PySem.W.Fast.tw8796499092001680648:Nat:=0
def PySem.W.Fast.tw18296866501047567863:Nat:=0
def PySem.W.Fast.tw16175595436918982361:Nat:=0
def PySem.W.Fast.tw9868825251448885967:Nat:=0
def PySem.W.Fast.tw5894397664905843522:Nat:=0
def PySem.W.Fast.tw165750293413094147:Nat:=0
def PySem.W.Fast.tw8725557010259053424:Nat:=0
def PySem.W.Fast.tw15209269040608710436:Nat:=0
def PySem.W.Fast.tw7348235912356505751:Nat:=0
def PySem.W.Fast.tw16606653783994330128:Nat:=0
def PySem.W.Fast.tw17339211277460065071:Nat:=0
def PySem.W.Fast.tw9536359822034810177:Nat:=0
def PySem.W.Fast.tw5729324069346393048:Nat:=0
def PySem.W.Fast.tw7887661189179966859:Nat:=0
def PySem.W.Fast.tw308405121579696291:Nat:=0
def PySem.W.Fast.tw6607050810748678722:Nat:=0
def PySem.W.Fast.tw14953829219475555108:Nat:=0
def PySem.W.Fast.tw13820324135762759263:Nat:=0
def PySem.W.Fast.tw9055280253901154756:Nat:=0
def PySem.W.Fast.tw4434607137306562683:Nat:=0
def PySem.W.Fast.tw10422631930375214255:Nat:=0
def PySem.W.Fast.tw14411304474954765986:Nat:=0
def PySem.W.Fast.tw8485434160500377377:Nat:=0
def PySem.W.Fast.tw6138168496997158588:Nat:=0
def PySem.W.Fast.tw11274615936946590731:Nat:=0
def PySem.W.Fast.tw782159688353066793:Nat:=0
def PySem.W.Fast.tw6677300934823842564:Nat:=0
def PySem.W.Fast.tw2764129006122313018:Nat:=0
def PySem.W.Fast.tw11797818708634438681:Nat:=0
def PySem.W.Fast.tw12185838035877855233:Nat:=0
def PySem.W.Fast.tw5048375207431383085:Nat:=0
def PySem.W.Fast.tw17492291777736328587:Nat:=0
def PySem.W.Fast.tw6079168981638238110:Nat:=0
def PySem.W.Fast.tw2068030472196413228:Nat:=0
def PySem.W.Fast.tw16542720693256546068:Nat:=0
def PySem.W.Fast.tw1855057890946901591:Nat:=0
def PySem.W.Fast.tw753893531574860206:Nat:=0
def PySem.W.Fast.tw1456590842044645886:Nat:=0
def PySem.W.Fast.tw989990206845934160:Nat:=0
def PySem.W.Fast.tw1586405604533381557:Nat:=0
def PySem.W.Fast.tw14302697224441402309:Nat:=0
def PySem.W.Fast.tw3780986229306455918:Nat:=0
def PySem.W.Fast.tw14197870097319365860:Nat:=0
def PySem.W.Fast.tw4687563128176376315:Nat:=0
def PySem.W.Fast.tw16764924762310601959:Nat:=0
def PySem.W.Fast.tw2113391875486619492:Nat:=0
def PySem.W.Fast.tw15351482972446660882:Nat:=0
def PySem.W.Fast.tw6178499544999253540:Nat:=0
def PySem.W.Fast.tw327656653159098056:Nat:=0
def PySem.W.Fast.tw17536809574300091475:Nat:=0
def PySem.W.Fast.tw9633222872374422604:Nat:=0
def PySem.W.Fast.tw1962742717548526053:Nat:=0
def PySem.W.Fast.tw6421042910274084638:Nat:=0
def PySem.W.Fast.tw6029595416410101244:Nat:=0
def PySem.W.Fast.tw17600933507807239555:Nat:=0
def PySem.W.Fast.tw18049240852407423367:Nat:=0
def PySem.W.Fast.tw12050552834747080754:Nat:=0
def PySem.W.Fast.tw10471874842088992432:Nat:=0
def PySem.W.Fast.tw17222854465014818128:Nat:=0
def PySem.W.Fast.tw18093789603472594111:Nat:=0
def PySem.W.Fast.tw11655824483762067890:Nat:=0
def PySem.W.Fast.tw4612335035246305993:Nat:=0
def PySem.W.Fast.tw8630826460709988900:Nat:=0
def PySem.W.Fast.tw5024287191954891017:Nat:=0
def PySem.W.Fast.tw7568024153797764484:Nat:=0
def PySem.W.Fast.tw16976845273539722788:Nat:=0
def PySem.W.Fast.tw5073704230834441649:Nat:=0
def PySem.W.Fast.tw2267774550040493473:Nat:=0
def PySem.W.Fast.tw14740918920902620586:Nat:=0
def PySem.W.Fast.tw3110738723071687919:Nat:=0
def PySem.W.Fast.tw17968197095892564805:Nat:=0
open PySem PySem.W PyProof.Rows
set_option maxRecDepth 100000 in
set_option maxHeartbeats 0 in
theorem PySem.Challenge.cw_panethread_k33_whole_no_two_cross_twice_holds : PySem.Challenge.rw_panethread_k33_whole_no_two_cross_twice.Holds := by
 w_on;o_law;k_head;(case hw=>w_witness2)
 k_fill
 refine L2.Sq (l:=PySem.Challenge.rw_panethread_k33_whole_no_two_cross_twice) (st:=My.bD) (k:=8) (x:="_law_script") (sp:=My.LQ) rfl rfl rfl ⟨rfl,by decide,by decide,rfl⟩ (fun w h Y=>PySem.W.kIn_of Y) (fun _ _ _ _ _ _ us hl=>L2.Ah (fun _=>rfl) us hl) ?F (fun K H a ns hl hS=>⟨a,ns,rfl,hS,hl,fun _=>rfl⟩)
 case F=>
  intro w mg h KX G
  have b_all:mg "all"=none:=by
   refine' PySem.W.mg_none_of KX G ?a
   (case a=>k_is)
  have b_bool:mg "bool"=none:=by
   refine' PySem.W.mg_none_of KX G ?a
   (case a=>k_is)
  have b_enumerate:mg "enumerate"=none:=by
   refine' PySem.W.mg_none_of KX G ?a
   (case a=>k_is)
  have b_int:mg "int"=none:=by
   refine' PySem.W.mg_none_of KX G ?a
   (case a=>k_is)
  have b_isinstance:mg "isinstance"=none:=by
   refine' PySem.W.mg_none_of KX G ?a
   (case a=>k_is)
  have b_len:mg "len"=none:=by
   refine' PySem.W.mg_none_of KX G ?a
   (case a=>k_is)
  have b_list:mg "list"=none:=by
   refine' PySem.W.mg_none_of KX G ?a
   (case a=>k_is)
  have b_max:mg "max"=none:=by
   refine' PySem.W.mg_none_of KX G ?a
   (case a=>k_is)
  have b_min:mg "min"=none:=by
   refine' PySem.W.mg_none_of KX G ?a
   (case a=>k_is)
  have b_range:mg "range"=none:=by
   refine' PySem.W.mg_none_of KX G ?a
   (case a=>k_is)
  have b_reversed:mg "reversed"=none:=by
   refine' PySem.W.mg_none_of KX G ?a
   (case a=>k_is)
  have b_sorted:mg "sorted"=none:=by
   refine' PySem.W.mg_none_of KX G ?a
   (case a=>k_is)
  have b_str:mg "str"=none:=by
   refine' PySem.W.mg_none_of KX G ?a
   (case a=>k_is)
  have b_tuple:mg "tuple"=none:=by
   refine' PySem.W.mg_none_of KX G ?a
   (case a=>k_is)
  have b_zip:mg "zip"=none:=by
   refine' PySem.W.mg_none_of KX G ?a
   (case a=>k_is)
  have c_CROSS:∃ t,mg "CROSS"=some (.str "x" t):=by
   refine' L2.jV KX G ?a ?h
   (case a=>k_is);(case h=>exact ⟨_,by with_unfolding_all rfl⟩)
  have c_LETTERS:∃ t,mg "LETTERS"=some (.str "abcdefghijklmnopqrstuvwxyz" t):=by
   refine' L2.jV KX G ?a ?h
   (case a=>k_is);(case h=>exact ⟨_,by with_unfolding_all rfl⟩)
  have c_MOST_SIGNS:∃ t,mg "MOST_SIGNS"=some (.int 48 t):=by
   refine' L2.jV KX G ?a ?h
   (case a=>k_is);(case h=>exact ⟨_,by with_unfolding_all rfl⟩)
  have c_POINT:∃ t,mg "POINT"=some (.str "." t):=by
   refine' L2.jV KX G ?a ?h
   (case a=>k_is);(case h=>exact ⟨_,by with_unfolding_all rfl⟩)
  have c_TOUCH:∃ t,mg "TOUCH"=some (.str "o" t):=by
   refine' L2.jV KX G ?a ?h
   (case a=>k_is);(case h=>exact ⟨_,by with_unfolding_all rfl⟩)
  have d_is_number:L2.gj (L2.KOf KX) mg "is_number" My.dF:=by
   dsimp only [L2.KOf]
   refine' L2.cj KX G ?a ?l ?c ?k
   (case a=>k_is);(case l=>k_is);(case c=>k_is);(case k=>k_is)
  have d_is_within:L2.gj (L2.KOf KX) mg "is_within" My.dG:=by
   dsimp only [L2.KOf]
   refine' L2.cj KX G ?a ?l ?c ?k
   (case a=>k_is);(case l=>k_is);(case c=>k_is);(case k=>k_is)
  have d_need_place:L2.gj (L2.KOf KX) mg "need_place" My.cO:=by
   dsimp only [L2.KOf]
   refine' L2.cj KX G ?a ?l ?c ?k
   (case a=>k_is);(case l=>k_is);(case c=>k_is);(case k=>k_is)
  have d_is_row:L2.gj (L2.KOf KX) mg "is_row" My.dY:=by
   dsimp only [L2.KOf]
   refine' L2.cj KX G ?a ?l ?c ?k
   (case a=>k_is);(case l=>k_is);(case c=>k_is);(case k=>k_is)
  have d_need_row:L2.gj (L2.KOf KX) mg "need_row" My.fK:=by
   dsimp only [L2.KOf]
   refine' L2.cj KX G ?a ?l ?c ?k
   (case a=>k_is);(case l=>k_is);(case c=>k_is);(case k=>k_is)
  have d_need_rows:L2.gj (L2.KOf KX) mg "need_rows" My.eQ:=by
   dsimp only [L2.KOf]
   refine' L2.cj KX G ?a ?l ?c ?k
   (case a=>k_is);(case l=>k_is);(case c=>k_is);(case k=>k_is)
  have d_lines_above:L2.gj (L2.KOf KX) mg "lines_above" My.dw:=by
   dsimp only [L2.KOf]
   refine' L2.cj KX G ?a ?l ?c ?k
   (case a=>k_is);(case l=>k_is);(case c=>k_is);(case k=>k_is)
  have d_signs_of_row:L2.gj (L2.KOf KX) mg "signs_of_row" My.aP:=by
   dsimp only [L2.KOf]
   refine' L2.cj KX G ?a ?l ?c ?k
   (case a=>k_is);(case l=>k_is);(case c=>k_is);(case k=>k_is)
  have d_over_row:L2.gj (L2.KOf KX) mg "over_row" My.b7:=by
   dsimp only [L2.KOf]
   refine' L2.cj KX G ?a ?l ?c ?k
   (case a=>k_is);(case l=>k_is);(case c=>k_is);(case k=>k_is)
  have d_cells_of:L2.gj (L2.KOf KX) mg "cells_of" My.bz:=by
   dsimp only [L2.KOf]
   refine' L2.cj KX G ?a ?l ?c ?k
   (case a=>k_is);(case l=>k_is);(case c=>k_is);(case k=>k_is)
  have d_ends_of:L2.gj (L2.KOf KX) mg "ends_of" My.cL:=by
   dsimp only [L2.KOf]
   refine' L2.cj KX G ?a ?l ?c ?k
   (case a=>k_is);(case l=>k_is);(case c=>k_is);(case k=>k_is)
  have d_over_cells:L2.gj (L2.KOf KX) mg "over_cells" My.aO:=by
   dsimp only [L2.KOf]
   refine' L2.cj KX G ?a ?l ?c ?k
   (case a=>k_is);(case l=>k_is);(case c=>k_is);(case k=>k_is)
  have d_ways_of:L2.gj (L2.KOf KX) mg "ways_of" My.cB:=by
   dsimp only [L2.KOf]
   refine' L2.cj KX G ?a ?l ?c ?k
   (case a=>k_is);(case l=>k_is);(case c=>k_is);(case k=>k_is)
  have d_law_at:L2.gj (L2.KOf KX) mg "_law_at" My.jA:=by
   dsimp only [L2.KOf]
   refine' L2.cj KX G ?a ?l ?c ?k
   (case a=>k_is);(case l=>k_is);(case c=>k_is);(case k=>k_is)
  have d_law_mix:L2.gj (L2.KOf KX) mg "_law_mix" My.fM:=by
   dsimp only [L2.KOf]
   refine' L2.cj KX G ?a ?l ?c ?k
   (case a=>k_is);(case l=>k_is);(case c=>k_is);(case k=>k_is)
  have d_law_put:L2.gj (L2.KOf KX) mg "_law_put" My.bJ:=by
   dsimp only [L2.KOf]
   refine' L2.cj KX G ?a ?l ?c ?k
   (case a=>k_is);(case l=>k_is);(case c=>k_is);(case k=>k_is)
  have d_law_two:L2.gj (L2.KOf KX) mg "_law_two" My.cY:=by
   dsimp only [L2.KOf]
   refine' L2.cj KX G ?a ?l ?c ?k
   (case a=>k_is);(case l=>k_is);(case c=>k_is);(case k=>k_is)
  have d_law_pair:L2.gj (L2.KOf KX) mg "_law_pair" My.b8:=by
   dsimp only [L2.KOf]
   refine' L2.cj KX G ?a ?l ?c ?k
   (case a=>k_is);(case l=>k_is);(case c=>k_is);(case k=>k_is)
  have d_law_pairs:L2.gj (L2.KOf KX) mg "_law_pairs" My.bW:=by
   dsimp only [L2.KOf]
   refine' L2.cj KX G ?a ?l ?c ?k
   (case a=>k_is);(case l=>k_is);(case c=>k_is);(case k=>k_is)
  have d_law_forms:L2.gj (L2.KOf KX) mg "_law_forms" My.aN:=by
   dsimp only [L2.KOf]
   refine' L2.cj KX G ?a ?l ?c ?k
   (case a=>k_is);(case l=>k_is);(case c=>k_is);(case k=>k_is)
  have d_law_way:L2.gj (L2.KOf KX) mg "_law_way" My.cM:=by
   dsimp only [L2.KOf]
   refine' L2.cj KX G ?a ?l ?c ?k
   (case a=>k_is);(case l=>k_is);(case c=>k_is);(case k=>k_is)
  have d_law_apart:L2.gj (L2.KOf KX) mg "_law_apart" My.aK:=by
   dsimp only [L2.KOf]
   refine' L2.cj KX G ?a ?l ?c ?k
   (case a=>k_is);(case l=>k_is);(case c=>k_is);(case k=>k_is)
  have d_law_met:L2.gj (L2.KOf KX) mg "_law_met" My.bQ:=by
   dsimp only [L2.KOf]
   refine' L2.cj KX G ?a ?l ?c ?k
   (case a=>k_is);(case l=>k_is);(case c=>k_is);(case k=>k_is)
  have d_law:L2.gj (L2.KOf KX) mg "law" My.bD:=by
   dsimp only [L2.KOf]
   refine' L2.cj KX G ?a ?l ?c ?k
   (case a=>k_is);(case l=>k_is);(case c=>k_is);(case k=>k_is)
  have x_NoRow:L2.Bt (L2.KOf KX) mg "NoRow" ["found"] "NoRow.__init__" My.nj:=by
   dsimp only [L2.KOf]
   refine' L2.Lp KX G ?a ?b ?kp ?na ?i ?t ?l ?c ?k
   (case a=>k_is);(case b=>kernel_rfl);(case kp=>k_is);(case na=>kernel_rfl);(case i=>k_is);(case t=>k_is);(case l=>k_is);(case c=>k_is);(case k=>k_is)
  have x_NoPlace:L2.Bt (L2.KOf KX) mg "NoPlace" ["found"] "NoPlace.__init__" My.jB:=by
   dsimp only [L2.KOf]
   refine' L2.Lp KX G ?a ?b ?kp ?na ?i ?t ?l ?c ?k
   (case a=>k_is);(case b=>kernel_rfl);(case kp=>k_is);(case na=>kernel_rfl);(case i=>k_is);(case t=>k_is);(case l=>k_is);(case c=>k_is);(case k=>k_is)
  have o_Board:L2.yp (L2.KOf KX) mg "Board":=by
   dsimp only [L2.KOf]
   refine' L2.Tf KX G ?a ?b ?s ?m ?k
   (case a=>k_is);(case b=>kernel_rfl);(case s=>k_is);(case m=>first | k_is | kernel_rfl);(case k=>k_is)
  have n_Board:∀ f∈(["held_side","held_top","held_cells","held_coming","held_lines","held_ways"]:List Str),L2.NoAttr (L2.KOf KX) (L2.aZ mg "Board") f:=by
   dsimp only [L2.KOf]
   refine' L2.Tg KX G ?a ?b
   (case a=>k_is);(case b=>kernel_rfl)
  have m_Board___init__:L2.lC (L2.KOf KX) mg "Board" "__init__" "Board.__init__" My.aM:=by
   dsimp only [L2.KOf]
   refine' L2.qK KX G ?a ?i ?n ?l ?c ?k
   (case a=>k_is);(case i=>k_is);(case n=>first | k_is | kernel_rfl);(case l=>k_is);(case c=>k_is);(case k=>k_is)
  have m_Board_lines:L2.lC (L2.KOf KX) mg "Board" "lines" "Board.lines" My.d7:=by
   dsimp only [L2.KOf]
   refine' L2.qK KX G ?a ?i ?n ?l ?c ?k
   (case a=>k_is);(case i=>k_is);(case n=>first | k_is | kernel_rfl);(case l=>k_is);(case c=>k_is);(case k=>k_is)
  have m_Board_cells:L2.lC (L2.KOf KX) mg "Board" "cells" "Board.cells" My.d8:=by
   dsimp only [L2.KOf]
   refine' L2.qK KX G ?a ?i ?n ?l ?c ?k
   (case a=>k_is);(case i=>k_is);(case n=>first | k_is | kernel_rfl);(case l=>k_is);(case c=>k_is);(case k=>k_is)
  have m_Board_need_line:L2.lC (L2.KOf KX) mg "Board" "need_line" "Board.need_line" My.bG:=by
   dsimp only [L2.KOf]
   refine' L2.qK KX G ?a ?i ?n ?l ?c ?k
   (case a=>k_is);(case i=>k_is);(case n=>first | k_is | kernel_rfl);(case l=>k_is);(case c=>k_is);(case k=>k_is)
  have m_Board_way:L2.lC (L2.KOf KX) mg "Board" "way" "Board.way" My.eU:=by
   dsimp only [L2.KOf]
   refine' L2.qK KX G ?a ?i ?n ?l ?c ?k
   (case a=>k_is);(case i=>k_is);(case n=>first | k_is | kernel_rfl);(case l=>k_is);(case c=>k_is);(case k=>k_is)
  have m_Board_meets:L2.lC (L2.KOf KX) mg "Board" "meets" "Board.meets" My.cT:=by
   dsimp only [L2.KOf]
   refine' L2.qK KX G ?a ?i ?n ?l ?c ?k
   (case a=>k_is);(case i=>k_is);(case n=>first | k_is | kernel_rfl);(case l=>k_is);(case c=>k_is);(case k=>k_is)
  have m_Board_crossed_at:L2.lC (L2.KOf KX) mg "Board" "crossed_at" "Board.crossed_at" My.aV:=by
   dsimp only [L2.KOf]
   refine' L2.qK KX G ?a ?i ?n ?l ?c ?k
   (case a=>k_is);(case i=>k_is);(case n=>first | k_is | kernel_rfl);(case l=>k_is);(case c=>k_is);(case k=>k_is)
  exact ⟨d_law,fun base f fd F=>My.Rb ⟨b_all,b_bool,b_enumerate,b_int,b_isinstance,b_len,b_list,b_max,b_min,b_range,b_reversed,b_sorted,b_str,b_tuple,b_zip,c_CROSS,c_LETTERS,c_MOST_SIGNS,c_POINT,c_TOUCH,d_is_number,d_is_within,d_need_place,d_is_row,d_need_row,d_need_rows,d_lines_above,d_signs_of_row,d_over_row,d_cells_of,d_ends_of,d_over_cells,d_ways_of,d_law_at,d_law_mix,d_law_put,d_law_two,d_law_pair,d_law_pairs,d_law_forms,d_law_way,d_law_apart,d_law_met,d_law,x_NoRow,x_NoPlace,o_Board,n_Board,m_Board___init__,m_Board_lines,m_Board_cells,m_Board_need_line,m_Board_way,m_Board_meets,m_Board_crossed_at⟩ F⟩
