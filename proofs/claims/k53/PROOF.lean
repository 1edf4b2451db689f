import PyProof.Rows.All
import Wide.All
import OpenK.AllK
import Wide.FinOn
import Lean
import PyProof.EqAt
import PyProof.EqKinds
import PyProof.TupleCall
import PyProof.ReprRoads
import KE.KSortTup
import KE.KDictList
import KE.KMinKey
import PySem.Challenge.RW_panethread_k53_whole_any_brackets
noncomputable section
set_option compiler.extract_closed false
set_option Elab.async false
set_option linter.all false
set_option maxRecDepth 100000
namespace L2
@[elab_as_elim] theorem j6 {p:List PySem.Value→Prop} (h:∀ a0:PySem.Value,p [a0]) (us:List PySem.Value) (hl:us.length=1):p us:=by
 rcases us with _ | ⟨a0,us0⟩
 ·cases hl
 rcases us0 with _ | ⟨b,us⟩
 ·exact h a0
 ·cases hl
@[elab_as_elim] theorem oO {p:List PySem.Value→Prop} (h:∀ a0 a1:PySem.Value,p [a0,a1]) (us:List PySem.Value) (hl:us.length=2):p us:=by
 rcases us with _ | ⟨a0,us0⟩
 ·cases hl
 rcases us0 with _ | ⟨a1,us1⟩
 ·cases hl
 rcases us1 with _ | ⟨b,us⟩
 ·exact h a0 a1
 ·cases hl
@[elab_as_elim] theorem tE {p:List PySem.Value→Prop} (h:∀ a0 a1 a2:PySem.Value,p [a0,a1,a2]) (us:List PySem.Value) (hl:us.length=3):p us:=by
 rcases us with _ | ⟨a0,us0⟩
 ·cases hl
 rcases us0 with _ | ⟨a1,us1⟩
 ·cases hl
 rcases us1 with _ | ⟨a2,us2⟩
 ·cases hl
 rcases us2 with _ | ⟨b,us⟩
 ·exact h a0 a1 a2
 ·cases hl
@[elab_as_elim] theorem usN6 {p:List PySem.Value→Prop} (h:∀ a0 a1 a2 a3 a4 a5:PySem.Value,p [a0,a1,a2,a3,a4,a5]) (us:List PySem.Value) (hl:us.length=6):p us:=by
 rcases us with _ | ⟨a0,us0⟩
 ·cases hl
 rcases us0 with _ | ⟨a1,us1⟩
 ·cases hl
 rcases us1 with _ | ⟨a2,us2⟩
 ·cases hl
 rcases us2 with _ | ⟨a3,us3⟩
 ·cases hl
 rcases us3 with _ | ⟨a4,us4⟩
 ·cases hl
 rcases us4 with _ | ⟨a5,us5⟩
 ·cases hl
 rcases us5 with _ | ⟨b,us⟩
 ·exact h a0 a1 a2 a3 a4 a5
 ·cases hl
theorem auto1 (h:True:=by first | exact .inl rfl | exact .inr rfl | assumption):True:=h
theorem auto2 (h:True:=by decide):True:=h
theorem auto3 (h:True:=by intro _;rfl):True:=h
theorem auto4 (h:True:=by rfl):True:=h
theorem auto5 (h:True:=by with_unfolding_all rfl):True:=h
theorem auto6 (h:True:=by decide+kernel):True:=h
open PySem PySem.Spec PyProof.Rows
abbrev Key:=Sum Int Str
def uT:Key→Value→Bool
 | .inl k,v=>Value.isInt k v
 | .inr x,v=>Value.isStrOf x v
def keyH (w:World):Key→Int
 | .inl k=>hashInt k
 | .inr x=>hashStr w x
theorem cU:∀ {k:Key} {v:Value},uT k v=true→(∃ i t,k=Sum.inl i∧v=Value.int i t)∨(∃ x t,k=Sum.inr x∧v=Value.str x t)
 | .inl i,v,h=>by
  obtain ⟨t,e⟩:=Value.isInt_shape (k:=i) (v:=v) h
  exact .inl ⟨i,t,rfl,e⟩
 | .inr x,v,h=>by
  obtain ⟨t,e⟩:=Value.isStrOf_shape (x:=x) (v:=v) h
  exact .inr ⟨x,t,rfl,e⟩
theorem Do (i:Int) (t:Tok):uT (.inl i) (.int i t)=true:=by simp [uT,Value.isInt]
theorem Dp (x:Str) (t:Tok):uT (.inr x) (.str x t)=true:=by simp [uT,Value.isStrOf]
theorem Qx (a b:Int):decide ((Sum.inl a:Key)=Sum.inl b)=(a == b):=by
 by_cases e:a=b
 ·subst e;simp
 ·have h:¬ (Sum.inl a:Key)=Sum.inl b:=fun q=>e (Sum.inl.inj q)
  rw [decide_eq_false h]
  exact (beq_eq_false_iff_ne.mpr e).symm
theorem Qy (a b:Str):decide ((Sum.inr a:Key)=Sum.inr b)=decide (a=b):=by
 by_cases e:a=b
 ·subst e;simp
 ·have h:¬ (Sum.inr a:Key)=Sum.inr b:=fun q=>e (Sum.inr.inj q)
  rw [decide_eq_false h,decide_eq_false e]
theorem Qz (a:Int) (b:Str):decide ((Sum.inl a:Key)=Sum.inr b)=false:=decide_eq_false (fun q=>nomatch q)
theorem QB (a:Str) (b:Int):decide ((Sum.inr a:Key)=Sum.inl b)=false:=decide_eq_false (fun q=>nomatch q)
def bZ (prog:Program) (w:World):PySem.KeyKind prog w Key where
 is:=uT
 hash:=keyH w
 inj:=fun v a b ha hb=>by
  rcases cU ha with ⟨i,t,rfl,rfl⟩ | ⟨x,t,rfl,rfl⟩
  ·rcases cU hb with ⟨j,u,rfl,e⟩ | ⟨y,u,rfl,e⟩
   ·injection e with e1 _;rw [e1]
   ·exact nomatch e
  ·rcases cU hb with ⟨j,u,rfl,e⟩ | ⟨y,u,rfl,e⟩
   ·exact nomatch e
   ·injection e with e1 _;rw [e1]
 byValue:=fun k v h=>by
  rcases cU h with ⟨i,t,rfl,rfl⟩ | ⟨x,t,rfl,rfl⟩ <;> rfl
 pyHash:=fun hv h=>by
  rcases cU hv with ⟨i,t,rfl,rfl⟩ | ⟨x,t,rfl,rfl⟩
  ·exact wpAny_pyHash_int h
  ·exact wpAny_pyHash_str h
 eqBool:=fun hu hv h=>by
  rcases cU hu with ⟨i,t,rfl,rfl⟩ | ⟨x,t,rfl,rfl⟩
  ·rcases cU hv with ⟨j,u,rfl,rfl⟩ | ⟨y,u,rfl,rfl⟩
   ·rw [Qx] at h;exact wpAny_eqBool_int h
   ·rw [Qz] at h;exact SeqAt.EqAt.int_str i t y u _ _ _ _ h
  ·rcases cU hv with ⟨j,u,rfl,rfl⟩ | ⟨y,u,rfl,rfl⟩
   ·rw [QB] at h;exact SeqAt.EqAt.str_int x t j u _ _ _ _ h
   ·rw [Qy] at h;exact wpAny_eqBool_str h
 «strs»:=fun k x t v h=>by
  rcases cU h with ⟨i,u,rfl,e⟩ | ⟨y,u,rfl,e⟩
  ·exact nomatch e
  ·injection e with e1 _
   subst e1
   cases v <;> rfl
theorem xU (prog:Program) (w:World) (i:Int) (t:Tok):(bZ prog w).is (.inl i) (.int i t)=true:=Do i t
theorem xV (prog:Program) (w:World) (x:Str) (t:Tok):(bZ prog w).is (.inr x) (.str x t)=true:=Dp x t
end L2
namespace L2
open PySem PySem.Spec PyProof.Rows
inductive V where
 | non | bl (b:Bool) | int (i:Int) | str (x:Str) | byt (b:Array UInt8) | flt (b:UInt64) | ref (a:Addr) | ty (n:String)
 deriving DecidableEq
def RelV:V→Value→Prop
 | .non,u=>u=Value.none
 | .bl b,u=>u=Value.bool b
 | .int i,u=>∃ t,u=Value.int i t
 | .str x,u=>∃ t,u=Value.str x t
 | .byt b,u=>∃ t,u=Value.bytes b t
 | .flt b,u=>∃ t,u=Value.float b t
 | .ref a,u=>u=Value.ref a
 | .ty n,u=>u=Value.type n
abbrev Vals:List V→List Value→Prop:=Paired RelV
theorem Vals.length {xs:List V} {us:List Value} (r:Vals xs us):xs.length=us.length:=Paired.length r
theorem Vals.get:∀ {xs:List V} {us:List Value} {i:Nat} {x:V},Vals xs us→xs[i]?=some x→∃ u,us[i]?=some u∧RelV x u
 | _,_,_,_,.nil,e=>by simp at e
 | _,_,0,_,.cons r _,e=>by simp at e;subst e;exact ⟨_,rfl,r⟩
 | _,_,i+1,x,.cons _ t,e=>by
  obtain ⟨u,h1,h2⟩:=Vals.get (i:=i) (x:=x) t (by simpa using e)
  exact ⟨u,by simpa using h1,h2⟩
theorem Vals.set {x:V} {u:Value} (r:RelV x u):∀ {xs:List V} {us:List Value} (i:Nat),Vals xs us→Vals (xs.set i x) (us.set i u)
 | _,_,_,.nil=>.nil
 | _,_,0,.cons _ t=>.cons r t
 | _,_,i+1,.cons q t=>.cons q (Vals.set r i t)
theorem Vals.append:∀ {xs ys:List V} {us ws:List Value},Vals xs us→Vals ys ws→Vals (xs ++ ys) (us ++ ws)
 | _,_,_,_,.nil,s=>s
 | _,_,_,_,.cons r t,s=>.cons r (Vals.append t s)
theorem Vals.take:∀ {xs:List V} {us:List Value} (n:Nat),Vals xs us→Vals (xs.take n) (us.take n)
 | _,_,0,_=>.nil
 | _,_,_+1,.nil=>.nil
 | _,_,n+1,.cons r t=>.cons r (Vals.take n t)
theorem Vals.drop:∀ {xs:List V} {us:List Value} (n:Nat),Vals xs us→Vals (xs.drop n) (us.drop n)
 | _,_,0,r=>r
 | _,_,_+1,.nil=>.nil
 | _,_,n+1,.cons _ t=>Vals.drop n t
def RelO:Option V→Option Value→Prop
 | some v,some u=>RelV v u
 | none,none=>True
 | _,_=>False
def KV {κ:Type}:List (κ×V)→List (κ×Value)→Prop:=Paired fun (p:κ×V) (q:κ×Value)=>p.1=q.1∧RelV p.2 q.2
def kV:Key→V
 | .inl i=>.int i
 | .inr x=>.str x
inductive HO where
 /-- a list -/
 | lst (xs:List V)
 /-- a tuple (never changes) -/
 | tup (xs:List V)
 /-- a dict whose keys are ints and texts;one whose keys are tuples of ints and texts (the empty one is both) -/
 | dK (kvs:List (Key×V)) | dT (kvs:List (List Key×V))
 /-- a set of ints:its members,its size -/
 | set (S:Int→Bool) (n:Nat)
 /-- an instance of the class at C,its dict at dx,its attributes -/
 | ins (C dx:Addr) (fs:List (Str×V))
 /-- the dict of the instance at x -/
 | own (x:Addr)
 /-- the dict of an exception -/
 | xd (fs:List (Str×V))
 /-- a bound method,f of x -/
 | met (f x:Addr)
 /-- a range object lo,lo+1,.. below hi -/
 | rng (lo hi:Int)
 /-- a thing that is known to the object (the script;a dict while a loop walks it):read,never written while it is so -/
 | frz (o:Obj) (u:HO)
 /-- a code object's table -/
 | tbl (ps:Array Value)
 /-- any other thing,by what is true of its one object (a def of one's own:SetO a S n:=HO.ext fun h=>..) -/
 | ext (φ:Heap→Prop)
abbrev Hp:=Addr→Option HO
def upd (H:Hp) (a:Addr) (o:HO):Hp:=fun b=>if b=a then some o else H b
theorem aj {H:Hp} {a:Addr} {o:HO}:upd H a o a=some o:=by unfold upd;rw [if_pos rfl]
theorem aB {H:Hp} {a b:Addr} {o:HO} (h:b≠a):upd H a o b=H b:=by unfold upd;rw [if_neg h]
theorem Ku {H:Hp} {a:Addr} {o u:HO}:upd (upd H a o) a u=upd H a u:=by
 funext b;unfold upd;split <;> rfl
theorem UT {H:Hp} {a b:Addr} {o u:HO} (h:H a=some o) (h':H b=some u) (d:o≠u):a≠b:=by
 intro e;subst e;rw [h] at h';exact d (Option.some.inj h')
theorem j7 {H:Hp} {a b:Addr} {o:HO} (h:H a=some o) (h':H b=none):a≠b:=by
 intro e;subst e;rw [h] at h';cases h'
section
variable (P:Program) (w:World)
def ObjOk (H:Hp) (h:Heap) (a:Addr):HO→Prop
 | .lst xs=>xs.length≤sizeLine∧∃ (its:List Value) (n:Nat),Vals xs its∧h.get? a=some {cls:=.type "list",data:=.seq its.toArray n}
 | .tup xs=>xs.length≤sizeLine∧∃ its:List Value,Vals xs its∧IsTup h a its.toArray
 | .dK kvs=>kvs.length≤sizeLine∧(a == sysModules)=false∧∃ vs,KV kvs vs∧h.DictOf (bZ P w) a vs
 | .dT kvs=>kvs.length≤sizeLine∧(a == sysModules)=false∧∃ xs:List (List Key×Addr×Value),
   Paired (fun (p:List Key×V) (q:List Key×Addr×Value)=>p.1=q.1∧H q.2.1=some (.tup (p.1.map kV))∧RelV p.2 q.2.2) kvs xs∧
   ∃ o es ep,h.get? a=some o∧o.ExactDict∧o.data= .dict es ep∧es.toList=xs.map (entryOfKey (tupleKind (bZ P w)))∧(xs.map (·.1)).Nodup
 | .set S n=>h.SetOf (intKind P w) a S n
 | .ins C dx fs=>H dx=some (.own a)∧fs.length≤1000∧dx≠a∧h.get? a=some (PySem.W.instObj C dx)∧
   ∃ mA,h.Ns1 dx mA∧(∀ f,RelO (fs.lookup f) (mA f))∧PySem.Within mA (fs.map (·.1))
 | .own _=>∃ o,h.get? a=some o
 | .xd fs=>∃ mA,h.Ns1 a mA∧∀ f,RelO (fs.lookup f) (mA f)
 | .rng lo hi=>∃ t u v,h.get? a=some {cls:=.type "range",data:=.fields #[.int lo t,.int hi u,.int 1 v]}
 | .frz o u=>h.get? a=some o∧ObjOk H h a u
 | .tbl ps=>h.get? a=some {cls:=.none,data:=.fields ps}
 | .met f x=>h.get? a=some (PySem.W.methodObj (.ref f) (.ref x))
 | .ext φ=>φ h∧(∃ o,h.get? a=some o)∧∀ h1 h2:Heap,φ h1→(∀ o,h1.get? a=some o→h2.get? a=some o)→φ h2
def HOk (H:Hp) (h:Heap):Prop:=∀ a o,H a=some o→ObjOk P w H h a o
end
section
variable {P:Program} {w:World} {H H':Hp} {h h':Heap} {a:Addr} {o:HO}
theorem ObjOk.lt (x:ObjOk P w H h a o):a < h.objs.size:=by
 cases o with
 | lst xs=>obtain ⟨_,_,_,_,e⟩:=x;exact Heap.lt_size e
 | tup xs=>obtain ⟨_,_,_,p⟩:=x;exact p.lt
 | dK kvs=>obtain ⟨_,_,_,_,o,_,_,e,_⟩:=x;exact Heap.lt_size e
 | dT kvs=>obtain ⟨_,_,_,_,o,_,_,e,_⟩:=x;exact Heap.lt_size e
 | set S n=>obtain ⟨o,_,_,_,e,_⟩:=x;exact Heap.lt_size e
 | ins C dx fs=>obtain ⟨_,_,_,e,_⟩:=x;exact Heap.lt_size e
 | own y=>obtain ⟨_,e⟩:=x;exact Heap.lt_size e
 | xd fs=>obtain ⟨_,⟨_,_,_,e,_⟩,_⟩:=x;exact Heap.lt_size e
 | rng lo hi=>obtain ⟨_,_,_,e⟩:=x;exact Heap.lt_size e
 | frz ob u=>obtain ⟨e,_⟩:=x;exact Heap.lt_size e
 | tbl ps=>exact Heap.lt_size (show h.get? a=some _ from x)
 | met f y=>exact Heap.lt_size (show h.get? a=some _ from x)
 | ext φ=>obtain ⟨_,⟨_,e⟩,_⟩:=x;exact Heap.lt_size e
theorem Paired.mapP {α β:Type} {F G:α→β→Prop}:∀ {l₁:List α} {l₂:List β},Paired F l₁ l₂→(∀ a b,F a b→G a b)→Paired G l₁ l₂
 | _,_,.nil,_=>.nil
 | _,_,.cons r t,f=>.cons (f _ _ r) (Paired.mapP t f)
theorem ObjOk.stay (x:ObjOk P w H h a o) (k:∀ b u,(b=a∨H b=some (.own a))→h.get? b=some u→h'.get? b=some u)
  (ho:∀ b,H b=some (.own a)→H' b=some (.own a)) (ht:∀ b xs,H b=some (.tup xs)→H' b=some (.tup xs)):ObjOk P w H' h' a o:=by
 induction o with
 | lst xs=>obtain ⟨z,its,n,r,e⟩:=x;exact ⟨z,its,n,r,k _ _ (.inl rfl) e⟩
 | tup xs=>obtain ⟨z,its,r,ob,e,c⟩:=x;exact ⟨z,its,r,ob,k _ _ (.inl rfl) e,c⟩
 | dK kvs=>obtain ⟨z,y,vs,r,ob,es,ep,e,c⟩:=x;exact ⟨z,y,vs,r,ob,es,ep,k _ _ (.inl rfl) e,c⟩
 | dT kvs=>
  obtain ⟨z,y,xs,r,ob,es,ep,e,c⟩:=x
  exact ⟨z,y,xs,Paired.mapP r fun p q z=>⟨z.1,ht _ _ z.2.1,z.2.2⟩,ob,es,ep,k _ _ (.inl rfl) e,c⟩
 | set S n=>obtain ⟨ob,es,ep,t,e,c⟩:=x;exact ⟨ob,es,ep,t,k _ _ (.inl rfl) e,c⟩
 | ins C dx fs=>
  obtain ⟨d,z,ne,e,mA,⟨od,es,ep,e2,c⟩,r⟩:=x
  exact ⟨ho _ d,z,ne,k _ _ (.inl rfl) e,mA,⟨od,es,ep,k _ _ (.inr d) e2,c⟩,r⟩
 | own y=>obtain ⟨ob,e⟩:=x;exact ⟨ob,k _ _ (.inl rfl) e⟩
 | xd fs=>obtain ⟨mA,⟨od,es,ep,e,c⟩,r⟩:=x;exact ⟨mA,⟨od,es,ep,k _ _ (.inl rfl) e,c⟩,r⟩
 | rng lo hi=>obtain ⟨t,u,v,e⟩:=x;exact ⟨t,u,v,k _ _ (.inl rfl) e⟩
 | frz ob u ih=>obtain ⟨e,q⟩:=x;exact ⟨k _ _ (.inl rfl) e,ih q⟩
 | tbl ps=>
  have e:h.get? a=some {cls:=.none,data:=.fields ps}:=x
  show h'.get? a=some {cls:=.none,data:=.fields ps}
  exact k a _ (.inl rfl) e
 | met f y=>
  have e:h.get? a=some (PySem.W.methodObj (.ref f) (.ref y)):=x
  show h'.get? a=some (PySem.W.methodObj (.ref f) (.ref y))
  exact k a _ (.inl rfl) e
 | ext φ=>obtain ⟨p,⟨o,e⟩,st⟩:=x;exact ⟨st _ _ p fun o q=>k _ _ (.inl rfl) q,⟨o,k _ _ (.inl rfl) e⟩,st⟩
theorem HOk.lt (x:HOk P w H h) (e:H a=some o):a < h.objs.size:=(x a o e).lt
theorem HOk.fresh (x:HOk P w H h) (e:h.objs.size≤a):H a=none:=by
 cases q:H a with
 | none=>rfl
 | some u=>exact absurd (Nat.lt_of_lt_of_le (x.lt q) e) (Nat.lt_irrefl _)
theorem HOk.kept (x:HOk P w H h) (k:∀ b u,h.get? b=some u→h'.get? b=some u):HOk P w H h':=fun a o e=>
 (x a o e).stay (fun b u _ q=>k b u q) (fun _ q=>q) fun _ _ q=>q
theorem HOk.laid (x:HOk P w H h) (k:∀ b u,h.get? b=some u→h'.get? b=some u) (hp:h.objs.size≤a) (new:ObjOk P w (upd H a o) h' a o):HOk P w (upd H a o) h':=fun b u e=>by
 have hn:=x.fresh hp
 by_cases hb:b=a
 ·subst hb;rw [aj] at e;cases e;exact new
 ·rw [aB hb] at e
  exact (x b u e).stay (fun c v _ q=>k c v q) (fun c q=>by rw [aB (j7 q hn)];exact q) fun c xs q=>by rw [aB (j7 q hn)];exact q
end
def Rd (H:Hp) (a:Addr) (u:HO):Prop:=H a=some u∨∃ o,H a=some (.frz o u)
theorem Rd.ok {P:Program} {w:World} {H:Hp} {h:Heap} {a:Addr} {u:HO} (r:Rd H a u) (x:HOk P w H h):ObjOk P w H h a u:=by
 rcases r with r | ⟨o,r⟩
 ·exact x a u r
 ·obtain ⟨_,q⟩:=x a _ r
  exact q
def UV:Option HO→Prop
 | some (.lst _)=>True
 | some (.dK _)=>True
 | some (.dT _)=>True
 | some (.set _ _)=>True
 | some (.ins _ _ _)=>True
 | some (.ext _)=>True
 | _=>False
section
variable {P:Program} {w:World} {H:Hp} {h h':Heap} {x e:Addr} {o':HO}
theorem HOk.write (ok:HOk P w H h) (mu:UV (H x)) (he:e=x∨H e=some (.own x)) (k:∀ b u,b≠e→h.get? b=some u→h'.get? b=some u) (heo:∃ u,h'.get? e=some u)
  (new:ObjOk P w (upd H x o') h' x o'):HOk P w (upd H x o') h':=fun b u q=>by
 have nown:∀ c y,H c=some (.own y)→c≠x:=fun c y r z=>by subst z;rw [r] at mu;exact mu
 have ntup:∀ c xs,H c=some (.tup xs)→c≠x:=fun c xs r z=>by subst z;rw [r] at mu;exact mu
 by_cases hb:b=x
 ·subst hb;rw [aj] at q;cases q;exact new
 ·rw [aB hb] at q
  by_cases hbe:b=e
  ·have q':H b=some (.own x):=by
    rcases he with z | z
    ·exact absurd (hbe.trans z) hb
    ·rw [hbe];exact z
   rw [q] at q';cases q'
   obtain ⟨v,hv⟩:=heo
   exact ⟨v,by rw [hbe];exact hv⟩
  ·refine (ok b u q).stay (fun c v hc r=>k c v ?_ r) (fun c r=>by rw [aB (nown c b r)];exact r) fun c xs r=>by rw [aB (ntup c xs r)];exact r
   rcases hc with rfl | hc
   ·exact hbe
   ·rintro rfl
    rcases he with z | z
    ·exact nown c b hc z
    ·rw [hc] at z;cases z;exact hb rfl
end
structure Un (fs ex:List Addr) (H H':Hp) (h h':Heap):Prop where
 keep:∀ b o,h.get? b=some o→H b=none→b ∉ fs→b ∉ ex→h'.get? b=some o
 slot:∀ b o,h.get? b=some o→H b=none→b∈fs→b ∉ ex→∃ sl,h'.get? b=some {o with slots:=sl}
 free:∀ b o,h.get? b=some o→H b=none→b ∉ ex→H' b=none
 there:∀ b o,h.get? b=some o→b ∉ ex→∃ o',h'.get? b=some o'
 tups:∀ b xs,H b=some (.tup xs)→H' b=some (.tup xs)
 frzs:∀ b o u,H b=some (.frz o u)→H' b=some (.frz o u)
 tbls:∀ b ps,H b=some (.tbl ps)→∃ more,H' b=some (.tbl (ps ++ more))
section
variable {fs fs' ex ex':List Addr} {H H1 H2:Hp} {h h1 h2 h':Heap} {a x e:Addr} {o:HO}
theorem Un.any (u:Un fs ex H H1 h h1) {b:Addr} {ob:Obj} (q:h.get? b=some ob) (n:H b=none) (hx:b ∉ ex):∃ sl,h1.get? b=some {ob with slots:=sl}:=by
 by_cases hb:b∈fs
 ·exact u.slot b ob q n hb hx
 ·exact ⟨ob.slots,u.keep b ob q n hb hx⟩
theorem Un.kept (k:∀ b u,h.get? b=some u→h'.get? b=some u):Un fs ex H H h h':=
 ⟨fun b ob q _ _ _=>k b ob q,fun b ob q _ _ _=>⟨ob.slots,k b ob q⟩,fun _ _ _ n _=>n,fun b ob q _=>⟨ob,k b ob q⟩,fun _ _ q=>q,fun _ _ _ q=>q,fun _ ps q=>⟨#[],by rw [q];simp⟩⟩
theorem Un.refl:Un fs ex H H h h:=Un.kept fun _ _ q=>q
theorem Un.laid (k:∀ b u,h.get? b=some u→h'.get? b=some u) (hp:h.objs.size≤a) (hn:H a=none):Un fs ex H (upd H a o) h h' where
 keep:=fun b u q _ _ _=>k b u q
 slot:=fun b u q _ _ _=>⟨u.slots,k b u q⟩
 free:=fun b u q n _=>by rw [aB (Nat.ne_of_lt (Nat.lt_of_lt_of_le (Heap.lt_size q) hp))];exact n
 there:=fun b u q _=>⟨u,k b u q⟩
 tups:=fun b xs q=>by rw [aB (j7 q hn)];exact q
 frzs:=fun b u xs q=>by rw [aB (j7 q hn)];exact q
 tbls:=fun b ps q=>⟨#[],by rw [aB (j7 q hn),q];simp⟩
theorem Un.write (mu:UV (H x)) (he:e=x∨H e=some (.own x)) (k:∀ b u,b≠e→h.get? b=some u→h'.get? b=some u) (heo:∃ u,h'.get? e=some u):Un fs ex H (upd H x o) h h':=by
 have hx:∀ b,H b=none→b≠x:=fun b n z=>by subst z;rw [n] at mu;exact mu
 have hb:∀ b,H b=none→b≠e:=fun b n z=>by
  subst z
  rcases he with r | r
  ·exact hx b n r
  ·rw [n] at r;cases r
 have hm:∀ b u,H b=some u→¬ UV (some u)→b≠x:=fun b u q nm z=>by subst z;rw [q] at mu;exact nm mu
 refine ⟨fun b u q n _ _=>k b u (hb b n) q,fun b u q n _ _=>⟨u.slots,k b u (hb b n) q⟩,fun b u q n _=>by rw [aB (hx b n)];exact n,fun b u q _=>?_,
  fun b xs q=>by rw [aB (hm b _ q fun z=>z)];exact q,fun b u xs q=>by rw [aB (hm b _ q fun z=>z)];exact q,fun b ps q=>⟨#[],by rw [aB (hm b _ q fun z=>z),q];simp⟩⟩
 by_cases hbe:b=e
 ·subst hbe;exact heo
 ·exact ⟨u,k b u hbe q⟩
end
def Kp (h:Heap) (H:Hp):List Addr:=(List.range h.objs.size).filter fun a=>(H a).isSome
def vQ (h:Heap) (H:Hp):Heap:=PySem.W.hideAll h (Kp h H)
theorem Dq (h:Heap) (H:Hp):(vQ h H).objs.size=h.objs.size:=PySem.W.hideAll_size _ _
theorem Gh {h:Heap} {H:Hp} {b:Addr} {o:Obj} (e:h.get? b=some o) (n:H b=none):(vQ h H).get? b=some o:=
 PySem.W.hideAll_get _ e fun hm=>by
  have q:(H b).isSome=true:=(List.mem_filter.mp hm).2
  rw [n] at q;simp at q
theorem Kv {h:Heap} {H:Hp} {b:Addr} {o:Obj} (e:(vQ h H).get? b=some o):h.get? b=some o∧H b=none:=by
 have e':h.get? b=some o:=PySem.W.of_hideAll (Kp h H) e
 refine ⟨e',?_⟩
 cases q:H b with
 | none=>rfl
 | some x=>
  have hm:b∈Kp h H:=List.mem_filter.mpr ⟨List.mem_range.mpr (Heap.lt_size e'),by simp [q]⟩
  have z:(vQ h H).get? b=none:=PySem.W.hideAll_none (Kp h H) hm
  rw [z] at e;cases e
end L2
namespace L2
open PySem PySem.Spec PyProof.Rows
structure Mod (K:PySem.W.Frag) (mg:Str→Option Value) (base:Heap):Prop where
 kin:K.In base
 glob:base.Ns mainGlobals mg
 blt:∃ mb,base.Ns builtinsNs mb∧∀ x:Str,x≠"__name__"→mb x=bootBuiltins x
 nolimit:base.NoLimit
 sysm:∃ mm,base.Ns sysModules mm
structure Cx where
 prog:Program
 w:World
 K:PySem.W.Frag
 mg:Str→Option Value
 base:Heap
 A:Around
 N:List Str
 s₀:Shared
 H₀:Hp
 env:Env
 outer:List Env
 stack:List Env
 ex:List Addr
 fn:Str→Bool
 calm:Bool
 pn:List (Addr×Obj)
 xe:Value→Shared→Prop
def frs (l:List Env):List Addr:=l.filterMap (·.frame)
abbrev Cx.fs (X:Cx):List Addr:=frs X.outer
def Yl (sc:Scope) (x:Str):Prop:=sc.names.lookup x=some .local∨sc.names.lookup x=some .cell∨sc.names.lookup x=some .free
def Loc (sc:Scope) (x:Str):Prop:=sc.names.lookup x=some .local∨sc.names.lookup x=some .cell
def Look (env:Env) (h:Heap) (m:Str→Option Value) (x:Str) (u:Value):Prop:=
 (env.kindOf x=some .local∧m x=some u)∨((env.kindOf x=some .cell∨env.kindOf x=some .free)∧∃ c,env.cells.lookup x=some c∧h.IsCell c (some u))
structure Cx.Ok (X:Cx):Prop where
 mod:Mod X.K X.mg X.base
 kind:X.env.scope.kind= .function
 glob:X.env.globals=mainGlobals
 blt:X.env.builtins=builtinsNs
 above:X.s₀.heap.objs.size≤X.env.locals
 inj:∀ x y c,X.env.cells.lookup x=some c→X.env.cells.lookup y=some c→x=y
 has:∀ x,(X.env.kindOf x=some .cell∨X.env.kindOf x=some .free)→∃ c,X.env.cells.lookup x=some c
 cab:∀ x c,X.fn x=true→X.env.cells.lookup x=some c→X.s₀.heap.objs.size≤c
 hd:X.calm=true→X.A.handled=none
 frames:X.A.frames=some X.stack
 stk:X.stack=X.outer∨(X.stack=X.env :: X.outer∧X.env.frame=some X.env.locals)
 exf:∀ b∈X.ex,b≠X.env.locals∧∀ x c,X.env.cells.lookup x=some c→c≠b
 bs:∀ b o,X.base.get? b=some o→X.s₀.heap.get? b=some o∧X.H₀ b=none
 bsz:X.base.objs.size≤X.s₀.heap.objs.size
 noex:∀ b o,X.base.get? b=some o→b ∉ X.ex
 exfs:∀ b∈X.ex,b ∉ X.fs
 funs:X.s₀.heap.FunFrames X.base X.outer
 frf:∀ b∈X.fs,X.H₀ b=none
structure Inv (X:Cx) (pins:List (Addr×Obj)) (σ:List (Option V)) (H:Hp) (s:Shared):Prop where
 ok:X.Ok
 os:s.os=X.s₀.os
 bare:AllBare s.gens
 base:Un X.fs X.ex X.H₀ H X.s₀.heap s.heap
 loc:∃ m,s.heap.Ns X.env.locals m∧∀ (i:Nat) (x:Str) (v:V),X.N[i]?=some x→σ[i]?=some (some v)→Yl X.env.scope x→∃ u,RelV v u∧Look X.env s.heap m x u
 cell:∀ x c,X.env.cells.lookup x=some c→∃ v,s.heap.IsCell c v
 free:H X.env.locals=none
 freeC:∀ x c,X.env.cells.lookup x=some c→H c=none
 pin:∀ p∈X.pn ++ pins,s.heap.get? p.1=some p.2∧H p.1=none∧p.1≠X.env.locals∧p.1 ∉ X.fs∧∀ v,p.2.data≠.cell v
 hok:HOk X.prog X.w H s.heap
 len:σ.length=X.N.length
section
variable {X:Cx} {pins:List (Addr×Obj)} {σ:List (Option V)} {H H':Hp} {s:Shared} {h':Heap}
theorem Cx.Ok.nofr (ok:X.Ok) {b:Addr} {o:Obj} (e:X.base.get? b=some o):b ∉ X.fs:=fun hb=>by
 have:=(ok.funs.mem hb).1
 rw [e] at this;cases this
theorem Inv.bs (I:Inv X pins σ H s):∀ b o,X.base.get? b=some o→s.heap.get? b=some o∧H b=none:=fun b o e=>
 ⟨I.base.keep b o (I.ok.bs b o e).1 (I.ok.bs b o e).2 (I.ok.nofr e) (I.ok.noex b o e),I.base.free b o (I.ok.bs b o e).1 (I.ok.bs b o e).2 (I.ok.noex b o e)⟩
theorem Inv.bk (I:Inv X pins σ H s):∀ b o,X.base.get? b=some o→s.heap.get? b=some o:=fun b o e=>(I.bs b o e).1
theorem Inv.mod (I:Inv X pins σ H s):Mod X.K X.mg X.base:=I.ok.mod
theorem Inv.kIn (I:Inv X pins σ H s):X.K.In s.heap:=I.ok.mod.kin.keeps I.bk
theorem Inv.lt (I:Inv X pins σ H s):X.env.locals < s.heap.objs.size:=let ⟨_,hn,_⟩:=I.loc;hn.lt
theorem Inv.sz (I:Inv X pins σ H s):X.s₀.heap.objs.size≤s.heap.objs.size:=Nat.le_trans I.ok.above (Nat.le_of_lt I.lt)
theorem Inv.nofs (I:Inv X pins σ H s) {a:Addr} (h:s.heap.objs.size≤a):a ∉ X.fs:=fun hb=>by
 obtain ⟨_,o,ho,_⟩:=I.ok.funs.mem hb
 exact absurd (Nat.lt_of_lt_of_le (Heap.lt_size ho) (Nat.le_trans I.sz h)) (Nat.lt_irrefl _)
theorem Inv.cne (I:Inv X pins σ H s):∀ x c,X.env.cells.lookup x=some c→c≠X.env.locals:=fun x c e z=>by
 obtain ⟨v,o,ho,hd⟩:=I.cell x c e
 obtain ⟨m,⟨o',es,ep,ho',hd',_⟩,_⟩:=I.loc
 rw [z,ho'] at ho;cases ho;rw [hd'] at hd;cases hd
theorem Inv.funs (I:Inv X pins σ H s):s.heap.FunFrames X.base X.outer:=by
 have all:∀ (l:List Env),(∀ b∈frs l,b∈X.fs)→X.s₀.heap.FunFrames X.base l→s.heap.FunFrames X.base l:=by
  intro l
  induction l with
  | nil=>intro _ _;trivial
  | cons env r ih=>
   intro hs hl
   obtain ⟨hk,⟨L,o,hf,hn,ho,hd⟩,hr⟩:=hl
   have hL:L∈X.fs:=hs L (by unfold frs;rw [List.filterMap_cons,hf];exact List.mem_cons_self)
   obtain ⟨sl,e⟩:=I.base.slot L o ho (I.ok.frf L hL) hL fun z=>I.ok.exfs L z hL
   exact ⟨hk,⟨L,_,hf,hn,e,hd⟩,ih (fun b hb=>hs b (by unfold frs;rw [List.filterMap_cons,hf];exact List.mem_cons_of_mem _ hb)) hr⟩
 exact all X.outer (fun _ hb=>hb) I.ok.funs
theorem Inv.stack (I:Inv X pins σ H s):s.heap.FunFrames X.base X.stack:=by
 rcases I.ok.stk with e | ⟨e,hf⟩
 ·rw [e];exact I.funs
 ·rw [e]
  obtain ⟨m,hn,_⟩:=I.loc
  refine .cons (by rw [I.ok.kind];decide) hf hn ?_ I.funs
  exact Heap.get?_none_of_le (Nat.le_trans I.ok.bsz I.ok.above)
theorem Inv.stkSub (I:Inv X pins σ H s):∀ b∈frs X.stack,b∈X.env.locals :: X.fs:=fun b hb=>by
 rcases I.ok.stk with e | ⟨e,hf⟩
 ·rw [e] at hb;exact List.mem_cons_of_mem _ hb
 ·rw [e] at hb
  unfold frs at hb
  rw [List.filterMap_cons,hf] at hb
  exact hb
theorem Inv.stkFree (I:Inv X pins σ H s):∀ b∈frs X.stack,H b=none:=fun b hb=>by
 rcases List.mem_cons.mp (I.stkSub b hb) with e | hb
 ·rw [e];exact I.free
 ·obtain ⟨_,o,ho,_⟩:=I.ok.funs.mem hb
  exact I.base.free b o ho (I.ok.frf b hb) fun z=>I.ok.exfs b z hb
theorem Inv.step {g':Array GenState} {t':Nat} {d':Drawn} {ch:List Addr} (I:Inv X pins σ H s)
  (hch:∀ b∈ch,(b∈X.ex∨X.s₀.heap.objs.size≤b)∧b≠X.env.locals∧(∀ x c,X.env.cells.lookup x=some c→c≠b)∧∀ p∈X.pn ++ pins,p.1≠b)
  (keep:∀ b o,b≠X.env.locals→b ∉ X.fs→b ∉ ch→s.heap.get? b=some o→H b=none→h'.get? b=some o)
  (slot:∀ b o,b≠X.env.locals→b∈X.fs→b ∉ ch→s.heap.get? b=some o→H b=none→∃ sl,h'.get? b=some {o with slots:=sl}) (free:∀ b o,b ∉ ch→s.heap.get? b=some o→H b=none→H' b=none)
  (there:∀ b o,b ∉ ch→s.heap.get? b=some o→∃ o',h'.get? b=some o')
  (tups:∀ b xs,H b=some (.tup xs)→H' b=some (.tup xs)) (frzs:∀ b o u,H b=some (.frz o u)→H' b=some (.frz o u)) (tbls:∀ b ps,H b=some (.tbl ps)→∃ more,H' b=some (.tbl (ps ++ more)))
  (ns:∀ m,s.heap.Ns X.env.locals m→h'.Ns X.env.locals m) (hok:HOk X.prog X.w H' h') (hg:AllBare g'):
  Inv X pins σ H' {s with heap:=h',gens:=g',drawn:=d',toks:=t'}:=by
 have neL:∀ b o,X.s₀.heap.get? b=some o→b≠X.env.locals:=fun b o e=>Nat.ne_of_lt (Nat.lt_of_lt_of_le (Heap.lt_size e) I.ok.above)
 have neC:∀ b o,X.s₀.heap.get? b=some o→b ∉ X.ex→b ∉ ch:=fun b o e hx hb=>by
  rcases (hch b hb).1 with z | z
  ·exact hx z
  ·exact absurd (Nat.lt_of_lt_of_le (Heap.lt_size e) z) (Nat.lt_irrefl _)
 have cellK:∀ x c,X.env.cells.lookup x=some c→∀ v,s.heap.IsCell c v→h'.IsCell c v:=fun x c e v ⟨o,ho,hd⟩=>by
  have nch:c ∉ ch:=fun z=>(hch c z).2.2.1 x c e rfl
  by_cases hc:c∈X.fs
  ·obtain ⟨sl,q⟩:=slot c o (I.cne x c e) hc nch ho (I.freeC x c e)
   exact ⟨_,q,hd⟩
  ·exact ⟨o,keep c o (I.cne x c e) hc nch ho (I.freeC x c e),hd⟩
 refine ⟨I.ok,I.os,hg,⟨fun b o e n hb hx=>?_,fun b o e n hb hx=>?_,fun b o e n hx=>?_,fun b o e hx=>?_,fun b xs e=>tups b xs (I.base.tups b xs e),fun b o xs e=>frzs b o xs (I.base.frzs b o xs e),fun b ps e=>?_⟩,?_,fun x c e=>?_,?_,fun x c e=>?_,fun p hp=>?_,hok,I.len⟩
 ·exact keep b o (neL b o e) hb (neC b o e hx) (I.base.keep b o e n hb hx) (I.base.free b o e n hx)
 ·obtain ⟨sl,e1⟩:=I.base.slot b o e n hb hx
  obtain ⟨sl',e2⟩:=slot b _ (neL b o e) hb (neC b o e hx) e1 (I.base.free b o e n hx)
  exact ⟨sl',e2⟩
 ·obtain ⟨o',e1⟩:=I.base.there b o e hx
  exact free b o' (neC b o e hx) e1 (I.base.free b o e n hx)
 ·obtain ⟨o',e1⟩:=I.base.there b o e hx
  exact there b o' (neC b o e hx) e1
 ·obtain ⟨m1,e1⟩:=I.base.tbls b ps e
  obtain ⟨m2,e2⟩:=tbls b _ e1
  exact ⟨m1 ++ m2,by rw [e2,Array.append_assoc]⟩
 ·obtain ⟨m,hn,hl⟩:=I.loc
  refine ⟨m,ns m hn,fun i x v e1 e2 e3=>?_⟩
  obtain ⟨u,r,l⟩:=hl i x v e1 e2 e3
  refine ⟨u,r,?_⟩
  rcases l with l | ⟨k,c,e,z⟩
  ·exact .inl l
  ·exact .inr ⟨k,c,e,cellK x c e _ z⟩
 ·obtain ⟨v,z⟩:=I.cell x c e
  exact ⟨v,cellK x c e v z⟩
 ·obtain ⟨m,⟨o,_,_,ho,_⟩,_⟩:=I.loc
  exact free _ o (fun z=>(hch _ z).2.1 rfl) ho I.free
 ·obtain ⟨v,o,ho,hd⟩:=I.cell x c e
  exact free c o (fun z=>(hch c z).2.2.1 x c e rfl) ho (I.freeC x c e)
 ·obtain ⟨e,n,ne,nf,d⟩:=I.pin p hp
  have nch:p.1 ∉ ch:=fun z=>(hch p.1 z).2.2.2 p hp rfl
  exact ⟨keep p.1 p.2 ne nf nch e n,free p.1 p.2 nch e n,ne,nf,d⟩
theorem Inv.un {t':Nat} (I:Inv X pins σ H s) (u:Un X.fs [] H H' s.heap h') (hok:HOk X.prog X.w H' h'):Inv X pins σ H' {s with heap:=h',toks:=t'}:=by
 obtain ⟨m,⟨o,es,ep,ho,r⟩,_⟩:=id I.loc
 obtain ⟨sl,hL⟩:=u.any ho I.free (by simp)
 exact I.step (g':=s.gens) (d':=s.drawn) (ch:=[]) (fun _ z=>nomatch z) (fun b o _ hb _ e n=>u.keep b o e n hb (by simp)) (fun b o _ hb _ e n=>u.slot b o e n hb (by simp)) (fun b o _ e n=>u.free b o e n (by simp)) (fun b o _ e=>u.there b o e (by simp)) u.tups u.frzs u.tbls (fun m' hm=>by
  obtain ⟨o',es',ep',ho',r'⟩:=hm
  rw [ho] at ho';cases ho'
  exact ⟨_,es',ep',hL,r'⟩) hok I.bare
theorem Inv.call {g':Array GenState} {t':Nat} {d':Drawn} {ch:List Addr} (I:Inv X pins σ H s) (u:Un (frs X.stack) ch H H' s.heap h') (hok:HOk X.prog X.w H' h') (hg:AllBare g')
  (hch:∀ b∈ch,(b∈X.ex∨X.s₀.heap.objs.size≤b)∧b≠X.env.locals∧(∀ x c,X.env.cells.lookup x=some c→c≠b)∧∀ p∈X.pn ++ pins,p.1≠b):
  Inv X pins σ H' {s with heap:=h',gens:=g',drawn:=d',toks:=t'}:=by
 obtain ⟨m,⟨o,es,ep,ho,r⟩,_⟩:=id I.loc
 obtain ⟨sl,hL⟩:=u.any ho I.free fun z=>(hch _ z).2.1 rfl
 exact I.step (ch:=ch) hch (fun b o hL hb hc e n=>u.keep b o e n (fun z=>(List.mem_cons.mp (I.stkSub b z)).elim hL hb) hc) (fun b o _ _ hc e n=>u.any e n hc) (fun b o hc e n=>u.free b o e n hc) (fun b o hc e=>u.there b o e hc) u.tups u.frzs u.tbls (fun m' hm=>by
  obtain ⟨o',es',ep',ho',r'⟩:=hm
  rw [ho] at ho';cases ho'
  exact ⟨_,es',ep',hL,r'⟩) hok hg
theorem Inv.turned {t':Nat} {it:Addr} (I:Inv X pins σ H s) (k:∀ b o,b≠it→s.heap.get? b=some o→h'.get? b=some o) (hn:H it=none) (hL:it≠X.env.locals)
  (h1:it∈X.ex∨X.s₀.heap.objs.size≤it) (h2:∀ x c,X.env.cells.lookup x=some c→c≠it) (h3:∀ p∈X.pn ++ pins,p.1≠it):Inv X pins σ H {s with heap:=h',toks:=t'}:=by
 have nit:∀ b u,H b=some u→b≠it:=fun b u e z=>by rw [z,hn] at e;cases e
 refine I.step (g':=s.gens) (d':=s.drawn) (ch:=[it]) (fun b hb=>?_) (fun b o _ _ hc e _=>k b o (fun z=>hc (by simp [z])) e) (fun b o _ _ hc e _=>⟨o.slots,k b o (fun z=>hc (by simp [z])) e⟩) (fun _ _ _ _ n=>n)
  (fun b o hc e=>⟨o,k b o (fun z=>hc (by simp [z])) e⟩) (fun _ _ e=>e) (fun _ _ _ e=>e) (fun b ps e=>⟨#[],by rw [e];simp⟩) (fun m hm=>?_) (fun b u e=>?_) I.bare
 ·have e:b=it:=by simpa using hb
  subst e
  exact ⟨h1,hL,h2,h3⟩
 ·obtain ⟨o,es,ep,ho,r⟩:=hm
  exact ⟨o,es,ep,k _ o (Ne.symm hL) ho,r⟩
 ·refine (I.hok b u e).stay (fun c v hc q=>k c v ?_ q) (fun _ q=>q) fun _ _ q=>q
  rcases hc with z | z
  ·rw [z];exact nit b u e
  ·exact nit c _ z
theorem Inv.tok (I:Inv X pins σ H s) (t:Nat):Inv X pins σ H {s with toks:=t}:=I.un (h':=s.heap) (t':=t) Un.refl I.hok
theorem Inv.kept {t':Nat} (I:Inv X pins σ H s) (k:∀ b u,s.heap.get? b=some u→h'.get? b=some u):Inv X pins σ H {s with heap:=h',toks:=t'}:=I.un (Un.kept k) (I.hok.kept k)
theorem Inv.laid {a:Addr} {o:HO} {t':Nat} (I:Inv X pins σ H s) (k:∀ b u,s.heap.get? b=some u→h'.get? b=some u) (hp:s.heap.objs.size≤a) (new:ObjOk X.prog X.w (upd H a o) h' a o):
  Inv X pins σ (upd H a o) {s with heap:=h',toks:=t'}:=I.un (Un.laid k hp (I.hok.fresh hp)) (I.hok.laid k hp new)
theorem Inv.write {x e:Addr} {o:HO} {t':Nat} (I:Inv X pins σ H s) (mu:UV (H x)) (he:e=x∨H e=some (.own x)) (k:∀ b u,b≠e→s.heap.get? b=some u→h'.get? b=some u) (heo:∃ u,h'.get? e=some u)
  (new:ObjOk X.prog X.w (upd H x o) h' x o):Inv X pins σ (upd H x o) {s with heap:=h',toks:=t'}:=I.un (Un.write mu he k heo) (I.hok.write mu he k heo new)
theorem Inv.weak {σ':List (Option V)} (I:Inv X pins σ H s) (hl:σ'.length=σ.length) (w:∀ (i:Nat) v,σ'[i]?=some (some v)→σ[i]?=some (some v)):Inv X pins σ' H s:=
 ⟨I.ok,I.os,I.bare,I.base,let ⟨m,hn,hl'⟩:=I.loc;⟨m,hn,fun i x v e1 e2 e3=>hl' i x v e1 (w i v e2) e3⟩,I.cell,I.free,I.freeC,I.pin,I.hok,hl.trans I.len⟩
theorem Inv.pins_of {pins':List (Addr×Obj)} (I:Inv X pins σ H s) (h:∀ p∈pins',s.heap.get? p.1=some p.2∧H p.1=none∧p.1≠X.env.locals∧p.1 ∉ X.fs∧∀ v,p.2.data≠.cell v):Inv X pins' σ H s:=
 ⟨I.ok,I.os,I.bare,I.base,I.loc,I.cell,I.free,I.freeC,fun p hp=>(List.mem_append.mp hp).elim (fun z=>I.pin p (List.mem_append_left _ z)) (h p),I.hok,I.len⟩
theorem xW {N:List Str} (hN:N.Nodup) {i j:Nat} {x:Str} (a:N[i]?=some x) (b:N[j]?=some x):i=j:=by
 obtain ⟨h1,e1⟩:=List.getElem?_eq_some_iff.mp a
 obtain ⟨h2,e2⟩:=List.getElem?_eq_some_iff.mp b
 exact (List.getElem_inj hN).mp (e1.trans e2.symm)
theorem uU {M:Model} {A:Around} {E:Value→Shared→Prop} {i:Nat} {x:Str} {v:V} {u:Value} {Q:Unit→Shared→Prop} (I:Inv X pins σ H s) (hN:X.N.Nodup) (hi:X.N[i]?=some x) (hx:Loc X.env.scope x) (r:RelV v u)
  (h:∀ s',Inv X pins (σ.set i (some v)) H s'→(∃ a,Heap.SameBut a s.heap s'.heap∧(a=X.env.locals∨X.env.cells.lookup x=some a))→Q () s') (hf:autoParam (X.fn x=true∨X.env.scope.names.lookup x=some .local) L2.auto1._auto_1):wpAny M A (storeName X.env x u) Q E s:=by
 obtain ⟨m,hn,hl⟩:=id I.loc
 have hcls:(X.env.scope.kind == .class || (X.env.scope.kind == .module && X.env.locals != X.env.globals))=false:=by rw [I.ok.kind];rfl
 have hiσ:i < σ.length:=by rw [I.len];exact (List.getElem?_eq_some_iff.mp hi).1
 have cne:=I.cne
 have tracked:∀ {a:Addr} {h':Heap},(∃ o,s.heap.get? a=some o∧H a=none)→Heap.SameBut a s.heap h'→HOk X.prog X.w H h':=fun {a h'} ha hs b ob e=>by
  obtain ⟨_,_,hfree⟩:=ha
  refine (I.hok b ob e).stay (fun c w' hc q=>(hs.2 c ?_).trans q) (fun _ q=>q) fun _ _ q=>q
  rintro rfl
  rcases hc with rfl | hc
  ·rw [hfree] at e;cases e
  ·rw [hfree] at hc;cases hc
 rcases hx with hk | hk
 ·refine wpAny_storeName_local hk hn (fun h' hn' hs=>?_) hcls
  obtain ⟨oL,_,_,hoL,_⟩:=id hn
  refine h _ ⟨I.ok,I.os,I.bare,⟨fun b o e n hb hx=>?_,fun b o e n hb hx=>?_,I.base.free,fun b o e hx=>?_,I.base.tups,I.base.frzs,I.base.tbls⟩,⟨_,hn',fun j y v' e1 e2 e3=>?_⟩,fun y c e=>?_,I.free,I.freeC,fun p hp=>?_,tracked ⟨oL,hoL,I.free⟩ hs,by simpa using I.len⟩ ⟨_,hs,.inl rfl⟩
  ·exact (hs.2 b (Nat.ne_of_lt (Nat.lt_of_lt_of_le (Heap.lt_size e) I.ok.above))).trans (I.base.keep b o e n hb hx)
  ·obtain ⟨sl,e1⟩:=I.base.slot b o e n hb hx
   exact ⟨sl,(hs.2 b (Nat.ne_of_lt (Nat.lt_of_lt_of_le (Heap.lt_size e) I.ok.above))).trans e1⟩
  ·obtain ⟨o',e1⟩:=I.base.there b o e hx
   exact ⟨o',(hs.2 b (Nat.ne_of_lt (Nat.lt_of_lt_of_le (Heap.lt_size e) I.ok.above))).trans e1⟩
  ·by_cases hj:j=i
   ·subst hj
    rw [hi] at e1;cases e1
    rw [List.getElem?_set_self hiσ] at e2
    cases e2
    exact ⟨u,r,.inl ⟨hk,by simp⟩⟩
   ·rw [List.getElem?_set_ne (Ne.symm hj)] at e2
    obtain ⟨u',r',q⟩:=hl j y v' e1 e2 e3
    refine ⟨u',r',?_⟩
    rcases q with ⟨k,e⟩ | ⟨k,c,e,z⟩
    ·refine .inl ⟨k,?_⟩
     have:y≠x:=fun e=>hj (xW hN e1 (e ▸ hi))
     simp [this,e]
    ·exact .inr ⟨k,c,e,z.sameBut hs (cne y c e)⟩
  ·obtain ⟨w',z⟩:=I.cell y c e
   exact ⟨w',z.sameBut hs (cne y c e)⟩
  ·obtain ⟨e,n,ne,nf,d⟩:=I.pin p hp
   exact ⟨(hs.2 p.1 ne).trans e,n,ne,nf,d⟩
 ·have hfn:X.fn x=true:=by
   rcases hf with z | z
   ·exact z
   ·rw [z] at hk;cases hk
  obtain ⟨c,hc⟩:=I.ok.has x (.inl hk)
  obtain ⟨w',z⟩:=I.cell x c hc
  refine wpAny_storeName_cell I.ok.kind hk hc z (fun h' hc' hs=>?_)
  obtain ⟨oc,hoc,hocd⟩:=id z
  refine h {s with heap:=h'} ⟨I.ok,I.os,I.bare,⟨fun b o e n hb hx=>?_,fun b o e n hb hx=>?_,I.base.free,fun b o e hx=>?_,I.base.tups,I.base.frzs,I.base.tbls⟩,⟨m,hn.sameBut hs (Ne.symm (cne x c hc)),fun j y v' e1 e2 e3=>?_⟩,fun y c' e=>?_,I.free,I.freeC,fun p hp=>?_,tracked ⟨oc,hoc,I.freeC x c hc⟩ hs,by simpa using I.len⟩ ⟨c,hs,.inr hc⟩
  ·exact (hs.2 b (Nat.ne_of_lt (Nat.lt_of_lt_of_le (Heap.lt_size e) (I.ok.cab x c hfn hc)))).trans (I.base.keep b o e n hb hx)
  ·obtain ⟨sl,e1⟩:=I.base.slot b o e n hb hx
   exact ⟨sl,(hs.2 b (Nat.ne_of_lt (Nat.lt_of_lt_of_le (Heap.lt_size e) (I.ok.cab x c hfn hc)))).trans e1⟩
  ·obtain ⟨o',e1⟩:=I.base.there b o e hx
   exact ⟨o',(hs.2 b (Nat.ne_of_lt (Nat.lt_of_lt_of_le (Heap.lt_size e) (I.ok.cab x c hfn hc)))).trans e1⟩
  ·by_cases hj:j=i
   ·subst hj
    rw [hi] at e1;cases e1
    rw [List.getElem?_set_self hiσ] at e2
    cases e2
    exact ⟨u,r,.inr ⟨.inl hk,c,hc,hc'⟩⟩
   ·rw [List.getElem?_set_ne (Ne.symm hj)] at e2
    obtain ⟨u',r',q⟩:=hl j y v' e1 e2 e3
    refine ⟨u',r',?_⟩
    rcases q with q | ⟨k,c',e,z'⟩
    ·exact .inl q
    ·refine .inr ⟨k,c',e,z'.sameBut hs ?_⟩
     rintro rfl
     exact hj (xW hN e1 (I.ok.inj _ _ _ e hc ▸ hi))
  ·by_cases hcc:c'=c
   ·subst hcc;exact ⟨_,hc'⟩
   ·obtain ⟨w2,z2⟩:=I.cell y c' e
    exact ⟨w2,z2.sameBut hs hcc⟩
  ·obtain ⟨e,n,ne,nf,d⟩:=I.pin p hp
   refine ⟨(hs.2 p.1 ?_).trans e,n,ne,nf,d⟩
   intro q
   rw [q,hoc] at e
   have q':oc=p.2:=Option.some.inj e
   exact d w' (by rw [← q'];exact hocd)
theorem tG {M:Model} {A:Around} {E:Value→Shared→Prop} {i:Nat} {x:Str} {v:V} {u:Value} {Q:Unit→Shared→Prop} (I:Inv X pins σ H s) (hN:X.N.Nodup) (hi:X.N[i]?=some x) (hx:Loc X.env.scope x) (r:RelV v u)
  (h:∀ s',Inv X pins (σ.set i (some v)) H s'→Q () s') (hf:autoParam (X.fn x=true∨X.env.scope.names.lookup x=some .local) L2.auto1._auto_1):wpAny M A (storeName X.env x u) Q E s:=
 uU I hN hi hx r (fun s' I' _=>h s' I') hf
theorem Inv.call' {s':Shared} {ch:List Addr} (I:Inv X pins σ H s) (ho:s'.os=s.os) (u:Un (frs X.stack) ch H H' s.heap s'.heap) (hok:HOk X.prog X.w H' s'.heap) (hg:AllBare s'.gens)
  (hch:∀ b∈ch,(b∈X.ex∨X.s₀.heap.objs.size≤b)∧b≠X.env.locals∧(∀ x c,X.env.cells.lookup x=some c→c≠b)∧∀ p∈X.pn ++ pins,p.1≠b):Inv X pins σ H' s':=by
 obtain ⟨h',g',d',t',o'⟩:=s'
 have e:o'=s.os:=ho
 subst e
 exact I.call (g':=g') (t':=t') (d':=d') u hok hg hch
end
abbrev XK:=Value→Option Addr→Hp→Prop
abbrev St:=List (Option V)
abbrev VK:=V→Hp→Prop
abbrev TE:=St→Hp→VK→Prop
abbrev TT:=St→Hp→(Bool→Hp→Prop)→Prop
abbrev TA:=St→Hp→(List V→Hp→Prop)→Prop
structure Ends where
 nx:St→Hp→Prop
 rt:VK
 bk:St→Hp→Prop:=fun _ _=>False
 ct:St→Hp→Prop:=fun _ _=>False
abbrev TS:=Ends→St→Hp→Prop
def EP (X:Cx) (pins:List (Addr×Obj)) (σ:St) (Q:VK) (u:Value) (s':Shared):Prop:=∃ v H',Inv X pins σ H' s'∧RelV v u∧Q v H'
def TP (X:Cx) (pins:List (Addr×Obj)) (σ:St) (Q:Bool→Hp→Prop) (b:Bool) (s':Shared):Prop:=∃ H',Inv X pins σ H' s'∧Q b H'
def AP (X:Cx) (pins:List (Addr×Obj)) (σ:St) (Q:List V→Hp→Prop) (us:List Value) (s':Shared):Prop:=∃ vs H',Inv X pins σ H' s'∧Vals vs us∧Q vs H'
def SP (X:Cx) (pins:List (Addr×Obj)) (D:Ends) (f:Flow) (s':Shared):Prop:=
 match f with
 | .next=>∃ σ' H',Inv X pins σ' H' s'∧D.nx σ' H'
 | .brk=>∃ σ' H',Inv X pins σ' H' s'∧D.bk σ' H'
 | .cont=>∃ σ' H',Inv X pins σ' H' s'∧D.ct σ' H'
 | .ret u=>∃ v σ' H',Inv X pins σ' H' s'∧RelV v u∧D.rt v H'
def PE (X:Cx) (e:Expr) (t:TE):Prop:=
 ∀ (pins:List (Addr×Obj)) (s:Shared) (σ:St) (H:Hp) (Q:VK),Inv X pins σ H s→t σ H Q→wpAny (model X.prog X.w) X.A (eval e X.env) (EP X pins σ Q) X.xe s
def PT (X:Cx) (e:Expr) (t:TT):Prop:=
 ∀ (pins:List (Addr×Obj)) (s:Shared) (σ:St) (H:Hp) (Q:Bool→Hp→Prop),Inv X pins σ H s→t σ H Q→wpAny (model X.prog X.w) X.A (isTrue e X.env (eval e X.env)) (TP X pins σ Q) X.xe s
def PW (X:Cx) (e:Expr) (t:TT):Prop:=
 ∀ (whole:Sem Value) (pins:List (Addr×Obj)) (s:Shared) (σ:St) (H:Hp) (Q:Bool→Hp→Prop),Inv X pins σ H s→t σ H Q→wpAny (model X.prog X.w) X.A (isTrue e X.env whole) (TP X pins σ Q) X.xe s
theorem PW.pt {X:Cx} {e:Expr} {t:TT} (h:PW X e t):PT X e t:=h _
def PA (X:Cx) (es:List Expr) (t:TA):Prop:=
 ∀ (pos:Pos) (pins:List (Addr×Obj)) (s:Shared) (σ:St) (H:Hp) (Q:List V→Hp→Prop),Inv X pins σ H s→t σ H Q→wpAny (model X.prog X.w) X.A (spliced (backTo pos (starEach es X.env))) (AP X pins σ Q) X.xe s
def PS (X:Cx) (st:Stmt) (t:TS):Prop:=
 ∀ (pins:List (Addr×Obj)) (s:Shared) (σ:St) (H:Hp) (D:Ends),Inv X pins σ H s→t D σ H→wpAny (model X.prog X.w) X.A (exec st X.env) (SP X pins D) X.xe s
def PSs (X:Cx) (st:List Stmt) (t:TS):Prop:=
 ∀ (pins:List (Addr×Obj)) (s:Shared) (σ:St) (H:Hp) (D:Ends),Inv X pins σ H s→t D σ H→wpAny (model X.prog X.w) X.A (execs st X.env) (SP X pins D) X.xe s
theorem eZ {α:Type} {t:Sem α} {Q Q':α→Shared→Prop} {M:Model} {A:Around} {E:Value→Shared→Prop} {s:Shared} (h:wpAny M A t Q E s) (hQ:∀ a s,Q a s→Q' a s):wpAny M A t Q' E s:=wpAny_mono h hQ fun _ _ x=>x
end L2
namespace L2
open PySem PySem.Spec PyProof.Rows
section
variable {X:Cx}
def qI (i:Nat):TE:=fun σ H Q=>∃ v,σ[i]?=some (some v)∧Q v H
def tC (v:V):TE:=fun _ H Q=>Q v H
theorem vR {i:Nat} {x:Str} {pos:Pos} (hN:X.N[i]?=some x) (hv:Yl X.env.scope x) (hd:autoParam ((x == ("__debug__":Str))=false) L2.auto2._auto_1) (hcd:autoParam ((x == ("__classdict__":Str))=false) L2.auto2._auto_1):PE X (.Name x pos) (qI i):=by
 intro pins s σ H Q I h
 obtain ⟨v,e,h⟩:=h
 obtain ⟨m,hn,hl⟩:=I.loc
 obtain ⟨u,r,l⟩:=hl i x v hN e hv
 have fin:EP X pins σ Q u s:=⟨v,H,I,r,h⟩
 rcases l with ⟨hk,hm⟩ | ⟨hk,c,hc,hcell⟩
 ·exact wpAny_Name (wpAny_loadName_local I.ok.kind hk hn hm fin) hd
 ·rcases hk with hk | hk
  ·exact wpAny_Name (wpAny_loadName_cell I.ok.kind hk hc hcell fin) hd
  ·exact wpAny_Name (wpAny_loadName_free I.ok.kind hk hc hcell fin hcd) hd
theorem QC {i j pos}:PE X (.Constant (.int i) j pos) (tC (.int i)):=fun _ _ _ H _ I h=>wpAny_Constant_int ⟨.int i,H,I.tok _,⟨_,rfl⟩,h⟩
theorem UW {b j pos}:PE X (.Constant (.bool b) j pos) (tC (.bl b)):=fun _ _ _ H _ I h=>Constant_bool ⟨.bl b,H,I,rfl,h⟩
theorem QD {x j pos}:PE X (.Constant (.str x) j pos) (tC (.str x)):=fun _ _ _ H _ I h=>Calls.Constant_str ⟨.str x,H,I.tok _,⟨_,rfl⟩,h⟩
def Gl (X:Cx) (x:Str):Prop:=X.env.kindOf x=some .globalImplicit
theorem pO {E:Value→Shared→Prop} {pins:List (Addr×Obj)} {s:Shared} {σ:St} {H:Hp} {x:Str} {u:Value} {pos:Pos} {Q:Value→Shared→Prop} (I:Inv X pins σ H s) (hg:Gl X x) (hm:X.mg x=some u) (h:Q u s)
  (hd:autoParam ((x == ("__debug__":Str))=false) L2.auto2._auto_1):wpAny (model X.prog X.w) X.A (eval (.Name x pos) X.env) Q E s:=
 Calls.Name_function_global I.ok.kind hg (Calls.loadGlobal_global (by rw [I.ok.glob];exact I.mod.glob.keeps I.bk) hm h) hd
theorem jk {E:Value→Shared→Prop} {pins:List (Addr×Obj)} {s:Shared} {σ:St} {H:Hp} {x:Str} {u:Value} {pos:Pos} {Q:Value→Shared→Prop} (I:Inv X pins σ H s) (hg:Gl X x) (hm:X.mg x=none) (hv:bootBuiltins x=some u) (h:Q u s)
  (hn:autoParam (x≠"__name__") L2.auto2._auto_1) (hd:autoParam ((x == ("__debug__":Str))=false) L2.auto2._auto_1):wpAny (model X.prog X.w) X.A (eval (.Name x pos) X.env) Q E s:=by
 obtain ⟨mb,h1,h2⟩:=I.mod.blt
 exact Calls.Name_function_global I.ok.kind hg (Calls.loadGlobal_builtin (by rw [I.ok.glob];exact I.mod.glob.keeps I.bk) hm (by rw [I.ok.blt];exact h1.keeps I.bk) ((h2 x hn).trans hv) h) hd
theorem vU {x:Str} {v:V} {u:Value} {pos:Pos} (hg:Gl X x) (hm:X.mg x=some u) (r:RelV v u) (hd:autoParam ((x == ("__debug__":Str))=false) L2.auto2._auto_1):PE X (.Name x pos) (tC v):=
 fun _ _ _ H _ I h=>pO I hg hm ⟨v,H,I,r,h⟩ hd
theorem Kw {x:Str} {v:V} {u:Value} {pos:Pos} (hg:Gl X x) (hm:X.mg x=none) (hv:bootBuiltins x=some u) (r:RelV v u) (hn:autoParam (x≠"__name__") L2.auto2._auto_1) (hd:autoParam ((x == ("__debug__":Str))=false) L2.auto2._auto_1):PE X (.Name x pos) (tC v):=
 fun _ _ _ H _ I h=>jk I hg hm hv ⟨v,H,I,r,h⟩ hn hd
variable {a b:Expr} {ta tb:TE} {pos:Pos}
def tB (t:TE):TT:=fun σ H Q=>t σ H fun x H1=>∃ c,x= .bl c∧Q c H1
theorem QF {e:Expr} {t:TE} (h:PE X e t) (he:autoParam (∀ whole,isTrue e X.env whole=(do let v ← whole;standAt e.pos;holding [v] (truthy v))) L2.auto3._auto_1):PT X e (tB t):=by
 intro pins s σ H Q I hw
 refine isTrue_plain (eZ (h pins s σ H _ I hw) fun v s1 qq0=>?_) (he _)
 obtain ⟨x,H1,I1,r1,q1⟩:=qq0
 obtain ⟨d,rfl,q⟩:=q1
 cases r1
 exact wpAny_truthy_bool ⟨H1,I1,q⟩
variable {tA tB':TT} {rest:List Expr}
def Ky (t u:TT):TT:=fun σ H Q=>t σ H fun c H1=>if c=true then u σ H1 Q else Q false H1
def tOr (t u:TT):TT:=fun σ H Q=>t σ H fun c H1=>if c=true then Q true H1 else u σ H1 Q
def QG (t:TT):TT:=fun σ H Q=>t σ H fun c H1=>Q (!c) H1
theorem Kz (ha:PT X a tA):PW X (.BoolOp .And [a] pos) tA:=by
 intro wh pins s σ H Q I h
 refine isTrue_and (eZ (ha pins s σ H Q I h) fun c s1 e=>?_)
 cases c with
 | true=>exact isTrue_and_nil e
 | false=>exact e
theorem QH (ha:PT X a tA):PW X (.BoolOp .Or [a] pos) tA:=by
 intro wh pins s σ H Q I h
 refine isTrue_or (eZ (ha pins s σ H Q I h) fun c s1 e=>?_)
 cases c with
 | false=>exact isTrue_or_nil e
 | true=>exact e
theorem QJ (ha:PT X a tA) (hb:PW X (.BoolOp .And (b :: rest) pos) tB'):PW X (.BoolOp .And (a :: b :: rest) pos) (Ky tA tB'):=by
 intro wh pins s σ H Q I h
 refine isTrue_and (eZ (ha pins s σ H _ I h) fun c s1 qq0=>?_)
 obtain ⟨H1,I1,q1⟩:=qq0
 cases c with
 | true=>exact hb wh pins s1 σ H1 Q I1 q1
 | false=>exact ⟨H1,I1,q1⟩
theorem U0 (ha:PT X a tA) (hb:PW X (.BoolOp .Or (b :: rest) pos) tB'):PW X (.BoolOp .Or (a :: b :: rest) pos) (tOr tA tB'):=by
 intro wh pins s σ H Q I h
 refine isTrue_or (eZ (ha pins s σ H _ I h) fun c s1 qq0=>?_)
 obtain ⟨H1,I1,q1⟩:=qq0
 cases c with
 | true=>exact ⟨H1,I1,q1⟩
 | false=>exact hb wh pins s1 σ H1 Q I1 q1
theorem QK (ha:PT X a tA):PT X (.UnaryOp .Not a pos) (QG tA):=by
 intro pins s σ H Q I h
 exact isTrue_not (ha pins s σ H (fun c H1=>Q (!c) H1) I h)
def Gi (ta tb:TE):TE:=fun σ H Q=>ta σ H fun x H1=>∃ c,x= .bl c∧if c=true then tb σ H1 Q else Q (.bl false) H1
def QL (ta tb:TE):TE:=fun σ H Q=>ta σ H fun x H1=>∃ c,x= .bl c∧if c=true then Q (.bl true) H1 else tb σ H1 Q
def Gj (ta:TE):TE:=fun σ H Q=>ta σ H fun x H1=>∃ c,x= .bl c∧Q (.bl (!c)) H1
theorem QM {op} {t:TE} (h:PE X a t):PE X (.BoolOp op [a] pos) t:=fun pins s σ H Q I hw=>BoolOp_one (h pins s σ H Q I hw)
theorem QQ (ha:PE X a ta) (hb:PE X (.BoolOp .And (b :: rest) pos) tb):PE X (.BoolOp .And (a :: b :: rest) pos) (Gi ta tb):=by
 intro pins s σ H Q I h
 refine BoolOp_and (eZ (ha pins s σ H _ I h) fun v s1 qq0=>?_)
 obtain ⟨x,H1,I1,r1,q1⟩:=qq0
 obtain ⟨c,rfl,q1⟩:=q1
 cases r1
 refine wpAny_truthy_bool ?_
 cases c with
 | true=>exact hb pins s1 σ H1 Q I1 q1
 | false=>exact ⟨.bl false,H1,I1,rfl,q1⟩
theorem U7 (ha:PE X a ta) (hb:PE X (.BoolOp .Or (b :: rest) pos) tb):PE X (.BoolOp .Or (a :: b :: rest) pos) (QL ta tb):=by
 intro pins s σ H Q I h
 refine BoolOp_or (eZ (ha pins s σ H _ I h) fun v s1 qq0=>?_)
 obtain ⟨x,H1,I1,r1,q1⟩:=qq0
 obtain ⟨c,rfl,q1⟩:=q1
 cases r1
 refine wpAny_truthy_bool ?_
 cases c with
 | false=>exact hb pins s1 σ H1 Q I1 q1
 | true=>exact ⟨.bl true,H1,I1,rfl,q1⟩
theorem QR (ha:PE X a ta):PE X (.UnaryOp .Not a pos) (Gj ta):=by
 intro pins s σ H Q I h
 refine UnaryOp_ (eZ (ha pins s σ H _ I h) fun v s1 qq0=>?_)
 obtain ⟨x,H1,I1,r1,q1⟩:=qq0
 obtain ⟨c,rfl,q1⟩:=q1
 cases r1
 exact not_of (wpAny_truthy_bool ⟨.bl (!c),H1,I1,rfl,q1⟩)
def tIf (t:TT) (ta tb:TE):TE:=fun σ H Q=>t σ H fun c H1=>if c=true then ta σ H1 Q else tb σ H1 Q
theorem Gk {c:Expr} (hc:PT X c tA) (ha:PE X a ta) (hb:PE X b tb):PE X (.IfExp c a b pos) (tIf tA ta tb):=by
 intro pins s σ H Q I h
 refine wpAny_IfExp (eZ (hc pins s σ H _ I h) fun d s1 qq0=>?_)
 obtain ⟨H1,I1,q1⟩:=qq0
 cases d with
 | true=>exact ha pins s1 σ H1 Q I1 q1
 | false=>exact hb pins s1 σ H1 Q I1 q1
end
end L2
namespace L2
open PySem PySem.Spec PyProof.Rows
def SqL (K:PySem.W.Frag) (H:Hp) (a:Addr) (xs:List V):Prop:=
 Rd H a (.lst xs)∨
  ∃ (o:Obj) (its:Array Value) (n:Nat),K.lookup a=some o∧o.cls= .type "list"∧o.dict=none∧o.data= .seq its n∧its.size≤sizeLine∧Vals xs its.toList
def SqT (K:PySem.W.Frag) (H:Hp) (a:Addr) (xs:List V):Prop:=
 Rd H a (.tup xs)∨
  ∃ (o:Obj) (its:Array Value) (n:Nat),K.lookup a=some o∧o.cls= .type "tuple"∧o.data= .seq its n∧its.size≤sizeLine∧Vals xs its.toList
def absV:Value→Option V
 | .none=>some .non
 | .bool b=>some (.bl b)
 | .int i _=>some (.int i)
 | .str x _=>some (.str x)
 | .bytes b _=>some (.byt b)
 | .float b _=>some (.flt b)
 | .ref a=>some (.ref a)
 | .type n=>some (.ty n)
 | _=>none
theorem RelV.abs {x:V} {u:Value} (r:RelV x u):absV u=some x:=by
 cases x with
 | non=>cases r;rfl
 | bl _=>cases r;rfl
 | int _=>obtain ⟨t,rfl⟩:=r;rfl
 | str _=>obtain ⟨t,rfl⟩:=r;rfl
 | byt _=>obtain ⟨t,rfl⟩:=r;rfl
 | flt _=>obtain ⟨t,rfl⟩:=r;rfl
 | ref _=>cases r;rfl
 | ty _=>cases r;rfl
theorem RelV.inj {x y:V} {u:Value} (r:RelV x u) (q:RelV y u):x=y:=Option.some.inj (r.abs.symm.trans q.abs)
theorem Vals.inj:∀ {xs ys:List V} {us:List Value},Vals xs us→Vals ys us→xs=ys
 | _,_,_,.nil,.nil=>rfl
 | _,_,_,.cons r t,.cons r' t'=>by rw [r.inj r',Vals.inj t t']
section
variable {X:Cx} {pins:List (Addr×Obj)} {σ:St} {H:Hp} {s:Shared} {a:Addr} {xs ys:List V}
theorem SqL.of {K:PySem.W.Frag} (h:H a=some (.lst xs)):SqL K H a xs:=.inl (.inl h)
theorem SqT.of {K:PySem.W.Frag} (h:H a=some (.tup xs)):SqT K H a xs:=.inl (.inl h)
theorem Inv.list (I:Inv X pins σ H s) (h:SqL X.K H a xs):∃ its:List Value,Vals xs its∧PlainL s.heap a its.toArray∧xs.length≤sizeLine:=by
 rcases h with h | ⟨o,its,n,hk,hc,hd,hs,hz,r⟩
 ·obtain ⟨z,its,n,r,e⟩:=h.ok I.hok
  exact ⟨its,r,⟨_,n,e,rfl,rfl,rfl⟩,z⟩
 ·refine ⟨its.toList,r,⟨o,n,I.kIn a o hk,hc,hd,by simpa using hs⟩,?_⟩
  have e:=r.length
  simp only [Array.length_toList] at e
  omega
theorem Inv.tuple (I:Inv X pins σ H s) (h:SqT X.K H a xs):∃ its:List Value,Vals xs its∧IsTup s.heap a its.toArray∧xs.length≤sizeLine:=by
 rcases h with h | ⟨o,its,n,hk,hc,hs,hz,r⟩
 ·obtain ⟨z,its,r,p⟩:=h.ok I.hok
  exact ⟨its,r,p,z⟩
 ·refine ⟨its.toList,r,⟨o,I.kIn a o hk,hc,n,by simpa using hs⟩,?_⟩
  have e:=r.length
  simp only [Array.length_toList] at e
  omega
theorem Inv.list_inj (I:Inv X pins σ H s) (h:SqL X.K H a xs) (h':SqL X.K H a ys):xs=ys:=by
 obtain ⟨its,r,⟨o,n,e,_,_,d⟩,_⟩:=I.list h
 obtain ⟨its',r',⟨o',n',e',_,_,d'⟩,_⟩:=I.list h'
 rw [e] at e';cases e'
 rw [d] at d'
 injection d' with d1 _
 have:its=its':=by simpa using congrArg Array.toList d1
 subst this
 exact r.inj r'
theorem Inv.tuple_inj (I:Inv X pins σ H s) (h:SqT X.K H a xs) (h':SqT X.K H a ys):xs=ys:=by
 obtain ⟨its,r,⟨o,e,_,n,d⟩,_⟩:=I.tuple h
 obtain ⟨its',r',⟨o',e',_,n',d'⟩,_⟩:=I.tuple h'
 rw [e] at e';cases e'
 rw [d] at d'
 injection d' with d1 _
 have:its=its':=by simpa using congrArg Array.toList d1
 subst this
 exact r.inj r'
end
abbrev Cx.wish (X:Cx) (E:Value→Shared→Prop):Cx:={X with xe:=E}
abbrev Cx.nox (X:Cx):Cx:=X.wish fun _ _=>False
theorem Cx.Ok.wish {X:Cx} (ok:X.Ok) (E:Value→Shared→Prop):(X.wish E).Ok:=
 ⟨ok.mod,ok.kind,ok.glob,ok.blt,ok.above,ok.inj,ok.has,ok.cab,ok.hd,ok.frames,ok.stk,ok.exf,ok.bs,ok.bsz,ok.noex,ok.exfs,ok.funs,ok.frf⟩
theorem Cx.Ok.unwish {X:Cx} {E:Value→Shared→Prop} (ok:(X.wish E).Ok):X.Ok:=
 ⟨ok.mod,ok.kind,ok.glob,ok.blt,ok.above,ok.inj,ok.has,ok.cab,ok.hd,ok.frames,ok.stk,ok.exf,ok.bs,ok.bsz,ok.noex,ok.exfs,ok.funs,ok.frf⟩
section
variable {X:Cx} {pins:List (Addr×Obj)} {σ:St} {H:Hp} {s:Shared} {E:Value→Shared→Prop}
theorem Inv.wish (I:Inv X pins σ H s) (E:Value→Shared→Prop):Inv (X.wish E) pins σ H s:=⟨I.ok.wish E,I.os,I.bare,I.base,I.loc,I.cell,I.free,I.freeC,I.pin,I.hok,I.len⟩
theorem Inv.unwish (I:Inv (X.wish E) pins σ H s):Inv X pins σ H s:=⟨I.ok.unwish,I.os,I.bare,I.base,I.loc,I.cell,I.free,I.freeC,I.pin,I.hok,I.len⟩
theorem SP.unwish {D:Ends} {f:Flow} {s':Shared} (h:SP (X.wish E) pins D f s'):SP X pins D f s':=by
 cases f with
 | next=>obtain ⟨σ',H',I,q⟩:=h;exact ⟨σ',H',I.unwish,q⟩
 | brk=>obtain ⟨σ',H',I,q⟩:=h;exact ⟨σ',H',I.unwish,q⟩
 | cont=>obtain ⟨σ',H',I,q⟩:=h;exact ⟨σ',H',I.unwish,q⟩
 | ret u=>obtain ⟨v,σ',H',I,r,q⟩:=h;exact ⟨v,σ',H',I.unwish,r,q⟩
theorem PSs.nox {st:List Stmt} {t:TS} (h:PSs X.nox st t):PSs X st t:=fun pins s σ H D I hw=>
 wpAny_mono (h pins s σ H D (I.wish _) hw) (fun _ _ q=>q.unwish) fun _ _ z=>False.elim z
end
section
variable {X:Cx} {st:Stmt} {rest:List Stmt} {t u:TS} {e:Expr} {te:TE} {pos:Pos}
def Gm:TS:=fun D σ H=>D.nx σ H
def KC (t u:TS):TS:=fun D σ H=>t {D with nx:=u D} σ H
theorem KD:PSs X [] Gm:=fun _ _ σ H _ I h=>wpAny_execs_nil ⟨σ,H,I,h⟩
theorem Gn (h1:PS X st t) (h2:PSs X rest u):PSs X (st :: rest) (KC t u):=by
 intro pins s σ H D I h
 refine wpAny_execs_cons (eZ (h1 pins s σ H {D with nx:=u D} I h) fun f s1 q=>?_)
 cases f with
 | next=>
  obtain ⟨σ',H',I',q⟩:=q
  exact h2 pins s1 σ' H' D I' q
 | ret v=>exact q
 | brk=>exact q
 | cont=>exact q
theorem KH (h1:PS X st t):PSs X [st] t:=by
 intro pins s σ H D I h
 refine wpAny_execs_cons (eZ (h1 pins s σ H D I h) fun f s1 q=>?_)
 cases f with
 | next=>exact wpAny_execs_nil q
 | ret v=>exact q
 | brk=>exact q
 | cont=>exact q
theorem Inv.quiet {pins:List (Addr×Obj)} {σ:St} {H:Hp} {s:Shared} (I:Inv X pins σ H s):interactive X.env=false:=by simp [interactive,I.ok.kind]
def Bw (te:TE):TS:=fun D σ H=>te σ H fun _ H1=>D.nx σ H1
theorem KJ (he:PE X e te) (hs:autoParam (swapsWith e none pos.line X.env=pure false) L2.auto4._auto_1):PS X (.Expr e pos) (Bw te):=by
 intro pins s σ H D I h
 exact wpAny_Expr_any (eZ (he pins s σ H _ I h) fun v s1 ⟨x,H1,I1,r1,q1⟩=>⟨σ,H1,I1,q1⟩) I.quiet hs
def QS (te:TE):TS:=fun D σ H=>te σ H D.rt
theorem QT (he:PE X e te):PS X (.Return (some e) pos) (QS te):=by
 intro pins s σ H D I h
 exact wpAny_Return_some (eZ (he pins s σ H _ I h) fun v s1 ⟨x,H1,I1,r1,q1⟩=>⟨x,σ,H1,I1,r1,q1⟩)
def QV (c:TT) (t u:TS):TS:=fun D σ H=>c σ H fun b H1=>if b=true then t D σ H1 else u D σ H1
theorem U8 {c:Expr} {a b:List Stmt} {tc:TT} (hc:PT X c tc) (ha:PSs X a t) (hb:PSs X b u):PS X (.If c a b pos) (QV tc t u):=by
 intro pins s σ H D I h
 refine wpAny_If (eZ (hc pins s σ H _ I h) fun d s1 qq0=>?_)
 obtain ⟨H1,I1,q1⟩:=qq0
 cases d with
 | true=>exact ha pins s1 σ H1 D I1 q1
 | false=>exact hb pins s1 σ H1 D I1 q1
def Gp:TS:=fun _ _ _=>False
theorem Gq:PS X st Gp:=fun _ _ _ _ _ _ h=>h.elim
end
abbrev TG:=V→St→Hp→(St→Hp→Prop)→Prop
abbrev zN:=List V→St→Hp→(St→Hp→Prop)→Prop
def PG (X:Cx) (target:Expr) (t:TG):Prop:=
 ∀ (pins:List (Addr×Obj)) (s:Shared) (σ:St) (H:Hp) (v:V) (u:Value) (Q:St→Hp→Prop),Inv X pins σ H s→RelV v u→t v σ H Q→
  wpAny (model X.prog X.w) X.A (assign target X.env u) (fun _ s'=>∃ σ' H',Inv X pins σ' H' s'∧Q σ' H') X.xe s
def Uz (X:Cx) (ts:List Expr) (t:zN):Prop:=
 ∀ (pins:List (Addr×Obj)) (s:Shared) (σ:St) (H:Hp) (vs:List V) (us:List Value) (Q:St→Hp→Prop),Inv X pins σ H s→Vals vs us→t vs σ H Q→
  wpAny (model X.prog X.w) X.A (assignInOrder ((assignEach ts X.env).map (·.2)) us) (fun _ s'=>∃ σ' H',Inv X pins σ' H' s'∧Q σ' H') X.xe s
abbrev zQ:=V→V→V→Hp→(Hp→Prop)→Prop
def KN (X:Cx) (t:zQ):Prop:=
 ∀ (pins:List (Addr×Obj)) (s:Shared) (σ:St) (H:Hp) (o i v:V) (ov iv u:Value) (Q:Hp→Prop),Inv X pins σ H s→RelV o ov→RelV i iv→RelV v u→t o i v H Q→
  wpAny (model X.prog X.w) X.A (setItem ov iv u) (fun _ s'=>∃ H',Inv X pins σ H' s'∧Q H') X.xe s
abbrev TIp:=V→V→Hp→VK→Prop
def PIp (X:Cx) (op:Operator) (t:TIp):Prop:=
 ∀ (pins:List (Addr×Obj)) (s:Shared) (σ:St) (H:Hp) (x y:V) (v u:Value) (Q:VK),Inv X pins σ H s→RelV x v→RelV y u→t x y H Q→
  wpAny (model X.prog X.w) X.A (inplaceOp op v u) (EP X pins σ Q) X.xe s
section
variable {X:Cx} {pos:Pos}
def oY (i:Nat):TG:=fun v σ H Q=>Q (σ.set i (some v)) H
theorem Bx {i:Nat} {x:Str} (hN:X.N.Nodup) (hi:X.N[i]?=some x) (hx:Loc X.env.scope x) (hf:autoParam (X.fn x=true∨X.env.scope.names.lookup x=some .local) L2.auto1._auto_1):PG X (.Name x pos) (oY i):=by
 intro pins s σ H v u Q I r h
 exact wpAny_assign_Name (tG I hN hi hx r (fun s' I'=>⟨_,H,I',h⟩) hf)
def QW:zN:=fun vs σ H Q=>vs=[]∧Q σ H
def Gr (t:TG) (u:zN):zN:=fun vs σ H Q=>∃ v r,vs=v :: r∧t v σ H fun σ' H'=>u r σ' H' Q
theorem KQ:Uz X [] QW:=by
 intro pins s σ H vs us Q I r h
 obtain ⟨e,h⟩:=h
 subst e
 cases r
 exact assignInOrder_nil ⟨σ,H,I,h⟩
theorem Gs {e:Expr} {es:List Expr} {t:TG} {u:zN} (h1:PG X e t) (h2:Uz X es u)
  (hs:autoParam ((assignEach (e :: es) X.env).map (·.2)=assign e X.env :: (assignEach es X.env).map (·.2)) L2.auto4._auto_1):Uz X (e :: es) (Gr t u):=by
 intro pins s σ H vs us Q I r h
 obtain ⟨v,vr,e1,h⟩:=h
 subst e1
 cases r with
 | cons r rr=>
  rw [hs]
  refine assignInOrder_cons (eZ (h1 pins s σ H _ _ _ I r h) fun _ s1 qq0=>?_)
  obtain ⟨σ1,H1,I1,q1⟩:=qq0
  exact h2 pins s1 σ1 H1 _ _ Q I1 rr q1
def KR (K:PySem.W.Frag) (n:Nat) (t:zN):TG:=fun v σ H Q=>∃ a xs,v= .ref a∧SqT K H a xs∧xs.length=n∧t xs σ H Q
theorem Gu {es:List Expr} {k:Nat} {t:zN} {n:Nat} (hc:X.calm=true) (h:Uz X es t)
  (hn:autoParam ((assignEach es X.env).length=n) L2.auto4._auto_1) (hst:autoParam ((assignEach es X.env).findIdx? (·.1)=none) L2.auto4._auto_1):PG X (.Tuple es k pos) (KR X.K n t):=by
 intro pins s σ H v u Q I r hw
 obtain ⟨a,xs,e1,hq,hl,hw⟩:=hw
 subst e1
 cases r
 obtain ⟨its,rv,ht,hz⟩:=I.tuple hq
 refine assign_Tuple_tuple (I.ok.hd hc) ht (by simp [hn,← hl,rv.length]) hst fun h' hx=>?_
 have I1:Inv X pins σ H {s with heap:=h'}:=I.kept (t':=s.toks) fun b o e=>hx b o (Nat.ne_of_lt (Heap.lt_size e)) e
 exact h pins _ σ H xs _ Q I1 (by simpa using rv) hw
def QX (to ti:TE) (t:zQ):TG:=fun v σ H Q=>to σ H fun o H1=>ti σ H1 fun i H2=>t o i v H2 fun H3=>Q σ H3
theorem QZ {o i:Expr} {to ti:TE} {t:zQ} (ho:PE X o to) (hi:PE X i ti) (hs:KN X t)
  (ha:∀ v,assign (.Subscript o i pos) X.env v=(do
   let ov ← holding [v] (eval o X.env)
   let iv ← holding [v,ov] (eval i X.env)
   standAt pos
   holding [v,ov,iv] (setItem ov iv v)
   release [v,ov,iv] []):=by intro _;rfl):PG X (.Subscript o i pos) (QX to ti t):=by
 intro pins s σ H v u Q I r h
 rw [ha]
 refine wpAny_bind (wpAny_holding (eZ (ho pins s σ H _ I h) fun ov s1 qq0=>?_))
 obtain ⟨x,H1,I1,r1,q1⟩:=qq0
 refine wpAny_bind (wpAny_holding (eZ (hi pins s1 σ H1 _ I1 q1) fun iv s2 qq0=>?_))
 obtain ⟨y,H2,I2,r2,q2⟩:=qq0
 refine wpAny_bind (wpAny_standAt (wpAny_bind (wpAny_holding (eZ (hs pins s2 σ H2 x y v ov iv u _ I2 r1 r2 r q2) fun _ s3 qq0=>?_))))
 obtain ⟨H3,I3,q3⟩:=qq0
 exact wpAny_release ⟨σ,H3,I3,q3⟩
def vV (te:TE) (g:TG):TS:=fun D σ H=>te σ H fun x H1=>g x σ H1 D.nx
theorem Gv {tg e:Expr} {te:TE} {g:TG} (he:PE X e te) (hg:PG X tg g) (hs:autoParam (swapsWithSole [tg] e pos.line X.env=pure false) L2.auto4._auto_1) (hw:autoParam (swappedStores [tg] e X.env=pure none) L2.auto4._auto_1)
  (h1:autoParam ((assignEach [tg] X.env).map (·.2)=[assign tg X.env]) L2.auto4._auto_1):PS X (.Assign [tg] e pos) (vV te g):=by
 intro pins s σ H D I h
 refine wpAny_Assign_stores (eZ (he pins s σ H _ I h) fun v s1 qq0=>?_) hs hw
 obtain ⟨x,H1,I1,r1,q1⟩:=qq0
 rw [h1]
 exact eZ (hg pins s1 σ H1 x v _ I1 r1 q1) fun _ s2 q=>q
theorem Gw {i:Nat} {x:Str} {e:Expr} {te:TE} {pos':Pos} (hN:X.N.Nodup) (hi:X.N[i]?=some x) (hx:Loc X.env.scope x) (he:PE X e te) (hs:autoParam (swapsWith e (some (.Name x pos')) pos.line X.env=pure false) L2.auto4._auto_1) (hf:autoParam (X.fn x=true∨X.env.scope.names.lookup x=some .local) L2.auto1._auto_1):
  PS X (.Assign [.Name x pos'] e pos) (vV te (oY i)):=by
 intro pins s σ H D I h
 refine wpAny_Assign_Name (eZ (he pins s σ H _ I h) fun v s1 qq0=>?_) hs
 obtain ⟨y,H1,I1,r1,q1⟩:=qq0
 exact tG I1 hN hi hx r1 (fun s2 I2=>⟨_,H1,I2,q1⟩) hf
def Q0 (i:Nat) (te:TE) (ti:TIp):TS:=fun D σ H=>∃ x,σ[i]?=some (some x)∧te σ H fun y H1=>ti x y H1 fun z H2=>D.nx (σ.set i (some z)) H2
theorem Q3 {i:Nat} {x:Str} {e:Expr} {te:TE} {op:Operator} {ti:TIp} {pos':Pos} (hN:X.N.Nodup) (hi:X.N[i]?=some x) (hx:Loc X.env.scope x) (he:PE X e te) (ho:PIp X op ti) (hf:autoParam (X.fn x=true∨X.env.scope.names.lookup x=some .local) L2.auto1._auto_1):
  PS X (.AugAssign (.Name x pos') op e pos) (Q0 i te ti):=by
 intro pins s σ H D I h
 obtain ⟨v,e1,h⟩:=h
 obtain ⟨m,hn,hl⟩:=I.loc
 have vis:Yl X.env.scope x:=by rcases hx with k | k;exact .inl k;exact .inr (.inl k)
 obtain ⟨u,r,l⟩:=hl i x v hi e1 vis
 refine wpAny_AugAssign_Name ?_
 have go:wpAny (model X.prog X.w) X.A (eval e X.env) (fun w s₂=>wpAny (model X.prog X.w) X.A (inplaceOp op u w) (fun r s₃=>wpAny (model X.prog X.w) X.A (storeName X.env x r) (fun _=>SP X pins D .next) X.xe s₃) X.xe s₂) X.xe s:=by
  refine eZ (he pins s σ H _ I h) fun w s1 qq0=>?_
  obtain ⟨y,H1,I1,r1,q1⟩:=qq0
  refine eZ (ho pins s1 σ H1 v y u w _ I1 r r1 q1) fun z s2 qq0=>?_
  obtain ⟨zv,H2,I2,r2,q2⟩:=qq0
  exact tG I2 hN hi hx r2 (fun s3 I3=>⟨_,H2,I3,q2⟩) hf
 rcases l with ⟨hk,hm⟩ | ⟨hk,c,hc,hcell⟩
 ·exact wpAny_loadName_local I.ok.kind hk hn hm go
 ·rcases hk with hk | hk
  ·exact wpAny_loadName_cell I.ok.kind hk hc hcell go
  ·rcases hx with k | k
   ·have:X.env.scope.names.lookup x=some .free:=hk
    rw [k] at this;cases this
   ·have:X.env.scope.names.lookup x=some .free:=hk
    rw [k] at this;cases this
end
section
variable {X:Cx} {pos:Pos}
def zR (c:TT) (tb:TS):TS:=fun D σ H=>∃ W:Nat→St→Hp→Prop,(∃ m,W m σ H)∧∀ m σ H,W m σ H→
 c σ H fun b H1=>if b=true then ∃ N:St→Hp→Prop,(∀ σ' H',N σ' H'→∃ m',m' < m∧W m' σ' H')∧tb {D with nx:=N,ct:=N,bk:=D.nx} σ H1 else D.nx σ H1
theorem Gx {c:Expr} {body:List Stmt} {tc:TT} {tb:TS} (hp:PassesOwn (model X.prog X.w) X.A X.env X.xe) (hc:PT X c tc) (hb:PSs X body tb):PS X (.While c body [] pos) (zR tc tb):=by
 intro pins s σ H D I h
 obtain ⟨W,⟨m0,w0⟩,turn⟩:=h
 refine wpAny_While (codeAny_whileLoop (fun n s'=>∃ σ' H',Inv X pins σ' H' s'∧W n σ' H') ?_ m0 ⟨σ,H,I,w0⟩)
 rintro n s1 ⟨σ1,H1,I1,w1⟩
 refine wpAny_passesOwn hp (eZ (hc pins s1 σ1 H1 _ I1 (turn n σ1 H1 w1)) fun b s2 qq0=>?_)
 obtain ⟨H2,I2,q2⟩:=qq0
 cases b with
 | true=>
  obtain ⟨N,hN,q2⟩:=q2
  rw [if_pos rfl]
  refine wpAny_passesOwn hp (eZ (hb pins s2 σ1 H2 _ I2 q2) fun f s3 q3=>?_)
  cases f with
  | next=>
   obtain ⟨σ3,H3,I3,n3⟩:=q3
   obtain ⟨m',hm,w3⟩:=hN σ3 H3 n3
   exact ⟨m',hm,σ3,H3,I3,w3⟩
  | cont=>
   obtain ⟨σ3,H3,I3,n3⟩:=q3
   obtain ⟨m',hm,w3⟩:=hN σ3 H3 n3
   exact ⟨m',hm,σ3,H3,I3,w3⟩
  | brk=>exact q3
  | ret v=>exact q3
 | false=>
  rw [if_neg Bool.false_ne_true]
  exact wpAny_execs_nil ⟨σ1,H2,I2,q2⟩
end
structure It where
 go:Nat→Hp→Prop
 yld:Nat→Hp→V→Hp→Prop
 stop:Nat→Hp→Prop
def kY (X:Cx) (pins:List (Addr×Obj)) (H:Hp) (b:Addr):Prop:=
 H b=none∧b≠X.env.locals∧b ∉ X.fs∧(b∈X.ex∨X.s₀.heap.objs.size≤b)∧(∀ x c,X.env.cells.lookup x=some c→c≠b)∧∀ p∈X.pn ++ pins,p.1≠b
theorem Inv.fpOk {X:Cx} {pins:List (Addr×Obj)} {σ:St} {H H':Hp} {s:Shared} {b:Addr} (I:Inv X pins σ H s) (hb:s.heap.objs.size≤b) (hn:H' b=none):kY X pins H' b:=by
 refine ⟨hn,Nat.ne_of_gt (Nat.lt_of_lt_of_le I.lt hb),I.nofs hb,.inr (Nat.le_trans I.sz hb),fun x c e z=>?_,fun p hp z=>?_⟩
 ·obtain ⟨v,q⟩:=I.cell x c e
  exact absurd (Nat.lt_of_lt_of_le q.lt (by rw [z];exact hb)) (Nat.lt_irrefl _)
 ·exact absurd (Nat.lt_of_lt_of_le (Heap.lt_size (I.pin p hp).1) (by rw [z];exact hb)) (Nat.lt_irrefl _)
structure Turn (P:Program) (w:World) (K:PySem.W.Frag) (tg:Expr) (J:It) (fp:List Addr) (it:Addr) (tn:Nat→Heap→Prop):Prop where
 mem:it∈fp
 obj:∀ i h,tn i h→∀ b∈fp,∃ o,h.get? b=some o∧∀ v,o.data≠.cell v
 keep:∀ i h h',tn i h→(∀ b∈fp,∀ o,h.get? b=some o→h'.get? b=some o)→tn i h'
 item:∀ (X:Cx),X.prog=P→X.w=w→X.K=K→X.calm=true→∀ (i:Nat) (pins:List (Addr×Obj)) (s:Shared) (σ:St) (H:Hp) (E:Value→Shared→Prop),Inv X pins σ H s→(∀ b∈fp,kY X pins H b)→tn i s.heap→J.go i H→
  wpAny (model P w) X.A (pyNext (.ref it)) (fun r s1=>∃ u,r=some u∧
   wpAny (model P w) X.A (letOwnedTupleGo tg (.ref it) u) (fun _ s2=>∃ x H',Inv X pins σ H' s2∧RelV x u∧J.yld i H x H'∧tn (i+1) s2.heap∧∀ b∈fp,H' b=none) E s1) E s
 done:∀ (X:Cx),X.prog=P→X.w=w→X.K=K→X.calm=true→∀ (i:Nat) (pins:List (Addr×Obj)) (s:Shared) (σ:St) (H:Hp) (E:Value→Shared→Prop),Inv X pins σ H s→(∀ b∈fp,kY X pins H b)→tn i s.heap→J.stop i H→
  wpAny (model P w) X.A (pyNext (.ref it)) (fun r s1=>r=none∧Inv X pins σ H s1) E s
 self:∀ (A:Around) (i:Nat) (s:Shared) (Q:Value→Shared→Prop) (E:Value→Shared→Prop),tn i s.heap→Q (.ref it) s→wpAny (model P w) A (pyIter (.ref it)) Q E s
abbrev TI:=St→Hp→(It→Hp→Prop)→Prop
def PIE (X:Cx) (pins:List (Addr×Obj)) (σ:St) (tg:Expr) (R:It→Hp→Prop) (itv:Value) (s2:Shared):Prop:=
 ∃ (it:Addr) (fp:List Addr) (tn:Nat→Heap→Prop) (J:It) (H':Hp),itv= .ref it∧Inv X pins σ H' s2∧Turn X.prog X.w X.K tg J fp it tn∧tn 0 s2.heap∧(∀ b∈fp,kY X pins H' b)∧R J H'
def PI (X:Cx) (tg iter:Expr) (wi:TI):Prop:=
 ∀ (pins:List (Addr×Obj)) (s:Shared) (σ:St) (H:Hp) (R:It→Hp→Prop),Inv X pins σ H s→wi σ H R→
  wpAny (model X.prog X.w) X.A (eval iter X.env) (fun v s1=>wpAny (model X.prog X.w) X.A (pyIter v) (PIE X pins σ tg R) X.xe s1) X.xe s
theorem xX {M:Model} {A:Around} {E:Value→Shared→Prop} {s:Shared} {tg:Expr} {it:Addr} {u:Value} {o:Obj} {n:String} {vs:Array Value} {Q:Unit→Shared→Prop} (ho:s.heap.get? it=some o) (hc:o.cls= .type n) (hd:o.data= .fields vs)
  (hn:["enumerate","zip","dict_itemiterator","dict_reverseitemiterator","odict_iterator","itertools.zip_longest","itertools.pairwise"].contains n=false) (hQ:Q () s):wpAny M A (letOwnedTupleGo tg (.ref it) u) Q E s:=by
 unfold letOwnedTupleGo
 cases tg <;> first
  | exact wpAny_pure hQ
  | (cases u <;> first
    | exact wpAny_pure hQ
    | (refine wpAny_bind (wpAny_load ho ?_)
       rw [hc,hd]
       show wpAny M A (if (["enumerate","zip","dict_itemiterator","dict_reverseitemiterator","odict_iterator","itertools.zip_longest","itertools.pairwise"].contains n && vs[0]? == some (rawInt _))=true then _ else _) Q E s
       rw [if_neg (by intro h;rw [hn,Bool.false_and] at h;cases h)]
       exact wpAny_pure hQ))
def PK (K:PySem.W.Frag) (a:Addr):It:=
 ⟨fun i H=>∃ xs x,SqL K H a xs∧xs[i]?=some x,fun i H x H'=>H'=H∧∀ xs,SqL K H a xs→xs[i]?=some x,fun i H=>∃ xs,SqL K H a xs∧xs.length≤i⟩
def UG (K:PySem.W.Frag) (a:Addr):It:=
 ⟨fun i H=>∃ xs x,SqT K H a xs∧xs[i]?=some x,fun i H x H'=>H'=H∧∀ xs,SqT K H a xs→xs[i]?=some x,fun i H=>∃ xs,SqT K H a xs∧xs.length≤i⟩
def Gf (lo:Int) (n:Nat):It:=⟨fun i _=>i < n,fun i H x H'=>H'=H∧x= .int (lo+i),fun i _=>n≤i⟩
theorem Ds {P:Program} {w:World} {K:PySem.W.Frag} {tg:Expr} (a it:Addr):Turn P w K tg (PK K a) [it] it (fun i h=>h.IsListIter it a i) where
 mem:=by simp
 obj:=fun i h st b hb=>by
  have e:b=it:=by simpa using hb
  subst e
  obtain ⟨o,e,c,d⟩:=st
  exact ⟨o,e,fun v z=>by rw [d] at z;cases z⟩
 keep:=fun i h h' st k=>st.at fun o e=>k it (by simp) o e
 item:=by
  intro X hP hw hK hc i pins s σ H E I hf st hg
  subst hP hw hK
  obtain ⟨xs,x,hq,hx⟩:=hg
  obtain ⟨its,rv,p,hz⟩:=I.list hq
  obtain ⟨u,hu,ru⟩:=rv.get hx
  obtain ⟨f0,f1,f2,f3,f4,f5⟩:=hf it (by simp)
  refine wpAny_pyNext_list_item st p.isList (x:=u) (by simpa using hu) fun h' st' sb=>?_
  have I1:Inv X pins σ H {s with heap:=h'}:=I.turned (t':=s.toks) (fun b o hb e=>(sb.2 b hb).trans e) f0 f1 f3 f4 f5
  obtain ⟨o,e,c,d⟩:=id st'
  exact ⟨u,rfl,xX (s:={s with heap:=h'}) e c d (by decide) ⟨x,H,I1,ru,⟨rfl,fun ys hy=>by rw [I.list_inj hy hq];exact hx⟩,st',fun b hb=>(hf b hb).1⟩⟩
 done:=by
  intro X hP hw hK hc i pins s σ H E I hf st hg
  subst hP hw hK
  obtain ⟨xs,hq,hx⟩:=hg
  obtain ⟨its,rv,p,hz⟩:=I.list hq
  obtain ⟨f0,f1,f2,f3,f4,f5⟩:=hf it (by simp)
  have hl:=rv.length
  exact wpAny_pyNext_list_end (I.ok.hd hc) st p.isList (by simp;omega) fun h' eb=>⟨rfl,I.turned (t':=s.toks) (fun b o hb e=>eb b o hb e) f0 f1 f3 f4 f5⟩
 self:=fun _ _ _ _ _ st h=>wpAny_pyIter_listiter st h
theorem zU {P:Program} {w:World} {K:PySem.W.Frag} {tg:Expr} (a it:Addr):Turn P w K tg (UG K a) [it] it (fun i h=>h.IsTupleIter it a i) where
 mem:=by simp
 obj:=fun i h st b hb=>by
  have e:b=it:=by simpa using hb
  subst e
  obtain ⟨o,e,c,d⟩:=st
  exact ⟨o,e,fun v z=>by rw [d] at z;cases z⟩
 keep:=fun i h h' st k=>st.at fun o e=>k it (by simp) o e
 item:=by
  intro X hP hw hK hc i pins s σ H E I hf st hg
  subst hP hw hK
  obtain ⟨xs,x,hq,hx⟩:=hg
  obtain ⟨its,rv,p,hz⟩:=I.tuple hq
  obtain ⟨u,hu,ru⟩:=rv.get hx
  obtain ⟨f0,f1,f2,f3,f4,f5⟩:=hf it (by simp)
  refine wpAny_pyNext_tuple_item st (show s.heap.IsTuple a its.toArray from p) (x:=u) (by simpa using hu) fun h' st' sb=>?_
  have I1:Inv X pins σ H {s with heap:=h'}:=I.turned (t':=s.toks) (fun b o hb e=>(sb.2 b hb).trans e) f0 f1 f3 f4 f5
  obtain ⟨o,e,c,d⟩:=id st'
  exact ⟨u,rfl,xX (s:={s with heap:=h'}) e c d (by decide) ⟨x,H,I1,ru,⟨rfl,fun ys hy=>by rw [I.tuple_inj hy hq];exact hx⟩,st',fun b hb=>(hf b hb).1⟩⟩
 done:=by
  intro X hP hw hK hc i pins s σ H E I hf st hg
  subst hP hw hK
  obtain ⟨xs,hq,hx⟩:=hg
  obtain ⟨its,rv,p,hz⟩:=I.tuple hq
  obtain ⟨f0,f1,f2,f3,f4,f5⟩:=hf it (by simp)
  have hl:=rv.length
  exact wpAny_pyNext_tuple_end (I.ok.hd hc) st (show s.heap.IsTuple a its.toArray from p) (by simp;omega) fun h' eb=>⟨rfl,I.turned (t':=s.toks) (fun b o hb e=>eb b o hb e) f0 f1 f3 f4 f5⟩
 self:=fun _ _ _ _ _ st h=>wpAny_pyIter_tupleiter st h
theorem zV {P:Program} {w:World} {K:PySem.W.Frag} {tg:Expr} (it:Addr) (lo:Int) (n:Nat):Turn P w K tg (Gf lo n) [it] it (fun i h=>IsRangeIter h it (lo+(i:Nat)*1) ((n:Int) - (i:Nat)) 1) where
 mem:=by simp
 obj:=fun i h st b hb=>by
  have e:b=it:=by simpa using hb
  subst e
  exact ⟨_,st,fun v z=>by
   have z':Data.fields _=Data.cell v:=z
   cases z'⟩
 keep:=fun i h h' st k=>k it (by simp) _ st
 item:=by
  intro X hP hw hK hc i pins s σ H E I hf st hg
  subst hP hw hK
  obtain ⟨f0,f1,f2,f3,f4,f5⟩:=hf it (by simp)
  have W:=Walks.range (prog:=X.prog) (w:=X.w) (I.ok.hd hc) it lo 1 n
  refine W.item i s _ _ hg st fun v h' tk hv st' kk=>?_
  obtain ⟨t,rfl⟩:=hv
  have I1:Inv X pins σ H {s with heap:=h',toks:=tk}:=I.turned (fun b o hb e=>kk b o (by simpa using hb) e) f0 f1 f3 f4 f5
  refine ⟨_,rfl,xX (s:={s with heap:=h',toks:=tk}) (n:="range_iterator") st' rfl rfl (by decide) ⟨.int (lo+i),H,I1,⟨t,?_⟩,⟨rfl,rfl⟩,st',fun b hb=>(hf b hb).1⟩⟩
  rw [Int.mul_one]
 done:=by
  intro X hP hw hK hc i pins s σ H E I hf st hg
  subst hP hw hK
  obtain ⟨f0,f1,f2,f3,f4,f5⟩:=hf it (by simp)
  exact wpAny_pyNext_range_end (I.ok.hd hc) st (by have:n≤i:=hg;omega) fun h' eb=>⟨rfl,I.turned (t':=s.toks) (fun b o hb e=>eb b o hb e) f0 f1 f3 f4 f5⟩
 self:=fun _ _ _ _ _ st h=>wpAny_pyIter_rangeiter st h
end L2
namespace L2
open PySem PySem.Spec PyProof.Rows
section
variable {X:Cx} {tg:Expr}
theorem xY {pins:List (Addr×Obj)} {σ:St} {H:Hp} {s:Shared} {R:It→Hp→Prop} {E:Value→Shared→Prop} {lo hi:Int} {t u v:Tok} {tk:Nat} (I:Inv X pins σ H s) (h1: -(2 ^ 62)≤lo) (h2:lo < 2 ^ 62) (h3: -(2 ^ 62)≤hi) (h4:hi < 2 ^ 62)
  (q:R (Gf lo (hi - lo).toNat) H):wpAny (model X.prog X.w) X.A (pyIter (.ref s.heap.objs.size)) (PIE X pins σ tg R) E {s with heap:=s.heap.push {cls:=.type "range",data:=.fields #[.int lo t,.int hi u,.int 1 v]},toks:=tk}:=by
 refine wpAny_pyIter_range (IsRange.new ..) (small_one h1 h2 h3 h4) ?_
 have I1:Inv X pins σ H {s with heap:=s.heap.push {cls:=.type "range",data:=.fields #[.int lo t,.int hi u,.int 1 v]},toks:=tk}:=I.kept fun b o e=>Heap.get?_push_of_some _ e
 refine ⟨(s.heap.push {cls:=.type "range",data:=.fields #[.int lo t,.int hi u,.int 1 v]}).objs.size,[(s.heap.push {cls:=.type "range",data:=.fields #[.int lo t,.int hi u,.int 1 v]}).objs.size],_,_,H,rfl,
  I1.kept (t':=tk) fun b o e=>Heap.get?_push_of_some _ e,zV _ lo (hi - lo).toNat,?_,fun b hb=>?_,q⟩
 ·have e1:lo+((0:Nat):Int)*1=lo:=by simp
  have e2:(((hi - lo).toNat:Nat):Int) - ((0:Nat):Int)=Builtin.Range.rangeSize lo hi 1:=by rw [rangeSize_one];split <;> omega
  show IsRangeIter _ _ (lo+((0:Nat):Int)*1) ((((hi - lo).toNat:Nat):Int) - ((0:Nat):Int)) 1
  rw [e1,e2]
  exact Heap.get?_push_size _ rfl
 ·have e:b=(s.heap.push {cls:=.type "range",data:=.fields #[.int lo t,.int hi u,.int 1 v]}).objs.size:=by simpa using hb
  subst e
  exact I1.fpOk (Nat.le_refl _) (I1.hok.fresh (Nat.le_refl _))
def Gy (ta:TA):TI:=fun σ H R=>ta σ H fun vs H1=>∃ j:Int,vs=[.int j]∧-(2 ^ 62)≤j∧j < 2 ^ 62∧R (Gf 0 j.toNat) H1
def Gz (ta:TA):TI:=fun σ H R=>ta σ H fun vs H1=>∃ i j:Int,vs=[.int i,.int j]∧(-(2 ^ 62)≤i∧i < 2 ^ 62∧-(2 ^ 62)≤j∧j < 2 ^ 62)∧R (Gf i (j - i).toNat) H1
theorem Dt {a:Expr} {ta:TA} {p pos:Pos} (hg:Gl X "range") (hm:X.mg "range"=none) (ha:PA X [a] ta) (hs:autoParam (starEach [a] X.env=[(false,eval a X.env)]) L2.auto4._auto_1):PI X tg (.Call (.Name "range" p) [a] [] pos) (Gy ta):=by
 intro pins s σ H R I h
 refine Call_ (jk I hg hm boot_range (PyProof.Rows.callWith_type1 (eZ (ha pos pins s σ H _ I h) fun us s1 ⟨vs,H1,I1,r1,q1⟩=>?_) hs rfl))
 obtain ⟨j,e,q1,q2,q⟩:=q1
 subst e
 cases r1 with
 | cons r rr=>
  cases rr
  obtain ⟨t,rfl⟩:=r
  exact call_range_1 (xY I1 (by omega) (by omega) q1 q2 (by simpa using q))
theorem Du {a b:Expr} {ta:TA} {p pos:Pos} (hg:Gl X "range") (hm:X.mg "range"=none) (ha:PA X [a,b] ta) (hs:autoParam (starEach [a,b] X.env=[(false,eval a X.env),(false,eval b X.env)]) L2.auto4._auto_1) (hs2:autoParam (starEach [b] X.env=[(false,eval b X.env)]) L2.auto4._auto_1):
  PI X tg (.Call (.Name "range" p) [a,b] [] pos) (Gz ta):=by
 intro pins s σ H R I h
 refine Call_ (jk I hg hm boot_range (PyProof.Rows.callWith_type1 (eZ (ha pos pins s σ H _ I h) fun us s1 qq0=>?_) (by rw [hs,hs2]) (by rw [hs2];rfl)))
 obtain ⟨vs,H1,I1,r1,q1⟩:=qq0
 obtain ⟨i,j,e,⟨q1,q2,q3,q4⟩,q⟩:=q1
 subst e
 cases r1 with
 | cons r rr=>
  cases rr with
  | cons r' rr=>
   cases rr
   obtain ⟨t,rfl⟩:=r
   obtain ⟨t',rfl⟩:=r'
   exact call_range_2 (xY I1 q1 q2 q3 q4 q)
def KY (wi:TI) (g:TG) (tb:TS):TS:=fun D σ H=>wi σ H fun J H1=>∃ W:Nat→Nat→St→Hp→Prop,(∃ m,W 0 m σ H1)∧∀ i m σ H,W i m σ H→
 (J.stop i H∧D.nx σ H)∨(J.go i H∧∃ N:St→Hp→Prop,(∀ σ' H',N σ' H'→∃ m',m' < m∧W (i+1) m' σ' H')∧∀ x H',J.yld i H x H'→g x σ H' fun σ2 H2=>tb {D with nx:=N,ct:=N,bk:=D.nx} σ2 H2)
def qJ (fp:List Addr) (h:Heap):List (Addr×Obj):=fp.filterMap fun b=>(h.get? b).map fun o=>(b,o)
theorem mD {fp:List Addr} {h:Heap} {b:Addr} {o:Obj} (hb:b∈fp) (e:h.get? b=some o):(b,o)∈qJ fp h:=List.mem_filterMap.mpr ⟨b,hb,by rw [e];rfl⟩
theorem Dv {fp:List Addr} {h:Heap} {p:Addr×Obj} (hp:p∈qJ fp h):p.1∈fp∧h.get? p.1=some p.2:=by
 obtain ⟨b,hb,e⟩:=List.mem_filterMap.mp hp
 cases q:h.get? b with
 | none=>rw [q] at e;cases e
 | some o=>
  rw [q] at e
  have e':(b,o)=p:=Option.some.inj e
  subst e'
  exact ⟨hb,q⟩
theorem Inv.pinned {pins:List (Addr×Obj)} {σ:St} {H:Hp} {s:Shared} {fp:List Addr} (I:Inv X pins σ H s) (hf:∀ b∈fp,kY X pins H b) (ho:∀ b∈fp,∃ o,s.heap.get? b=some o∧∀ v,o.data≠.cell v):Inv X (pins ++ qJ fp s.heap) σ H s:=
 I.pins_of fun p hp=>(List.mem_append.mp hp).elim (fun z=>I.pin p (List.mem_append_right _ z)) fun z=>by
  obtain ⟨hb,e⟩:=Dv z
  obtain ⟨f0,f1,f2,_⟩:=hf p.1 hb
  obtain ⟨o,e',d⟩:=ho p.1 hb
  rw [e] at e';cases e'
  exact ⟨e,f0,f1,f2,d⟩
theorem Inv.unpinned {pins pl:List (Addr×Obj)} {σ:St} {H:Hp} {s:Shared} (I:Inv X (pins ++ pl) σ H s):Inv X pins σ H s:=I.pins_of fun p hp=>I.pin p (List.mem_append_right _ (List.mem_append_left _ hp))
theorem Q4 {iter:Expr} {body:List Stmt} {wi:TI} {g:TG} {tb:TS} {pos:Pos} (hp:PassesOwn (model X.prog X.w) X.A X.env X.xe) (hc:X.calm=true) (hi:PI X tg iter wi) (hg:PG X tg g) (hb:PSs X body tb)
  (hs:autoParam (∀ x,foldedSetIterable iter X.env x=pure x) L2.auto3._auto_1):PS X (.For tg iter body [] pos) (KY wi g tb):=by
 intro pins s σ H D I h
 refine wpAny_For (eZ (hi pins s σ H _ I h) fun v s1 h1=>eZ h1 fun itv s2 h2=>?_) hs
 obtain ⟨it,fp,tn,J,H2,e,I2,T,st2,f2,W,⟨m0,w0⟩,turn⟩:=h2
 subst e
 have stat:∀ {H':Hp},(∀ b∈fp,H' b=none)→∀ b∈fp,kY X pins H' b:=fun hn b hb=>⟨hn b hb,(f2 b hb).2⟩
 refine codeAny_forLoop_any (fun n s'=>∃ i σ' H',Inv X pins σ' H' s'∧tn i s'.heap∧(∀ b∈fp,H' b=none)∧W i n σ' H') ?_ m0 ⟨0,σ,H2,I2,st2,fun b hb=>(f2 b hb).1,w0⟩
 rintro n s3 ⟨i,σ3,H3,I3,st3,fr3,w3⟩
 rcases turn i n σ3 H3 w3 with ⟨stop,qn⟩ | ⟨go,N,hN,step⟩
 ·refine wpAny_passesOwn hp (eZ (T.done X rfl rfl rfl hc i pins s3 σ3 H3 X.xe I3 (stat fr3) st3 stop) fun r s4 qq0=>?_)
  obtain ⟨hr,I4⟩:=qq0
  subst hr
  exact wpAny_execs_nil ⟨σ3,H3,I4,qn⟩
 ·refine wpAny_passesOwn hp (eZ (T.item X rfl rfl rfl hc i pins s3 σ3 H3 X.xe I3 (stat fr3) st3 go) fun r s4 qq0=>?_)
  obtain ⟨u,hr,h4⟩:=qq0
  subst hr
  refine wpAny_passesOwn hp (eZ h4 fun _ s5 qq0=>?_)
  obtain ⟨x,H5,I5,r5,y5,st5,fr5⟩:=qq0
  have I5':=I5.pinned (stat fr5) (T.obj _ _ st5)
  refine wpAny_passesOwn hp (eZ (hg _ s5 σ3 H5 x u _ I5' r5 (step x H5 y5)) fun _ s6 qq0=>?_)
  obtain ⟨σ6,H6,I6,q6⟩:=qq0
  refine wpAny_passesOwn hp (eZ (hb _ s6 σ6 H6 _ I6 q6) fun f s7 q7=>?_)
  have again:∀ {σ7:St} {H7:Hp},Inv X (pins ++ qJ fp s5.heap) σ7 H7 s7→N σ7 H7→∃ m,m < n∧∃ i σ' H',Inv X pins σ' H' s7∧tn i s7.heap∧(∀ b∈fp,H' b=none)∧W i m σ' H':=fun {σ7 H7} I7 n7=>by
   obtain ⟨m',hm,w7⟩:=hN σ7 H7 n7
   refine ⟨m',hm,i+1,σ7,H7,I7.unpinned,T.keep _ _ _ st5 fun b hb o e=>(I7.pin (b,o) (List.mem_append_right _ (List.mem_append_right _ (mD hb e)))).1,fun b hb=>?_,w7⟩
   obtain ⟨o,e,d⟩:=T.obj _ _ st5 b hb
   exact (I7.pin (b,o) (List.mem_append_right _ (List.mem_append_right _ (mD hb e)))).2.1
  cases f with
  | next=>obtain ⟨σ7,H7,I7,n7⟩:=q7;exact again I7 n7
  | cont=>obtain ⟨σ7,H7,I7,n7⟩:=q7;exact again I7 n7
  | brk=>obtain ⟨σ7,H7,I7,q7⟩:=q7;exact ⟨σ7,H7,I7.unpinned,q7⟩
  | ret v=>obtain ⟨x7,σ7,H7,I7,r7,q7⟩:=q7;exact ⟨x7,σ7,H7,I7.unpinned,r7,q7⟩
end
theorem tH {K:PySem.W.Frag} {a:Addr} {xs:List V} {g:TG} {tb:TS} {D:Ends} {σ:St} {H:Hp} (Pv:Nat→St→Hp→Prop) (h0:Pv 0 σ H) (hl:∀ i σ H,i≤xs.length→Pv i σ H→SqL K H a xs)
  (hs:∀ i x σ H,xs[i]?=some x→Pv i σ H→g x σ H fun σ2 H2=>tb {D with nx:=Pv (i+1),ct:=Pv (i+1),bk:=D.nx} σ2 H2) (hd:∀ σ H,Pv xs.length σ H→D.nx σ H):
  ∃ W:Nat→Nat→St→Hp→Prop,(∃ m,W 0 m σ H)∧∀ i m σ H,W i m σ H→
   ((PK K a).stop i H∧D.nx σ H)∨((PK K a).go i H∧∃ N:St→Hp→Prop,(∀ σ' H',N σ' H'→∃ m',m' < m∧W (i+1) m' σ' H')∧∀ x H',(PK K a).yld i H x H'→g x σ H' fun σ2 H2=>tb {D with nx:=N,ct:=N,bk:=D.nx} σ2 H2):=by
 refine ⟨fun i m σ H=>m=xs.length - i∧i≤xs.length∧Pv i σ H,⟨xs.length,by simp,Nat.zero_le _,h0⟩,?_⟩
 rintro i m σ H ⟨rfl,hi,p⟩
 have q:=hl i σ H hi p
 by_cases hlt:i < xs.length
 ·refine .inr ⟨⟨xs,xs[i],q,by simp [hlt]⟩,Pv (i+1),fun σ' H' p'=>⟨xs.length - (i+1),by omega,rfl,hlt,p'⟩,fun x H' y=>?_⟩
  obtain ⟨e,y⟩:=y
  subst e
  exact hs i x σ _ (y xs q) p
 ·have e:i=xs.length:=by omega
  subst e
  exact .inl ⟨⟨xs,q,Nat.le_refl _⟩,hd σ H p⟩
theorem By {K:PySem.W.Frag} {a:Addr} {xs:List V} {g:TG} {tb:TS} {D:Ends} {σ:St} {H:Hp} (Pv:Nat→St→Hp→Prop) (h0:Pv 0 σ H) (hl:∀ i σ H,i≤xs.length→Pv i σ H→SqT K H a xs)
  (hs:∀ i x σ H,xs[i]?=some x→Pv i σ H→g x σ H fun σ2 H2=>tb {D with nx:=Pv (i+1),ct:=Pv (i+1),bk:=D.nx} σ2 H2) (hd:∀ σ H,Pv xs.length σ H→D.nx σ H):
  ∃ W:Nat→Nat→St→Hp→Prop,(∃ m,W 0 m σ H)∧∀ i m σ H,W i m σ H→
   ((UG K a).stop i H∧D.nx σ H)∨((UG K a).go i H∧∃ N:St→Hp→Prop,(∀ σ' H',N σ' H'→∃ m',m' < m∧W (i+1) m' σ' H')∧∀ x H',(UG K a).yld i H x H'→g x σ H' fun σ2 H2=>tb {D with nx:=N,ct:=N,bk:=D.nx} σ2 H2):=by
 refine ⟨fun i m σ H=>m=xs.length - i∧i≤xs.length∧Pv i σ H,⟨xs.length,by simp,Nat.zero_le _,h0⟩,?_⟩
 rintro i m σ H ⟨rfl,hi,p⟩
 have q:=hl i σ H hi p
 by_cases hlt:i < xs.length
 ·refine .inr ⟨⟨xs,xs[i],q,by simp [hlt]⟩,Pv (i+1),fun σ' H' p'=>⟨xs.length - (i+1),by omega,rfl,hlt,p'⟩,fun x H' y=>?_⟩
  obtain ⟨e,y⟩:=y
  subst e
  exact hs i x σ _ (y xs q) p
 ·have e:i=xs.length:=by omega
  subst e
  exact .inl ⟨⟨xs,q,Nat.le_refl _⟩,hd σ H p⟩
theorem oE {lo:Int} {n:Nat} {g:TG} {tb:TS} {D:Ends} {σ:St} {H:Hp} (Pv:Nat→St→Hp→Prop) (h0:Pv 0 σ H)
  (hs:∀ i σ H,i < n→Pv i σ H→g (.int (lo+i)) σ H fun σ2 H2=>tb {D with nx:=Pv (i+1),ct:=Pv (i+1),bk:=D.nx} σ2 H2) (hd:∀ σ H,Pv n σ H→D.nx σ H):
  ∃ W:Nat→Nat→St→Hp→Prop,(∃ m,W 0 m σ H)∧∀ i m σ H,W i m σ H→
   ((Gf lo n).stop i H∧D.nx σ H)∨((Gf lo n).go i H∧∃ N:St→Hp→Prop,(∀ σ' H',N σ' H'→∃ m',m' < m∧W (i+1) m' σ' H')∧∀ x H',(Gf lo n).yld i H x H'→g x σ H' fun σ2 H2=>tb {D with nx:=N,ct:=N,bk:=D.nx} σ2 H2):=by
 refine ⟨fun i m σ H=>m=n - i∧i≤n∧Pv i σ H,⟨n,by simp,Nat.zero_le _,h0⟩,?_⟩
 rintro i m σ H ⟨rfl,hi,p⟩
 by_cases hlt:i < n
 ·refine .inr ⟨hlt,Pv (i+1),fun σ' H' p'=>⟨n - (i+1),by omega,rfl,hlt,p'⟩,fun x H' y=>?_⟩
  obtain ⟨e,y⟩:=y
  subst e y
  exact hs i σ _ hlt p
 ·have e:i=n:=by omega
  subst e
  exact .inl ⟨Nat.le_refl _,hd σ H p⟩
theorem GC {c:TT} {tb:TS} {D:Ends} {σ:St} {H:Hp} (Pv:St→Hp→Prop) (μ:St→Hp→Nat) (h0:Pv σ H)
  (hs:∀ σ H,Pv σ H→c σ H fun b H1=>if b=true then tb {D with nx:=fun σ' H'=>Pv σ' H'∧μ σ' H' < μ σ H,ct:=fun σ' H'=>Pv σ' H'∧μ σ' H' < μ σ H,bk:=D.nx} σ H1 else D.nx σ H1)
  (mono:∀ σ H Q Q',(∀ b H1,Q b H1→Q' b H1)→c σ H Q→c σ H Q'):zR c tb D σ H:=by
 refine ⟨fun m σ H=>m=μ σ H∧Pv σ H,⟨_,rfl,h0⟩,?_⟩
 rintro m σ H ⟨rfl,p⟩
 refine mono σ H _ _ (fun b H1 q=>?_) (hs σ H p)
 cases b with
 | true=>exact ⟨_,fun σ' H' ⟨p',l⟩=>⟨_,l,rfl,p'⟩,q⟩
 | false=>exact q
end L2
namespace L2
open PySem PySem.Spec PyProof.Rows
abbrev R2:=V→V→Hp→VK→Prop
def OpR (X:Cx) (f:Value→Value→Sem Value) (r:R2):Prop:=
 ∀ (pins:List (Addr×Obj)) (s:Shared) (σ:St) (H:Hp) (x y:V) (v u:Value) (Q:VK),Inv X pins σ H s→RelV x v→RelV y u→r x y H Q→
  wpAny (model X.prog X.w) X.A (f v u) (EP X pins σ Q) X.xe s
def CallR (X:Cx) (f:Value) (r:List V→Hp→VK→Prop):Prop:=
 ∀ (pins:List (Addr×Obj)) (s:Shared) (σ:St) (H:Hp) (xs:List V) (us:List Value) (Q:VK),Inv X pins σ H s→Vals xs us→r xs H Q→
  wpAny (model X.prog X.w) X.A (call f us) (EP X pins σ Q) X.xe s
def GD (r:R2) (ta tb:TE):TE:=fun σ H Q=>ta σ H fun x H1=>tb σ H1 fun y H2=>r x y H2 Q
def rI (C:Int→Int→Prop) (g:Int→Int→V):R2:=fun x y H Q=>∃ i j,x= .int i∧y= .int j∧C i j∧Q (g i j) H
def GF (g:Int→Int→V):R2:=fun x y H Q=>∃ i j,x= .int i∧y= .int j∧Q (g i j) H
section
variable {X:Cx} {a b c:Expr} {ta tb tc:TE} {pos:Pos}
theorem Q5 (ha:PE X a ta) (hb:PE X b tb) {pins:List (Addr×Obj)} {s:Shared} {σ:St} {H:Hp} {R:V→V→Hp→Prop} (I:Inv X pins σ H s)
  (h:ta σ H fun x H1=>tb σ H1 fun y H2=>R x y H2) {Q:Value→Shared→Prop} {f:Value→Value→Sem Value}
  (hf:∀ v u s2 x y H2,Inv X pins σ H2 s2→RelV x v→RelV y u→R x y H2→wpAny (model X.prog X.w) X.A (f v u) Q X.xe s2):
  wpAny (model X.prog X.w) X.A (eval a X.env) (fun v s₁=>wpAny (model X.prog X.w) X.A (eval b X.env) (fun u s₂=>wpAny (model X.prog X.w) X.A (f v u) Q X.xe s₂) X.xe s₁) X.xe s:=by
 refine eZ (ha pins s σ H _ I h) fun v s1 qq0=>?_
 obtain ⟨x,H1,I1,r1,q1⟩:=qq0
 refine eZ (hb pins s1 σ H1 _ I1 q1) fun u s2 qq0=>?_
 obtain ⟨y,H2,I2,r2,q2⟩:=qq0
 exact hf v u s2 x y H2 I2 r1 r2 q2
theorem U9 {op:Operator} {r:R2} (ho:OpR X (binaryOp op) r) (ha:PE X a ta) (hb:PE X b tb):PE X (.BinOp a op b pos) (GD r ta tb):=by
 intro pins s σ H Q I h
 exact wpAny_BinOp (Q5 ha hb I h fun v u s2 x y H2 I2 rx ry q=>ho pins s2 σ H2 x y v u Q I2 rx ry q)
theorem Va {f:Value→Value→Sem Value} {C:Int→Int→Prop} {g:Int→Int→Int}
  (rule:∀ (i j:Int) (t u:Tok) (s:Shared) (Q:Value→Shared→Prop) (E:Value→Shared→Prop),C i j→Q (.int (g i j) s.toks) {s with toks:=s.toks+1}→wpAny (model X.prog X.w) X.A (f (.int i t) (.int j u)) Q E s):
  OpR X f (rI C fun i j=>.int (g i j)):=by
 intro pins s σ H x y v u Q I rx ry h
 obtain ⟨i,j,rfl,rfl,hc,q⟩:=h
 obtain ⟨t,rfl⟩:=rx
 obtain ⟨t',rfl⟩:=ry
 exact rule i j t t' s _ _ hc ⟨.int (g i j),H,I.tok _,⟨_,rfl⟩,q⟩
theorem Q6 {f:Value→Value→Sem Value} {g:Int→Int→Int}
  (rule:∀ (i j:Int) (t u:Tok) (s:Shared) (Q:Value→Shared→Prop) (E:Value→Shared→Prop),Q (.int (g i j) s.toks) {s with toks:=s.toks+1}→wpAny (model X.prog X.w) X.A (f (.int i t) (.int j u)) Q E s):
  OpR X f (GF fun i j=>.int (g i j)):=by
 intro pins s σ H x y v u Q I rx ry h
 obtain ⟨i,j,rfl,rfl,q⟩:=h
 obtain ⟨t,rfl⟩:=rx
 obtain ⟨t',rfl⟩:=ry
 exact rule i j t t' s _ _ ⟨.int (g i j),H,I.tok _,⟨_,rfl⟩,q⟩
theorem KZ {f:Value→Value→Sem Value} {g:Int→Int→Bool}
  (rule:∀ (i j:Int) (t u:Tok) (s:Shared) (Q:Value→Shared→Prop) (E:Value→Shared→Prop),Q (.bool (g i j)) s→wpAny (model X.prog X.w) X.A (f (.int i t) (.int j u)) Q E s):
  OpR X f (GF fun i j=>.bl (g i j)):=by
 intro pins s σ H x y v u Q I rx ry h
 obtain ⟨i,j,rfl,rfl,q⟩:=h
 obtain ⟨t,rfl⟩:=rx
 obtain ⟨t',rfl⟩:=ry
 exact rule i j t t' s _ _ ⟨.bl (g i j),H,I,rfl,q⟩
def CDiv (i j:Int):Prop:=0 < j∧j < 1073741824
def CPow (i j:Int):Prop:=0≤j∧j≤1000000∧i.natAbs < 2 ^ 64
def CMul (i j:Int):Prop:=(-(2 ^ 64) < i∧i < 2 ^ 64)∨(-(2 ^ 64) < j∧j < 2 ^ 64)
theorem CMul.ok {i j:Int} (h:CMul i j):IntMulOk i j:=by
 rcases h with ⟨h1,h2⟩ | ⟨h1,h2⟩
 ·exact .of_left (intBits_le_64 h1 h2)
 ·exact .of_right (intBits_le_64 h1 h2)
theorem Q7:OpR X (binaryOp .Add) (GF fun i j=>.int (i+j)):=Q6 fun _ _ _ _ _ _ _ q=>add_int q
theorem jU:OpR X (binaryOp .Sub) (GF fun i j=>.int (i - j)):=Q6 fun _ _ _ _ _ _ _ q=>sub_int q
theorem Q8:OpR X (binaryOp .Mult) (rI CMul fun i j=>.int (i*j)):=Va fun _ _ _ _ _ _ _ hc q=>mul_int q hc.ok
theorem sO:OpR X (binaryOp .FloorDiv) (rI CDiv fun i j=>.int (i / j)):=Va fun i j _ _ _ _ _ hc q=>by
 have h1:(0:Int) < j:=hc.1
 have h2:j < 1073741824:=hc.2
 exact floordiv_int (by omega) (by rw [Int.fdiv_eq_ediv_of_nonneg i (by omega)];exact q) (.inl (PyProof.noPylong_small (by omega)))
theorem ik:OpR X (binaryOp .Mod) (rI (fun _ j=>0 < j) fun i j=>.int (i % j)):=Va fun i j _ _ _ _ _ hc q=>by
 have h1:(0:Int) < j:=hc
 exact mod_int' (by omega) (by rw [Int.fmod_eq_emod_of_nonneg i (by omega)];exact q)
theorem Q9:OpR X (binaryOp .Pow) (rI CPow fun i j=>.int (i ^ j.toNat)):=Va fun _ _ _ _ _ _ _ hc q=>pow_int_small hc.1 hc.2.1 hc.2.2 q
theorem K1:OpR X (inplaceOp .Sub) (GF fun i j=>.int (i - j)):=Q6 fun _ _ _ _ _ _ _ q=>isub_int q
end
def Vb:V→V→Bool
 | .non,.non=>true | .non,.int _=>true | .int _,.non=>true | .non,.bl _=>true | .bl _,.non=>true | .non,.str _=>true | .str _,.non=>true
 | .int _,.int _=>true | .bl _,.bl _=>true | .str _,.str _=>true | .byt _,.byt _=>true
 | .int _,.str _=>true | .str _,.int _=>true | .bl _,.str _=>true | .str _,.bl _=>true
 | _,_=>false
def rEq:R2:=fun x y H Q=>Vb x y=true∧Q (.bl (decide (x=y))) H
def rNe:R2:=fun x y H Q=>Vb x y=true∧Q (.bl (!decide (x=y))) H
theorem BJ {i j:Int}:decide (V.int i=V.int j)=(i == j):=by
 rw [Bool.eq_iff_iff]
 simp
theorem GJ {i j:Bool}:decide (V.bl i=V.bl j)=(i == j):=by
 rw [Bool.eq_iff_iff]
 simp
theorem BK {i j:Str}:decide (V.str i=V.str j)=(i == j):=by
 rw [Bool.eq_iff_iff]
 simp
theorem BL {i j:Array UInt8}:decide (V.byt i=V.byt j)=(i.toList == j.toList):=by
 rw [Bool.eq_iff_iff]
 cases i
 cases j
 simp
section
variable {X:Cx} {a b c:Expr} {ta tb tc:TE} {pos:Pos}
theorem bR {pins:List (Addr×Obj)} {σ:St} {H:Hp} {s:Shared} {Q:VK} {k k':Bool} (I:Inv X pins σ H s) (q:Q (.bl k) H) (e:k=k'):EP X pins σ Q (.bool k') s:=by
 subst e
 exact ⟨.bl k,H,I,rfl,q⟩
theorem Vc:OpR X (compareOp .Eq) rEq:=by
 intro pins s σ H x y v u Q I rx ry h
 obtain ⟨hs,q⟩:=h
 cases x with
 | non=>
  cases rx
  cases y with
  | non=>cases ry;exact PySem.EqNone.eq_none_none (bR I q (by simp))
  | bl j=>cases ry;exact PySem.EqNone.eq_none_bool (bR I q (by simp))
  | int j=>obtain ⟨t',rfl⟩:=ry;exact PySem.EqNone.eq_none_int (bR I q (by simp))
  | str j=>obtain ⟨t',rfl⟩:=ry;exact PySem.EqNone.eq_none_str (bR I q (by simp))
  | _=>exact absurd (show false=true from hs) Bool.false_ne_true
 | bl i=>
  cases rx
  cases y with
  | non=>cases ry;exact PySem.EqNone.eq_bool_none (bR I q (by simp))
  | bl j=>cases ry;exact eq_bool (bR I q GJ)
  | str j=>obtain ⟨t',rfl⟩:=ry;exact PySem.EqMixed.eq_bool_str (bR I q (by simp))
  | _=>exact absurd (show false=true from hs) Bool.false_ne_true
 | int i=>
  obtain ⟨t,rfl⟩:=rx
  cases y with
  | non=>cases ry;exact PySem.EqNone.eq_int_none (bR I q (by simp))
  | int j=>obtain ⟨t',rfl⟩:=ry;exact eq_int (bR I q BJ)
  | str j=>obtain ⟨t',rfl⟩:=ry;exact PySem.EqMixed.eq_int_str (bR I q (by simp))
  | _=>exact absurd (show false=true from hs) Bool.false_ne_true
 | str i=>
  obtain ⟨t,rfl⟩:=rx
  cases y with
  | non=>cases ry;exact PySem.EqNone.eq_str_none (bR I q (by simp))
  | bl j=>cases ry;exact PySem.EqMixed.eq_str_bool (bR I q (by simp))
  | int j=>obtain ⟨t',rfl⟩:=ry;exact PySem.EqMixed.eq_str_int (bR I q (by simp))
  | str j=>obtain ⟨t',rfl⟩:=ry;exact eq_str (bR I q BK)
  | _=>exact absurd (show false=true from hs) Bool.false_ne_true
 | byt i=>
  obtain ⟨t,rfl⟩:=rx
  cases y with
  | byt j=>obtain ⟨t',rfl⟩:=ry;exact PySem.W.eq_bytes (bR I q BL)
  | _=>exact absurd (show false=true from hs) Bool.false_ne_true
 | _=>cases y <;> exact absurd (show false=true from hs) Bool.false_ne_true
theorem Vd:OpR X (compareOp .NotEq) rNe:=by
 intro pins s σ H x y v u Q I rx ry h
 obtain ⟨hs,q⟩:=h
 cases x with
 | non=>
  cases rx
  cases y with
  | non=>cases ry;exact PySem.EqNone.ne_none_none (bR I q (by simp))
  | bl j=>cases ry;exact PySem.EqNone.ne_none_bool (bR I q (by simp))
  | int j=>obtain ⟨t',rfl⟩:=ry;exact PySem.EqNone.ne_none_int (bR I q (by simp))
  | str j=>obtain ⟨t',rfl⟩:=ry;exact PySem.EqNone.ne_none_str (bR I q (by simp))
  | _=>exact absurd (show false=true from hs) Bool.false_ne_true
 | bl i=>
  cases rx
  cases y with
  | non=>cases ry;exact PySem.EqNone.ne_bool_none (bR I q (by simp))
  | bl j=>cases ry;exact ne_bool (bR I q (congrArg not GJ))
  | str j=>obtain ⟨t',rfl⟩:=ry;exact PySem.EqMixed.ne_bool_str (bR I q (by simp))
  | _=>exact absurd (show false=true from hs) Bool.false_ne_true
 | int i=>
  obtain ⟨t,rfl⟩:=rx
  cases y with
  | non=>cases ry;exact PySem.EqNone.ne_int_none (bR I q (by simp))
  | int j=>obtain ⟨t',rfl⟩:=ry;exact ne_int (bR I q (congrArg not BJ))
  | str j=>obtain ⟨t',rfl⟩:=ry;exact PySem.EqMixed.ne_int_str (bR I q (by simp))
  | _=>exact absurd (show false=true from hs) Bool.false_ne_true
 | str i=>
  obtain ⟨t,rfl⟩:=rx
  cases y with
  | non=>cases ry;exact PySem.EqNone.ne_str_none (bR I q (by simp))
  | bl j=>cases ry;exact PySem.EqMixed.ne_str_bool (bR I q (by simp))
  | int j=>obtain ⟨t',rfl⟩:=ry;exact PySem.EqMixed.ne_str_int (bR I q (by simp))
  | str j=>obtain ⟨t',rfl⟩:=ry;exact ne_str (bR I q (congrArg not BK))
  | _=>exact absurd (show false=true from hs) Bool.false_ne_true
 | byt i=>
  obtain ⟨t,rfl⟩:=rx
  cases y with
  | byt j=>obtain ⟨t',rfl⟩:=ry;exact PySem.W.ne_bytes (bR I q (congrArg not BL))
  | _=>exact absurd (show false=true from hs) Bool.false_ne_true
 | _=>cases y <;> exact absurd (show false=true from hs) Bool.false_ne_true
theorem GK:OpR X (compareOp .Lt) (GF fun i j=>.bl (decide (i < j))):=KZ fun _ _ _ _ _ _ _ q=>lt_int q
theorem PL:OpR X (compareOp .LtE) (GF fun i j=>.bl (decide (i≤j))):=KZ fun _ _ _ _ _ _ _ q=>le_int q
theorem rz:OpR X (compareOp .Gt) (GF fun i j=>.bl (decide (j < i))):=KZ fun _ _ _ _ _ _ _ q=>gt_int q
theorem Ve:OpR X (compareOp .GtE) (GF fun i j=>.bl (decide (j≤i))):=KZ fun _ _ _ _ _ _ _ q=>ge_int q
theorem Dw:OpR X (compareOp .In) (fun x y H Q=>∃ i j,x= .str i∧y= .str j∧Q (.bl (!(Builtin.Str.occurrences j i 0 j.length 1).isEmpty)) H):=by
 intro pins s σ H x y v u Q I rx ry h
 obtain ⟨i,j,rfl,rfl,q⟩:=h
 obtain ⟨t,rfl⟩:=rx
 obtain ⟨t',rfl⟩:=ry
 exact in_str (bR I q rfl)
theorem OpR.or {f:Value→Value→Sem Value} {r r':R2} (h:OpR X f r) (h':OpR X f r'):OpR X f (fun x y H Q=>r x y H Q∨r' x y H Q):=by
 intro pins s σ H x y v u Q I rx ry q
 rcases q with q | q
 ·exact h pins s σ H x y v u Q I rx ry q
 ·exact h' pins s σ H x y v u Q I rx ry q
theorem aW (b:Expr) {op:CmpOp} (h:autoParam (op≠.In) L2.auto2._auto_1) (h2:autoParam (op≠.NotIn) L2.auto2._auto_1):behindInMarks op b=false:=by
 have e1:(op == CmpOp.In)=false:=by cases op <;> first | rfl | exact absurd rfl h
 have e2:(op == CmpOp.NotIn)=false:=by cases op <;> first | rfl | exact absurd rfl h2
 cases b <;> simp [behindInMarks,e1,e2]
theorem K3 {op:CmpOp} {r:R2} (ho:OpR X (compareOp op) r) (ha:PE X a ta) (hb:PE X b tb) (hm:behindInMarks op b=false):PE X (.Compare a [op] [b] pos) (GD r ta tb):=by
 intro pins s σ H Q I h
 exact wpAny_Compare1 (Q5 ha hb I h fun v u s2 x y H2 I2 rx ry q=>ho pins s2 σ H2 x y v u Q I2 rx ry q) hm
def BP (t:TE):TT:=fun σ H Q=>t σ H fun x H'=>∃ k,x= .bl k∧Q k H'
theorem K4 {op:CmpOp} {r:R2} (ho:OpR X (compareOp op) r) (ha:PE X a ta) (hb:PE X b tb) (hm:behindInMarks op b=false):PT X (.Compare a [op] [b] pos) (BP (GD r ta tb)):=by
 intro pins s σ H Q I h
 refine wpAny_isTrue_Compare1 (eZ (ha pins s σ H _ I h) fun v s1 ⟨x,H1,I1,r1,q1⟩=>eZ (hb pins s1 σ H1 _ I1 q1) fun u s2 ⟨y,H2,I2,r2,q2⟩=>
  eZ (ho pins s2 σ H2 x y v u _ I2 r1 r2 q2) fun c s3 ⟨z,H3,I3,r3,k,e,q3⟩=>?_) hm
 subst e
 cases r3
 exact wpAny_truthy_bool ⟨H3,I3,q3⟩
def zW (r r':R2) (ta tb tc:TE):TE:=fun σ H Q=>ta σ H fun x H1=>tb σ H1 fun y H2=>r x y H2 fun z H3=>∃ k,z= .bl k∧
 (if k=true then tc σ H3 fun w' H4=>r' y w' H4 Q else Q (.bl false) H3)
theorem GQ {op op':CmpOp} {r r':R2} (ho:OpR X (compareOp op) r) (ho':OpR X (compareOp op') r') (ha:PE X a ta) (hb:PE X b tb) (hc:PE X c tc)
  (hm:autoParam (lastMarks [op,op'] [b,c]=false) L2.auto5._auto_1):PE X (.Compare a [op,op'] [b,c] pos) (zW r r' ta tb tc):=by
 intro pins s σ H Q I h
 refine Compare_chain (eZ (ha pins s σ H _ I h) fun v s1 ⟨x,H1,I1,r1,q1⟩=>chain_link (eZ (hb pins s1 σ H1 _ I1 q1) fun u s2 ⟨y,H2,I2,r2,q2⟩=>
  eZ (ho pins s2 σ H2 x y v u _ I2 r1 r2 q2) fun d s3 ⟨z,H3,I3,r3,k,e,q3⟩=>?_)) hm
 subst e
 cases r3
 refine wpAny_truthy_bool ?_
 cases k with
 | false=>exact ite_ff ⟨.bl false,H3,I3,rfl,q3⟩
 | true=>exact ite_tt (chain_last (eZ (hc pins s3 σ H3 _ I3 q3) fun w' s4 ⟨z',H4,I4,r4,q4⟩=>ho' pins s4 σ H4 y z' u w' Q I4 r2 r4 q4))
theorem tK:(sizeLine:Nat) < 2 ^ 63:=by rw [sizeLine_eq];decide
theorem zX:OpR X (binaryOp .Add) (fun x y H Q=>∃ i j,x= .str i∧y= .str j∧i.length+j.length≤sizeLine∧Q (.str (i ++ j)) H):=by
 intro pins s σ H x y v u Q I rx ry h
 obtain ⟨i,j,rfl,rfl,hz,q⟩:=h
 obtain ⟨t,rfl⟩:=rx
 obtain ⟨t',rfl⟩:=ry
 exact add_str (fun t' tk=>⟨.str (i ++ j),H,I.tok _,⟨_,rfl⟩,q⟩) hz
theorem vals1 {x:V} {us:List Value} (r:Vals [x] us):∃ u,us=[u]∧RelV x u:=by
 cases r with
 | cons r1 r2=>cases r2;exact ⟨_,rfl,r1⟩
theorem vals2 {x y:V} {us:List Value} (r:Vals [x,y] us):∃ u w',us=[u,w']∧RelV x u∧RelV y w':=by
 cases r with
 | cons r1 r2=>
  cases r2 with
  | cons r3 r4=>cases r4;exact ⟨_,_,rfl,r1,r3⟩
theorem Dy (hc:X.calm=true):CallR X (.builtin "max") (fun xs H Q=>∃ i j,xs=[.int i,.int j]∧Q (.int (if j > i then j else i)) H):=by
 intro pins s σ H xs us Q I r h
 obtain ⟨i,j,rfl,q⟩:=h
 obtain ⟨u,w',rfl,⟨t,rfl⟩,⟨t',rfl⟩⟩:=vals2 r
 refine max_two_ints (I.ok.hd hc) fun h' tk k=>⟨_,H,I.kept k,?_,q⟩
 by_cases hj:j > i
 ·rw [if_pos hj,if_pos hj];exact ⟨_,rfl⟩
 ·rw [if_neg hj,if_neg hj];exact ⟨_,rfl⟩
theorem uV (hc:X.calm=true):CallR X (.builtin "min") (fun xs H Q=>∃ i j,xs=[.int i,.int j]∧Q (.int (if j < i then j else i)) H):=by
 intro pins s σ H xs us Q I r h
 obtain ⟨i,j,rfl,q⟩:=h
 obtain ⟨u,w',rfl,⟨t,rfl⟩,⟨t',rfl⟩⟩:=vals2 r
 refine min_two_ints (I.ok.hd hc) fun h' tk k=>⟨_,H,I.kept k,?_,q⟩
 by_cases hj:j < i
 ·rw [if_pos hj,if_pos hj];exact ⟨_,rfl⟩
 ·rw [if_neg hj,if_neg hj];exact ⟨_,rfl⟩
def Vf (K:PySem.W.Frag) (x:V) (H:Hp) (n:Nat):Prop:=
 match x with
 | .str y=>y.length≤sizeLine∧n=y.length
 | .byt y=>y.size≤sizeLine∧n=y.size
 | .ref p=>(∃ xs,SqL K H p xs∧n=xs.length)∨∃ xs,SqT K H p xs∧n=xs.length
 | _=>False
theorem GR:CallR X (.builtin "len") (fun xs H Q=>∃ x n,xs=[x]∧Vf X.K x H n∧Q (.int n) H):=by
 intro pins s σ H xs us Q I r h
 obtain ⟨x,n,rfl,e,q⟩:=h
 obtain ⟨u,rfl,rx⟩:=vals1 r
 have hl:=tK
 have hs:sizeLine=16777216:=sizeLine_eq
 cases x with
 | str y=>
  obtain ⟨t,rfl⟩:=rx
  obtain ⟨hy,e'⟩:y.length≤sizeLine∧n=y.length:=e
  subst e'
  exact len_str (by omega) ⟨.int _,H,I.tok _,⟨_,rfl⟩,q⟩
 | byt y=>
  obtain ⟨t,rfl⟩:=rx
  obtain ⟨hy,e'⟩:y.size≤sizeLine∧n=y.size:=e
  subst e'
  exact PySem.W.len_bytes (by omega) ⟨.int _,H,I.tok _,⟨_,rfl⟩,q⟩
 | ref p=>
  cases rx
  have e':(∃ xs,SqL X.K H p xs∧n=xs.length)∨∃ xs,SqT X.K H p xs∧n=xs.length:=e
  rcases e' with ⟨xs,hx,e'⟩ | ⟨xs,hx,e'⟩
  ·subst e'
   obtain ⟨its,r',pl,hz⟩:=I.list hx
   have hlen:=r'.length
   exact Calls.call_len_list pl.isList (by simp only [List.size_toArray];omega) ⟨.int xs.length,H,I.tok _,⟨_,by simp only [List.size_toArray];rw [hlen]⟩,q⟩
  ·subst e'
   obtain ⟨its,r',pl,hz⟩:=I.tuple hx
   have hlen:=r'.length
   exact len_tuple pl (by simp only [List.size_toArray];omega) ⟨.int xs.length,H,I.tok _,⟨_,by simp only [List.size_toArray];rw [hlen]⟩,q⟩
 | _=>exact (show False from e).elim
end
end L2
namespace L2
open PySem PySem.Spec PyProof.Rows
structure ObjM (h:Heap) (x dx C:Addr) (mA:Str→Option Value):Prop where
 obj:h.get? x=some (PySem.W.instObj C dx)
 ns:h.Ns1 dx mA
 ne:dx≠x
theorem uW {h:Heap} {dx:Addr} {mA:Str→Option Value} (n:h.Ns1 dx mA):∃ od,h.get? dx=some od∧∀ name,PySem.W.lookIn name od=some (mA name):=by
 obtain ⟨o,es,ep,ho,hd,hk,_,hm⟩:=n
 refine ⟨o,ho,fun name=>?_⟩
 have e:=hm name
 unfold nsFind findBy at e
 rw [← Array.find?_toList] at e
 unfold PySem.W.lookIn
 rw [hd]
 dsimp only
 split
 ·rename_i y q
  rw [q] at e
  exact congrArg some e
 ·rename_i q
  rw [q] at e
  have a:es.toList.any (·.refKey)=false:=by
   rw [List.any_eq_false]
   intro y hy
   obtain ⟨z,t,hkey⟩:=hk y (Array.mem_toList_iff.mp hy)
   simp [DictEntry.refKey,hkey]
  have a':¬ es.toList.any (·.refKey)=true:=by rw [a];exact Bool.false_ne_true
  rw [if_neg a']
  exact congrArg some e
theorem ObjM.look {h:Heap} {x dx C:Addr} {mA:Str→Option Value} (I:ObjM h x dx C mA):∃ od,PySem.W.InstAt h x (PySem.W.instObj C dx) C (some od)∧∀ name,PySem.W.lookIn name od=some (mA name):=
 let ⟨od,ho,hl⟩:=uW I.ns
 ⟨od,⟨I.obj,rfl,rfl,ho⟩,hl⟩
section
variable {prog:Program} {w:World} {A:Around} {E:Value→Shared→Prop} {s:Shared} {K:PySem.W.Frag} {x dx C f:Addr} {mA:Str→Option Value} {name:Str} {v:Value}
theorem K5 {expr:Bool} {Q:Value→Shared→Prop} (X:K.In s.heap) (I:ObjM s.heap x dx C mA) (hg:PySem.W.plainGet K C name=true) (hh:PySem.W.hasDictIn K C=true)
  (ha:PySem.W.findIn K (.ref C) name=some none) (hv:mA name=some v) (hv':PySem.W.handedIn v=true) (h:Q v {s with toks:=s.toks+1}):
  wpAny (model prog w) A (getAttr (.ref x) name expr) Q E s:=by
 obtain ⟨od,J,hl⟩:=I.look
 exact PySem.W.get_value X J (PySem.W.plainGet_of hg).1 (PySem.W.findObj_own hh ha rfl (by rw [hl,hv])) hv' h
theorem GX {pl:Sem Bool} {Q:Value×List Value→Shared→Prop} (X:K.In s.heap) (I:ObjM s.heap x dx C mA) (hg:PySem.W.plainGet K C name=true)
  (hf:PySem.W.findIn K (.ref C) name=some (some (.ref f))) (ht:PySem.W.isFn K (.ref f)=true) (hv:mA name=none) (h:Q (.ref f,[.ref x]) s):
  wpAny (model prog w) A (getMethod (.ref x) name pl) Q E s:=by
 obtain ⟨od,J,hl⟩:=I.look
 exact PySem.W.method_fn X J (PySem.W.plainGet_of hg).1 (PySem.W.plainGet_of hg).2 hf (beq_iff_eq.mp ht) (by show (PySem.W.lookIn name od).map (·.isSome)=some false;rw [hl,hv];rfl) h
theorem K6 {ns:List Str} {Q:Unit→Shared→Prop} (X:K.In s.heap) (I:ObjM s.heap x dx C mA)
  (hs:PySem.W.findIn K (.ref C) "__setattr__"=some (some (.builtin "object.__setattr__"))) (hp:PySem.W.plainOver K C=true) (ht:PySem.W.takerIn K C name=some none) (hh:PySem.W.hasDictIn K C=true)
  (hw:PySem.Within mA ns) (hsz:ns.length≤sizeLine)
  (h:∀ h',ObjM h' x dx C (fun y=>if y=name then some v else mA y)→Heap.SameBut dx s.heap h'→Q () {s with heap:=h',toks:=s.toks+2}):
  wpAny (model prog w) A (setAttr (.ref x) name v) Q E s:=by
 obtain ⟨od,J,hl⟩:=I.look
 refine PySem.W.set_plain X J hs (PySem.W.osa_open (s:={s with toks:=s.toks+1}) (r:=none) X J hp ht fun b=>?_)
 obtain ⟨cd,hc,hd'⟩:=PySem.W.any_some hh
 have hx:s.heap.get? x=some ⟨.ref C,some dx,.plain,#[]⟩:=I.obj
 refine wpAny_bind (wpAny_pure (wpAny_bind (wpAny_bind (wpAny_loadPart hx (wpAny_bind (PySem.W.Looks.here (s:={s with toks:=s.toks+1}) (PySem.W.looks_clsIn X hc) ?_))))))
 rw [hd']
 refine wpAny_pure (a:=some dx) (wpAny_bind (wpAny_pure (wpAny_bind ?_)))
 refine wpAny_nsSet1 (s:={s with toks:=s.toks+1}) I.ns fun h' hn2 hs2=>?_
 obtain ⟨oD,esD,epD,hoD,hdD,hcD⟩:=hn2.count (PySem.Within.cons name v hw)
 refine wpAny_bind (wpAny_lookBehind hoD (by rw [hdD];exact pastItsLine_dict (Nat.le_trans hcD (by rw [List.length_cons];omega))) ?_)
 exact wpAny_pure (h _ ⟨(hs2.2 _ (Ne.symm I.ne)).trans I.obj,hn2,I.ne⟩ hs2)
theorem GZ {R:Result→Shared→Prop} {vs:List Value} {kw:List (Str×Value)} (X:K.In s.heap) (hm:PySem.W.makesIn K C=true)
  (hi:PySem.W.findIn K (.ref C) "__init__"=some (some (.ref f))) (hf:PySem.W.typeIn K (.ref f)=some (.type "function"))
  (h:codeAny (model prog w) (A.under (.builtin "type.__call__" ⟨.ref C :: vs,kw⟩)) (.call (.ref f) ⟨.ref (s.heap.objs.size+1) :: vs,kw⟩) (PySem.W.InitBack (s.heap.objs.size+1) R)
   {s with heap:=(s.heap.push PySem.W.emptyDict).push (PySem.W.instObj C s.heap.objs.size)}):
  codeAny (model prog w) A (.call (.ref C) ⟨vs,kw⟩) R s:=by
 obtain ⟨hh,g,d,t,os⟩:=s
 exact PySem.W.make_core (PySem.W.makes_of X hm) (PySem.W.looks_findIn X hi) (fun self=>PySem.W.bind_fn X self hf) (.inl rfl) h
end
def j8 (f:Str) (v:V):List (Str×V)→List (Str×V)
 | []=>[(f,v)]
 | (g,x) :: r=>if g=f then (g,v) :: r else (g,x) :: j8 f v r
theorem m7 (f g:Str) (v:V):∀ fs:List (Str×V),(j8 f v fs).lookup g=if g=f then some v else fs.lookup g
 | []=>by
  show List.lookup g [(f,v)]=_
  by_cases h:g=f
  ·have hb:(g == f)=true:=beq_iff_eq.mpr h
   simp only [List.lookup,hb,if_pos h]
  ·have hb:(g == f)=false:=beq_eq_false_iff_ne.mpr h
   simp only [List.lookup,hb,if_neg h]
 | (k,x) :: r=>by
  have ih:=m7 f g v r
  rw [show j8 f v ((k,x) :: r)=(if k=f then (k,v) :: r else (k,x) :: j8 f v r) from rfl]
  by_cases hk:k=f
  ·rw [if_pos hk]
   by_cases h:g=k
   ·have hb:(g == k)=true:=beq_iff_eq.mpr h
    simp only [List.lookup,hb,if_pos (h.trans hk)]
   ·have hb:(g == k)=false:=beq_eq_false_iff_ne.mpr h
    simp only [List.lookup,hb,if_neg (fun e:g=f=>h (e.trans hk.symm))]
  ·rw [if_neg hk]
   by_cases h:g=k
   ·have hb:(g == k)=true:=beq_iff_eq.mpr h
    simp only [List.lookup,hb,if_neg (fun e:g=f=>hk (h.symm.trans e))]
   ·have hb:(g == k)=false:=beq_eq_false_iff_ne.mpr h
    simp only [List.lookup,hb]
    exact ih
theorem qK (f:Str) (v:V):∀ fs:List (Str×V),f∈(j8 f v fs).map (·.1)∧∀ g,g∈fs.map (·.1)→g∈(j8 f v fs).map (·.1)
 | []=>⟨by simp [j8],fun g h=>by simp at h⟩
 | (k,x) :: r=>by
  obtain ⟨i1,i2⟩:=qK f v r
  rw [show j8 f v ((k,x) :: r)=(if k=f then (k,v) :: r else (k,x) :: j8 f v r) from rfl]
  by_cases hk:k=f
  ·rw [if_pos hk]
   subst hk
   exact ⟨by simp,fun g h=>by simpa using h⟩
  ·rw [if_neg hk]
   refine ⟨?_,fun g h=>?_⟩
   ·rw [List.map_cons]
    exact List.mem_cons_of_mem _ i1
   ·rw [List.map_cons] at h ⊢
    rcases List.mem_cons.mp h with e | e
    ·exact List.mem_cons.mpr (.inl e)
    ·exact List.mem_cons_of_mem _ (i2 g e)
theorem rB (f:Str) (v:V):∀ fs:List (Str×V),(j8 f v fs).length≤fs.length+1
 | []=>by simp [j8]
 | (k,x) :: r=>by
  have ih:=rB f v r
  rw [show j8 f v ((k,x) :: r)=(if k=f then (k,v) :: r else (k,x) :: j8 f v r) from rfl]
  by_cases hk:k=f
  ·rw [if_pos hk,List.length_cons,List.length_cons];omega
  ·rw [if_neg hk,List.length_cons,List.length_cons];omega
theorem RelO.some_of {v:V} {o:Option Value} (r:RelO (some v) o):∃ u,o=some u∧RelV v u:=by
 cases o with
 | none=>exact (show False from r).elim
 | some u=>exact ⟨u,rfl,r⟩
theorem RelO.none_of {o:Option Value} (r:RelO none o):o=none:=by
 cases o with
 | none=>rfl
 | some u=>exact (show False from r).elim
theorem Dz {v:V} {u:Value} (r:RelV v u):PySem.W.handedIn u=true:=by
 cases v with
 | non=>cases (show u=Value.none from r);rfl
 | bl b=>cases (show u=Value.bool b from r);rfl
 | int i=>obtain ⟨t,e⟩:=(show ∃ t,u=Value.int i t from r);cases e;rfl
 | str x=>obtain ⟨t,e⟩:=(show ∃ t,u=Value.str x t from r);cases e;rfl
 | byt b=>obtain ⟨t,e⟩:=(show ∃ t,u=Value.bytes b t from r);cases e;rfl
 | flt b=>obtain ⟨t,e⟩:=(show ∃ t,u=Value.float b t from r);cases e;rfl
 | ref a=>cases (show u=Value.ref a from r);rfl
 | ty n=>cases (show u=Value.type n from r);rfl
section
variable {P:Program} {w:World} {H H':Hp} {h h':Heap} {a C dx:Addr} {fs fs':List (Str×V)}
theorem pP (hok:HOk P w H h) (e:H a=some (.ins C dx fs)):∃ mA,ObjM h a dx C mA∧(∀ f,RelO (fs.lookup f) (mA f))∧PySem.Within mA (fs.map (·.1))∧fs.length≤1000∧H dx=some (.own a):=by
 obtain ⟨d,z,ne,ob,mA,n,r,q⟩:=(show ObjOk P w H h a (.ins C dx fs) from hok a _ e)
 exact ⟨mA,⟨ob,n,ne⟩,r,q,z,d⟩
end
structure Cls (K:PySem.W.Frag) (C:Addr):Prop where
 pg:PySem.W.plainGet K C Str.empty=true
 hd:PySem.W.hasDictIn K C=true
 po:PySem.W.plainOver K C=true
 sa:PySem.W.findIn K (.ref C) "__setattr__"=some (some (.builtin "object.__setattr__"))
theorem Cls.get {K:PySem.W.Frag} {C:Addr} (c:Cls K C) (f:Str):PySem.W.plainGet K C f=true:=c.pg
def NoAttr (K:PySem.W.Frag) (C:Addr) (f:Str):Prop:=PySem.W.findIn K (.ref C) f=some none
theorem NoAttr.taker {K:PySem.W.Frag} {C:Addr} {f:Str} (n:NoAttr K C f):PySem.W.takerIn K C f=some none:=by
 unfold PySem.W.takerIn
 rw [show PySem.W.findIn K (.ref C) f=some none from n]
 rfl
structure Con (K:PySem.W.Frag) (C:Addr) (f:Str) (v:V) (u:Value):Prop where
 at_:PySem.W.findIn K (.ref C) f=some (some u)
 rel:RelV v u
 get:PySem.W.specialIn K u "__get__"=some none
 cp:PySem.W.copiedNames.contains f=false
structure Meth (K:PySem.W.Frag) (C:Addr) (m:Str) (f:Addr):Prop where
 at_:PySem.W.findIn K (.ref C) m=some (some (.ref f))
 fn:PySem.W.isFn K (.ref f)=true
 kp:PySem.W.keepIn K (.ref f)=true
section
variable {X:Cx} {pins:List (Addr×Obj)} {σ:St} {H:Hp} {s:Shared} {a C dx:Addr} {fs:List (Str×V)} {f:Str} {v:V} {A:Around} {E:Value→Shared→Prop}
theorem zY {b:Bool} {Q:Value→Shared→Prop} (I:Inv X pins σ H s) (e:H a=some (.ins C dx fs)) (c:Cls X.K C) (n:NoAttr X.K C f) (l:fs.lookup f=some v)
  (h:∀ u s',Inv X pins σ H s'→RelV v u→Q u s'):wpAny (model X.prog X.w) A (getAttr (.ref a) f b) Q E s:=by
 obtain ⟨mA,O,r,_,_,_⟩:=pP I.hok e
 obtain ⟨u,hu,ru⟩:=RelO.some_of (v:=v) (o:=mA f) (by rw [← l];exact r f)
 exact K5 I.kIn O (c.get f) c.hd n hu (Dz ru) (h u _ (I.tok _) ru)
theorem zZ {m:Str} {g:Addr} {pl:Sem Bool} {Q:Value×List Value→Shared→Prop} (I:Inv X pins σ H s) (e:H a=some (.ins C dx fs)) (c:Cls X.K C) (k:Meth X.K C m g) (l:fs.lookup m=none)
  (h:Q (.ref g,[.ref a]) s):wpAny (model X.prog X.w) A (getMethod (.ref a) m pl) Q E s:=by
 obtain ⟨mA,O,r,_,_,_⟩:=pP I.hok e
 have hn:mA m=none:=RelO.none_of (by rw [← l];exact r m)
 exact GX I.kIn O (c.get m) k.at_ k.fn hn h
theorem z6 {y:V} {u:Value} {Q:Unit→Shared→Prop} (I:Inv X pins σ H s) (e:H a=some (.ins C dx fs)) (c:Cls X.K C) (n:NoAttr X.K C f) (hl:fs.length < 1000) (ry:RelV y u)
  (h:∀ s',Inv X pins σ (upd H a (.ins C dx (j8 f y fs))) s'→Q () s'):wpAny (model X.prog X.w) A (setAttr (.ref a) f u) Q E s:=by
 obtain ⟨mA,O,r,wi,_,ho⟩:=pP I.hok e
 have hz:(fs.map (·.1)).length≤sizeLine:=by rw [List.length_map,sizeLine_eq];omega
 refine K6 I.kIn O c.sa c.po n.taker c.hd wi hz fun h' O' sb=>h _ ?_
 have hd:∃ o,h'.get? dx=some o:=let ⟨o,_,_,e',_⟩:=O'.ns;⟨o,e'⟩
 refine I.write (x:=a) (e:=dx) (by rw [e];exact True.intro) (.inr ho) (fun b q hb z=>(sb.2 b hb).trans z) hd ?_
 refine ⟨by rw [aB O.ne];exact ho,?_,O.ne,O'.obj,_,O'.ns,fun g=>?_,fun g hg=>?_⟩
 ·have:=rB f y fs;omega
 ·show RelO ((j8 f y fs).lookup g) (if g=f then some u else mA g)
  rw [m7]
  by_cases q:g=f
  ·rw [if_pos q,if_pos q];exact ry
  ·rw [if_neg q,if_neg q];exact r g
 ·by_cases q:g=f
  ·rw [q];exact (qK f y fs).1
  ·refine (qK f y fs).2 g (wi g fun z=>hg ?_)
   show (if g=f then some u else mA g)=none
   rw [if_neg q];exact z
theorem Inv.made (I:Inv X pins σ H s):Inv X pins σ (upd (upd H s.heap.objs.size (.own (s.heap.objs.size+1))) (s.heap.objs.size+1) (.ins C s.heap.objs.size []))
  {s with heap:=(s.heap.push PySem.W.emptyDict).push (PySem.W.instObj C s.heap.objs.size)}:=by
 have e1:(s.heap.push PySem.W.emptyDict).get? s.heap.objs.size=some PySem.W.emptyDict:=Heap.get?_push_size s.heap rfl
 have e2:((s.heap.push PySem.W.emptyDict).push (PySem.W.instObj C s.heap.objs.size)).get? (s.heap.objs.size+1)=some (PySem.W.instObj C s.heap.objs.size):=by
  have:=Heap.get?_push_size (s.heap.push PySem.W.emptyDict) (o:=PySem.W.instObj C s.heap.objs.size) rfl
  rwa [Heap.size_push] at this
 have e3:(s.heap.push PySem.W.emptyDict).Ns s.heap.objs.size (fun _=>none):=⟨PySem.W.emptyDict,#[],_,e1,rfl,(fun e he=>absurd he (by simp)),fun _=>rfl⟩
 have I1:=I.laid (a:=s.heap.objs.size) (o:=.own (s.heap.objs.size+1)) (h':=s.heap.push PySem.W.emptyDict) (t':=s.toks) (fun b u q=>Heap.get?_push_of_some _ q) (Nat.le_refl _) ⟨_,e1⟩
 refine I1.laid (a:=s.heap.objs.size+1) (o:=.ins C s.heap.objs.size []) (t':=s.toks) (fun b u q=>Heap.get?_push_of_some _ q) (Nat.le_of_eq (Heap.size_push _ _)) ?_
 have ne:s.heap.objs.size≠s.heap.objs.size+1:=Nat.ne_of_lt (Nat.lt_succ_self _)
 refine ⟨by rw [aB ne,aj],Nat.zero_le _,ne,e2,fun _=>none,(Heap.Ns1.of_empty e3).at fun o q=>Heap.get?_push_of_some _ q,fun _=>True.intro,fun y hy=>absurd rfl hy⟩
theorem K7 {prog:Program} {w:World} {env:Env} {e:Expr} {f:Str} {pos:Pos} {s:Shared} {Q:Value→Shared→Prop} (hb:attributeBase e f env (eval e env)=eval e env)
  (h:wpAny (model prog w) A (eval e env) (fun o s₁=>wpAny (model prog w) A (getAttr o f true) Q E s₁) E s):wpAny (model prog w) A (eval (.Attribute e f pos) env) Q E s:=
 Attribute_any_ h (by rw [arm_eval_Attribute,hb])
end
def Ra (K:PySem.W.Frag) (ta:TE) (f:Str):TE:=fun σ H Q=>ta σ H fun x H1=>∃ a C dx fs v,x= .ref a∧H1 a=some (.ins C dx fs)∧Cls K C∧NoAttr K C f∧fs.lookup f=some v∧Q v H1
def Rb (K:PySem.W.Frag) (ta tv:TE) (f:Str):TS:=fun D σ H=>tv σ H fun y H1=>ta σ H1 fun x H2=>∃ a C dx fs,x= .ref a∧H2 a=some (.ins C dx fs)∧Cls K C∧NoAttr K C f∧fs.length < 1000∧
 D.nx σ (upd H2 a (.ins C dx (j8 f y fs)))
section
variable {X:Cx} {o e value:Expr} {f:Str} {pos pos' tpos:Pos} {ta tv:TE}
theorem Rc (he:PE X e ta) (hb:attributeBase e f X.env (eval e X.env)=eval e X.env):PE X (.Attribute e f pos) (Ra X.K ta f):=by
 intro pins s σ H Q I h
 refine K7 hb (eZ (he pins s σ H _ I h) fun u s1 qq0=>?_)
 obtain ⟨x,H1,I1,rx,a,C,dx,fs,v,ex,ea,c,n,l,q⟩:=qq0
 subst ex
 obtain rfl:u=Value.ref a:=rx
 exact zY I1 ea c n l fun u' s2 I2 ru=>⟨v,H1,I2,ru,q⟩
theorem Rf (ha:PE X o ta) (hv:PE X value tv) (hs:swapsWith value (some (.Attribute o f pos')) pos.line X.env=pure false):PS X (.Assign [.Attribute o f pos'] value pos) (Rb X.K ta tv f):=by
 intro pins s σ H D I h
 refine plainObj_wpAny_Assign_Attribute (eZ (hv pins s σ H _ I h) fun u s1 ⟨y,H1,I1,ry,q⟩=>eZ (ha pins s1 σ H1 _ I1 q) fun ov s2 qq0=>?_) hs
 obtain ⟨x,H2,I2,rx,a,C,dx,fs,ex,ea,c,n,l,q2⟩:=qq0
 subst ex
 obtain rfl:ov=Value.ref a:=rx
 exact z6 I2 ea c n l ry fun s3 I3=>⟨σ,_,I3,q2⟩
end
section
variable {X:Cx} {pins:List (Addr×Obj)} {σ:St} {H:Hp} {s:Shared} {A:Around} {E:Value→Shared→Prop} {Q:Value→Shared→Prop} {c:Value} {b:Bool}
inductive TyOf (K:PySem.W.Frag) (H:Hp):V→Value→Prop where
 | non:TyOf K H .non (.type "NoneType")
 | bl (x:Bool):TyOf K H (.bl x) (.type "bool")
 | int (i:Int):TyOf K H (.int i) (.type "int")
 | str (x:Str):TyOf K H (.str x) (.type "str")
 | flt (x:UInt64):TyOf K H (.flt x) (.type "float")
 | lst {a:Addr} {xs:List V} (e:H a=some (.lst xs)):TyOf K H (.ref a) (.type "list")
 | frz {a:Addr} {o:Obj} {xs:List V} (e:H a=some (.frz o (.lst xs))):TyOf K H (.ref a) (.type "list")
 | tup {a:Addr} {xs:List V} (e:H a=some (.tup xs)):TyOf K H (.ref a) (.type "tuple")
 | dK {a:Addr} {kvs:List (Key×V)} (e:H a=some (.dK kvs)):TyOf K H (.ref a) (.type "dict")
 | dT {a:Addr} {kvs:List (List Key×V)} (e:H a=some (.dT kvs)):TyOf K H (.ref a) (.type "dict")
 | ins {a C dx:Addr} {fs:List (Str×V)} (e:H a=some (.ins C dx fs)) (cl:Cls K C) (ha:PySem.W.findIn K (.ref C) "__class__"=some (some (.builtin "object.__class__")))
   (hn:PySem.W.specialIn K (.builtin "object.__class__") "__get__"=some (some (.builtin "getset_descriptor.__get__"))) (htk:PySem.W.takesIn K (.builtin "object.__class__")=some true)
   (hm:PySem.W.mroIn K C (.type "object")=some true):TyOf K H (.ref a) (.ref C)
theorem DG {x:V} {u t:Value} (I:Inv X pins σ H s) (rx:RelV x u) (ty:TyOf X.K H x t) (e:PySem.W.kitOne X.K t c=some b) (h:∀ tk,Q (.bool b) {s with toks:=tk}):
  wpAny (model X.prog X.w) A (call (.builtin "isinstance") [u,c]) Q E s:=by
 cases ty with
 | non=>cases (show u=Value.none from rx);exact PySem.W.kia_one PySem.W.kitx_none I.kIn True.intro e (fun z=>nomatch z) h
 | bl y=>cases (show u=Value.bool y from rx);exact PySem.W.kia_one PySem.W.kitx_bool I.kIn True.intro e (fun z=>nomatch z) h
 | int i=>obtain ⟨t,q⟩:=(show ∃ t,u=Value.int i t from rx);cases q;exact PySem.W.kia_one PySem.W.kitx_int I.kIn True.intro e (fun z=>nomatch z) h
 | str y=>obtain ⟨t,q⟩:=(show ∃ t,u=Value.str y t from rx);cases q;exact PySem.W.kia_one PySem.W.kitx_str I.kIn True.intro e (fun z=>nomatch z) h
 | flt y=>obtain ⟨t,q⟩:=(show ∃ t,u=Value.float y t from rx);cases q;exact PySem.W.kia_one PySem.W.kitx_float I.kIn True.intro e (fun z=>nomatch z) h
 | @lst a xs ea=>
  cases (show u=Value.ref a from rx)
  obtain ⟨_,_,n,_,h1⟩:=(show ObjOk X.prog X.w H s.heap a (.lst xs) from I.hok a _ ea)
  exact PySem.W.kia_one PySem.W.kitx_list I.kIn ⟨_,h1,rfl⟩ e (fun z=>nomatch z) h
 | @frz a ob xs ea=>
  cases (show u=Value.ref a from rx)
  obtain ⟨_,_,_,n,_,h1⟩:=(show ObjOk X.prog X.w H s.heap a (.frz ob (.lst xs)) from I.hok a _ ea)
  exact PySem.W.kia_one PySem.W.kitx_list I.kIn ⟨_,h1,rfl⟩ e (fun z=>nomatch z) h
 | @tup a xs ea=>
  cases (show u=Value.ref a from rx)
  obtain ⟨_,_,_,p⟩:=(show ObjOk X.prog X.w H s.heap a (.tup xs) from I.hok a _ ea)
  obtain ⟨o,h1,h2,_⟩:=p
  exact PySem.W.kia_one PySem.W.kitx_tuple I.kIn ⟨o,h1,h2⟩ e (fun z=>nomatch z) h
 | @dK a kvs ea=>
  cases (show u=Value.ref a from rx)
  obtain ⟨_,_,vs,_,p⟩:=(show ObjOk X.prog X.w H s.heap a (.dK kvs) from I.hok a _ ea)
  obtain ⟨o,es,ep,h1,h2,_⟩:=p
  exact PySem.W.kia_one PySem.W.kitx_dict I.kIn ⟨o,h1,h2.1⟩ e (fun z=>nomatch z) h
 | @dT a kvs ea=>
  cases (show u=Value.ref a from rx)
  obtain ⟨_,_,xs,_,o,es,ep,h1,h2,_⟩:=(show ObjOk X.prog X.w H s.heap a (.dT kvs) from I.hok a _ ea)
  exact PySem.W.kia_one PySem.W.kitx_dict I.kIn ⟨o,h1,h2.1⟩ e (fun z=>nomatch z) h
 | @ins a C dx fs ea cl ha hn htk hm=>
  cases (show u=Value.ref a from rx)
  obtain ⟨mA,O,_⟩:=pP I.hok ea
  obtain ⟨od,J,_⟩:=O.look
  exact PySem.W.kia_one (PySem.W.kitx_own (cl.get _) cl.hd ha hn htk hm) I.kIn J e (fun z=>nomatch z) h
end
end L2
namespace L2
open PySem PySem.Spec PyProof.Rows
structure Room (k:Nat) (A:Around):Prop where
 hd:A.handled=none
 dp:A.depth+3*k+5 < recursionLimit
 un:A.units+16*k+200 < cLine
 gd:A.guards=some []
theorem Room.mono {j k:Nat} {A:Around} (r:Room k A) (h:j≤k):Room j A:=⟨r.hd,by have:=r.dp;omega,by have:=r.un;omega,r.gd⟩
theorem Room.deeper {k:Nat} {A:Around} (r:Room (k+1) A) (env:Env):Room k (A.deeper env):=
 ⟨r.hd,by have:=r.dp;show A.depth+1+3*k+5 < _;omega,by have:=r.un;show A.units+3+16*k+200 < _;omega,r.gd⟩
theorem z7 {A:Around} {C:Addr} {us:List Value} {kw:List (Str×Value)}:(A.under (.builtin "type.__call__" ⟨.ref C :: us,kw⟩)).depth=A.depth+1:=by
 first | rfl | simp [Around.under,Code.weight,Code.isCreation,Code.isGuard,Code.isCaller,Code.frames,Code.isFrame,guardIds]
theorem z8 {A:Around} {C:Addr} {us:List Value} {kw:List (Str×Value)}:(A.under (.builtin "type.__call__" ⟨.ref C :: us,kw⟩)).units=A.units+1:=by
 first | rfl | simp [Around.under,Code.cUnits,Code.frames,Code.isFrame]
theorem xZ {A:Around} {C:Addr} {us:List Value} {kw:List (Str×Value)}:(A.under (.builtin "type.__call__" ⟨.ref C :: us,kw⟩)).guards=pushGuards [] A.guards:=by
 first | rfl | simp [Around.under,Code.guards,Code.isGuard,guardIds]
theorem Room.make {k:Nat} {A:Around} (r:Room (k+1) A) (C:Addr) (us:List Value) (kw:List (Str×Value)):Room k (A.under (.builtin "type.__call__" ⟨.ref C :: us,kw⟩)):=
 ⟨r.hd,by have:=r.dp;rw [z7];omega,by have:=r.un;rw [z8];omega,(xZ.trans (by rw [r.gd];rfl))⟩
theorem Room.depth {k:Nat} {A:Around} (r:Room k A):A.depth < recursionLimit:=by have:=r.dp;omega
theorem Room.units {k:Nat} {A:Around} (r:Room k A):A.units+64 < cLine:=by have:=r.un;omega
theorem Room.units0 {k:Nat} {A:Around} (r:Room k A):A.units < cLine:=by have:=r.un;omega
def K8:TA:=fun _ H Q=>Q [] H
def BR (ta:TE) (tr:TA):TA:=fun σ H Q=>ta σ H fun x H1=>tr σ H1 fun xs H2=>Q (x :: xs) H2
section
variable {X:Cx} {e:Expr} {es:List Expr} {te:TE} {t:TA} {pos:Pos}
theorem Rg:PA X [] K8:=fun _ _ _ _ H Q I h=>Calls.spliced_nil ⟨[],H,I,.nil,h⟩
theorem K9 (ha:PE X e te) (hr:PA X es t) (hs:autoParam (starEach (e :: es) X.env=(false,eval e X.env) :: starEach es X.env) L2.auto4._auto_1):PA X (e :: es) (BR te t):=by
 intro pos pins s σ H Q I h
 rw [hs]
 show wpAny _ _ (spliced ((false,eval e X.env) :: backTo pos (starEach es X.env))) _ _ s
 refine Calls.spliced_cons (eZ (ha pins s σ H _ I h) fun u s1 qq0=>?_)
 obtain ⟨x,H1,I1,r1,q1⟩:=qq0
 exact eZ (hr pos pins s1 σ H1 _ I1 q1) fun us s2 ⟨xs,H2,I2,r2,q2⟩=>⟨x :: xs,H2,I2,.cons r1 r2,q2⟩
def La (t:TA):TE:=fun σ H Q=>t σ H fun xs H1=>xs.length≤sizeLine∧∀ p,H1 p=none→Q (.ref p) (upd H1 p (.tup xs))
def Lb (t:TA):TE:=fun σ H Q=>t σ H fun xs H1=>xs.length≤sizeLine∧∀ p,H1 p=none→Q (.ref p) (upd H1 p (.lst xs))
theorem Rh {x1} (h:PA X es t):PE X (.Tuple es x1 pos) (La t):=by
 intro pins s σ H Q I hq
 refine wpAny_Tuple_spliced (eZ (h pos pins s σ H _ I hq) fun us s1 ⟨xs,H1,I1,r,z,q⟩=>⟨by rw [← r.length];exact z,?_⟩)
 have hf:H1 s1.heap.objs.size=none:=I1.hok.fresh (Nat.le_refl _)
 refine ⟨.ref s1.heap.objs.size,upd H1 s1.heap.objs.size (.tup xs),I1.laid (t':=s1.toks) (fun b u e=>Heap.get?_push_of_some _ e) (Nat.le_refl _) ?_,rfl,q _ hf⟩
 exact ⟨z,us,r,⟨_,Heap.get?_push_size _ rfl,rfl,_,rfl⟩⟩
theorem Ri (h:PA X es t):PE X (.List es pos) (Lb t):=by
 intro pins s σ H Q I hq
 refine wpAny_List_spliced (eZ (h pos pins s σ H _ I hq) fun us s1 ⟨xs,H1,I1,r,z,q⟩=>⟨by rw [← r.length];exact z,?_⟩)
 have hf:H1 s1.heap.objs.size=none:=I1.hok.fresh (Nat.le_refl _)
 refine ⟨.ref s1.heap.objs.size,upd H1 s1.heap.objs.size (.lst xs),I1.laid (t':=s1.toks) (fun b u e=>Heap.get?_push_of_some _ e) (Nat.le_refl _) ?_,rfl,q _ hf⟩
 exact ⟨z,us,0,r,Heap.get?_push_size _ rfl⟩
end
abbrev Sp:=List V→Hp→VK→XK→Prop
abbrev DK:=List Env→Hp→Shared→XK→Value→Shared→Prop
structure Env0 (P:Program) (w:World) (K:PySem.W.Frag) (mg:Str→Option Value) (base:Heap) (A:Around) (outer:List Env) (s:Shared) (H:Hp):Prop where
 frames:A.frames=some outer
 mod:Mod K mg base
 bs:∀ b o,base.get? b=some o→s.heap.get? b=some o∧H b=none
 bsz:base.objs.size≤s.heap.objs.size
 funs:s.heap.FunFrames base outer
 frf:∀ b∈frs outer,H b=none
 hok:HOk P w H s.heap
 bare:AllBare s.gens
def CE (outer:List Env) (P:Program) (w:World) (H:Hp) (s:Shared) (Q:VK) (u:Value) (s':Shared):Prop:=
 ∃ v H',s'.os=s.os∧AllBare s'.gens∧Un (frs outer) [] H H' s.heap s'.heap∧HOk P w H' s'.heap∧RelV v u∧Q v H'
def CR (CX:DK) (outer:List Env) (P:Program) (w:World) (H:Hp) (s:Shared) (Q:VK) (E:XK) (r:Result) (s':Shared):Prop:=
 match r with
 | .ok (.ret u)=>CE outer P w H s Q u s'
 | .ok _=>False
 | .error e=>CX outer H s E e s'
structure FnOk (P:Program) (w:World) (K:PySem.W.Frag) (mg:Str→Option Value) (base:Heap) (CX:DK) (k:Nat) (f:Addr) (fd:FuncData) (ps:List Str) (sp:Sp):Prop where
 len:∀ vs H Q E,sp vs H Q E→vs.length=ps.length
 run:∀ (A:Around) (outer:List Env) (s:Shared) (H:Hp) (args:Args) (us:List Value) (vs:List V) (Q:VK) (E:XK),Room k A→Env0 P w K mg base A outer s H→BindsTo s fd args (ps.zip us)→Vals vs us→sp vs H Q E→
  codeAny (model P w) A (.call (.ref f) args) (CR CX outer P w H s Q E) s
theorem FnOk.mono {P:Program} {w:World} {K:PySem.W.Frag} {mg:Str→Option Value} {base:Heap} {CX:DK} {j k:Nat} {f:Addr} {fd:FuncData} {ps:List Str} {sp:Sp} (F:FnOk P w K mg base CX j f fd ps sp) (h:j≤k):
  FnOk P w K mg base CX k f fd ps sp:=⟨F.len,fun A outer s H args us vs Q E hr=>F.run A outer s H args us vs Q E (hr.mono h)⟩
theorem Env0.make {P:Program} {w:World} {K:PySem.W.Frag} {mg:Str→Option Value} {base:Heap} {A:Around} {outer:List Env} {s:Shared} {H:Hp} (e:Env0 P w K mg base A outer s H) (C:Addr) (us:List Value) (kw:List (Str×Value)):
  Env0 P w K mg base (A.under (.builtin "type.__call__" ⟨.ref C :: us,kw⟩)) outer s H:=⟨by first | exact e.frames | (simpa [Around.under,Code.envs,Code.isFrame,pushEnvs] using e.frames),e.mod,e.bs,e.bsz,e.funs,e.frf,e.hok,e.bare⟩
section
variable {X:Cx} {pins:List (Addr×Obj)} {σ:St} {H:Hp} {s s':Shared}
theorem Inv.env0 (I:Inv X pins σ H s):Env0 X.prog X.w X.K X.mg X.base X.A X.stack s H:=
 ⟨I.ok.frames,I.ok.mod,I.bs,Nat.le_trans I.ok.bsz I.sz,I.stack,I.stkFree,I.hok,I.bare⟩
theorem Inv.after {Q:VK} {u:Value} (I:Inv X pins σ H s) (h:CE X.stack X.prog X.w H s Q u s'):EP X pins σ Q u s':=by
 obtain ⟨v,H',os,bare,un,hok,r,q⟩:=h
 obtain ⟨hh,g,d,t,os'⟩:=s'
 obtain rfl:os'=s.os:=os
 exact ⟨v,H',I.call (h':=hh) (g':=g) (d':=d) (t':=t) (ch:=[]) un hok bare (fun b z=>absurd z (by simp)),r,q⟩
end
def uX (sp:Sp) (dvs:List V) (E:XK) (t:TA):TE:=fun σ H Q=>t σ H fun vs H1=>sp (vs ++ dvs) H1 Q E
def Binds (K:PySem.W.Frag) (fd:FuncData) (ps:List Str) (ds:List Value):Prop:=
 ∀ (s:Shared) (us:List Value),K.In s.heap→(us ++ ds).length=ps.length→BindsTo s fd ⟨us,[]⟩ (ps.zip (us ++ ds))
theorem Binds.all {K:PySem.W.Frag} {fd:FuncData} {ps:List Str} (h:∀ us:List Value,us.length=ps.length→bindArgs fd ⟨us,[]⟩=pure (ps.zip us)):Binds K fd ps []:=fun s us _ hl=>by
 rw [List.append_nil] at hl ⊢
 exact .of_eq (h us hl)
def z9 (CX:DK) (X:Cx) (E:XK):Prop:=∀ (pins:List (Addr×Obj)) (σ:St) (H:Hp) (s:Shared) (e:Value) (s':Shared),Inv X pins σ H s→CX X.stack H s E e s'→X.xe e s'
section
variable {X:Cx} {CX:DK} {k:Nat} {f C:Addr} {fd:FuncData} {ps:List Str} {sp:Sp} {dvs:List V} {ds:List Value} {E:XK} {x m:Str} {p pos apos:Pos} {e o:Expr} {es:List Expr} {ta:TE} {t:TA}
theorem Rj {pins:List (Addr×Obj)} {σ:St} {H:Hp} {s:Shared} {Q:VK} {us:List Value} {vs:List V} (F:FnOk X.prog X.w X.K X.mg X.base CX k f fd ps sp) (hr:Room k X.A) (hb:Binds X.K fd ps ds) (hd:Vals dvs ds) (hx:z9 CX X E)
  (I:Inv X pins σ H s) (r:Vals vs us) (h:sp (vs ++ dvs) H Q E):wpAny (model X.prog X.w) X.A (call (.ref f) us) (EP X pins σ Q) X.xe s:=by
 have r2:Vals (vs ++ dvs) (us ++ ds):=r.append hd
 have hl:(us ++ ds).length=ps.length:=by rw [← r2.length];exact F.len _ _ _ _ h
 refine wpAny_call (codeAny_mono (F.run X.A X.stack s H ⟨us,[]⟩ (us ++ ds) (vs ++ dvs) Q E hr I.env0 (hb s us I.kIn hl) r2 h) fun r s' hq=>?_)
 cases r with
 | error e=>exact hx pins σ H s e s' I hq
 | ok fl=>
  cases fl with
  | ret u=>exact I.after hq
  | next=>exact False.elim hq
  | brk=>exact False.elim hq
  | cont=>exact False.elim hq
theorem Ld (F:FnOk X.prog X.w X.K X.mg X.base CX k f fd ps sp) (hr:Room k X.A) (hg:Gl X x) (hm:X.mg x=some (.ref f)) (hk:PySem.W.keepIn X.K (.ref f)=true) (hb:Binds X.K fd ps ds) (hd:Vals dvs ds) (hx:z9 CX X E)
  (ha:PA X (e :: es) t) (hdb:autoParam ((x == ("__debug__":Str))=false) L2.auto2._auto_1) (he:autoParam (starEach (e :: es) X.env=(false,eval e X.env) :: starEach es X.env) L2.auto4._auto_1) (hpl:autoParam ((backTo pos (starEach es X.env)).any (·.1)=false) L2.auto4._auto_1):
  PE X (.Call (.Name x p) (e :: es) [] pos) (uX sp dvs E t):=by
 intro pins s σ H Q I h
 refine wpAny_Call_Name_kw (pO I hg hm ?_ hdb)
 refine PySem.W.callWith_K (h₀:=X.base) I.ok.mod.kin hk (eZ (ha pos pins s σ H _ I h) fun us s1 ⟨vs,H1,I1,r,q⟩=>⟨I1.kIn,?_⟩) he hpl
 exact Rj F hr hb hd hx I1 r q
structure Mk (K:PySem.W.Frag) (C f:Addr):Prop where
 makes:PySem.W.makesIn K C=true
 init:PySem.W.findIn K (.ref C) "__init__"=some (some (.ref f))
 fn:PySem.W.isFn K (.ref f)=true
 kp:PySem.W.keepIn K (.ref C)=true
end
section
variable {X:Cx} {CX:DK} {k:Nat} {f C:Addr} {fd:FuncData} {ps ks:List Str} {sp:Sp} {E:XK} {x m:Str} {p pos apos kpos:Pos} {e o:Expr} {es:List Expr} {kws:List Keyword} {te ta:TE} {t tk:TA} {nm:Option Str}
structure KBinds (K:PySem.W.Frag) (fd:FuncData) (ps ks:List Str) (g:List Value→List Value→List Value) (gV:List V→List V→List V):Prop where
 to:∀ (s:Shared) (us ws:List Value),K.In s.heap→(g us ws).length=ps.length→BindsTo s fd ⟨us,ks.zip ws⟩ (ps.zip (g us ws))
 rel:∀ {vs:List V} {us:List Value} {zs:List V} {ws:List Value},Vals vs us→Vals zs ws→Vals (gV vs zs) (g us ws)
variable {g:List Value→List Value→List Value} {gV:List V→List V→List V}
end
structure aD (N P:List Str) (sc:Scope):Prop where
 kind:sc.kind= .function
 co:sc.isCoroutine=false
 gen:sc.isGenerator=false
 nd:N.Nodup
 pre:N.take P.length=P
 par:∀ x∈P,sc.names.lookup x=some .local∨sc.names.lookup x=some .cell
 nofree:∀ y∈sc.names,y.2≠.free
theorem uY {kindOf:Str→Option NameKind} {x:Str}:∀ {binds:List (Str×Value)} {m:Str→Option Value},(∀ v,(x,v) ∉ binds)→bindL kindOf binds m x=m x
 | [],_,_=>rfl
 | (n,v) :: r,m,h=>by
  unfold bindL
  rw [uY fun w hw=>h w (List.mem_cons_of_mem _ hw)]
  split
  ·have:x≠n:=by rintro rfl;exact h v List.mem_cons_self
   simp [this]
  ·rfl
theorem uZ {kindOf:Str→Option NameKind} {x:Str}:∀ {binds:List (Str×Value)} {m:Str→Option Value},(∀ v,(x,v) ∉ binds)→bindC kindOf binds m x=m x
 | [],_,_=>rfl
 | (n,v) :: r,m,h=>by
  unfold bindC
  rw [uZ fun w hw=>h w (List.mem_cons_of_mem _ hw)]
  split
  ·rfl
  ·have:x≠n:=by rintro rfl;exact h v List.mem_cons_self
   simp [this]
theorem u0 {kindOf:Str→Option NameKind} {x:Str} {v:Value}:∀ {P:List Str} {vs:List Value} {i:Nat} {m:Str→Option Value},P.Nodup→P[i]?=some x→vs[i]?=some v→kindOf x=some .local→
  bindL kindOf (P.zip vs) m x=some v
 | [],_,_,_,_,h,_,_=>by simp at h
 | _ :: _,[],_,_,_,_,h,_=>by simp at h
 | p :: P,w :: vs,0,m,nd,h1,h2,hk=>by
  simp at h1 h2;subst h1;subst h2
  show bindL kindOf ((p,w) :: P.zip vs) m p=_
  unfold bindL
  rw [uY fun v hv=>(List.nodup_cons.mp nd).1 (List.of_mem_zip hv).1,if_pos hk]
  simp
 | p :: P,w :: vs,i+1,m,nd,h1,h2,hk=>by
  show bindL kindOf ((p,w) :: P.zip vs) m x=_
  unfold bindL
  exact u0 (i:=i) (List.nodup_cons.mp nd).2 (by simpa using h1) (by simpa using h2) hk
theorem u5 {kindOf:Str→Option NameKind} {x:Str} {v:Value}:∀ {P:List Str} {vs:List Value} {i:Nat} {m:Str→Option Value},P.Nodup→P[i]?=some x→vs[i]?=some v→kindOf x≠some .local→
  bindC kindOf (P.zip vs) m x=some v
 | [],_,_,_,_,h,_,_=>by simp at h
 | _ :: _,[],_,_,_,_,h,_=>by simp at h
 | p :: P,w :: vs,0,m,nd,h1,h2,hk=>by
  simp at h1 h2;subst h1;subst h2
  show bindC kindOf ((p,w) :: P.zip vs) m p=_
  unfold bindC
  rw [uZ fun v hv=>(List.nodup_cons.mp nd).1 (List.of_mem_zip hv).1,if_neg hk]
  simp
 | p :: P,w :: vs,i+1,m,nd,h1,h2,hk=>by
  show bindC kindOf ((p,w) :: P.zip vs) m x=_
  unfold bindC
  exact u5 (i:=i) (List.nodup_cons.mp nd).2 (by simpa using h1) (by simpa using h2) hk
def start (N:List Str) (vs:List V):St:=vs.map some ++ List.replicate (N.length - vs.length) none
def oR (CX:DK) (P:Program) (w:World) (K:PySem.W.Frag) (mg:Str→Option Value) (base:Heap) (N:List Str) (qual:Str) (scope:Scope) (f:Addr) (cd:Value) (A:Around) (outer:List Env) (s:Shared) (H:Hp) (E:XK):Cx where
 prog:=P
 w:=w
 K:=K
 mg:=mg
 base:=base
 A:=A.deeper (envOfC qual scope s.heap.objs.size f cd)
 N:=N
 s₀:=s
 H₀:=H
 env:=envOfC qual scope s.heap.objs.size f cd
 outer:=outer
 stack:=envOfC qual scope s.heap.objs.size f cd :: outer
 ex:=[]
 calm:=true
 fn:=fun _=>true
 pn:=[]
 xe:=fun e s'=>wpAny (model P w) (A.deeper (envOfC qual scope s.heap.objs.size f cd)) (leaving (envOfC qual scope s.heap.objs.size f cd) e) (fun _ s''=>CX outer H s E e s'') (fun e' s''=>CX outer H s E e' s'') s'
theorem yc {sc:Scope} {n:Nat} {x:Str} (h:sc.names.lookup x=some .cell):∃ c,(cellsFrom n sc.names []).lookup x=some c:=by
 have q:=PySem.W.cellsFrom_some sc.names n [] (.inl h)
 exact Option.isSome_iff_exists.mp q
theorem DN {CX:DK} {P:Program} {w:World} {K:PySem.W.Frag} {mg:Str→Option Value} {base:Heap} {N ps:List Str} {qual:Str} {scope:Scope} {f:Addr} {cd:Value} {A:Around} {outer:List Env} {s s1:Shared} {H:Hp} {E:XK} {us:List Value} {vs:List V}
  (S:aD N ps scope) (hd:A.handled=none) (e0:Env0 P w K mg base A outer s H) (hl:vs.length=ps.length) (r:Vals vs us)
  (x:InCallC s s.heap.objs.size (bindL (envOfC qual scope s.heap.objs.size f cd).kindOf (ps.zip us) fun _=>none) (cellsFrom (s.heap.objs.size+1) scope.names []) (bindC (envOfC qual scope s.heap.objs.size f cd).kindOf (ps.zip us) fun _=>none) s1):
  Inv (oR CX P w K mg base N qual scope f cd A outer s H E) [] (start N vs) H s1:=by
 have hpl:ps.length≤N.length:=by have:=congrArg List.length S.pre;rw [List.length_take] at this;omega
 obtain ⟨h1,tk,rfl,hk⟩:=x.done
 have noA:∀ b:Addr,b ∉ (oR CX P w K mg base N qual scope f cd A outer s H E).ex:=fun b z=>absurd (show b∈([]:List Addr) from z) (by simp)
 refine ⟨⟨e0.mod,S.kind,rfl,rfl,Nat.le_refl _,fun y z c h1 h2=>?_,fun y hy=>?_,fun y c _ h=>?_,fun _=>hd,Around.frames_deeper e0.frames,.inr ⟨rfl,rfl⟩,fun b z=>absurd z (noA b),e0.bs,e0.bsz,fun b _ _=>noA b,fun b z=>absurd z (noA b),e0.funs,e0.frf⟩,
  rfl,e0.bare,Un.kept hk,⟨_,x.toInCall.ns,fun i y v h1 h2 h3=>?_⟩,fun y c h=>⟨_,x.cell y c h⟩,e0.hok.fresh (Nat.le_refl _),fun y c h=>?_,fun p hp=>absurd (show p∈([]:List (Addr×Obj)) from hp) (by simp),e0.hok.kept hk,?_⟩
 ·exact name_of_addr x.apart (PySem.mem_of_lookup h1) (PySem.mem_of_lookup h2)
 ·have hy:scope.names.lookup y=some .cell∨scope.names.lookup y=some .free:=hy
  rcases hy with hy | hy
  ·exact yc hy
  ·exact absurd rfl (S.nofree _ (PySem.mem_of_lookup hy))
 ·exact Nat.le_of_lt (x.above y c (PySem.mem_of_lookup h))
 ·have hi:i < vs.length:=by
   unfold start at h2
   by_cases hi:i < vs.length
   ·exact hi
   ·rw [List.getElem?_append_right (by simpa using hi)] at h2
    rw [List.getElem?_replicate] at h2
    split at h2 <;> cases h2
  have ha:vs[i]?=some v:=by
   unfold start at h2
   rw [List.getElem?_append_left (by simpa using hi),List.getElem?_map] at h2
   cases e:vs[i]? with
   | none=>rw [e] at h2;cases h2
   | some a=>rw [e] at h2;cases h2;rfl
  obtain ⟨u,hu,rv⟩:=r.get ha
  have hp:ps[i]?=some y:=by
   rw [← S.pre,List.getElem?_take_of_lt (by omega)];exact h1
  have ndP:ps.Nodup:=by rw [← S.pre];exact S.nd.sublist (List.take_sublist _ _)
  refine ⟨u,rv,?_⟩
  rcases S.par y (List.mem_of_getElem? hp) with k | k
  ·exact .inl ⟨k,u0 ndP hp hu k⟩
  ·obtain ⟨c,e⟩:=yc (n:=s.heap.objs.size+1) k
   refine .inr ⟨.inl k,c,e,?_⟩
   have q:=x.cell y c e
   rw [u5 ndP hp hu (by show scope.names.lookup y≠_;rw [k];decide)] at q
   exact q
 ·exact e0.hok.fresh (Nat.le_of_lt (x.above y c (PySem.mem_of_lookup h)))
 ·unfold start
  show _=N.length
  rw [List.length_append,List.length_map,List.length_replicate]
  omega
theorem BV {CX:DK} {P:Program} {w:World} {K:PySem.W.Frag} {mg:Str→Option Value} {base:Heap} {k:Nat} {f:Addr} {name qual:Str} {params:Arguments} {body:List Stmt} {scope:Scope} {dV kV doc pm cdv ct oc:Value} {an od:Option Addr}
  {osl:Array (Option Value)} {N ps:List Str} {sp:Sp} (lk:K.lookup f=some ⟨oc,od,.func (PySem.W.fnOf name qual params body scope dV kV doc pm an cdv ct),osl⟩) (hcd:PySem.W.codeIn K cdv qual=true) (S:aD N ps scope)
  (len:∀ vs H Q E,sp vs H Q E→vs.length=ps.length)
  (hbody:∀ (A:Around) (outer:List Env) (s:Shared) (H:Hp) (vs:List V) (Q:VK) (E:XK),Room k (A.deeper (envOfC qual scope s.heap.objs.size f cdv))→sp vs H Q E→
   ∃ t,PSs (oR CX P w K mg base N qual scope f cdv A outer s H E) body t∧t {nx:=fun _ H'=>Q .non H',rt:=Q} (start N vs) H):
  FnOk P w K mg base CX (k+1) f (PySem.W.fnOf name qual params body scope dV kV doc pm an cdv ct) ps sp:=by
 refine ⟨len,fun A outer s H args us vs Q E hr e0 hb r hsp=>?_⟩
 have hl:=len _ _ _ _ hsp
 have KX:K.In s.heap:=e0.mod.kin.keeps fun b o e=>(e0.bs b o e).1
 have lim:s.heap.NoLimit:=e0.mod.nolimit.keeps fun b o e=>(e0.bs b o e).1
 have hkind:∀ y∈ps.zip us,scope.names.lookup y.1=some .local∨(scope.names.lookup y.1=some .cell∧((cellsFrom (s.heap.objs.size+1) scope.names []).lookup y.1).isSome=true):=fun ⟨n,v⟩ hy=>by
  rcases S.par n (List.of_mem_zip hy).1 with q | q
  ·exact .inl q
  ·exact .inr ⟨q,PySem.W.cellsFrom_some _ _ _ (.inl q)⟩
 refine codeAny_call_function hr.depth (KX _ _ lk) rfl S.co S.gen rfl (PySem.W.codeRec_of KX hcd) (hb _ _ _ _ ?_)
 refine wpAny_newFunctionEnv_cells S.kind hkind fun env he s1 x=>?_
 subst he
 refine ⟨lim.keeps x.toInCall.keep,codeAny_func ?_⟩
 obtain ⟨t,ht,hq⟩:=hbody A outer s H vs Q E (hr.deeper _) hsp
 have I:Inv (oR CX P w K mg base N qual scope f cdv A outer s H E) [] (start N vs) H s1:=DN S hr.hd e0 hl r x
 refine wpAny_mono (ht [] s1 (start N vs) H _ I hq) (fun fl s' hs=>?_) fun e s' hs=>hs
 have fin:∀ {σ':St} {H':Hp} {v:V} {u:Value},Inv (oR CX P w K mg base N qual scope f cdv A outer s H E) [] σ' H' s'→RelV v u→Q v H'→CE outer P w H s Q u s':=
  fun {σ' H' v u} J rv q=>⟨v,H',J.os,J.bare,J.base,J.hok,rv,q⟩
 cases fl with
 | ret u=>
  obtain ⟨v,σ',H',J,rv,q⟩:=hs
  exact fin J rv q
 | next=>
  obtain ⟨σ',H',J,q⟩:=hs
  exact fin (v:=V.non) (u:=Value.none) J rfl q
 | brk=>
  obtain ⟨_,_,_,q⟩:=hs
  exact False.elim q
 | cont=>
  obtain ⟨_,_,_,q⟩:=hs
  exact False.elim q
end L2
namespace L2
open PySem PySem.Spec PyProof.Rows
section
variable {X:Cx} {x:Str} {p pos:Pos} {e:Expr} {es:List Expr} {t:TA} {id T:String} {r:List V→Hp→VK→Prop}
def Rk (r:List V→Hp→VK→Prop) (t:TA):TE:=fun σ H Q=>t σ H fun vs H1=>r vs H1 Q
theorem G3 (hc:CallR X (.builtin id) r) (hg:Gl X x) (hm:X.mg x=none) (hv:bootBuiltins x=some (.builtin id)) (ha:PA X (e :: es) t) (hn:autoParam (x≠"__name__") L2.auto2._auto_1) (hdb:autoParam ((x == ("__debug__":Str))=false) L2.auto2._auto_1)
  (he:autoParam (starEach (e :: es) X.env=(false,eval e X.env) :: starEach es X.env) L2.auto4._auto_1) (hpl:autoParam ((backTo pos (starEach es X.env)).any (·.1)=false) L2.auto4._auto_1):PE X (.Call (.Name x p) (e :: es) [] pos) (Rk r t):=by
 intro pins s σ H Q I h
 refine wpAny_Call_Name_kw (jk I hg hm hv ?_ hn hdb)
 exact PyProof.Rows.callWith_builtin1 (eZ (ha pos pins s σ H _ I h) fun us s1 ⟨vs,H1,I1,r1,q1⟩=>hc pins s1 σ H1 vs us Q I1 r1 q1) he hpl
theorem DP (hc:CallR X (.type T) r) (hg:Gl X x) (hm:X.mg x=none) (hv:bootBuiltins x=some (.type T)) (ha:PA X (e :: es) t) (hn:autoParam (x≠"__name__") L2.auto2._auto_1) (hdb:autoParam ((x == ("__debug__":Str))=false) L2.auto2._auto_1)
  (he:autoParam (starEach (e :: es) X.env=(false,eval e X.env) :: starEach es X.env) L2.auto4._auto_1) (hpl:autoParam ((backTo pos (starEach es X.env)).any (·.1)=false) L2.auto4._auto_1):PE X (.Call (.Name x p) (e :: es) [] pos) (Rk r t):=by
 intro pins s σ H Q I h
 refine wpAny_Call_Name_kw (jk I hg hm hv ?_ hn hdb)
 exact PyProof.Rows.callWith_type1 (eZ (ha pos pins s σ H _ I h) fun us s1 ⟨vs,H1,I1,r1,q1⟩=>hc pins s1 σ H1 vs us Q I1 r1 q1) he hpl
end
end L2
namespace HT
open PySem PyProof.Rows
section
open PySem.SeqAt
open PySem.AutoSeq1 (wpAny_loadPart')
open PySem.MeetsSeq PySem.MeetsSeq2 PySem.MeetsSeq3
end
section
variable {prog:Program} {w:World} {A:Around} {E:Value→Shared→Prop} {s:Shared}
def sIx (n d:Nat):Option Int→Nat
 | none=>d
 | some v=>if v < 0 then (v+(n:Int)).toNat else min v.toNat n
theorem sIx_none (n d:Nat):sIx n d none=d:=rfl
theorem sIx_nat (n d k:Nat):sIx n d (some (k:Int))=min k n:=by
 show (if (k:Int) < 0 then ((k:Int)+(n:Int)).toNat else min (k:Int).toNat n)=min k n
 rw [if_neg (by omega),Int.toNat_natCast]
theorem sIx_le (n d:Nat) (hd:d≤n) (o:Option Int):sIx n d o≤n:=by
 cases o with
 | none=>exact hd
 | some v=>
  show (if v < 0 then (v+(n:Int)).toNat else min v.toNat n)≤n
  by_cases hv:v < 0
  ·rw [if_pos hv];omega
  ·rw [if_neg hv];exact Nat.min_le_right _ _
theorem clip_eq (v:Int) (n d:Nat):(if v < 0 then max (v+(n:Int)) 0 else min v (n:Int))=((sIx n d (some v):Nat):Int):=by
 show (if v < 0 then max (v+(n:Int)) 0 else min v (n:Int))=(((if v < 0 then (v+(n:Int)).toNat else min v.toNat n):Nat):Int)
 by_cases hv:v < 0
 ·simp only [if_pos hv];omega
 ·simp only [if_neg hv];omega
theorem Aa (lo hi:Option Int) (n:Nat):Builtin.Slice.sliceAdjust lo hi 1 (n:Int)=(((sIx n 0 lo:Nat):Int),((sIx n n hi:Nat):Int)):=by
 have h1:¬ ((1:Int) < 0):=by omega
 unfold Builtin.Slice.sliceAdjust
 simp only [h1,if_false]
 refine Prod.ext ?_ ?_
 ·cases lo with
  | none=>rfl
  | some v=>exact clip_eq v n 0
 ·cases hi with
  | none=>rfl
  | some v=>exact clip_eq v n n
theorem Ab (i j:Nat):Builtin.Slice.slicePlaces (i:Int) (j:Int) 1=j - i:=by
 unfold Builtin.Slice.slicePlaces
 have h1:(1:Int) > 0:=by omega
 simp only [h1,if_true,Int.ediv_one]
 split <;> omega
theorem tL {v:Value} {o:Option Int} {Q:Option Int→Shared→Prop} (p:IsPart v o) (h:Q o s):wpAny (model prog w) A (Builtin.Slice.slicePartIndex v) Q E s:=by
 cases p with
 | none=>exact slicePart_none h
 | int i t=>exact slicePart_int h
theorem qL {sl:Addr} {vl vu:Value} {lo hi:Option Int} {n:Nat} {Q:Int×Int×Nat→Shared→Prop} (hs:s.heap.IsSliceOf sl vl vu .none) (pl:IsPart vl lo) (pu:IsPart vu hi)
  (h:Q (((sIx n 0 lo:Nat):Int),1,sIx n n hi - sIx n 0 lo) s):wpAny (model prog w) A (Builtin.Slice.sliceApplied (.ref sl) (pure (n:Int))) Q E s:=by
 obtain ⟨os,hos,hcs,hds⟩:=id hs
 unfold Builtin.Slice.sliceApplied Builtin.Slice.sliceFields
 refine wpAny_bind (wpAny_bind (wpAny_field hos hds (x:=vl) rfl (wpAny_bind (wpAny_field hos hds (x:=vu) rfl (wpAny_bind (wpAny_field hos hds (x:=.none) rfl (wpAny_pure ?_)))))))
 refine wpAny_bind (slicePart_none ?_)
 show wpAny _ _ (if ((1:Int) == 0)=true then _ else _) _ _ s
 rw [if_neg (by decide)]
 refine wpAny_bind (tL pl (wpAny_bind (tL pu (wpAny_bind (wpAny_pure ?_)))))
 show wpAny _ _ (match Builtin.Slice.sliceAdjust lo hi 1 (n:Int) with | (lo,hi)=>pure (lo,(1:Int),Builtin.Slice.slicePlaces lo hi 1)) _ _ s
 rw [Aa lo hi n]
 show wpAny _ _ (pure (((sIx n 0 lo:Nat):Int),(1:Int),Builtin.Slice.slicePlaces ((sIx n 0 lo:Nat):Int) ((sIx n n hi:Nat):Int) 1)) _ _ s
 rw [Ab]
 exact wpAny_pure h
theorem G4 (xs:Array Value) (i k:Nat):((List.range k).filterMap fun (m:Nat)=>xs[((i:Int)+(m:Int)*1).toNat]?).toArray=((xs.toList.drop i).take k).toArray:=by
 have e:(fun (m:Nat)=>xs[((i:Int)+(m:Int)*1).toNat]?)=fun m=>xs[i+m]?:=by
  funext m
  have:((i:Int)+(m:Int)*1).toNat=i+m:=by omega
  rw [this]
 rw [e]
 have:=pick_run xs i k
 rw [List.filterMap_map] at this
 have e2:((fun x=>xs[x]?) ∘ fun x=>i+x)=fun m=>xs[i+m]?:=rfl
 rw [e2] at this
 rw [this]
theorem getItem_tuple_cut {t sl:Addr} {items:Array Value} {vl vu:Value} {lo hi:Option Int} {Q:Value→Shared→Prop} (ht:IsTup s.heap t items) (hs:s.heap.IsSliceOf sl vl vu .none) (pl:IsPart vl lo) (pu:IsPart vu hi)
  (hw:¬ (sIx items.size 0 lo=0∧sIx items.size items.size hi=items.size))
  (h:Q (.ref s.heap.objs.size) {s with heap:=s.heap.push {cls:=.type "tuple",data:=.seq ((items.toList.drop (sIx items.size 0 lo)).take (sIx items.size items.size hi - sIx items.size 0 lo)).toArray}})
  (hsz:items.size≤sizeLine):wpAny (model prog w) A (getItem (.ref t) (.ref sl)) Q E s:=by
 have htake:sizeOk (.seq ((items.toList.drop (sIx items.size 0 lo)).take (sIx items.size items.size hi - sIx items.size 0 lo)).toArray):=by
  show ((items.toList.drop (sIx items.size 0 lo)).take (sIx items.size items.size hi - sIx items.size 0 lo)).toArray.size≤sizeLine
  rw [List.size_toArray,List.length_take,List.length_drop,Array.length_toList]
  omega
 have hj:sIx items.size items.size hi≤items.size:=sIx_le _ _ (Nat.le_refl _) hi
 obtain ⟨os,hos,hcs,hds⟩:=id hs
 have hTs:s.TypeIs (.ref sl) "slice":=⟨os,hos,hcs⟩
 unfold getItem
 try with_reducible refine wpAny_holding ?_
 first | refine wpAny_bind (wpAny_pure ?_) | skip
 refine wpAny_bind (wpAny_sequenceKey ht.typeIs (by decide) ?_)
 refine wpAny_bind (wpAny_callSpecial?_slot (name:=Str.ofString "__getitem__") ht.typeIs PyProof.Rows.slot_tuple_getitem
  (wpAny_call_entry PyProof.Rows.slot_tuple_getitem ht.typeIs entry_tuple_getitem ?_ (args_tuple_getitem _ _)))
 show wpAny _ _ (Builtin.Tuple.tupleItemsOf (.ref t) >>=_) _ _ s
 refine wpAny_bind (tupleItemsOf_ ht ?_)
 refine wpAny_bind (wpAny_typeOf hTs ?_)
 rw [if_pos (by decide)]
 refine wpAny_bind (qL hs pl pu ?_)
 have hno:¬ ((((sIx items.size 0 lo:Nat):Int) == 0 && (1:Int) == 1 && (sIx items.size items.size hi - sIx items.size 0 lo) == items.size)=true):=by
  intro q
  rw [Bool.and_eq_true,Bool.and_eq_true] at q
  have q1:((sIx items.size 0 lo:Nat):Int)=0:=eq_of_beq q.1.1
  have q2:sIx items.size items.size hi - sIx items.size 0 lo=items.size:=eq_of_beq q.2
  exact hw ⟨by omega,by omega⟩
 show wpAny _ _ (if (((sIx items.size 0 lo:Nat):Int) == 0 && (1:Int) == 1 && (sIx items.size items.size hi - sIx items.size 0 lo) == items.size)=true then _ else _) _ _ s
 rw [if_neg hno,G4]
 first
  | exact wpAny_bind (m:=Builtin.Tuple.tupleExact _) (wpAny_newObj_type (wpAny_pure ⟨_,rfl,wpAny_pure h⟩) htake)
  | exact wpAny_bind (m:=Builtin.Tuple.tupleExact _) (wpAny_newObj_type (wpAny_bind (wpAny_pure (wpAny_pure ⟨_,rfl,wpAny_pure h⟩))) htake)
  | exact wpAny_bind (wpAny_bind (m:=Builtin.Tuple.tupleExact _) (wpAny_newObj_type (wpAny_pure (wpAny_pure ⟨_,rfl,wpAny_pure h⟩)) htake))
  | exact wpAny_bind (wpAny_bind (m:=Builtin.Tuple.tupleExact _) (wpAny_newObj_type (wpAny_pure ⟨_,rfl,wpAny_pure h⟩) htake))
end
end HT
namespace L2
open PySem PySem.Spec PyProof.Rows
abbrev TO:=St→Hp→(Option Int→Hp→Prop)→Prop
def PO (X:Cx) (e:Option Expr) (t:TO):Prop:=
 ∀ (pins:List (Addr×Obj)) (s:Shared) (σ:St) (H:Hp) (Q:Option Int→Hp→Prop),Inv X pins σ H s→t σ H Q→
  wpAny (model X.prog X.w) X.A (evalPart e X.env) (fun u s'=>∃ o H',Inv X pins σ H' s'∧IsPart u o∧Q o H') X.xe s
def vW:TO:=fun _ H Q=>Q none H
def G5 (t:TE):TO:=fun σ H Q=>t σ H fun x H1=>∃ i,x= .int i∧Q (some i) H1
theorem intsAre_of {ns:List Int}:∀ {us:List Value},Vals (ns.map V.int) us→IntsAre us ns:=by
 induction ns with
 | nil=>intro us r;rw [List.map_nil] at r;cases r;exact .nil
 | cons n ns ih=>
  intro us r
  rw [List.map_cons] at r
  cases r with
  | cons r1 r2=>
   obtain ⟨t,e⟩:=r1
   subst e
   exact .cons n t (ih r2)
section
variable {X:Cx} {e:Expr} {te:TE} {lo hi:Option Expr} {tl th:TO} {pos p2:Pos}
theorem Le:PO X none vW:=by
 intro pins s σ H Q I h
 rw [evalPart_none]
 exact wpAny_pure ⟨none,H,I,.none,h⟩
theorem Lf (h:PE X e te):PO X (some e) (G5 te):=by
 intro pins s σ H Q I hw
 rw [evalPart_some]
 refine eZ (h pins s σ H _ I hw) fun u s1 qq0=>?_
 obtain ⟨x,H1,I1,r1,q1⟩:=qq0
 obtain ⟨i,rfl,q⟩:=q1
 obtain ⟨t,rfl⟩:=r1
 exact ⟨some i,H1,I1,.int i t,q⟩
def SlR (X:Cx) (r:V→Option Int→Option Int→Hp→VK→Prop):Prop:=
 ∀ (pins:List (Addr×Obj)) (s:Shared) (σ:St) (H:Hp) (x:V) (v vl vu:Value) (lo hi:Option Int) (sl:Addr) (Q:VK),Inv X pins σ H s→RelV x v→s.heap.IsSliceOf sl vl vu .none→IsPart vl lo→IsPart vu hi→r x lo hi H Q→
  ∃ T id,typeLookup (.type T) "__getitem__"=pure (some (.builtin id))∧s.TypeIs v T∧wpAny (model X.prog X.w) X.A (getItem v (.ref sl)) (EP X pins σ Q) X.xe s
theorem SlR.or {r r':V→Option Int→Option Int→Hp→VK→Prop} (h:SlR X r) (h':SlR X r'):SlR X (fun x lo hi H Q=>r x lo hi H Q∨r' x lo hi H Q):=by
 intro pins s σ H x v vl vu lo hi sl Q I rx hs pl pu q
 rcases q with q | q
 ·exact h pins s σ H x v vl vu lo hi sl Q I rx hs pl pu q
 ·exact h' pins s σ H x v vl vu lo hi sl Q I rx hs pl pu q
def tSl (r:V→Option Int→Option Int→Hp→VK→Prop) (te:TE) (tl th:TO):TE:=fun σ H Q=>te σ H fun x H1=>tl σ H1 fun l H2=>th σ H2 fun u H3=>r x l u H3 Q
theorem G6 {r:V→Option Int→Option Int→Hp→VK→Prop} (hr:SlR X r) (he:PE X e te) (hl:PO X lo tl) (hu:PO X hi th):PE X (.Subscript e (.Slice lo hi none p2) pos) (tSl r te tl th):=by
 intro pins s σ H Q I h
 refine Subscript_ (eZ (he pins s σ H _ I h) fun v s1 qq0=>?_)
 obtain ⟨x,H1,I1,r1,q1⟩:=qq0
 refine wpAny_Slice (eZ (hl pins s1 σ H1 _ I1 q1) fun vl s2 ⟨l,H2,I2,pl,q2⟩=>eZ (hu pins s2 σ H2 _ I2 q2) fun vu s3 qq0=>?_)
 obtain ⟨u,H3,I3,pu,q3⟩:=qq0
 rw [evalPart_none]
 refine wpAny_pure ?_
 have I4:Inv X pins σ H3 {s3 with heap:=s3.heap.push {cls:=.type "slice",data:=.fields #[vl,vu,.none]}}:=I3.kept (t':=s3.toks) fun b ob q=>Heap.get?_push_of_some _ q
 obtain ⟨T,id,hT,ht,hg⟩:=hr pins {s3 with heap:=s3.heap.push {cls:=.type "slice",data:=.fields #[vl,vu,.none]}} σ H3 x v vl vu l u s3.heap.objs.size Q I4 r1 (Heap.IsSliceOf.new ..) pl pu q3
 show wpAny (model X.prog X.w) X.A (subscriptTail e (.Slice lo hi none p2) v (.ref s3.heap.objs.size)) (EP X pins σ Q) X.xe {s3 with heap:=s3.heap.push {cls:=.type "slice",data:=.fields #[vl,vu,.none]}}
 exact tail_any (ops:=[.ref s3.heap.objs.size,v]) ht hT hg (by with_unfolding_all rfl)
def qM (xs:List V) (lo hi:Option Int):List V:=(xs.drop (HT.sIx xs.length 0 lo)).take (HT.sIx xs.length xs.length hi - HT.sIx xs.length 0 lo)
theorem rC (xs:List V) (lo hi:Option Int):(qM xs lo hi).length≤xs.length:=by
 unfold qM
 rw [List.length_take,List.length_drop]
 omega
def Vg (K:PySem.W.Frag):V→Option Int→Option Int→Hp→VK→Prop:=fun x lo hi H Q=>∃ a xs,x= .ref a∧SqT K H a xs∧
 ¬ (HT.sIx xs.length 0 lo=0∧HT.sIx xs.length xs.length hi=xs.length)∧∀ p,H p=none→Q (.ref p) (upd H p (.tup (qM xs lo hi)))
theorem Rm:SlR X (Vg X.K):=by
 intro pins s σ H x v vl vu lo hi sl Q I rx hs pl pu h
 obtain ⟨a,xs,rfl,hx,hw,q⟩:=h
 cases rx
 obtain ⟨its,r,ht,hz⟩:=I.tuple hx
 have hlen:its.toArray.size=xs.length:=by rw [List.size_toArray];exact r.length.symm
 refine ⟨"tuple",_,PyProof.Rows.slot_tuple_getitem.lookup,ht.typeIs,?_⟩
 refine HT.getItem_tuple_cut ht hs pl pu (by rw [hlen];exact hw) ?_ (by rw [hlen];exact hz)
 rw [hlen]
 refine ⟨.ref s.heap.objs.size,_,I.laid (t':=s.toks) (o:=.tup (qM xs lo hi)) (fun b ob q=>Heap.get?_push_of_some _ q) (Nat.le_refl _) ?_,rfl,q _ (I.hok.fresh (Nat.le_refl _))⟩
 exact ⟨Nat.le_trans (rC xs lo hi) hz,_,(r.drop (HT.sIx xs.length 0 lo)).take (HT.sIx xs.length xs.length hi - HT.sIx xs.length 0 lo),IsTup.new _ _⟩
end
end L2
namespace L2
open PySem PySem.Spec PyProof.Rows
def G7 (n:Nat) (i:Int):Option Nat:=if 0≤i then (if i < n then some i.toNat else none) else if -(n:Int)≤i then some (i+n).toNat else none
def zO {α:Type} (xs:List α) (i:Int):Option α:=(G7 xs.length i).bind fun j=>xs[j]?
theorem BW {n:Nat} {i:Int} {j:Nat} (h:G7 n i=some j):seqIndex? i n=some j∧j < n∧-(n:Int)≤i∧i < n:=by
 unfold G7 at h
 by_cases h0:0≤i
 ·rw [if_pos h0] at h
  by_cases h1:i < n
  ·rw [if_pos h1] at h
   have e:i.toNat=j:=Option.some.inj h
   exact ⟨by rw [seqIndex_of h0 h1,e],by omega,by omega,h1⟩
  ·rw [if_neg h1] at h;cases h
 ·rw [if_neg h0] at h
  by_cases h1: -(n:Int)≤i
  ·rw [if_pos h1] at h
   have e:(i+n).toNat=j:=Option.some.inj h
   exact ⟨by rw [seqIndex_neg (by omega) h1,e],by omega,h1,by omega⟩
  ·rw [if_neg h1] at h;cases h
theorem vX {α:Type} {xs:List α} {i:Int} {v:α} (h:zO xs i=some v):∃ j,seqIndex? i xs.length=some j∧xs[j]?=some v∧j < xs.length∧-(xs.length:Int)≤i∧i < xs.length:=by
 unfold zO at h
 cases e:G7 xs.length i with
 | none=>rw [e] at h;cases h
 | some j=>
  rw [e] at h
  obtain ⟨h1,h2,h3,h4⟩:=BW e
  exact ⟨j,h1,h,h2,h3,h4⟩
theorem oF {α:Type} {xs:List α} {j:Nat} {v:α} (h:xs[j]?=some v):zO xs (j:Int)=some v:=by
 have hj:j < xs.length:=(List.getElem?_eq_some_iff.mp h).1
 have e:G7 xs.length (j:Int)=some j:=by
  unfold G7
  rw [if_pos (by omega),if_pos (by omega)];simp
 unfold zO;rw [e];exact h
def BX (b:Expr):Prop:=∀ o i,subscripted b false o i=operate [o,i] (getItem o i)
def IxR (X:Cx) (r:R2):Prop:=
 ∀ (value slice:Expr) (pins:List (Addr×Obj)) (s:Shared) (σ:St) (H:Hp) (x y:V) (v u:Value) (Q:VK),Inv X pins σ H s→RelV x v→RelV y u→r x y H Q→
  subscripted slice false v u=operate [v,u] (getItem v u)→wpAny (model X.prog X.w) X.A (subscriptTail value slice v u) (EP X pins σ Q) X.xe s
def Kq (X:Cx) (id:String) (r:V→List V→Hp→VK→Prop):Prop:=
 ∀ (pins:List (Addr×Obj)) (s:Shared) (σ:St) (H:Hp) (x:V) (xs:List V) (v:Value) (us:List Value) (Q:VK),Inv X pins σ H s→RelV x v→Vals xs us→r x xs H Q→
  wpAny (model X.prog X.w) X.A (call (.builtin id) (v :: us)) (EP X pins σ Q) X.xe s
section
variable {X:Cx} {a b:Expr} {ta tb:TE} {pos:Pos}
theorem IxR.or {r r':R2} (h:IxR X r) (h':IxR X r'):IxR X (fun x y H Q=>r x y H Q∨r' x y H Q):=by
 intro value slice pins s σ H x y v u Q I rx ry q hs
 rcases q with q | q
 ·exact h value slice pins s σ H x y v u Q I rx ry q hs
 ·exact h' value slice pins s σ H x y v u Q I rx ry q hs
theorem Vh {r:R2} (hr:IxR X r) (ha:PE X a ta) (hb:PE X b tb) (hs:BX b):PE X (.Subscript a b pos) (GD r ta tb):=by
 intro pins s σ H Q I h
 exact Subscript_ (Q5 ha hb I h fun v u s2 x y H2 I2 rx ry q=>hr a b pins s2 σ H2 x y v u Q I2 rx ry q (hs _ _))
def Vi (K:PySem.W.Frag):R2:=fun x y H Q=>∃ p xs i v,x= .ref p∧y= .int i∧SqL K H p xs∧zO xs i=some v∧Q v H
def Vj (K:PySem.W.Frag):R2:=fun x y H Q=>∃ p xs i v,x= .ref p∧y= .int i∧SqT K H p xs∧zO xs i=some v∧Q v H
def Vk:R2:=fun x y H Q=>∃ z i c,x= .str z∧y= .int i∧z.length≤sizeLine∧zO z.cps.toList i=some c∧Q (.str ⟨#[c]⟩) H
theorem Lg:IxR X (Vi X.K):=by
 intro value slice pins s σ H x y v u Q I rx ry h hs
 obtain ⟨p,xs,i,z,rfl,rfl,hq,he,q⟩:=h
 cases rx
 obtain ⟨t,rfl⟩:=ry
 obtain ⟨its,r,pl,hz⟩:=I.list hq
 obtain ⟨j,h1,h2,h3,h4,h5⟩:=vX he
 obtain ⟨w,ew,rw'⟩:=r.get h2
 have hl:=r.length
 have hn:=tK
 have fin:EP X pins σ Q w s:=⟨z,H,I,rw',q⟩
 by_cases h0:0≤i
 ·have hj:i.toNat=j:=by
   rw [seqIndex_of h0 h5] at h1
   exact Option.some.inj h1
  exact item_listR pl.isList h0 (by omega) (by rw [hj];simpa using ew) fin hs
 ·have hj:(i+(its.toArray.size:Int)).toNat=j:=by
   rw [seqIndex_neg (by omega) h4] at h1
   rw [List.size_toArray,← hl]
   exact Option.some.inj h1
  exact subscriptTail_builtinR (x:=w) pl.isList.typeIs slot_list_getitem.lookup
   (wpAny_getItem_list_neg (Q:=fun r s'=>r=w∧EP X pins σ Q r s') pl.isList (by omega) (by rw [List.size_toArray] <;> omega) (by omega) (by rw [hj];simpa using ew) ⟨rfl,fin⟩) hs
theorem Rn:IxR X (Vj X.K):=by
 intro value slice pins s σ H x y v u Q I rx ry h hs
 obtain ⟨p,xs,i,z,rfl,rfl,hq,he,q⟩:=h
 cases rx
 obtain ⟨t,rfl⟩:=ry
 obtain ⟨its,r,pl,hz⟩:=I.tuple hq
 obtain ⟨j,h1,h2,h3,h4,h5⟩:=vX he
 obtain ⟨w,ew,rw'⟩:=r.get h2
 have hl:=r.length
 have hn:=tK
 have fin:EP X pins σ Q w s:=⟨z,H,I,rw',q⟩
 exact subscriptTail_builtinR (x:=w) pl.typeIs slot_tuple_getitem.lookup
  (getItem_tuple (j:=j) (Q:=fun r s'=>r=w∧EP X pins σ Q r s') pl (by omega) (by omega) (by rw [List.size_toArray,← hl];exact h1) (by simpa using ew) ⟨rfl,fin⟩) hs
theorem Ro:IxR X Vk:=by
 intro value slice pins s σ H x y v u Q I rx ry h hs
 obtain ⟨z,i,c,rfl,rfl,hz,he,q⟩:=h
 obtain ⟨t,rfl⟩:=rx
 obtain ⟨t',rfl⟩:=ry
 obtain ⟨j,h1,h2,h3,h4,h5⟩:=vX he
 have hl:z.cps.toList.length=z.length:=by simp [Str.length]
 rw [hl] at h1 h4 h5
 have hn:=tK
 exact tail_any (typeIs_str s z t) slot_str_getitem.lookup (getItem_str (c:=c) (by
  have e1:decide (i < -(2 ^ 63:Int))=false:=decide_eq_false (by omega)
  have e2:decide (i≥2 ^ 63)=false:=decide_eq_false (by omega)
  rw [e1,e2,Bool.or_false]) (by rw [h1];simpa using h2) ⟨.str ⟨#[c]⟩,H,I.tok _,⟨_,rfl⟩,q⟩) hs
def Rp (K:PySem.W.Frag):R2:=fun x y H Q=>Vi K x y H Q∨Vj K x y H Q∨Vk x y H Q
theorem Rq:IxR X (Rp X.K):=Lg.or (Rn.or Ro)
theorem Ac (its:List Value) (n j:Nat) (u:Value):Obj.mapSeq (·.setIfInBounds j u) {cls:=.type "list",data:=.seq its.toArray n}={cls:=.type "list",data:=.seq (its.set j u).toArray n}:=by
 simp [Obj.mapSeq]
theorem Inv.lst {pins:List (Addr×Obj)} {σ:St} {H:Hp} {s:Shared} {p:Addr} {xs:List V} (I:Inv X pins σ H s) (h:H p=some (.lst xs)):
  ∃ (its:List Value) (n:Nat),Vals xs its∧s.heap.get? p=some {cls:=.type "list",data:=.seq its.toArray n}∧xs.length≤sizeLine:=by
 obtain ⟨z,its,n,r,e⟩:=I.hok p _ h
 exact ⟨its,n,r,e,z⟩
theorem Inv.lstUpd {pins:List (Addr×Obj)} {σ:St} {H:Hp} {s:Shared} {p:Addr} {xs ys:List V} {its its':List Value} {n n':Nat} {f:Obj→Obj} (I:Inv X pins σ H s) (h:H p=some (.lst xs))
  (ho:s.heap.get? p=some {cls:=.type "list",data:=.seq its.toArray n}) (hf:f {cls:=.type "list",data:=.seq its.toArray n}={cls:=.type "list",data:=.seq its'.toArray n'}) (r:Vals ys its') (hz:ys.length≤sizeLine) (t:Nat):
  Inv X pins σ (upd H p (.lst ys)) {s with heap:=s.heap.update p f,toks:=t}:=by
 have e:(s.heap.update p f).get? p=some {cls:=.type "list",data:=.seq its'.toArray n'}:=by
  rw [Heap.get?_update_self f ho (by rw [hf] <;> rfl),hf]
 refine I.write (x:=p) (e:=p) (by rw [h];trivial) (.inl rfl) (fun b u hb q=>(Heap.get?_update_other _ _ (Ne.symm hb)).trans q) ⟨_,e⟩ ?_
 exact ⟨hz,its',n',r,e⟩
def G8:V→V→V→Hp→(Hp→Prop)→Prop:=fun o i v H Q=>∃ p xs k j,o= .ref p∧i= .int k∧H p=some (.lst xs)∧G7 xs.length k=some j∧Q (upd H p (.lst (xs.set j v)))
theorem set_list:KN X G8:=by
 intro pins s σ H o i v ov iv u Q I ro ri rv h
 obtain ⟨p,xs,k,j,rfl,rfl,hp,hj,q⟩:=h
 cases ro
 obtain ⟨t,rfl⟩:=ri
 obtain ⟨its,n,r,ho,hz⟩:=I.lst hp
 obtain ⟨h1,h2,h3,h4⟩:=BW hj
 have hl:=r.length
 have hn:=tK
 have I':Inv X pins σ (upd H p (.lst (xs.set j v))) {s with heap:=s.heap.update p (Obj.mapSeq (·.setIfInBounds j u))}:=
  I.lstUpd hp ho (Ac its n j u) (r.set rv j) (by rw [List.length_set];exact hz) s.toks
 by_cases h0:0≤k
 ·have hk:k.toNat=j:=by
   rw [seqIndex_of h0 h4] at h1
   exact Option.some.inj h1
  exact PySem.W.ki_setAt ho h0 (by omega) (by rw [List.size_toArray,← hl];exact h4) (by rw [hk];exact ⟨_,I',q⟩)
 ·have hk:(k+(its.toArray.size:Int)).toNat=j:=by
   rw [seqIndex_neg (by omega) h3] at h1
   rw [List.size_toArray,← hl]
   exact Option.some.inj h1
  exact PySem.W.ki_setBack ho (by omega) (by rw [List.size_toArray,← hl];exact h3) (by omega) (by rw [hk];exact ⟨_,I',q⟩)
theorem vY (lo hi:Option Int) (n:Nat):(sliceBounds lo hi none n).1=((HT.sIx n 0 lo:Nat):Int)∧(sliceBounds lo hi none n).2.1=((HT.sIx n n hi:Nat):Int)∧(sliceBounds lo hi none n).2.2=1:=by
 refine ⟨?_,?_,rfl⟩
 ·cases lo with
  | none=>simp [sliceBounds,HT.sIx]
  | some i=>
   simp only [sliceBounds,HT.sIx,Option.getD_none,show (1:Int) > 0 by decide,if_true]
   by_cases h:i < 0
   ·simp only [h,if_true] <;> omega
   ·simp only [h,if_false] <;> omega
 ·cases hi with
  | none=>simp [sliceBounds,HT.sIx]
  | some i=>
   simp only [sliceBounds,HT.sIx,Option.getD_none,show (1:Int) > 0 by decide,if_true]
   by_cases h:i < 0
   ·simp only [h,if_true] <;> omega
   ·simp only [h,if_false] <;> omega
theorem uD (its:List Value) (lo hi:Option Int):slicePick its.toArray lo hi none=((its.drop (HT.sIx its.length 0 lo)).take (HT.sIx its.length its.length hi - HT.sIx its.length 0 lo)).toArray:=by
 obtain ⟨h1,h2,h3⟩:=vY lo hi its.toArray.size
 unfold slicePick
 rw [h1,h2,h3]
 simp only [sliceRange_one,pick_run,List.size_toArray] <;> rfl
def Vl (K:PySem.W.Frag):V→Option Int→Option Int→Hp→VK→Prop:=fun x lo hi H Q=>∃ a xs,x= .ref a∧SqL K H a xs∧∀ p,H p=none→Q (.ref p) (upd H p (.lst (qM xs lo hi)))
theorem Lh:SlR X (Vl X.K):=by
 intro pins s σ H x v vl vu lo hi sl Q I rx hs pl pu h
 obtain ⟨a,xs,rfl,hx,q⟩:=h
 cases rx
 obtain ⟨its,r,ht,hz⟩:=I.list hx
 have hlen:=r.length
 refine ⟨"list",_,slot_list_getitem.lookup,ht.isList.typeIs,?_⟩
 refine wpAny_getItem_list_slice ht.isList hs pl pu .none (by simp) ?_ (by rw [List.size_toArray] <;> omega)
 rw [uD,← hlen]
 refine ⟨.ref s.heap.objs.size,_,I.laid (t':=s.toks) (o:=.lst (qM xs lo hi)) (fun b ob q=>Heap.get?_push_of_some _ q) (Nat.le_refl _) ?_,rfl,q _ (I.hok.fresh (Nat.le_refl _))⟩
 exact ⟨Nat.le_trans (rC xs lo hi) hz,_,0,(r.drop (HT.sIx xs.length 0 lo)).take (HT.sIx xs.length xs.length hi - HT.sIx xs.length 0 lo),Heap.get?_push_size _ rfl⟩
def jl:V→Bool
 | .non=>true
 | .bl _=>true
 | .int _=>true
 | .str _=>true
 | _=>false
def BZ:V→V→Bool
 | .non,.non=>true
 | .bl a,.bl b=>a == b
 | .bl a,.int b=>(if a then 1 else 0) == b
 | .int a,.bl b=>a == (if b then 1 else 0)
 | .int a,.int b=>a == b
 | .str a,.str b=>a == b
 | _,_=>false
theorem qN {A:Around} {s:Shared} {y x:V} {u v:Value} (ry:RelV y u) (rx:RelV x v) (fy:jl y=true) (fx:jl x=true):SeqAt.EqAt A s u v (BZ y x):=by
 cases y with
 | non=>
  cases ry
  cases x with
  | non=>cases rx;exact SeqAt.EqAt.same _
  | bl b=>cases rx;exact SeqAt.EqAt.none_bool b
  | int b=>obtain ⟨t,rfl⟩:=rx;exact SeqAt.EqAt.none_int b t
  | str b=>obtain ⟨t,rfl⟩:=rx;exact SeqAt.EqAt.none_str b t
  | _=>exact absurd (show false=true from fx) Bool.false_ne_true
 | bl a=>
  cases ry
  cases x with
  | non=>cases rx;exact SeqAt.EqAt.bool_none a
  | bl b=>cases rx;exact SeqAt.EqAt.bool_bool a b
  | int b=>obtain ⟨t,rfl⟩:=rx;exact SeqAt.EqAt.bool_int a b t
  | str b=>obtain ⟨t,rfl⟩:=rx;exact SeqAt.EqAt.bool_str a b t
  | _=>exact absurd (show false=true from fx) Bool.false_ne_true
 | int a=>
  obtain ⟨t',rfl⟩:=ry
  cases x with
  | non=>cases rx;exact SeqAt.EqAt.int_none a t'
  | bl b=>cases rx;exact SeqAt.EqAt.int_bool a t' b
  | int b=>obtain ⟨t,rfl⟩:=rx;exact SeqAt.EqAt.int_int a t' b t
  | str b=>obtain ⟨t,rfl⟩:=rx;exact SeqAt.EqAt.int_str a t' b t
  | _=>exact absurd (show false=true from fx) Bool.false_ne_true
 | str a=>
  obtain ⟨t',rfl⟩:=ry
  cases x with
  | non=>cases rx;exact SeqAt.EqAt.str_none a t'
  | bl b=>cases rx;exact SeqAt.EqAt.str_bool a t' b
  | int b=>obtain ⟨t,rfl⟩:=rx;exact SeqAt.EqAt.str_int a t' b t
  | str b=>obtain ⟨t,rfl⟩:=rx;exact SeqAt.EqAt.str_str a t' b t
  | _=>exact absurd (show false=true from fx) Bool.false_ne_true
 | _=>exact absurd (show false=true from fy) Bool.false_ne_true
def Ad (x:V) (u:Value):Bool:=match u with
 | .none=>BZ .non x
 | .bool b=>BZ (.bl b) x
 | .int i _=>BZ (.int i) x
 | .str z _=>BZ (.str z) x
 | _=>false
theorem G9 {x y:V} {u:Value} (r:RelV y u) (f:jl y=true):Ad x u=BZ y x:=by
 cases y with
 | non=>cases r;rfl
 | bl b=>cases r;rfl
 | int i=>obtain ⟨t,rfl⟩:=r;rfl
 | str z=>obtain ⟨t,rfl⟩:=r;rfl
 | _=>exact absurd (show false=true from f) Bool.false_ne_true
theorem pQ {x:V}:∀ {xs:List V} {us:List Value},Vals xs us→xs.all jl=true→us.any (Ad x)=xs.any fun y=>BZ y x
 | _,_,.nil,_=>rfl
 | y :: xs,u :: us,.cons r t,f=>by
  rw [List.all_cons,Bool.and_eq_true] at f
  rw [List.any_cons,List.any_cons,G9 r f.1,pQ t f.2]
theorem m9 {A:Around} {s:Shared} {x:V} {v:Value} (rx:RelV x v) (fx:jl x=true):∀ {xs:List V} {us:List Value},Vals xs us→xs.all jl=true→∀ u∈us,SeqAt.EqAt A s u v (Ad x u)
 | _,_,.nil,_=>fun u hu=>by cases hu
 | y :: xs,u :: us,.cons r t,f=>fun u' hu=>by
  rw [List.all_cons,Bool.and_eq_true] at f
  rcases List.mem_cons.mp hu with rfl | hu
  ·rw [G9 r f.1];exact qN r rx f.1 fx
  ·exact m9 rx fx t f.2 u' hu
def inV (x:V) (xs:List V):Bool:=xs.any fun y=>BZ y x
def Ym (K:PySem.W.Frag) (neg:Bool):R2:=fun x y H Q=>∃ p xs,y= .ref p∧(SqL K H p xs∨SqT K H p xs)∧jl x=true∧xs.all jl=true∧Q (.bl (if neg then !inV x xs else inV x xs)) H
theorem DQ:OpR X (compareOp .In) (Ym X.K false):=by
 intro pins s σ H x y v u Q I rx ry h
 obtain ⟨p,xs,rfl,hq,fx,fs,q⟩:=h
 cases ry
 rcases hq with hq | hq
 ·obtain ⟨its,r,pl,hz⟩:=I.list hq
  refine SeqAt.in_listAt (Ad x) pl.isList (fun w hw=>m9 rx fx r fs w (by simpa using hw)) ⟨.bl _,H,I,rfl,?_⟩
  rw [show its.toArray.any (Ad x)=its.any (Ad x) by simp,pQ r fs]
  exact q
 ·obtain ⟨its,r,pl,hz⟩:=I.tuple hq
  refine SeqAt.in_tupleAt (Ad x) pl (fun w hw=>m9 rx fx r fs w (by simpa using hw)) ⟨.bl _,H,I,rfl,?_⟩
  rw [show its.toArray.any (Ad x)=its.any (Ad x) by simp,pQ r fs]
  exact q
theorem vZ:OpR X (compareOp .NotIn) (Ym X.K true):=by
 intro pins s σ H x y v u Q I rx ry h
 obtain ⟨p,xs,rfl,hq,fx,fs,q⟩:=h
 cases ry
 rcases hq with hq | hq
 ·obtain ⟨its,r,pl,hz⟩:=I.list hq
  refine SeqAt.notIn_listAt (Ad x) pl.isList (fun w hw=>m9 rx fx r fs w (by simpa using hw)) ⟨.bl _,H,I,rfl,?_⟩
  rw [show its.toArray.any (Ad x)=its.any (Ad x) by simp,pQ r fs]
  exact q
 ·obtain ⟨its,r,pl,hz⟩:=I.tuple hq
  refine SeqAt.notIn_tupleAt (Ad x) pl (fun w hw=>m9 rx fx r fs w (by simpa using hw)) ⟨.bl _,H,I,rfl,?_⟩
  rw [show its.toArray.any (Ad x)=its.any (Ad x) by simp,pQ r fs]
  exact q
theorem v4:OpR X (compareOp .NotIn) (fun x y H Q=>∃ i j,x= .str i∧y= .str j∧Q (.bl (!(!(Builtin.Str.occurrences j i 0 j.length 1).isEmpty))) H):=by
 intro pins s σ H x y v u Q I rx ry h
 obtain ⟨i,j,rfl,rfl,q⟩:=h
 obtain ⟨t,rfl⟩:=rx
 obtain ⟨t',rfl⟩:=ry
 exact notIn_str ⟨.bl _,H,I,rfl,q⟩
theorem CallR.or {f:Value} {r r':List V→Hp→VK→Prop} (h:CallR X f r) (h':CallR X f r'):CallR X f (fun xs H Q=>r xs H Q∨r' xs H Q):=by
 intro pins s σ H xs us Q I rs q
 rcases q with q | q
 ·exact h pins s σ H xs us Q I rs q
 ·exact h' pins s σ H xs us Q I rs q
theorem v5:CallR X (.type "list") (fun xs H Q=>∃ p ys,xs=[.ref p]∧(SqL X.K H p ys∨SqT X.K H p ys)∧∀ l,H l=none→Q (.ref l) (upd H l (.lst ys))):=by
 intro pins s σ H xs us Q I r h
 obtain ⟨p,ys,rfl,hq,q⟩:=h
 obtain ⟨u,rfl,rx⟩:=vals1 r
 cases rx
 have fin:∀ (its:List Value),Vals ys its→ys.length≤sizeLine→∀ (h':Heap) (c':Nat),(∀ b o',s.heap.get? b=some o'→h'.get? b=some o')→
   h'.get? s.heap.objs.size=some {cls:=.type "list",dict:=none,data:=.seq its.toArray c',slots:=#[]}→EP X pins σ Q (.ref s.heap.objs.size) {s with heap:=h'}:=fun its r' hz h' c' kp e=>
  ⟨.ref s.heap.objs.size,_,I.laid (t':=s.toks) kp (Nat.le_refl _) (show ObjOk X.prog X.w _ h' _ (.lst ys) from ⟨hz,its,c',r',e⟩),rfl,q _ (I.hok.fresh (Nat.le_refl _))⟩
 rcases hq with hq | hq
 ·obtain ⟨its,r',pl,hz⟩:=I.list hq
  have hlen:=r'.length
  obtain ⟨o,ho,hc,n,hd⟩:=pl.isList
  exact call_list_seq p (.inl rfl) ho hc hd (fun h' c' kp e=>fin its r' hz h' c' kp e) (by simp only [List.size_toArray] <;> omega)
 ·obtain ⟨its,r',pl,hz⟩:=I.tuple hq
  have hlen:=r'.length
  obtain ⟨o,ho,hc,n,hd⟩:=pl
  exact call_list_seq p (.inr rfl) ho hc hd (fun h' c' kp e=>fin its r' hz h' c' kp e) (by simp only [List.size_toArray] <;> omega)
def Vm (K:PySem.W.Frag) (T:String) (x:V) (H:Hp):Prop:=match x with
 | .str _=>T="str"
 | .int _=>T="int"
 | .ref p=>(T="list"∧∃ xs,SqL K H p xs)∨(T="tuple"∧∃ o,K.lookup p=some o∧o.cls= .type "tuple"∧o.dict=none)∨
   (T="dict"∧((∃ kvs,H p=some (.dK kvs))∨∃ kvs,H p=some (.dT kvs)))∨(T="set"∧∃ S n,H p=some (.set S n))
 | _=>False
theorem Ha {pins:List (Addr×Obj)} {σ:St} {H:Hp} {s:Shared} {T:String} {x:V} {v:Value} (I:Inv X pins σ H s) (r:RelV x v) (ty:Vm X.K T x H):
  s.TypeIs v T∧∀ a,v= .ref a→∃ ob,s.heap.get? a=some ob∧ob.dict=none:=by
 cases x with
 | str z=>
  obtain ⟨t,rfl⟩:=r
  cases (show T="str" from ty)
  exact ⟨typeIs_str s z t,fun _ e=>nomatch e⟩
 | int i=>
  obtain ⟨t,rfl⟩:=r
  cases (show T="int" from ty)
  exact ⟨typeIs_int s i t,fun _ e=>nomatch e⟩
 | ref p=>
  cases r
  rcases ty with ⟨rfl,xs,hq⟩ | ⟨rfl,o,hk,hc,hd⟩ | ⟨rfl,hk⟩ | ⟨rfl,S,n,hk⟩
  ·obtain ⟨its,_,pl,_⟩:=I.list hq
   refine ⟨pl.isList.typeIs,fun a e=>?_⟩
   cases e
   obtain ⟨o,n,e,c,hd,_⟩:=pl
   exact ⟨o,e,hd⟩
  ·refine ⟨⟨o,I.kIn p o hk,hc⟩,fun a e=>?_⟩
   cases e
   exact ⟨o,I.kIn _ o hk,hd⟩
  ·have z:∃ o,s.heap.get? p=some o∧o.ExactDict:=by
    rcases hk with ⟨kvs,hk⟩ | ⟨kvs,hk⟩
    ·obtain ⟨_,_,_,_,o,_,_,e,ex,_⟩:=I.hok p _ hk
     exact ⟨o,e,ex⟩
    ·obtain ⟨_,_,_,_,o,_,_,e,ex,_⟩:=I.hok p _ hk
     exact ⟨o,e,ex⟩
   obtain ⟨o,e,ex⟩:=z
   refine ⟨⟨o,e,ex.1⟩,fun a e2=>?_⟩
   cases e2
   exact ⟨o,e,ex.2.1⟩
  ·obtain ⟨o,_,_,_,e,ex,_⟩:=I.hok p _ hk
   refine ⟨⟨o,e,ex.1⟩,fun a e2=>?_⟩
   cases e2
   exact ⟨o,e,ex.2.1⟩
 | _=>exact False.elim ty
def Hb (K:PySem.W.Frag) (T:String) (r:V→List V→Hp→VK→Prop) (to:TE):TE:=fun σ H Q=>to σ H fun x H1=>Vm K T x H1∧r x [] H1 Q
def Vn (K:PySem.W.Frag) (T:String) (r:V→List V→Hp→VK→Prop) (to:TE) (t:TA):TE:=fun σ H Q=>to σ H fun x H1=>Vm K T x H1∧t σ H1 fun xs H2=>r x xs H2 Q
variable {o e:Expr} {es:List Expr} {to:TE} {t:TA} {name:Str} {apos cpos:Pos} {T id:String} {r:V→List V→Hp→VK→Prop}
theorem Rr (pa:PlainAttrs T) (slot:Slot T name id) (hty:typeOf (.builtin id)=pure (.type "method_descriptor")) (hm:Kq X id r) (ho:PE X o to)
  (hbase:autoParam (attributeBase o name X.env (eval o X.env)=eval o X.env) L2.auto4._auto_1) (hline:autoParam ((apos.endLine == cpos.line)=true) L2.auto4._auto_1):PE X (.Call (.Attribute o name apos) [] [] cpos) (Hb X.K T r to):=by
 intro pins s σ H Q I h
 refine wpAny_Call_method0_late hbase hline (eZ (ho pins s σ H _ I h) fun v s1 qq0=>?_)
 obtain ⟨x,H1,I1,r1,ty,q1⟩:=qq0
 obtain ⟨h1,h2⟩:=Ha I1 r1 ty
 exact ⟨T,id,pa,slot,hty,h1,h2,Calls.callWith_builtin rfl (PySem.evalArgs_none (hm pins s1 σ H1 x [] v [] Q I1 r1 .nil q1))⟩
theorem Vo (pa:PlainAttrs T) (slot:Slot T name id) (hty:typeOf (.builtin id)=pure (.type "method_descriptor")) (hm:Kq X id r) (ho:PE X o to) (ha:PA X (e :: es) t)
  (hbase:autoParam (attributeBase o name X.env (eval o X.env)=eval o X.env) L2.auto4._auto_1)
  (hfew:((backTo cpos (starEach (e :: es) X.env)).all (fun x=>!x.1) && (backToKw cpos (keywordEach [] X.env)).all (fun x=>x.1.isSome)
   && decide ((e :: es).length+([]:List Keyword).length+(if ([]:List Keyword).isEmpty then 0 else 1) < 30))=true:=by rfl)
  (hline:autoParam ((apos.endLine == cpos.line)=true) L2.auto4._auto_1) (hs:autoParam (starEach (e :: es) X.env=(false,eval e X.env) :: starEach es X.env) L2.auto4._auto_1) (hplain:autoParam ((backTo cpos (starEach es X.env)).any (·.1)=false) L2.auto4._auto_1):
  PE X (.Call (.Attribute o name apos) (e :: es) [] cpos) (Vn X.K T r to t):=by
 intro pins s σ H Q I h
 refine wpAny_Call_method_late hbase hfew hline rfl (eZ (ho pins s σ H _ I h) fun v s1 qq0=>?_)
 obtain ⟨x,H1,I1,r1,ty,q1⟩:=qq0
 obtain ⟨h1,h2⟩:=Ha I1 r1 ty
 refine ⟨T,id,pa,slot,hty,h1,h2,?_⟩
 have hA:=ha cpos pins s1 σ H1 _ I1 q1
 rw [hs] at hA ⊢
 refine Calls.callWith_builtin (by show (false || (backTo cpos (starEach es X.env)).any (·.1))=false;rw [hplain] <;> rfl) (Calls.evalArgs_plain ?_)
 exact eZ hA fun us s2 ⟨vs,H2,I2,r2,q2⟩=>hm pins s2 σ H2 x vs v us Q I2 r1 r2 q2
end
end L2
namespace L2
open PySem PySem.Spec PyProof.Rows
def MtM (X:Cx) (id:String) (r:V→List V→Hp→VK→Prop):Prop:=
 ∀ (pins:List (Addr×Obj)) (s:Shared) (σ:St) (H:Hp) (x:V) (xs:List V) (v:Value) (us:List Value) (Q:VK),Inv X pins σ H s→RelV x v→Vals xs us→r x xs H Q→
  wpAny (model X.prog X.w) X.A (call (.builtin id) (v :: us)) (EP X pins σ Q) X.xe s
theorem Vals.one:∀ {x:V} {us:List Value},Vals [x] us→∃ u,us=[u]∧RelV x u
 | _,_,.cons r .nil=>⟨_,rfl,r⟩
theorem Vals.zero:∀ {us:List Value},Vals [] us→us=[]
 | _,.nil=>rfl
theorem Vals.dropLast {xs:List V} {us:List Value} (h:Vals xs us):Vals xs.dropLast us.dropLast:=by
 induction h with
 | nil=>exact .nil
 | cons r t ih=>
  cases t with
  | nil=>exact .nil
  | cons q t'=>exact .cons r ih
theorem Vals.reverse {xs:List V} {us:List Value} (h:Vals xs us):Vals xs.reverse us.reverse:=by
 induction h with
 | nil=>exact .nil
 | cons r t ih=>rw [List.reverse_cons,List.reverse_cons];exact Vals.append ih (.cons r .nil)
theorem Vals.rep {xs:List V} {us:List Value} (h:Vals xs us):∀ k:Nat,Vals (List.replicate k xs).flatten (List.replicate k us).flatten
 | 0=>.nil
 | k+1=>by
  rw [List.replicate_succ,List.replicate_succ,List.flatten_cons,List.flatten_cons]
  exact Vals.append h (Vals.rep h k)
theorem Ae {α:Type} (l:List α):l.eraseIdx (l.length - 1)=l.dropLast:=by
 induction l with
 | nil=>rfl
 | cons a r ih=>
  cases r with
  | nil=>rfl
  | cons b r=>
   have e:(a :: b :: r).length - 1=((b :: r).length - 1)+1:=by
    have h1:(a :: b :: r).length=r.length+2:=rfl
    have h2:(b :: r).length=r.length+1:=rfl
    omega
   rw [e,List.eraseIdx_cons_succ,ih]
   all_goals rfl
theorem foldl_rep (its:List Value):∀ (k:Nat) (acc:List Value),
  List.foldl (fun x1 x2=>x1 ++ x2) acc.toArray (List.replicate k its.toArray)=(acc ++ (List.replicate k its).flatten).toArray
 | 0,acc=>by simp
 | k+1,acc=>by
  have e:acc.toArray ++ its.toArray=(acc ++ its).toArray:=by simp
  have e2:(acc ++ its) ++ (List.replicate k its).flatten=acc ++ (List.replicate (k+1) its).flatten:=by
   rw [List.replicate_succ,List.flatten_cons,List.append_assoc]
  rw [← e2,← foldl_rep its k (acc ++ its),← e,List.replicate_succ,List.foldl_cons]
section
variable {X:Cx} {pins:List (Addr×Obj)} {σ:St} {H:Hp} {s:Shared} {l b:Addr} {xs ys zs:List V}
theorem Inv.lset {its its':List Value} {n:Nat} {f:Array Value→Array Value} {t':Nat} (I:Inv X pins σ H s) (hH:H l=some (.lst xs))
  (e:s.heap.get? l=some {cls:=.type "list",data:=.seq its.toArray n}) (hf:f its.toArray=its'.toArray) (hv:Vals ys its') (hz:ys.length≤sizeLine):
  Inv X pins σ (upd H l (.lst ys)) {s with heap:=s.heap.update l (Obj.mapSeq f),toks:=t'}:=by
 have q:=PySem.IsL.update e f
 rw [hf] at q
 refine I.write (x:=l) (e:=l) (by rw [hH];exact trivial) (.inl rfl) (fun b' u hb hu=>(Heap.get?_update_other s.heap (Obj.mapSeq f) (Ne.symm hb)).trans hu) ⟨_,q⟩ ?_
 exact ⟨hz,its',_,hv,q⟩
theorem Inv.lnew {its:List Value} {t':Nat} (I:Inv X pins σ H s) (hv:Vals ys its) (hz:ys.length≤sizeLine):
  Inv X pins σ (upd H s.heap.objs.size (.lst ys)) {s with heap:=s.heap.push {cls:=.type "list",data:=.seq its.toArray},toks:=t'}:=
 I.laid (fun _ _ q=>Heap.get?_push_of_some _ q) (Nat.le_refl _) ⟨hz,its,0,hv,Heap.get?_push_size _ rfl⟩
theorem Inv.fresh (I:Inv X pins σ H s):H s.heap.objs.size=none:=I.hok.fresh (Nat.le_refl _)
theorem Inv.lstM (I:Inv X pins σ H s) (hH:H l=some (.lst xs)):xs.length≤sizeLine∧∃ (its:List Value) (n:Nat),Vals xs its∧xs.length=its.length∧s.heap.get? l=some {cls:=.type "list",data:=.seq its.toArray n}:=by
 obtain ⟨z,its,n,r,e⟩:=I.hok l _ hH
 exact ⟨z,its,n,r,r.length,e⟩
theorem Hc {n:Nat} (h:n≤sizeLine):Builtin.List.listTooLong n=false:=by
 unfold Builtin.List.listTooLong
 exact decide_eq_false (by omega)
end
section
variable {X:Cx}
def Ca:V→List V→Hp→VK→Prop:=fun x vs H Q=>∃ l xs y,x= .ref l∧vs=[y]∧H l=some (.lst xs)∧xs.length < sizeLine∧Q .non (upd H l (.lst (xs ++ [y])))
theorem lH:MtM X "list.append" Ca:=by
 intro pins s σ H x vs v us Q I rx rv h
 obtain ⟨l,xs,y,rfl,rfl,hH,hz,q⟩:=h
 cases rx
 obtain ⟨u,rfl,ru⟩:=rv.one
 obtain ⟨z,its,n,r,hl,e⟩:=I.lstM hH
 refine call_meets F.slot_list_append ⟨_,e,rfl⟩ F.entry_list_append (F.args_list_append_2 _ _) (PySem.list_append l its.toArray n u (by rw [List.size_toArray];omega)) ⟨e,?_⟩
 refine ⟨.non,_,I.lset (its':=its ++ [u]) hH e (by simp) (r.append (.cons ru .nil)) ?_,rfl,q⟩
 rw [List.length_append,List.length_singleton]
 omega
def rPop:V→List V→Hp→VK→Prop:=fun x vs H Q=>∃ l xs y,x= .ref l∧vs=[]∧H l=some (.lst xs)∧xs[xs.length - 1]?=some y∧Q y (upd H l (.lst xs.dropLast))
theorem Rt:MtM X "list.pop" rPop:=by
 intro pins s σ H x vs v us Q I rx rv h
 obtain ⟨l,xs,y,rfl,rfl,hH,hy,q⟩:=h
 cases rx
 have hus:=rv.zero
 subst hus
 obtain ⟨z,its,n,r,hl,e⟩:=I.lstM hH
 obtain ⟨u,hu,ru⟩:=r.get hy
 have hy':its.toArray[its.toArray.size - 1]?=some u:=by
  show its.toArray[its.length - 1]?=some u
  rw [← Array.getElem?_toList,← hl]
  exact hu
 refine call_meets F.slot_list_pop ⟨_,e,rfl⟩ F.entry_list_pop (F.args_list_pop_1 _) (MeetsSeq.list_pop_last l its.toArray n u hy' (by rw [List.size_toArray];omega)) ⟨e,?_⟩
 refine ⟨y,_,I.lset (its':=its.dropLast) hH e ?_ r.dropLast ?_,ru,q⟩
 ·show its.toArray.eraseIdxIfInBounds (its.toArray.size - 1)=its.dropLast.toArray
  rw [List.size_toArray,List.eraseIdxIfInBounds_toArray,Ae]
 ·rw [List.length_dropLast]
  omega
def Vp:R2:=fun x y H Q=>∃ l b xs zs,x= .ref l∧y= .ref b∧H l=some (.lst xs)∧H b=some (.lst zs)∧xs.length+zs.length≤sizeLine∧∀ p,H p=none→Q (.ref p) (upd H p (.lst (xs ++ zs)))
theorem Ru:OpR X (binaryOp .Add) Vp:=by
 intro pins s σ H x y v u Q I rx ry h
 obtain ⟨l,b,xs,zs,rfl,rfl,hH,hB,hz,q⟩:=h
 cases rx
 cases ry
 obtain ⟨z,its,n,r,hl,e⟩:=I.lstM hH
 obtain ⟨z2,its2,n2,r2,hl2,e2⟩:=I.lstM hB
 refine PySem.P.add_list e e2 ?_ (by rw [List.size_toArray,List.size_toArray];omega)
 have ea:its.toArray ++ its2.toArray=(its ++ its2).toArray:=by simp
 rw [ea]
 exact ⟨.ref _,_,I.lnew (t':=s.toks) (r.append r2) (by rw [List.length_append];omega),rfl,q _ I.fresh⟩
def Vq:R2:=fun x y H Q=>∃ l k xs,x= .ref l∧y= .int k∧H l=some (.lst xs)∧-(2 ^ 63)≤k∧k < 2 ^ 63∧xs.length*k.toNat≤sizeLine∧
 ∀ p,H p=none→Q (.ref p) (upd H p (.lst (List.replicate k.toNat xs).flatten))
theorem len_rep {α:Type} (xs:List α) (k:Nat):(List.replicate k xs).flatten.length=k*xs.length:=by
 induction k with
 | zero=>simp
 | succ k ih=>rw [List.replicate_succ,List.flatten_cons,List.length_append,ih,Nat.succ_mul,Nat.add_comm]
theorem Rv:OpR X (binaryOp .Mult) Vq:=by
 intro pins s σ H x y v u Q I rx ry h
 obtain ⟨l,k,xs,rfl,rfl,hH,h1,h2,hz,q⟩:=h
 cases rx
 obtain ⟨t,rfl⟩:=ry
 obtain ⟨z,its,n,r,hl,e⟩:=I.lstM hH
 have hlen:its.toArray.size*k.toNat≤sizeLine:=by rw [List.size_toArray,← hl];exact hz
 have hcap:¬ its.toArray.size*k.toNat > (2 ^ 63 - 1) / 8:=by
  have:(sizeLine:Nat)≤(2 ^ 63 - 1) / 8:=by decide
  omega
 have hfit:¬ (!Builtin.List.listFitsIndex k)=true:=by
  rw [fitsIndex_both h1 h2]
  exact Bool.false_ne_true
 have hlong:¬ Builtin.List.listTooLong (its.toArray.size*k.toNat)=true:=by
  rw [Hc hlen]
  exact Bool.false_ne_true
 have hnew:List.foldl (fun x1 x2=>x1 ++ x2) #[] (List.replicate (if its.toArray.isEmpty=true then 0 else k.toNat) its.toArray)=(List.replicate k.toNat its).flatten.toArray:=by
  have f0:∀ m:Nat,List.foldl (fun x1 x2=>x1 ++ x2) #[] (List.replicate m its.toArray)=(List.replicate m its).flatten.toArray:=fun m=>by
   have:=foldl_rep its m []
   rw [List.nil_append] at this
   exact this
  rw [f0]
  cases its with
  | nil=>simp
  | cons a r'=>rw [if_neg (by simp)]
 refine wpAny_binaryOp_repeat_ref (T:="list") (U:="int") (by decide) ⟨_,e,rfl⟩ (fun s'=>typeIs_int s' k t) noFill_list_mul F.fills_int_mul F.slot_int_rmul repeat_list F.slot_int_index.lookup
  (call_meets F.slot_int_rmul (typeIs_int s k t) F.entry_int_rmul (F.args_int_rmul_2 _ _) (int___rmul___int_list k t l its.toArray n)
   ⟨e,rfl,⟨_,e,rfl⟩,call_meets F.slot_list_mul ⟨_,e,rfl⟩ F.entry_list_mul (F.args_list_mul_2 _ _) (AutoListH.list___mul___list_int_3 l its.toArray n k t hfit hcap hlong) ⟨e,?_⟩⟩)
 rw [hnew]
 exact ⟨.ref _,_,I.lnew (t':=s.toks) (r.rep k.toNat) (by rw [len_rep,Nat.mul_comm];exact hz),rfl,q _ I.fresh⟩
end
section
variable {prog:Program} {w:World} {A:Around} {E:Value→Shared→Prop} {s:Shared}
end
section
variable {X:Cx}
end
end L2
namespace Att
open PySem PySem.W PySem.Calls PyProof.Rows
theorem rW {P:Params} {h:Heap}:∀ (ns:List Int) (vs:List Value),WellAll P h vs (ns.map WData.int)→IntsAre vs ns:=by
 intro ns
 induction ns with
 | nil=>
  intro vs w
  rw [List.map_nil] at w
  cases w
  exact .nil
 | cons n ns ih=>
  intro vs w
  rw [List.map_cons] at w
  cases w with
  | cons a b=>
   cases a
   exact .cons _ _ (ih _ b)
theorem DW {l:OpenLaw} {n:Nat} (hn:l.most=some n) {P:Params} {h:Heap} {args:List WData} {vals:List Value}
  (hpre:l.row.toRowW.claim.pre args=true) (hwl:WellAll P h vals args):
  ∃ a vs ns,vals=[Value.ref a]∧args=[WData.list (ns.map WData.int)]∧h.get? a=some {cls:=.type "list",data:=.seq vs.toArray}∧IntsAre vs ns∧ns.length≤n:=by
 have hsh:WShape.hasAll [] args [.list .int]=true:=(pre_splitW hpre).1
 have hc:l.pre.holds [] {args:=args}=true:=(pre_splitW hpre).2
 obtain ⟨d,r,rfl,h1,h2⟩:=hasAllW_cons hsh
 obtain rfl:=hasAllW_nil h2
 obtain ⟨xs,rfl,h3⟩:=hasW_list h1
 obtain ⟨ns,rfl⟩:=items_int h3
 have hlen:ns.length≤n:=by
  unfold OpenLaw.pre at hc
  have h4:(WTm.not (.lt (.lit (.int (n:Int))) (.len (.arg 0)))).holds [] {args:=[.list (ns.map .int)]}=true:=by
   have h4:=(holds_andW hc).1
   rw [hn] at h4
   exact h4
  have h5:=condW_of h4 (w_not (w_lt w_lit (w_len_list (w_arg rfl))))
  rw [List.length_map] at h5
  refine Nat.le_of_not_lt fun q=>?_
  have q':(n:Int) < ((ns.length:Nat):Int):=by omega
  first
   | (rw [decide_eq_true q'] at h5;exact absurd h5 (by decide))
   | (simp at h5;omega)
 cases hwl with
 | cons w1 w2=>
  cases w2
  cases w1 with
  | list ho hall=>exact ⟨_,_,ns,rfl,rfl,ho,rW ns _ hall,hlen⟩
theorem DX (l:OpenLaw) (args:List WData):l.row.toRowW.claim.post args (.bool true) args=true:=
 postW_of (r:=l.row.toRowW) (X:=(true == true))
  (show WShape.has [] (.bool true) .bool=true by first | rfl | decide | simp [WShape.has,WShape.arms,WShape.armsAll])
  (show (WTm.eq .res (.lit (.bool true))).value [] {args:=args,res:=some (.bool true),after:=args}=some (.bool (true == true)) from w_eq_bool (w_res rfl) w_lit) rfl
theorem attach_call {l:OpenLaw} {n:Nat} {q:Program} {loose:List Str} {XP:(Str→Option Value)→Heap→Prop} {YP:World→Heap→Prop} {d:DefRec}
  (hn:l.most=some n) (hdf:d.params.defaults=[])
  (call:∀ (w:World) (s₀ s₁:Shared) (mg mb:Str→Option Value) (fa:Addr) (o:Obj) (pm cd doc:Value) (a:Addr) (vs:List Value) (ns:List Int),
   Ground q loose [] XP w s₀ mg mb s₁.heap→YP w s₁.heap→
   s₁.heap.get? fa=some o→o.data= .func (docDef d.name d.params d.body d.scope pm cd doc)→s₁.heap.CodeRec cd d.name→mg d.name=some (.ref fa)→
   s₁.heap.get? a=some {cls:=.type "list",data:=.seq vs.toArray}→IntsAre vs ns→ns.length≤n→s₁.gens= #[]→
   codeAny (model l.prog w) callerA (.call (.ref fa) ⟨[.ref a],[]⟩) (fun r s'=>r= .ok (.ret (.bool true))∧OldK s₁.heap s'.heap∧s'.os=s₁.os∧AllBare s'.gens) s₁):
  WalkO q loose XP YP l.row.toRowW d [] (fun f vs=>PySem.call f vs):=by
 intro w s₀ s₁ mg mb G Y fa o pm cd doc dV kV ho hd hcd hD hmg hg args vals as hpre hlay hrd hwl hlo
 obtain rfl:dV= .none:=Dflts.none hD hdf
 obtain rfl:kV= .none:=Dflts.noKw hD
 obtain ⟨a,vs,ns,rfl,rfl,hobj,hints,hlen⟩:=DW hn hpre hwl
 refine enter_call (codeAny_mono (call w s₀ s₁ mg mb fa o pm cd doc a vs ns G Y ho (fd_plain hd) hcd hmg hobj hints hlen hg) fun r s' hq=>?_)
 obtain ⟨rfl,h2,h3,h4⟩:=hq
 exact ⟨.inl ⟨.bool true,.bool true,[],rfl,fun _=>rfl,.bool true,DX l _,fun _=>⟨List.Pairwise.nil,fun _ hm=>(nomatch hm)⟩⟩,h2,h3,h4⟩
section
variable {prog:Program} {w:World} {A:Around} {E:Value→Shared→Prop} {s:Shared} {K:Frag}
end
end Att
namespace L2
open PySem PySem.Spec PyProof.Rows
theorem u6:∀ {vs:List Value} {ns:List Int},IntsAre vs ns→Vals (ns.map V.int) vs
 | _,_,.nil=>.nil
 | _,_,.cons n t h=>.cons ⟨t,rfl⟩ (u6 h)
def Only (H:Hp):Prop:=∀ b,H b=none∨∃ o xs,H b=some (.frz o (.lst xs))
theorem Hd {P:Program} {w:World} {K:PySem.W.Frag} {mg mb:Str→Option Value} {CX:DK} {k:Nat} {fa a:Addr} {fd:FuncData} {x:Str} {sp:Sp} {s₁:Shared} {vs:List Value} {ns:List Int}
  (KX:K.In s₁.heap) (hns:s₁.heap.Ns mainGlobals mg) (hb:s₁.heap.Ns builtinsNs mb) (hbb:∀ x:Str,x≠"__name__"→mb x=bootBuiltins x) (hlim:s₁.heap.NoLimit) (hsm:∃ mm,s₁.heap.Ns sysModules mm) (hg:s₁.gens= #[])
  (ha:s₁.heap.get? a=some {cls:=.type "list",data:=.seq vs.toArray}) (hi:IntsAre vs ns) (hl:ns.length≤sizeLine) (hr:Room k callerA)
  (F:∀ base:Heap,K.In base→base.Ns mainGlobals mg→FnOk P w K mg base CX k fa fd [x] sp) (hbind:∀ (s:Shared) (u:Value),BindsTo s fd ⟨[u],[]⟩ [(x,u)])
  (hsp:∀ H:Hp,Only H→SqL K H a (ns.map V.int)→sp [.ref a] H (fun v _=>v= .bl true) fun _ _ _=>False)
  (hCX:∀ H e s',CX [] H s₁ (fun _ _ _=>False) e s'→False):
  codeAny (model P w) callerA (.call (.ref fa) ⟨[.ref a],[]⟩) (fun r s'=>r= .ok (.ret (.bool true))∧OldK s₁.heap s'.heap∧s'.os=s₁.os∧AllBare s'.gens) s₁:=by
 have rv:=u6 hi
 have lenV:=hi.length
 have core:∀ H:Hp,Only H→SqL K H a (ns.map V.int)→HOk P w H s₁.heap→(∀ b,H b≠none→b=a)→(H a≠none→K.lookup a=none)→
   codeAny (model P w) callerA (.call (.ref fa) ⟨[.ref a],[]⟩) (fun r s'=>r= .ok (.ret (.bool true))∧OldK s₁.heap s'.heap∧s'.os=s₁.os∧AllBare s'.gens) s₁:=by
  intro H hO hS hok hA hK
  have base_of:∀ {b:Addr} {o:Obj},s₁.heap.get? b=some o→H b=none→(vQ s₁.heap H).get? b=some o:=fun e n=>Gh e n
  have noA:∀ {b:Addr} {o:Obj} {es:Array DictEntry} {ep:Nat},s₁.heap.get? b=some o→o.data= .dict es ep→H b=none:=fun {b o es ep} e d=>by
   cases q:H b with
   | none=>rfl
   | some u=>
    have e':b=a:=hA b (by rw [q];simp)
    subst e'
    rw [ha] at e;cases e
    have d':Data.seq vs.toArray _=Data.dict es ep:=d
    cases d'
  have nsK:∀ {b:Addr} {m:Str→Option Value},s₁.heap.Ns b m→(vQ s₁.heap H).Ns b m:=fun {b m} ⟨o,es,ep,e,d,r⟩=>⟨o,es,ep,base_of e (noA e d),d,r⟩
  have hKb:K.In (vQ s₁.heap H):=fun b o e=>base_of (KX b o e) (by
   cases q:H b with
   | none=>rfl
   | some u=>
    have e':b=a:=hA b (by rw [q];simp)
    subst e'
    rw [hK (by rw [q];simp)] at e;cases e)
  have hM:Mod K mg (vQ s₁.heap H):=⟨hKb,nsK hns,⟨mb,nsK hb,hbb⟩,(let ⟨mc,h1,h2⟩:=hlim;⟨mc,nsK h1,h2⟩),let ⟨mm,h1⟩:=hsm;⟨mm,nsK h1⟩⟩
  have e0:Env0 P w K mg (vQ s₁.heap H) callerA [] s₁ H:=⟨rfl,hM,fun b o e=>Kv e,Nat.le_of_eq (Dq _ _),trivial,fun b hb=>absurd (show b∈([]:List Addr) from hb) (by simp),hok,.of_eq hg⟩
  refine codeAny_mono ((F _ hKb (nsK hns)).run callerA [] s₁ H ⟨[.ref a],[]⟩ [.ref a] [.ref a] _ _ hr e0 (hbind s₁ (.ref a)) (.cons rfl .nil) (hsp H hO hS)) fun r s' h=>?_
  cases r with
  | error e=>exact (hCX H e s' h).elim
  | ok fl=>
   cases fl with
   | next=>exact False.elim h
   | brk=>exact False.elim h
   | cont=>exact False.elim h
   | ret u=>
    obtain ⟨v,H',os,bare,un,hok',r',q⟩:=h
    have q':v= .bl true:=q
    subst q'
    obtain rfl:u=Value.bool true:=r'
    refine ⟨rfl,OldK.of_keep fun b o e=>?_,os,bare⟩
    cases q:H b with
    | none=>exact un.keep b o e q (by intro z;exact absurd (show b∈([]:List Addr) from z) (by simp)) (by simp)
    | some u=>
     rcases hO b with z | ⟨ob,xs,z⟩
     ·rw [q] at z;cases z
     ·have z2:=un.frzs b ob _ z
      obtain ⟨e1,_⟩:=hok b _ z
      obtain ⟨e2,_⟩:=hok' b _ z2
      rw [e] at e1;cases e1
      exact e2
 cases hk:K.lookup a with
 | some o=>
  have e:=KX a o hk
  rw [ha] at e
  cases e
  refine core (fun _=>none) (fun _=>.inl rfl) (.inr ⟨_,vs.toArray,_,hk,rfl,rfl,rfl,by rw [List.size_toArray,lenV];exact hl,by simpa using rv⟩) (fun b u z=>by have z':(none:Option HO)=some u:=z;cases z') (fun b z=>absurd rfl z) fun z=>absurd rfl z
 | none=>
  refine core (fun b=>if b=a then some (.frz {cls:=.type "list",data:=.seq vs.toArray} (.lst (ns.map V.int))) else none) (fun b=>?_) (.inl (.inr ⟨{cls:=.type "list",data:=.seq vs.toArray},if_pos rfl⟩)) (fun b u z=>?_) (fun b z=>?_) fun _=>hk
  ·by_cases hb:b=a
   ·exact .inr ⟨_,_,if_pos hb⟩
   ·exact .inl (if_neg hb)
  ·by_cases hb:b=a
   ·have z':=(if_pos hb).symm.trans z
    cases z'
    subst hb
    exact ⟨ha,by rw [List.length_map];exact hl,vs,_,rv,ha⟩
   ·have z':=(if_neg hb).symm.trans z
    cases z'
  ·by_cases hb:b=a
   ·exact hb
   ·exact absurd (if_neg hb) z
end L2
namespace L2
open PySem PySem.Spec PyProof.Rows
abbrev KOf {K:PySem.W.Frag} {h:Heap} (_:K.In h):PySem.W.Frag:=K
theorem Li {l:PySem.W.OpenLaw} {n k:Nat} {q:Program} {loose:List Str} {XP:(Str→Option Value)→Heap→Prop} {YP:World→Heap→Prop} {d:DefRec} {K:Params→PySem.W.Frag} {CX:World→DK} {sp:World→Sp} {x:Str}
  (hn:l.most=some n) (hn2:n≤sizeLine) (hdf:d.params.defaults=[]) (hr:Room k callerA)
  (hY:∀ (w:World) (h:Heap),YP w h→(K w.params).In h)
  (F:∀ (w:World) (mg:Str→Option Value) (fa:Addr) (h:Heap),(K w.params).In h→h.Ns mainGlobals mg→mg d.name=some (.ref fa)→
   ∃ fd:FuncData,(∀ (s:Shared) (u:Value),BindsTo s fd ⟨[u],[]⟩ [(x,u)])∧
    ∀ base:Heap,(K w.params).In base→base.Ns mainGlobals mg→FnOk l.prog w (K w.params) mg base (CX w) k fa fd [x] (sp w))
  (hsp:∀ (w:World) (H:Hp) (a:Addr) (ns:List Int),ns.length≤n→Only H→SqL (K w.params) H a (ns.map V.int)→sp w [.ref a] H (fun v _=>v= .bl true) fun _ _ _=>False)
  (hCX:∀ (w:World) (H:Hp) (s:Shared) (e:Value) (s':Shared),CX w [] H s (fun _ _ _=>False) e s'→False) (him:importsNone q=true):
  PySem.W.WalkO q loose XP YP l.row.toRowW d [] (fun f vs=>PySem.call f vs):=by
 refine Att.attach_call hn hdf fun w s₀ s₁ mg mb fa o pm cd doc a vs ns G Y ho hd hcd hmg hobj hints hlen hg=>?_
 have KX:=hY w _ Y
 obtain ⟨fd,hb,hF⟩:=F w mg fa _ KX G.T.g hmg
 exact Hd KX G.T.g G.T.b G.T.builtins G.T.nolimit (let ⟨mm,h1,_⟩:=(G.T.seer him).mods;⟨mm,h1⟩) hg hobj hints (Nat.le_trans hlen hn2) hr hF hb (fun H hO hS=>hsp w H a ns hlen hO hS) fun H e s'=>hCX w H s₁ e s'
end L2
namespace L2
open PySem PySem.Spec PyProof.Rows
def dB (s:Stmt):Arguments:=match s with
 | .FunctionDef _ a _ _ _ _ _ _ _ _=>a
 | _=>{posonlyargs:=[],args:=[],vararg:=none,kwonlyargs:=[],kw_defaults:=[],kwarg:=none,defaults:=[]}
def bU (s:Stmt):List Stmt:=match s with
 | .FunctionDef _ _ b _ _ _ _ _ _ _=>b
 | _=>[]
def aq (s:Stmt):Scope:=match s with
 | .FunctionDef _ _ _ _ _ _ sc _ _ _=>sc
 | _=>{kind:=.function,names:=[],isGenerator:=false,isCoroutine:=false}
abbrev Af:DK:=fun _ _ _ _ _ _=>False
abbrev E0:XK:=fun _ _ _=>False
theorem Vr {X:Cx}:z9 Af X E0:=fun _ _ _ _ _ _ _ h=>h.elim
structure Fun (K:PySem.W.Frag) (x qual:Str) (st:Stmt) (f:Addr) (fd:FuncData):Prop where
 ex:∃ (oc:Value) (od:Option Addr) (kV doc pm:Value) (an:Option Addr) (cdv ct:Value) (osl:Array (Option Value)),
  fd=PySem.W.fnOf x qual (dB st) (bU st) (aq st) .none kV doc pm an cdv ct∧K.lookup f=some ⟨oc,od,.func fd,osl⟩∧PySem.W.codeIn K cdv qual=true
 kp:PySem.W.keepIn K (.ref f)=true
section
variable {P:Program} {w:World} {K:PySem.W.Frag} {mg:Str→Option Value} {base:Heap}
theorem Fun.ok {x qual:Str} {st:Stmt} {f:Addr} {fd:FuncData} {N ps:List Str} {k:Nat} {sp:Sp} (F:Fun K x qual st f fd) (S:aD N ps (aq st)) (len:∀ vs H Q E,sp vs H Q E→vs.length=ps.length)
  (hbody:∀ (cdv:Value) (A:Around) (outer:List Env) (s:Shared) (H:Hp) (vs:List V) (Q:VK) (E:XK),Room k (A.deeper (envOfC qual (aq st) s.heap.objs.size f cdv))→sp vs H Q E→
   ∃ t,PSs (oR Af P w K mg base N qual (aq st) f cdv A outer s H E).nox (bU st) t∧t {nx:=fun _ H'=>Q .non H',rt:=Q} (start N vs) H):FnOk P w K mg base Af (k+1) f fd ps sp:=by
 obtain ⟨oc,od,kV,doc,pm,an,cdv,ct,osl,rfl,lk,hcd⟩:=F.ex
 refine BV lk hcd S len fun A outer s H vs Q E hr hsp=>?_
 obtain ⟨t,h,q⟩:=hbody cdv A outer s H vs Q E hr hsp
 exact ⟨t,h.nox,q⟩
theorem Fun.binds {x qual:Str} {st:Stmt} {f:Addr} {fd:FuncData} {ps:List Str} (F:Fun K x qual st f fd)
  (h:∀ (kV doc pm:Value) (an:Option Addr) (cdv ct:Value) (us:List Value),us.length=ps.length→bindArgs (PySem.W.fnOf x qual (dB st) (bU st) (aq st) .none kV doc pm an cdv ct) ⟨us,[]⟩=pure (ps.zip us)):Binds K fd ps []:=by
 obtain ⟨oc,od,kV,doc,pm,an,cdv,ct,osl,rfl,lk,hcd⟩:=F.ex
 exact .all (h kV doc pm an cdv ct)
theorem tM {x qual:Str} {st:Stmt} {f:Addr} {oc:Value} {od an:Option Addr} {osl:Array (Option Value)} {kV doc pm cdv ct:Value} (l:K.lookup f=some ⟨oc,od,.func (PySem.W.fnOf x qual (dB st) (bU st) (aq st) .none kV doc pm an cdv ct),osl⟩)
  (c:PySem.W.codeIn K cdv qual=true) (k:PySem.W.keepIn K (.ref f)=true):Fun K x qual st f (PySem.W.fnOf x qual (dB st) (bU st) (aq st) .none kV doc pm an cdv ct):=⟨⟨oc,od,kV,doc,pm,an,cdv,ct,osl,rfl,l,c⟩,k⟩
end
section
variable {X:Cx}
end
theorem kZ {A B:Prop} (h:B):if false=true then A else B:=by
 rw [if_neg Bool.false_ne_true]
 exact h
theorem lw {A B:Prop} (h:A):if true=true then A else B:=by
 rw [if_pos rfl]
 exact h
def Same (H H':Hp):Prop:=∀ b o,H b=some o→H' b=some o
theorem Same.refl (H:Hp):Same H H:=fun _ _ h=>h
theorem Same.trans {H H1 H2:Hp} (a:Same H H1) (b:Same H1 H2):Same H H2:=fun c o h=>b c o (a c o h)
end L2
set_option maxHeartbeats 4000000
namespace L2
open PySem PySem.Spec PyProof.Rows
def rY (env:Env):List (Str×NameKind)→List (Str×Addr)→List (Str×Addr)
 | [],acc=>acc
 | (n,k) :: r,acc=>rY env r (if k == .free then (match env.cells.lookup n with | some c=>(n,c) :: acc | none=>acc) else acc)
theorem tO {env:Env}:∀ {names:List (Str×NameKind)} {acc:List (Str×Addr)},(∀ x c,(x,c)∈acc→env.cells.lookup x=some c)→∀ x c,(x,c)∈rY env names acc→env.cells.lookup x=some c
 | [],_,h,x,c,m=>h x c m
 | (n,k) :: r,acc,h,x,c,m=>by
  refine tO (names:=r) ?_ x c m
  intro y d hm
  cases hk:(k == NameKind.free) with
  | false=>rw [hk] at hm;exact h y d hm
  | true=>
   rw [hk] at hm
   simp only [if_true] at hm
   cases e:env.cells.lookup n with
   | none=>rw [e] at hm;exact h y d hm
   | some c'=>
    rw [e] at hm
    rcases List.mem_cons.mp hm with z | z
    ·cases z;exact e
    ·exact h y d z
theorem yd {env:Env}:∀ {names:List (Str×NameKind)} {acc:List (Str×Addr)} {p:Str×Addr},p∈acc→p∈rY env names acc
 | [],_,_,h=>h
 | (n,k) :: r,acc,p,h=>by
  refine yd (names:=r) ?_
  split
  ·split
   ·exact List.mem_cons_of_mem _ h
   ·exact h
  ·exact h
theorem tQ {env:Env} {x:Str} {c:Addr} (e:env.cells.lookup x=some c):∀ {names:List (Str×NameKind)} {acc:List (Str×Addr)},(x,NameKind.free)∈names→(x,c)∈rY env names acc
 | [],_,h=>by simp at h
 | (n,k) :: r,acc,h=>by
  rcases List.mem_cons.mp h with z | z
  ·cases z
   refine yd (names:=r) ?_
   rw [e]
   simp
  ·exact tQ e (names:=r) z
theorem uE {l:List (Str×Addr)} {x:Str} {c:Addr} (hm:(x,c)∈l) (ha:∀ d,(x,d)∈l→d=c):l.lookup x=some c:=by
 induction l with
 | nil=>simp at hm
 | cons p r ih=>
  obtain ⟨n,d⟩:=p
  by_cases e:x=n
  ·subst e
   have:d=c:=ha d (by simp)
   subst this
   simp [List.lookup_cons]
  ·have hb:(x == n)=false:=by simpa using e
   rw [List.lookup_cons,hb]
   refine ih ?_ fun d' h'=>ha d' (List.mem_cons_of_mem _ h')
   rcases List.mem_cons.mp hm with z | z
   ·cases z;exact absurd rfl e
   ·exact z
theorem ye {env:Env} {names:List (Str×NameKind)} {x:Str} {c:Addr} (e:env.cells.lookup x=some c) (h:(x,NameKind.free)∈names):(rY env names []).lookup x=some c:=
 uE (tQ e h) fun d hd=>by
  have q:=tO (names:=names) (acc:=[]) (env:=env) (by simp) x d hd
  rw [e] at q
  exact (Option.some.inj q).symm
theorem DY {env:Env} {names:List (Str×NameKind)} {x:Str} {c:Addr} (e:(rY env names []).lookup x=some c):env.cells.lookup x=some c:=
 tO (names:=names) (acc:=[]) (env:=env) (by simp) x c (PySem.mem_of_lookup e)
theorem o8 {env:Env}:∀ (names:List (Str×NameKind)) (acc:List (Str×Addr)),(∀ x∈names,x.2=NameKind.free→∃ c,env.cells.lookup x.1=some c)→
  (forIn (m:=Sem) names acc fun x r=>match x with
   | (name,kind)=>if (kind == NameKind.free)=true then do let c ← cellOf env name;pure (ForInStep.yield ((name,c) :: r)) else pure (ForInStep.yield r))=pure (rY env names acc)
 | [],acc,_=>rfl
 | (n,k) :: r,acc,h=>by
  rw [List.forIn_cons]
  cases hk:(k == NameKind.free) with
  | false=>
   simp only [hk,Bool.false_eq_true,if_false,pure_bind,rY]
   exact o8 r acc fun x hx=>h x (List.mem_cons_of_mem _ hx)
  | true=>
   obtain ⟨c,e⟩:=h (n,k) List.mem_cons_self (by simpa using hk)
   simp only [hk,if_true,pure_bind,rY,cellOf,e]
   exact o8 r ((n,c) :: acc) fun x hx=>h x (List.mem_cons_of_mem _ hx)
theorem oZ {scope:Scope} {env:Env} (h:∀ x∈scope.names,x.2=NameKind.free→∃ c,env.cells.lookup x.1=some c):closureFor scope env=pure (rY env scope.names []):=by
 unfold closureFor
 have:=o8 (env:=env) scope.names [] h
 simp only [this,pure_bind]
theorem u9 {prog:Program} {w:World} {A:Around} {R:Result→Shared→Prop} {s:Shared} {elt target iter:Expr} {ifs:List Expr} {scope:Scope} {pos:Pos} {it acc:Value} {env:Env} (I:Nat→Shared→Prop)
  (turn:∀ n s,I n s→wpAny (model prog w) A (pyNext it) (fun r s₁=>match r with
   | none=>R (.ok .next) s₁
   | some v=>wpAny (model prog w) A (letOwnedTupleGo target it v) (fun _ s₁'=>wpAny (model prog w) A (assign target env v) (fun _ s₂=>
     wpAny (model prog w) A (forIn ifs true fun c r=>if r=true then do let ok ← isTrue c env (eval c env);pure (ForInStep.yield ok) else pure (ForInStep.yield r)) (fun ok s₃=>
      if ok=true then wpAny (model prog w) A (eval elt env) (fun x s₄=>
       wpAny (model prog w) A (call (.builtin "list.append") [acc,x]) (fun _ s₅=>∃ m,m < n∧I m s₅) (fun _ _=>False) s₄) (fun _ _=>False) s₃
      else ∃ m,m < n∧I m s₃) (fun _ _=>False) s₂) (fun _ _=>False) s₁') (fun _ _=>False) s₁) (fun _ _=>False) s)
  (n:Nat) (h:I n s):
  codeAny (model prog w) A (.compLoop (.ListComp elt [⟨target,iter,ifs,0⟩] scope pos) 0 it acc env) R s:=by
 refine codeAny_loop rfl I (fun n s hI=>?_) n h
 show wpAny _ A ((compTurn (.ListComp elt [⟨target,iter,ifs,0⟩] scope pos) 0 it acc env).onRaise (fun x=>do noteFrame x env;theTreesLotGoes x)) _ _ s
 refine wpAny_noted ?_
 rw [compTurn_list]
 refine wpAny_bind (wpAny_standAt (wpAny_bind (wpAny_mono (turn n s hI) (fun r s₁ h₁=>?_) fun _ _ h'=>h'.elim)))
 cases r with
 | none=>exact wpAny_pure h₁
 | some v=>
  refine wpAny_bind (wpAny_mono h₁ (fun _ s₁' h₁'=>?_) fun _ _ h'=>h'.elim)
  refine wpAny_bind (wpAny_mono h₁' (fun _ s₂ h₂=>wpAny_bind (wpAny_mono h₂ (fun ok s₃ h₃=>?_) fun _ _ h'=>h'.elim)) fun _ _ h'=>h'.elim)
  cases ok with
  | false=>exact wpAny_pure ⟨rfl,h₃⟩
  | true=>
   exact wpAny_bind (wpAny_bind (wpAny_mono h₃ (fun x s₄ h₄=>wpAny_bind (wpAny_mono h₄ (fun _ s₅ h₅=>wpAny_pure (wpAny_pure ⟨rfl,h₅⟩)) fun _ _ h'=>h'.elim)) fun _ _ h'=>h'.elim))
end L2
namespace L2
open PySem PySem.Spec PyProof.Rows
theorem cZ:∀ (names:List (Str×NameKind)) (n:Nat) (acc:List (Str×Addr)),cellsFrom n names acc=cellsFrom n names [] ++ acc
 | [],_,_=>rfl
 | (x,k) :: r,n,acc=>by
  unfold cellsFrom
  split
  ·rw [cZ r (n+1) ((x,n) :: acc),cZ r (n+1) [(x,n)],List.append_assoc];rfl
  ·exact cZ r n acc
theorem pR {α:Type}:∀ {A B:List (Str×α)} {x:Str},(A ++ B).lookup x=(match A.lookup x with | some c=>some c | none=>B.lookup x)
 | [],_,_=>rfl
 | (y,c) :: A,B,x=>by
  rw [List.cons_append,List.lookup_cons,List.lookup_cons]
  cases x == y with
  | true=>rfl
  | false=>exact pR (A:=A)
theorem tR:∀ {names:List (Str×NameKind)} {n:Nat} {acc:List (Str×Addr)} {x:Str} {c:Addr},(x,c)∈cellsFrom n names acc→(x,c)∈acc∨(x,NameKind.cell)∈names
 | [],_,_,_,_,h=>.inl h
 | (y,k) :: r,n,acc,x,c,h=>by
  unfold cellsFrom at h
  split at h
  ·rename_i hk
   rcases tR h with z | z
   ·rcases List.mem_cons.mp z with z | z
    ·cases z
     have:k= .cell:=by simpa using hk
     rw [this];exact .inr List.mem_cons_self
    ·exact .inl z
   ·exact .inr (List.mem_cons_of_mem _ z)
  ·exact (tR h).imp id (List.mem_cons_of_mem _)
theorem pU {α:Type}:∀ {l:List (Str×α)} {x:Str} {c:α},(x,c)∈l→∃ d,l.lookup x=some d
 | (y,d) :: r,x,c,h=>by
  by_cases e:x=y
  ·subst e;exact ⟨d,by simp [List.lookup_cons]⟩
  ·have hb:(x == y)=false:=by simpa using e
   rw [List.lookup_cons,hb]
   rcases List.mem_cons.mp h with z | z
   ·cases z;exact absurd rfl e
   ·exact pU z
theorem pW:∀ {names:List (Str×NameKind)} {n:Nat} {acc:List (Str×Addr)} {x:Str},(x,NameKind.cell)∈names∨(∃ c,(x,c)∈acc)→∃ c,(x,c)∈cellsFrom n names acc
 | [],_,_,_,h=>h.elim (fun h=>by simp at h) id
 | (y,k) :: r,n,acc,x,h=>by
  unfold cellsFrom
  split
  ·refine pW ?_
   rcases h with h | ⟨c,h⟩
   ·rcases List.mem_cons.mp h with z | z
    ·cases z;exact .inr ⟨n,List.mem_cons_self⟩
    ·exact .inl z
   ·exact .inr ⟨c,List.mem_cons_of_mem _ h⟩
  ·rename_i hk
   refine pW ?_
   rcases h with h | h
   ·rcases List.mem_cons.mp h with z | z
    ·cases z;exact absurd (by decide) hk
    ·exact .inl z
   ·exact .inr h
def Ea (X:Cx) (scope:Scope) (C:Addr):List (Str×Addr):=cellsFrom (C+1) scope.names (rY X.env scope.names [])
section
variable {M:Model} {A:Around} {E:Value→Shared→Prop} {s:Shared}
theorem iB {scope:Scope} {globals:Addr} {cl:List (Str×Addr)} {qual:Str} {env:Env} {Q:Env→Shared→Prop}
  (hQ:∀ h':Heap,h'.Ns s.heap.objs.size (fun _=>none)→(∀ b o,s.heap.get? b=some o→h'.get? b=some o)→CellsOk h' (s.heap.objs.size+1) (cellsFrom (s.heap.objs.size+1) scope.names [])→
   Q (newEnv scope s.heap.objs.size globals (cellsFrom (s.heap.objs.size+1) scope.names cl) qual none .none (some env) builtinsNs) {s with heap:=h',toks:=s.toks+([]:List (Str×Value)).length}):
  wpAny M A (newFunctionEnv scope globals cl [] qual none .none (some env)) Q E s:=by
 simp only [newFunctionEnv,Option.isSome_some,if_true]
 refine wpAny_bind (wpAny_alloc ?_)
 refine wpAny_bind (wpAny_layCells _ (fun name kind cells=>by cases hkc:kind == NameKind.cell <;> simp [hkc]) _ _ _ _ ?_)
 have ok:=cellsFrom_ok scope.names (s.heap.push {cls:=.type "dict",data:=.dict #[]}) (s.heap.objs.size+1) [] ⟨fun _ _ hm=>(nomatch hm),List.Pairwise.nil⟩ (by rw [Heap.size_push];exact Nat.le_refl _)
 rw [Heap.size_push] at ok
 rw [show ({s with heap:=s.heap.push {cls:=.type "dict",data:=.dict #[]}}:Shared).heap.objs.size=s.heap.objs.size+1 from Heap.size_push ..]
 exact wpAny_bind (wpAny_pure (wpAny_pure (hQ _ ((Heap.Ns.new s.heap (.type "dict")).keeps (pushCells_keeps _ _)) (fun b o e=>pushCells_keeps _ _ b o (Heap.get?_push_of_some _ e)) ok)))
end
def oU (X:Cx) (N':List Str) (scope:Scope) (C:Addr) (s₀:Shared) (H₀:Hp) (ex:List Addr):Cx:=
 {X with N:=N',s₀:=s₀,H₀:=H₀,env:=compEnvC scope (Ea X scope C) C X.env,outer:=X.stack,ex:=ex,fn:=fun x=>decide (scope.names.lookup x=some .cell),pn:=[],xe:=fun _ _=>False}
def cT (sub:List (Option Nat)) (σ:St):St:=sub.map fun o=>o.bind fun j=>(σ[j]?).join
structure rD (N:List Str) (sc:Scope) (N':List Str) (scope:Scope) (sub:List (Option Nat)):Prop where
 kind:scope.kind= .function
 cel:∀ x∈scope.names,x.2= .cell→scope.names.lookup x.1=some .cell
 loc:∀ x∈scope.names,x.2= .local→scope.names.lookup x.1=some .local
 free:∀ x∈scope.names,x.2= .free→sc.names.lookup x.1=some .cell∨sc.names.lookup x.1=some .free
 len:sub.length=N'.length
 at_:∀ (i j:Nat) (x:Str),sub[i]?=some (some j)→N'[i]?=some x→N[j]?=some x∧(x,NameKind.free)∈scope.names∧scope.names.lookup x=some .free
def Hf (N:List Str) (sc:Scope) (N':List Str) (scope:Scope) (sub:List (Option Nat)):Bool:=
 decide (scope.kind= .function) && scope.names.all (fun x=>decide (x.2= .cell→scope.names.lookup x.1=some .cell)) && scope.names.all (fun x=>decide (x.2= .local→scope.names.lookup x.1=some .local)) &&
 scope.names.all (fun x=>decide (x.2= .free→sc.names.lookup x.1=some .cell∨sc.names.lookup x.1=some .free)) && decide (sub.length=N'.length) &&
 (List.range sub.length).all fun i=>match sub[i]?,N'[i]? with
  | some (some j),some x=>decide (N[j]?=some x∧(x,NameKind.free)∈scope.names∧scope.names.lookup x=some .free)
  | _,_=>true
theorem gU {N:List Str} {sc:Scope} {N':List Str} {scope:Scope} {sub:List (Option Nat)} (h:Hf N sc N' scope sub=true):rD N sc N' scope sub:=by
 simp only [Hf,Bool.and_eq_true,decide_eq_true_eq,List.all_eq_true] at h
 obtain ⟨⟨⟨⟨⟨h1,h2⟩,h3⟩,h4⟩,h5⟩,h6⟩:=h
 refine ⟨h1,h2,h3,h4,h5,fun i j x e1 e2=>?_⟩
 have hi:i < sub.length:=(List.getElem?_eq_some_iff.mp e1).1
 have q:=h6 i (List.mem_range.mpr hi)
 rw [e1,e2] at q
 simpa using q
def Hg:TT:=fun _ H Q=>Q true H
def v6 (X:Cx) (ifs:List Expr) (t:TT):Prop:=
 ∀ (pins:List (Addr×Obj)) (s:Shared) (σ:St) (H:Hp) (Q:Bool→Hp→Prop),Inv X pins σ H s→t σ H Q→
  wpAny (model X.prog X.w) X.A (forIn ifs true fun c r=>if r=true then do let ok ← isTrue c X.env (eval c X.env);pure (ForInStep.yield ok) else pure (ForInStep.yield r)) (TP X pins σ Q) X.xe s
theorem Hh {X:Cx}:v6 X [] Hg:=fun _ _ _ H _ I h=>wpAny_tests_nil ⟨H,I,h⟩
theorem Hi {X:Cx} {c:Expr} {t:TT} (hc:PT X c t):v6 X [c] t:=fun pins s σ H Q I h=>wpAny_tests_one (hc pins s σ H Q I h)
def KeepSt (σ σ':St):Prop:=σ'.length=σ.length∧∀ (i:Nat) (v:V),σ[i]?=some (some v)→σ'[i]?=some (some v)
theorem KeepSt.set {σ:St} {i:Nat} {v:V} (h:σ[i]?=some none):KeepSt σ (σ.set i (some v)):=by
 refine ⟨by simp,fun j u e=>?_⟩
 by_cases hj:i=j
 ·subst hj;rw [h] at e;cases e
 ·rw [List.getElem?_set_ne hj];exact e
def tU (sub:List (Option Nat)) (wi:TI) (g:TG) (tt:TT) (te:TE):TE:=fun σ H Q=>wi σ H fun J H1=>∃ W:Nat→Nat→List V→Hp→Prop,(∃ m,W 0 m [] H1)∧∀ i m ys H,W i m ys H→
 (J.stop i H∧ys.length≤sizeLine∧∀ D,H D=none→Q (.ref D) (upd H D (.lst ys)))∨
 (J.go i H∧ys.length < sizeLine∧∃ N:List V→Hp→Prop,(∀ ys' H',N ys' H'→∃ m',m' < m∧W (i+1) m' ys' H')∧
  ∀ x H',J.yld i H x H'→g x (cT sub σ) H' fun σ2 H2=>KeepSt (cT sub σ) σ2∧tt σ2 H2 fun b H3=>if b=true then te σ2 H3 fun y H4=>N (ys ++ [y]) H4 else N ys H3)
theorem pX {scope:Scope} {env:Env} {x:Str} (hx:scope.names.lookup x=some .free):(relabel scope env).names.lookup x=some .cell∨(relabel scope env).names.lookup x=some .free:=by
 have:∀ names:List (Str×NameKind),names.lookup x=some .free→
  (names.map fun (n,k)=>if (k == NameKind.free && env.scope.kind == .function && env.kindOf n == some .cell) then (n,NameKind.cell) else (n,k)).lookup x=some .cell∨
  (names.map fun (n,k)=>if (k == NameKind.free && env.scope.kind == .function && env.kindOf n == some .cell) then (n,NameKind.cell) else (n,k)).lookup x=some .free:=by
  intro names
  induction names with
  | nil=>intro h;simp at h
  | cons p r ih=>
   obtain ⟨n,k⟩:=p
   intro h
   by_cases e:x=n
   ·subst e
    have hk:k= .free:=by simpa [List.lookup_cons] using h
    subst hk
    by_cases hc:((NameKind.free == NameKind.free && env.scope.kind == .function && env.kindOf x == some .cell)=true)
    ·left;simp only [List.map_cons];rw [if_pos hc];simp [List.lookup_cons]
    ·right;simp only [List.map_cons];rw [if_neg hc];simp [List.lookup_cons]
   ·have hb:(x == n)=false:=by simpa using e
    rw [List.lookup_cons,hb] at h
    have q:=ih h
    simp only [List.map_cons]
    split <;> (rw [List.lookup_cons,hb];exact q)
 exact this scope.names hx
theorem v7 {scope:Scope} {env:Env} {x:Str} (h:(relabel scope env).names.lookup x=some .cell∨(relabel scope env).names.lookup x=some .free):(x,NameKind.cell)∈scope.names∨(x,NameKind.free)∈scope.names:=by
 have key:∀ k,(k=NameKind.cell∨k=NameKind.free)→(relabel scope env).names.lookup x=some k→(x,NameKind.cell)∈scope.names∨(x,NameKind.free)∈scope.names:=by
  intro k hk hl
  have hm:=PySem.mem_of_lookup hl
  unfold relabel at hm
  obtain ⟨⟨n,k'⟩,hm1,hm2⟩:=List.mem_map.mp hm
  dsimp only at hm2
  by_cases hc:(k' == NameKind.free && env.scope.kind == .function && env.kindOf n == some .cell)=true
  ·rw [if_pos hc] at hm2
   cases hm2
   simp only [Bool.and_eq_true,beq_iff_eq] at hc
   rw [← hc.1.1];exact .inr hm1
  ·rw [if_neg hc] at hm2
   cases hm2
   rcases hk with hk | hk
   ·subst hk;exact .inl hm1
   ·subst hk;exact .inr hm1
 rcases h with h | h
 ·exact key _ (.inl rfl) h
 ·exact key _ (.inr rfl) h
section
variable {X:Cx} {tg iter elt:Expr} {ifs:List Expr} {scope:Scope} {pos:Pos} {N':List Str} {sub:List (Option Nat)} {wi:TI} {g:TG} {tt:TT} {te:TE}
theorem vd {pins:List (Addr×Obj)} {σ:St} {H:Hp} {s:Shared} {fp:List Addr} {D:Addr} {h':Heap} {tk:Nat} {N:List Str} {sc:Scope} (S:rD N sc N' scope sub) (hN:X.N=N) (hsc:X.env.scope=sc) (I:Inv X pins σ H s) (hf:∀ b∈fp,kY X pins H b) (hfo:∀ b∈fp,b < s.heap.objs.size)
  (hD:D < s.heap.objs.size) (fD:kY X pins H D) (hns:h'.Ns s.heap.objs.size fun _=>none) (hk:∀ b o,s.heap.get? b=some o→h'.get? b=some o) (hc:CellsOk h' (s.heap.objs.size+1) (cellsFrom (s.heap.objs.size+1) scope.names [])):
  Inv (oU X N' scope s.heap.objs.size s H (D :: fp)) [] (cT sub σ) H {s with heap:=h',toks:=tk}:=by
 have hex:∀ b∈D :: fp,kY X pins H b∧b < s.heap.objs.size:=fun b hb=>by
  rcases List.mem_cons.mp hb with rfl | z
  ·exact ⟨fD,hD⟩
  ·exact ⟨hf b z,hfo b z⟩
 have spl:∀ {x c},(Ea X scope s.heap.objs.size).lookup x=some c→(h'.IsCell c none∧s.heap.objs.size+1≤c∧(x,c)∈cellsFrom (s.heap.objs.size+1) scope.names [])∨(X.env.cells.lookup x=some c∧∃ o,s.heap.get? c=some o):=fun {x c} h=>by
  unfold Ea at h
  rw [cZ,pR] at h
  cases e:(cellsFrom (s.heap.objs.size+1) scope.names []).lookup x with
  | some d=>
   rw [e] at h
   cases h
   have m:=PySem.mem_of_lookup e
   exact .inl ⟨(hc.empty _ _ m).1,(hc.empty _ _ m).2,m⟩
  | none=>
   rw [e] at h
   have z:=DY h
   obtain ⟨v,o,ho,_⟩:=I.cell x c z
   exact .inr ⟨z,o,ho⟩
 have fre:∀ {x c},(x,NameKind.free)∈scope.names→scope.names.lookup x=some .free→X.env.cells.lookup x=some c→(Ea X scope s.heap.objs.size).lookup x=some c:=fun {x c} h1 h2 h3=>by
  unfold Ea
  rw [cZ,pR]
  cases e:(cellsFrom (s.heap.objs.size+1) scope.names []).lookup x with
  | some d=>
   rcases tR (PySem.mem_of_lookup e) with z | z
   ·cases z
   ·have:=S.cel _ z rfl
    rw [h2] at this;cases this
  | none=>exact ye h3 h1
 refine ⟨⟨I.ok.mod,S.kind,I.ok.glob,I.ok.blt,Nat.le_refl _,fun x y c h1 h2=>?_,fun x hx=>?_,fun x c hx h=>?_,I.ok.hd,I.ok.frames,.inl rfl,fun b hb=>?_,I.bs,Nat.le_trans I.ok.bsz I.sz,fun b o e hb=>?_,fun b hb=>?_,I.stack,I.stkFree⟩,
  rfl,I.bare,Un.kept hk,⟨_,hns,fun i x v h1 h2 h3=>?_⟩,fun x c h=>?_,I.hok.fresh (Nat.le_refl _),fun x c h=>?_,fun p hp=>(nomatch hp),I.hok.kept hk,?_⟩
 ·rcases spl h1 with ⟨_,l1,m1⟩ | ⟨z1,o1,q1⟩ <;> rcases spl h2 with ⟨_,l2,m2⟩ | ⟨z2,o2,q2⟩
  ·exact PySem.name_of_addr hc.apart m1 m2
  ·exact absurd (Nat.lt_of_lt_of_le (Heap.lt_size q2) (Nat.le_of_succ_le l1)) (Nat.lt_irrefl _)
  ·exact absurd (Nat.lt_of_lt_of_le (Heap.lt_size q1) (Nat.le_of_succ_le l2)) (Nat.lt_irrefl _)
  ·exact I.ok.inj x y c z1 z2
 ·rcases v7 hx with z | z
  ·obtain ⟨c,m⟩:=pW (n:=s.heap.objs.size+1) (acc:=rY X.env scope.names []) (.inl z)
   exact pU m
  ·obtain ⟨c,e⟩:=I.ok.has x (by have:=S.free _ z rfl;rw [← hsc] at this;exact this)
   show ∃ c,(Ea X scope s.heap.objs.size).lookup x=some c
   unfold Ea
   rw [cZ]
   exact pU (c:=c) (List.mem_append_right _ (tQ e z))
 ·have hx':scope.names.lookup x=some .cell:=by simpa [oU] using hx
  rcases spl h with ⟨_,l,_⟩ | ⟨z,o,q⟩
  ·exact Nat.le_of_succ_le l
  ·exfalso
   have m:(x,NameKind.cell)∈scope.names:=PySem.mem_of_lookup hx'
   obtain ⟨d,md⟩:=pW (n:=s.heap.objs.size+1) (acc:=[]) (.inl m)
   obtain ⟨d',e'⟩:=pU md
   have h:(Ea X scope s.heap.objs.size).lookup x=some c:=h
   unfold Ea at h
   rw [cZ,pR,e'] at h
   cases h
   exact absurd (Nat.lt_of_lt_of_le (Heap.lt_size q) (Nat.le_of_succ_le (hc.empty _ _ (PySem.mem_of_lookup e')).2)) (Nat.lt_irrefl _)
 ·obtain ⟨⟨f0,f1,f2,f3,f4,f5⟩,hlt⟩:=hex b hb
  refine ⟨Nat.ne_of_lt hlt,fun x c h=>?_⟩
  rcases spl h with ⟨_,l,_⟩ | ⟨z,_⟩
  ·exact fun z=>absurd (Nat.lt_of_lt_of_le hlt (Nat.le_of_succ_le (z ▸ l))) (Nat.lt_irrefl _)
  ·exact f4 x c z
 ·obtain ⟨⟨f0,f1,f2,f3,f4,f5⟩,hlt⟩:=hex b hb
  rcases f3 with z | z
  ·exact I.ok.noex b o e z
  ·exact absurd (Nat.lt_of_lt_of_le (Heap.lt_size (I.ok.bs b o e).1) z) (Nat.lt_irrefl _)
 ·obtain ⟨⟨f0,f1,f2,f3,f4,f5⟩,hlt⟩:=hex b hb
  intro z
  rcases List.mem_cons.mp (I.stkSub b z) with z | z
  ·exact f1 z
  ·exact f2 z
 ·have hs:∃ j,sub[i]?=some (some j)∧σ[j]?=some (some v):=by
   unfold cT at h2
   rw [List.getElem?_map] at h2
   cases e:sub[i]? with
   | none=>rw [e] at h2;cases h2
   | some o=>
    rw [e] at h2
    cases o with
    | none=>cases h2
    | some j=>
     refine ⟨j,rfl,?_⟩
     have h3:(σ[j]?).join=some v:=Option.some.inj h2
     cases e2:σ[j]? with
     | none=>rw [e2] at h3;cases h3
     | some z=>rw [e2] at h3;cases z with
      | none=>cases h3
      | some z=>cases h3;rfl
  obtain ⟨j,e1,e2⟩:=hs
  obtain ⟨g1,g2,g3⟩:=S.at_ i j x e1 h1
  rw [← hN] at g1
  obtain ⟨m,hn,hl⟩:=I.loc
  have hkf:X.env.kindOf x=some .cell∨X.env.kindOf x=some .free:=by have:=S.free _ g2 rfl;rw [← hsc] at this;exact this
  have hvis:Yl X.env.scope x:=by
   rcases hkf with z | z
   ·exact .inr (.inl z)
   ·exact .inr (.inr z)
  obtain ⟨u,r,l⟩:=hl j x v g1 e2 hvis
  refine ⟨u,r,.inr ⟨pX g3,?_⟩⟩
  rcases l with ⟨k,_⟩ | ⟨_,c,e,o,ho,hd⟩
  ·have k':X.env.kindOf x=some .local:=k
   rcases hkf with z | z <;> (rw [k'] at z;cases z)
  ·exact ⟨c,fre g2 g3 e,o,hk _ _ ho,hd⟩
 ·rcases spl h with ⟨z,_⟩ | ⟨z,_⟩
  ·exact ⟨_,z⟩
  ·obtain ⟨v,o,ho,hd⟩:=I.cell x c z
   exact ⟨v,o,hk _ _ ho,hd⟩
 ·rcases spl h with ⟨_,l,_⟩ | ⟨z,_⟩
  ·exact I.hok.fresh (Nat.le_of_succ_le l)
  ·exact I.freeC x c z
 ·show (cT sub σ).length=N'.length
  unfold cT
  rw [List.length_map]
  exact S.len
theorem Cd {N:List Str} {sc:Scope} (S:rD N sc N' scope sub) (hc:X.calm=true) (hN:X.N=N) (hsc:X.env.scope=sc) (hi:PI X tg iter wi)
  (hg:∀ (C:Addr) (s₀:Shared) (H₀:Hp) (ex:List Addr),PG (oU X N' scope C s₀ H₀ ex) tg g)
  (ht:∀ (C:Addr) (s₀:Shared) (H₀:Hp) (ex:List Addr),v6 (oU X N' scope C s₀ H₀ ex) ifs tt)
  (he:∀ (C:Addr) (s₀:Shared) (H₀:Hp) (ex:List Addr),PE (oU X N' scope C s₀ H₀ ex) elt te)
  (hs:autoParam (∀ x,foldedSetIterable iter X.env x=pure x) L2.auto3._auto_1):
  PE X (.ListComp elt [⟨tg,iter,ifs,0⟩] scope pos) (tU sub wi g tt te):=by
 intro pins s σ H Q I h
 rw [eval_ListComp]
 have hcl:∀ x∈scope.names,x.2=NameKind.free→∃ c,X.env.cells.lookup x.1=some c:=fun x hx hk=>I.ok.has x.1 (by have:=S.free x hx hk;rw [← hsc] at this;exact this)
 refine wpAny_comprehension_free (use:=none) rfl hs (oZ hcl) S.kind S.loc ?_
 refine eZ (hi pins s σ H _ I h) fun v s1 h1=>eZ h1 fun itv s2 h2=>?_
 obtain ⟨it,fp,tn,J,H2,e,I2,T,st2,f2,W,⟨m0,w0⟩,turn⟩:=h2
 subst e
 refine wpAny_newObj_type (iB fun h₁ hns₁ hk31 hcl₁=>?_)
 dsimp only at hns₁ hk31 hcl₁ ⊢
 generalize hs3:({s2 with heap:=s2.heap.push {cls:=.type "list",dict:=none,data:=.seq ([]:List Value).toArray}}:Shared)=s3
 have e3:s2.heap.push {cls:=.type "list",dict:=none,data:=.seq ([]:List Value).toArray}=s3.heap:=by rw [← hs3]
 rw [e3] at hns₁ hk31 hcl₁ ⊢
 have hD3:s3.heap.get? s2.heap.objs.size=some {cls:=.type "list",dict:=none,data:=.seq ([]:List Value).toArray}:=by rw [← e3];exact Heap.get?_push_size _ rfl
 have I3:Inv X pins σ H2 s3:=by
  rw [← hs3]
  exact I2.kept (t':=s2.toks) fun b o e=>Heap.get?_push_of_some _ e
 have k23:∀ b o,s2.heap.get? b=some o→s3.heap.get? b=some o:=fun b o e=>by rw [← e3];exact Heap.get?_push_of_some _ e
 have hsz:s3.heap.objs.size=s2.heap.objs.size+1:=by rw [← e3,Heap.size_push]
 have hDn:H2 s2.heap.objs.size=none:=I2.hok.fresh (Nat.le_refl _)
 have fD:kY X pins H2 s2.heap.objs.size:=I2.fpOk (Nat.le_refl _) hDn
 have hfo:∀ b∈fp,b < s2.heap.objs.size:=fun b hb=>let ⟨o,e,_⟩:=T.obj _ _ st2 b hb;Heap.lt_size e
 have hDfp:s2.heap.objs.size ∉ fp:=fun z=>absurd (hfo _ z) (Nat.lt_irrefl _)
 have I4:=vd (tk:=s3.toks+([]:List (Str×Value)).length) S hN hsc I3 f2 (fun b hb=>by rw [hsz];exact Nat.lt_succ_of_lt (hfo b hb)) (D:=s2.heap.objs.size) (by rw [hsz];exact Nat.lt_succ_self _) fD hns₁ hk31 hcl₁
 have stat:∀ {H':Hp} {ob:Obj},(∀ b∈fp,H' b=none)→∀ b∈fp,kY (oU X N' scope s3.heap.objs.size s3 H2 (s2.heap.objs.size :: fp)) [(s2.heap.objs.size,ob)] H' b:=fun {H' ob} hn b hb=>by
  obtain ⟨q1,q2⟩:=I4.ok.exf b (List.mem_cons_of_mem _ hb)
  refine ⟨hn b hb,q1,I4.ok.exfs b (List.mem_cons_of_mem _ hb),.inl (List.mem_cons_of_mem _ hb),q2,fun p hp z=>?_⟩
  have hp':p=(s2.heap.objs.size,ob):=by simpa [oU] using hp
  subst hp'
  have z':s2.heap.objs.size=b:=z
  exact hDfp (by rw [z'];exact hb)
 generalize hXC:oU X N' scope s3.heap.objs.size s3 H2 (s2.heap.objs.size :: fp)=XC at I4 stat
 have eP:XC.prog=X.prog:=by rw [← hXC];rfl
 have eW:XC.w=X.w:=by rw [← hXC];rfl
 have eK:XC.K=X.K:=by rw [← hXC];rfl
 have eA:XC.A=X.A:=by rw [← hXC];rfl
 have eE:XC.env=compEnvC scope (Ea X scope s3.heap.objs.size) s3.heap.objs.size X.env:=by rw [← hXC];rfl
 have eC:XC.calm=true:=by rw [← hXC];exact hc
 have eX:XC.xe=fun _ _=>False:=by rw [← hXC];rfl
 have eH:XC.H₀=H2:=by rw [← hXC];rfl
 have eS:XC.s₀=s3:=by rw [← hXC];rfl
 have eF:XC.fs=frs X.stack:=by rw [← hXC];rfl
 have eEx:XC.ex=s2.heap.objs.size :: fp:=by rw [← hXC];rfl
 have ePn:XC.pn=[]:=by rw [← hXC];rfl
 have hgC:PG XC tg g:=by rw [← hXC];exact hg _ _ _ _
 have htC:v6 XC ifs tt:=by rw [← hXC];exact ht _ _ _ _
 have heC:PE XC elt te:=by rw [← hXC];exact he _ _ _ _
 have pinD:∀ {σ':St} {H':Hp} {s':Shared} {ob:Obj},Inv XC [] σ' H' s'→H' s2.heap.objs.size=none→s'.heap.get? s2.heap.objs.size=some ob→(∀ v,ob.data≠.cell v)→Inv XC [(s2.heap.objs.size,ob)] σ' H' s':=fun {σ' H' s' ob} J hn hg hd=>
  J.pins_of fun p hp=>by
   have hp':p=(s2.heap.objs.size,ob):=by simpa using hp
   subst hp'
   refine ⟨hg,hn,(J.ok.exf _ (by rw [eEx];exact List.mem_cons_self)).1,J.ok.exfs _ (by rw [eEx];exact List.mem_cons_self),hd⟩
 have loop:codeAny (model X.prog X.w) X.A (.compLoop (.ListComp elt [⟨tg,iter,ifs,0⟩] scope pos) 0 (.ref it) (.ref s2.heap.objs.size) (compEnvC scope (Ea X scope s3.heap.objs.size) s3.heap.objs.size X.env))
   (compPost (model X.prog X.w) X.A X.xe none (EP X pins σ Q) (.ref s2.heap.objs.size) s3.heap.objs.size) {s3 with heap:=h₁,toks:=s3.toks+([]:List (Str×Value)).length}:=by
  refine u9 (fun n s'=>∃ (i:Nat) (ys:List V) (its:List Value) (nn:Nat) (H':Hp),Inv XC [] (cT sub σ) H' s'∧tn i s'.heap∧(∀ b∈fp,H' b=none)∧H' s2.heap.objs.size=none∧
   s'.heap.get? s2.heap.objs.size=some {cls:=.type "list",data:=.seq its.toArray nn}∧Vals ys its∧W i n ys H') ?_ m0
   ⟨0,[],[],_,H2,I4,T.keep _ _ _ st2 fun b _ o e=>hk31 b o (k23 b o e),fun b hb=>(f2 b hb).1,hDn,hk31 _ _ hD3,.nil,w0⟩
  rintro n s4 ⟨i,ys,its,nn,H4,J4,st4,fr4,dn4,dg4,rv4,w4⟩
  have P4:=pinD J4 dn4 dg4 (fun v z=>by cases z)
  rcases turn i n ys H4 w4 with ⟨stop,hyl,qn⟩ | ⟨go,hyl,N,hN,step⟩
  ·have hdone:=T.done XC eP eW eK eC i _ s4 _ H4 (fun _ _=>False) P4 (stat fr4) st4 stop
   rw [eA] at hdone
   refine wpAny_mono hdone (fun r s5 ⟨hr,I5⟩=>?_) fun _ _ z=>z
   subst hr
   obtain ⟨m,hn,_⟩:=id I5.loc
   have hCe:XC.env.locals=s3.heap.objs.size:=by rw [eE];rfl
   rw [hCe] at hn
   refine ⟨m,hn,fun h6 hs6=>?_⟩
   have hDg:=(I5.pin (s2.heap.objs.size,_) (by rw [ePn];exact List.mem_cons_self)).1
   have hDne:s2.heap.objs.size≠s3.heap.objs.size:=by rw [hsz];exact Nat.ne_of_lt (Nat.lt_succ_self _)
   have hHC:H4 s3.heap.objs.size=none:=by have:=I5.free;rw [hCe] at this;exact this
   have k56:∀ b o,b≠s3.heap.objs.size→s5.heap.get? b=some o→h6.get? b=some o:=fun b o hb e=>hs6.extBut b o hb e
   have un:=I5.base
   rw [eF,eEx,eH,eS] at un
   have nC:∀ b o,s3.heap.get? b=some o→b≠s3.heap.objs.size:=fun b o e=>Nat.ne_of_lt (Heap.lt_size e)
   have hok6:HOk X.prog X.w (upd H4 s2.heap.objs.size (.lst ys)) h6:=by
    have h5:=I5.hok
    rw [eP,eW] at h5
    have Kp:∀ b u,H4 b=some u→b≠s3.heap.objs.size:=fun b u e z=>by rw [z,hHC] at e;cases e
    intro b u e
    by_cases hb:b=s2.heap.objs.size
    ·subst hb
     rw [aj] at e;cases e
     exact ⟨hyl,its,nn,rv4,k56 _ _ hDne hDg⟩
    ·rw [aB hb] at e
     have nD:∀ c u,H4 c=some u→c≠s2.heap.objs.size:=fun c u e z=>by rw [z,dn4] at e;cases e
     refine (h5 b u e).stay (fun c v hc' q=>k56 c v ?_ q) (fun c q=>by rw [aB (nD c _ q)];exact q) fun c xs q=>by rw [aB (nD c _ q)];exact q
     rcases hc' with z | z
     ·rw [z];exact Kp b u e
     ·exact Kp c _ z
   have nD2:∀ c u,H4 c=some u→c≠s2.heap.objs.size:=fun c u e z=>by rw [z,dn4] at e;cases e
   have un6:Un (frs X.stack) (s2.heap.objs.size :: fp) H2 (upd H4 s2.heap.objs.size (.lst ys)) s3.heap h6:=
    ⟨fun b o e nn' hb hx=>k56 b o (nC b o e) (un.keep b o e nn' hb hx),fun b o e nn' hb hx=>let ⟨sl,q⟩:=un.slot b o e nn' hb hx;⟨sl,k56 b _ (nC b o e) q⟩,
     fun b o e nn' hx=>by rw [aB (fun z=>hx (by rw [z];exact List.mem_cons_self))];exact un.free b o e nn' hx,
     fun b o e hx=>let ⟨o',q⟩:=un.there b o e hx;⟨o',k56 b o' (nC b o e) q⟩,
     fun b xs e=>by have q:=un.tups b xs e;rw [aB (nD2 b _ q)];exact q,
     fun b o u e=>by have q:=un.frzs b o u e;rw [aB (nD2 b _ q)];exact q,
     fun b ps e=>let ⟨more,q⟩:=un.tbls b ps e;⟨more,by rw [aB (nD2 b _ q)];exact q⟩⟩
   have I6:Inv X pins σ (upd H4 s2.heap.objs.size (.lst ys)) {s5 with heap:=h6}:=by
    refine I3.call' (s':={s5 with heap:=h6}) (ch:=s2.heap.objs.size :: fp) ?_ un6 hok6 I5.bare fun b hb=>?_
    ·show s5.os=s3.os
     have:=I5.os
     rw [eS] at this
     exact this
    ·have q:kY X pins H2 b:=by
      rcases List.mem_cons.mp hb with rfl | z
      ·exact fD
      ·exact f2 b z
     obtain ⟨f0,f1,f2',f3,f4,f5⟩:=q
     exact ⟨f3,f1,f4,f5⟩
   exact ⟨.ref s2.heap.objs.size,_,I6,rfl,qn _ dn4⟩
  ·have hitem:=T.item XC eP eW eK eC i _ s4 _ H4 (fun _ _=>False) P4 (stat fr4) st4 go
   rw [eA] at hitem
   refine wpAny_mono hitem (fun r s5 ⟨u,hr,h5⟩=>?_) fun _ _ z=>z
   subst hr
   dsimp only
   refine wpAny_mono h5 (fun _ s6 ⟨x,H6,I6,r6,y6,st6,fr6⟩=>?_) fun _ _ z=>z
   have P6:=I6.pinned (stat fr6) (T.obj _ _ st6)
   rw [← eE,← eP,← eW,← eA]
   refine wpAny_mono (hgC _ s6 _ H6 x u _ P6 r6 (step x H6 y6)) (fun _ s7 ⟨σ7,H7,I7,kp7,q7⟩=>?_) fun _ _ z=>by rw [eX] at z;exact z
   refine wpAny_mono (htC _ s7 σ7 H7 _ I7 q7) (fun ok s8 ⟨H8,I8,q8⟩=>?_) fun _ _ z=>by rw [eX] at z;exact z
   have fin:∀ {H9:Hp} {s9:Shared},Inv XC ([(s2.heap.objs.size,({cls:=.type "list",data:=.seq its.toArray nn}:Obj))] ++ qJ fp s6.heap) σ7 H9 s9→Inv XC [] (cT sub σ) H9 s9∧tn (i+1) s9.heap∧(∀ b∈fp,H9 b=none)∧H9 s2.heap.objs.size=none∧
     s9.heap.get? s2.heap.objs.size=some {cls:=.type "list",data:=.seq its.toArray nn}:=fun {H9 s9} J=>by
    have pD:=J.pin (s2.heap.objs.size,({cls:=.type "list",data:=.seq its.toArray nn}:Obj)) (by rw [ePn];simp)
    have pF:∀ b∈fp,∀ o,s6.heap.get? b=some o→s9.heap.get? b=some o∧H9 b=none:=fun b hb o e=>by
     have q:=J.pin (b,o) (by rw [ePn];exact List.mem_append_right _ (List.mem_append_right _ (mD hb e)))
     exact ⟨q.1,q.2.1⟩
    refine ⟨?_,T.keep _ _ _ st6 fun b hb o e=>(pF b hb o e).1,fun b hb=>?_,pD.2.1,pD.1⟩
    ·have J0:Inv XC [] σ7 H9 s9:=J.pins_of fun p hp=>nomatch hp
     exact J0.weak kp7.1.symm fun j v e=>kp7.2 j v e
    ·obtain ⟨o,e,_⟩:=T.obj _ _ st6 b hb
     exact (pF b hb o e).2
   cases ok with
   | false=>
    rw [if_neg (by simp)]
    rw [if_neg (by simp)] at q8
    obtain ⟨m',hm,w8⟩:=hN _ _ q8
    obtain ⟨a1,a2,a3,a4,a5⟩:=fin I8
    exact ⟨m',hm,i+1,ys,its,nn,H8,a1,a2,a3,a4,a5,rv4,w8⟩
   | true=>
    rw [if_pos rfl]
    rw [if_pos rfl] at q8
    refine wpAny_mono (heC _ s8 σ7 H8 _ I8 q8) (fun xv s9 ⟨y,H9,I9,r9,n9⟩=>?_) fun _ _ z=>by rw [eX] at z;exact z
    obtain ⟨m',hm,w9⟩:=hN _ _ n9
    obtain ⟨a1,a2,a3,a4,a5⟩:=fin I9
    refine wpAny_list_append_plain (items:=its.toArray) ⟨nn,a5⟩ (fun h' ⟨n',hp'⟩ sb=>?_) (by simp;rw [← rv4.length];omega)
    obtain ⟨q1,q2⟩:=I4.ok.exf s2.heap.objs.size (by rw [eEx];exact List.mem_cons_self)
    have a1':Inv XC [] (cT sub σ) H9 {s9 with heap:=h'}:=a1.turned (t':=s9.toks) (fun b o hb e=>(sb.2 b hb).trans e) a4 q1 (.inl (by rw [eEx];exact List.mem_cons_self)) q2 (fun p hp=>by rw [ePn] at hp;exact nomatch hp)
    refine ⟨m',hm,i+1,ys ++ [y],its ++ [xv],n',H9,a1',T.keep _ _ _ a2 fun b hb o e=>(sb.2 b (fun z=>hDfp (by rw [← z];exact hb))).trans e,a3,a4,?_,rv4.append (.cons r9 .nil),w9⟩
    rw [hp']
    simp
 subst hs3
 exact codeAny_compStart_list loop (T.self _ 0 _ _ _ (T.keep _ _ _ st2 fun b _ o e=>hk31 b o (k23 b o e)) loop)
end
abbrev pY (sub:List (Option Nat)) (g:TG) (tt:TT) (te:TE) (σ:St) (Q:VK) (J:It) (H1:Hp):Prop:=∃ W:Nat→Nat→List V→Hp→Prop,(∃ m,W 0 m [] H1)∧∀ i m ys H,W i m ys H→
 (J.stop i H∧ys.length≤sizeLine∧∀ D,H D=none→Q (.ref D) (upd H D (.lst ys)))∨
 (J.go i H∧ys.length < sizeLine∧∃ N:List V→Hp→Prop,(∀ ys' H',N ys' H'→∃ m',m' < m∧W (i+1) m' ys' H')∧
  ∀ x H',J.yld i H x H'→g x (cT sub σ) H' fun σ2 H2=>KeepSt (cT sub σ) σ2∧tt σ2 H2 fun b H3=>if b=true then te σ2 H3 fun y H4=>N (ys ++ [y]) H4 else N ys H3)
theorem v8 {sub:List (Option Nat)} {g:TG} {tt:TT} {te:TE} {σ:St} {Q:VK} {J:It} {H:Hp} {n:Nat} (Pv:Nat→List V→Hp→Prop) (hn:n≤sizeLine) (h0:Pv 0 [] H) (hl:∀ i ys H,Pv i ys H→ys.length≤i)
  (hgo:∀ i ys H,i < n→Pv i ys H→J.go i H) (hstop:∀ ys H,Pv n ys H→J.stop n H)
  (hs:∀ i ys H x H',i < n→Pv i ys H→J.yld i H x H'→g x (cT sub σ) H' fun σ2 H2=>KeepSt (cT sub σ) σ2∧tt σ2 H2 fun b H3=>if b=true then te σ2 H3 fun y H4=>Pv (i+1) (ys ++ [y]) H4 else Pv (i+1) ys H3)
  (hd:∀ ys H,Pv n ys H→∀ D,H D=none→Q (.ref D) (upd H D (.lst ys))):pY sub g tt te σ Q J H:=by
 refine ⟨fun i m ys H=>m=n - i∧i≤n∧Pv i ys H,⟨n,by simp,Nat.zero_le _,h0⟩,?_⟩
 rintro i m ys H ⟨rfl,hi,p⟩
 have hl':=hl i ys H p
 by_cases hlt:i < n
 ·exact .inr ⟨hgo i ys H hlt p,by omega,fun ys' H'=>Pv (i+1) ys' H',fun ys' H' p'=>⟨n - (i+1),by omega,rfl,hlt,p'⟩,fun x H' y=>hs i ys H x H' hlt p y⟩
 ·have e:i=n:=by omega
  subst e
  exact .inl ⟨hstop ys H p,by omega,hd ys H p⟩
end L2
namespace L2
open PySem PySem.Spec PyProof.Rows
section
variable {κ:Type} [DecidableEq κ]
def jz (kvs:List (κ×V)) (k:κ):Option V:=(kvs.find? fun kv=>decide (kv.1=k)).map (·.2)
def putK (kvs:List (κ×V)) (k:κ) (v:V):List (κ×V):=
 if (kvs.any fun kv=>decide (kv.1=k))=true then kvs.map (fun kv=>if kv.1=k then (kv.1,v) else kv) else kvs ++ [(k,v)]
theorem yf {k:κ}:jz ([]:List (κ×V)) k=none:=rfl
theorem f9 {p:κ×V} {r:List (κ×V)} {k:κ} (e:p.1=k):jz (p :: r) k=some p.2:=by simp [jz,List.find?_cons,e]
theorem gf {p:κ×V} {r:List (κ×V)} {k:κ} (e:¬ p.1=k):jz (p :: r) k=jz r k:=by simp [jz,List.find?_cons,e]
theorem pZ (k:κ):∀ kvs:List (κ×V),(kvs.any fun kv=>decide (kv.1=k))=(jz kvs k).isSome
 | []=>rfl
 | p :: r=>by
  rw [List.any_cons]
  by_cases e:p.1=k
  ·simp only [f9 e,decide_eq_true e,Bool.true_or,Option.isSome_some]
  ·rw [gf e,decide_eq_false e,Bool.false_or];exact pZ k r
theorem yg (k j:κ) (y:V):∀ kvs:List (κ×V),jz (kvs.map fun kv=>if kv.1=k then (kv.1,y) else kv) j=(jz kvs j).map fun x=>if j=k then y else x
 | []=>rfl
 | p :: r=>by
  have ih:=yg k j y r
  rw [List.map_cons]
  by_cases h:p.1=k
  ·rw [if_pos h]
   by_cases e:p.1=j
   ·rw [f9 (p:=(p.1,y)) e,f9 e,Option.map_some,if_pos (e.symm.trans h)]
   ·rw [gf (p:=(p.1,y)) e,gf e,ih]
  ·rw [if_neg h]
   by_cases e:p.1=j
   ·rw [f9 (p:=p) e,f9 e,Option.map_some,if_neg (fun z=>h (e.trans z))]
   ·rw [gf (p:=p) e,gf e,ih]
theorem vf (k j:κ) (y:V):∀ kvs:List (κ×V),jz kvs k=none→jz (kvs ++ [(k,y)]) j=if j=k then some y else jz kvs j
 | [],_=>by
  by_cases e:k=j
  ·rw [if_pos e.symm];exact f9 (p:=(k,y)) e
  ·rw [if_neg (fun z=>e z.symm)];exact gf (p:=(k,y)) e
 | p :: r,hn=>by
  rw [List.cons_append]
  have hk:¬ p.1=k:=fun z=>by rw [f9 z] at hn;cases hn
  rw [gf hk] at hn
  have ih:=vf k j y r hn
  by_cases e:p.1=j
  ·rw [f9 e,f9 e,if_neg (fun z=>hk (e.trans z))]
  ·rw [gf e,gf e,ih]
theorem lJ (kvs:List (κ×V)) (k j:κ) (y:V):jz (putK kvs k y) j=if j=k then some y else jz kvs j:=by
 unfold putK
 by_cases a:(kvs.any fun kv=>decide (kv.1=k))=true
 ·rw [if_pos a,yg]
  rw [pZ] at a
  by_cases e:j=k
  ·obtain ⟨x,hx⟩:=Option.isSome_iff_exists.mp a
   rw [if_pos e,e,hx,Option.map_some,if_pos rfl]
  ·rw [if_neg e]
   cases jz kvs j with
   | none=>rfl
   | some x=>rw [Option.map_some,if_neg e]
 ·rw [if_neg a]
  refine vf k j y kvs ?_
  rw [pZ] at a
  cases q:jz kvs k with
  | none=>rfl
  | some x=>rw [q] at a;exact (a rfl).elim
theorem gj (kvs:List (κ×V)) (k:κ) (v:V):(putK kvs k v).length≤kvs.length+1:=by
 unfold putK
 split
 ·rw [List.length_map];omega
 ·rw [List.length_append,List.length_cons,List.length_nil];omega
theorem RelO.isSome_eq {o:Option V} {u:Option Value} (r:RelO o u):o.isSome=u.isSome:=by
 cases o with
 | none=>cases u with
  | none=>rfl
  | some _=>exact (show False from r).elim
 | some _=>cases u with
  | none=>exact (show False from r).elim
  | some _=>rfl
theorem KV.val {kvs:List (κ×V)} {vs:List (κ×Value)} (r:KV kvs vs) (k:κ):RelO (jz kvs k) (valueAt vs k):=by
 unfold KV at r
 induction r with
 | nil=>exact True.intro
 | @cons p q ps qs h t ih=>
  obtain ⟨h1,h2⟩:=h
  by_cases e:p.1=k
  ·have e':q.1=k:=h1.symm.trans e
   have b:valueAt (q :: qs) k=some q.2:=by simp [valueAt,List.find?_cons,e']
   rw [f9 e,b];exact h2
  ·have e':¬ q.1=k:=fun z=>e (h1.trans z)
   have b:valueAt (q :: qs) k=valueAt qs k:=by simp [valueAt,List.find?_cons,e']
   rw [gf e,b];exact ih
theorem KV.any {kvs:List (κ×V)} {vs:List (κ×Value)} (r:KV kvs vs) (k:κ):(kvs.any fun kv=>decide (kv.1=k))=vs.any fun kv=>decide (kv.1=k):=by
 unfold KV at r
 induction r with
 | nil=>rfl
 | cons h t ih=>rw [List.any_cons,List.any_cons,ih,h.1]
theorem KV.repl {kvs:List (κ×V)} {vs:List (κ×Value)} (r:KV kvs vs) (k:κ) {y:V} {u:Value} (ry:RelV y u):
  KV (kvs.map fun kv=>if kv.1=k then (kv.1,y) else kv) (vs.map fun kv=>if kv.1=k then (kv.1,u) else kv):=by
 unfold KV at r ⊢
 induction r with
 | nil=>exact .nil
 | @cons p q ps qs h t ih=>
  rw [List.map_cons,List.map_cons]
  refine .cons ?_ ih
  obtain ⟨h1,h2⟩:=h
  by_cases e:p.1=k
  ·rw [if_pos e,if_pos (h1.symm.trans e)];exact ⟨h1,ry⟩
  ·rw [if_neg e,if_neg (fun z=>e (h1.trans z))];exact ⟨h1,h2⟩
theorem KV.put {kvs:List (κ×V)} {vs:List (κ×Value)} (r:KV kvs vs) (k:κ) {y:V} {u:Value} (ry:RelV y u):KV (putK kvs k y) (stored vs k u):=by
 unfold putK stored
 rw [r.any k]
 by_cases e:(vs.any fun kv=>decide (kv.1=k))=true
 ·rw [if_pos e,if_pos e];exact r.repl k ry
 ·rw [if_neg e,if_neg e];exact Paired.snoc r ⟨rfl,ry⟩
theorem KV.length {kvs:List (κ×V)} {vs:List (κ×Value)} (r:KV kvs vs):kvs.length=vs.length:=Paired.length r
end
theorem yh {P:Program} {w:World} {k:Key} {u:Value} (r:RelV (kV k) u):(bZ P w).is k u=true:=by
 cases k with
 | inl i=>obtain ⟨t,e⟩:=(show ∃ t,u=Value.int i t from r);subst e;exact xU P w i t
 | inr x=>obtain ⟨t,e⟩:=(show ∃ t,u=Value.str x t from r);subst e;exact xV P w x t
theorem vg {P:Program} {w:World}:∀ {ks:List Key} {us:List Value},Vals (ks.map kV) us→ItemsAre (bZ P w) ks us
 | [],_,r=>by rw [List.map_nil] at r;cases r;exact .nil
 | k :: ks,_,r=>by
  rw [List.map_cons] at r
  cases r with
  | cons h t=>exact .cons (yh h) (vg t)
abbrev KT (H:Hp):List (List Key×V)→List (List Key×Addr×Value)→Prop:=Paired fun p q=>p.1=q.1∧H q.2.1=some (.tup (p.1.map kV))∧RelV p.2 q.2.2
theorem KT.val {H:Hp} {kvs:List (List Key×V)} {xs:List (List Key×Addr×Value)} (r:KT H kvs xs) (k:List Key):RelO (jz kvs k) ((atKey xs k).map (·.2)):=by
 induction r with
 | nil=>exact True.intro
 | @cons p q ps qs h t ih=>
  obtain ⟨h1,_,h2⟩:=h
  by_cases e:p.1=k
  ·have e':q.1=k:=h1.symm.trans e
   have b:atKey (q :: qs) k=some q.2:=by simp [atKey,List.find?_cons,e']
   rw [f9 e,b];exact h2
  ·have e':¬ q.1=k:=fun z=>e (h1.trans z)
   have b:atKey (q :: qs) k=atKey qs k:=by simp [atKey,List.find?_cons,e']
   rw [gf e,b];exact ih
theorem KT.repl {H:Hp} {kvs:List (List Key×V)} {xs:List (List Key×Addr×Value)} (r:KT H kvs xs) (k:List Key) {y:V} {u:Value} (ry:RelV y u):
  KT H (kvs.map fun kv=>if kv.1=k then (kv.1,y) else kv) (xs.map (putAt k u)):=by
 induction r with
 | nil=>exact .nil
 | @cons p q ps qs h t ih=>
  rw [List.map_cons,List.map_cons]
  refine .cons ?_ ih
  obtain ⟨h1,h2,h3⟩:=h
  unfold putAt
  by_cases e:p.1=k
  ·rw [if_pos e,if_pos (h1.symm.trans e)];exact ⟨h1,h2,ry⟩
  ·rw [if_neg e,if_neg (fun z=>e (h1.trans z))];exact ⟨h1,h2,h3⟩
theorem KT.put {H:Hp} {kvs:List (List Key×V)} {xs:List (List Key×Addr×Value)} (r:KT H kvs xs) (k:List Key) {b:Addr} {y:V} {u:Value} (hb:H b=some (.tup (k.map kV))) (ry:RelV y u):
  KT H (putK kvs k y) (storedH xs k b u):=by
 have e:(kvs.any fun kv=>decide (kv.1=k))=(atKey xs k).isSome:=by
  rw [pZ,(r.val k).isSome_eq,Option.isSome_map]
 unfold putK storedH
 rw [e]
 by_cases q:(atKey xs k).isSome=true
 ·rw [if_pos q,if_pos q];exact r.repl k ry
 ·rw [if_neg q,if_neg q];exact Paired.snoc r ⟨rfl,hb,ry⟩
theorem KT.keeps {H H':Hp} {kvs:List (List Key×V)} {xs:List (List Key×Addr×Value)} (r:KT H kvs xs) (ht:∀ b ys,H b=some (.tup ys)→H' b=some (.tup ys)):KT H' kvs xs:=
 Paired.mapP r fun _ _ z=>⟨z.1,ht _ _ z.2.1,z.2.2⟩
section
variable {P:Program} {w:World} {H:Hp} {h:Heap} {a:Addr}
theorem PN {u:HO} (ok:HOk P w H h) (e:Rd H a u):ObjOk P w H h a u:=e.ok ok
theorem yj {kvs:List (Key×V)} (ok:HOk P w H h) (e:Rd H a (.dK kvs)):kvs.length≤sizeLine∧(a == sysModules)=false∧∃ vs,KV kvs vs∧h.DictOf (bZ P w) a vs:=
 show ObjOk P w H h a (.dK kvs) from PN ok e
theorem Vs {kvs:List (Key×V)} (ok:HOk P w H h) (e:H a=some (.dK kvs)):kvs.length≤sizeLine∧(a == sysModules)=false∧∃ vs,KV kvs vs∧h.DictOf (bZ P w) a vs:=yj ok (.inl e)
theorem tV {ks:List Key} (ok:HOk P w H h) (e:H a=some (.tup (ks.map kV))):(tupleKind (bZ P w)).is h ks a:=by
 obtain ⟨_,its,r,o,h1,h2,n,h3⟩:=(show ObjOk P w H h a (.tup (ks.map kV)) from ok a _ e)
 exact ⟨o,its.toArray,n,h1,h2,h3,by simpa using vg r⟩
theorem ym {kvs:List (List Key×V)} (ok:HOk P w H h) (e:Rd H a (.dT kvs)):kvs.length≤sizeLine∧(a == sysModules)=false∧
  ∃ xs,KT H kvs xs∧h.DictOfH (tupleKind (bZ P w)) a xs:=by
 obtain ⟨z,y,xs,r,o,es,ep,h1,h2,h3,h4,h5⟩:=(show ObjOk P w H h a (.dT kvs) from PN ok e)
 refine ⟨z,y,xs,r,o,es,ep,h1,h2,h3,h4,fun x hx=>?_,h5⟩
 have all:∀ {l:List (List Key×V)} {m:List (List Key×Addr×Value)},KT H l m→∀ x∈m,(tupleKind (bZ P w)).is h x.1 x.2.1:=by
  intro l m q
  induction q with
  | nil=>intro x hx;exact nomatch hx
  | @cons p q ps qs hq t ih=>
   intro x hx
   rcases List.mem_cons.mp hx with e | hx
   ·subst e
    exact tV ok (by rw [← hq.1];exact hq.2.1)
   ·exact ih x hx
 exact all r x hx
theorem Vt {kvs:List (List Key×V)} (ok:HOk P w H h) (e:H a=some (.dT kvs)):kvs.length≤sizeLine∧(a == sysModules)=false∧
  ∃ xs,KT H kvs xs∧h.DictOfH (tupleKind (bZ P w)) a xs:=ym ok (.inl e)
end
def DGet (H:Hp) (a:Addr) (y:V) (r:Option V):Prop:=
 (∃ kvs k,Rd H a (.dK kvs)∧y=kV k∧r=jz kvs k)∨∃ kvs k b,Rd H a (.dT kvs)∧y= .ref b∧H b=some (.tup (k.map kV))∧r=jz kvs k
def DPut (H:Hp) (a:Addr) (y v:V) (H':Hp):Prop:=
 (∃ kvs k,H a=some (.dK kvs)∧y=kV k∧kvs.length < sizeLine∧H'=upd H a (.dK (putK kvs k v)))∨
 ∃ kvs k b,H a=some (.dT kvs)∧y= .ref b∧H b=some (.tup (k.map kV))∧kvs.length < sizeLine∧H'=upd H a (.dT (putK kvs k v))
theorem DGet.k {H:Hp} {a:Addr} {kvs:List (Key×V)} {k:Key} (e:H a=some (.dK kvs)):DGet H a (kV k) (jz kvs k):=.inl ⟨kvs,k,.inl e,rfl,rfl⟩
theorem DPut.k {H:Hp} {a:Addr} {kvs:List (Key×V)} {k:Key} {v:V} (e:H a=some (.dK kvs)) (hl:kvs.length < sizeLine):DPut H a (kV k) v (upd H a (.dK (putK kvs k v))):=.inl ⟨kvs,k,e,rfl,hl,rfl⟩
section
variable {X:Cx} {pins:List (Addr×Obj)} {σ:St} {H:Hp} {s:Shared} {a:Addr} {y v:V} {u r:Value} {o:Option V} {A:Around} {E:Value→Shared→Prop}
theorem Inv.big (I:Inv X pins σ H s):sysModules < s.heap.objs.size:=by
 have h:mainGlobals < s.heap.objs.size:=(I.mod.glob.keeps I.bk).lt
 exact Nat.lt_trans (by decide) h
theorem Eb {Q:Value→Shared→Prop} (hu:A.units+1 < cLine) (I:Inv X pins σ H s) (g:DGet H a y (some v)) (ry:RelV y u) (h:∀ w' s',Inv X pins σ H s'→RelV v w'→Q w' s'):
  wpAny (model X.prog X.w) A (getItem (.ref a) u) Q E s:=by
 rcases g with ⟨kvs,k,e,ey,l⟩ | ⟨kvs,k,b,e,ey,eb,l⟩
 ·subst ey
  obtain ⟨z,hd,vs,rel,dd⟩:=yj I.hok e
  obtain ⟨w',hw,rw'⟩:=RelO.some_of (v:=v) (o:=valueAt vs k) (by rw [l];exact rel.val k)
  exact wpAny_getItem_of (yh ry) dd.mapOf hw (h w' _ (I.tok _) rw')
 ·subst ey
  cases (show u=Value.ref b from ry)
  obtain ⟨z,hd,xs,rel,dd⟩:=ym I.hok e
  obtain ⟨w',hw,rw'⟩:=RelO.some_of (v:=v) (o:=(atKey xs k).map (·.2)) (by rw [l];exact rel.val k)
  obtain ⟨p,hp,hp2⟩:=Option.map_eq_some_iff.mp hw
  refine wpAny_getItem_heap (tupleKind_room_in1 hu) (tV I.hok eb) dd hp ?_
  rw [hp2]
  exact h w' _ (I.tok _) rw'
theorem d_in {Q:Value→Shared→Prop} (hu:A.units+1 < cLine) (I:Inv X pins σ H s) (g:DGet H a y o) (ry:RelV y u) (h:∀ s',Inv X pins σ H s'→Q (.bool o.isSome) s'):
  wpAny (model X.prog X.w) A (compareOp .In u (.ref a)) Q E s:=by
 rcases g with ⟨kvs,k,e,ey,l⟩ | ⟨kvs,k,b,e,ey,eb,l⟩
 ·subst ey
  obtain ⟨z,hd,vs,rel,dd⟩:=yj I.hok e
  refine wpAny_in_of (yh ry) hd dd.mapOf ?_
  rw [← (rel.val k).isSome_eq,← l]
  exact h _ (I.tok _)
 ·subst ey
  cases (show u=Value.ref b from ry)
  obtain ⟨z,hd,xs,rel,dd⟩:=ym I.hok e
  refine wpAny_in_heap (tupleKind_room_in1 hu) (tV I.hok eb) hd dd ?_
  have q:=(rel.val k).isSome_eq
  rw [Option.isSome_map] at q
  rw [← q,← l]
  exact h _ (I.tok _)
theorem Lj {Q:Value→Shared→Prop} (hu:A.units+1 < cLine) (I:Inv X pins σ H s) (g:DGet H a y o) (ry:RelV y u) (h:∀ s',Inv X pins σ H s'→Q (.bool (!o.isSome)) s'):
  wpAny (model X.prog X.w) A (compareOp .NotIn u (.ref a)) Q E s:=by
 rcases g with ⟨kvs,k,e,ey,l⟩ | ⟨kvs,k,b,e,ey,eb,l⟩
 ·subst ey
  obtain ⟨z,hd,vs,rel,dd⟩:=yj I.hok e
  refine wpAny_notIn_of (yh ry) hd dd.mapOf ?_
  rw [← (rel.val k).isSome_eq,← l]
  exact h _ (I.tok _)
 ·subst ey
  cases (show u=Value.ref b from ry)
  obtain ⟨z,hd,xs,rel,dd⟩:=ym I.hok e
  refine wpAny_notIn_heap (tupleKind_room_in1 hu) (tV I.hok eb) hd dd ?_
  have q:=(rel.val k).isSome_eq
  rw [Option.isSome_map] at q
  rw [← q,← l]
  exact h _ (I.tok _)
theorem Ce {h':Heap} {t':Nat} {ob:HO} (I:Inv X pins σ H s) (mu:UV (H a)) (hs:Heap.SameBut a s.heap h') (he:∃ q,h'.get? a=some q) (new:ObjOk X.prog X.w (upd H a ob) h' a ob):
  Inv X pins σ (upd H a ob) {s with heap:=h',toks:=t'}:=
 I.write (x:=a) (e:=a) mu (.inl rfl) (fun b q hb z=>(hs.2 b hb).trans z) he new
theorem Rw {P:Program} {w:World} {H':Hp} {h':Heap} {kvs:List (Key×V)} {vs:List (Key×Value)} (z:kvs.length≤sizeLine) (hd:(a == sysModules)=false) (rel:KV kvs vs) (dd:h'.DictOf (bZ P w) a vs):
  ObjOk P w H' h' a (.dK kvs):=⟨z,hd,vs,rel,dd⟩
theorem Ec {H':Hp} {Q:Unit→Shared→Prop} (hu:A.units+1 < cLine) (I:Inv X pins σ H s) (g:DPut H a y v H') (ry:RelV y u) (rv:RelV v r) (h:∀ s',Inv X pins σ H' s'→Q () s'):
  wpAny (model X.prog X.w) A (setItem (.ref a) u r) Q E s:=by
 rcases g with ⟨kvs,k,e,ey,l,eH⟩ | ⟨kvs,k,b,e,ey,eb,l,eH⟩
 ·subst ey eH
  obtain ⟨z,hd,vs,rel,dd⟩:=Vs I.hok e
  have hz:vs.length≤sizeLine:=by rw [← rel.length];exact z
  have hl:(putK kvs k v).length≤sizeLine:=by have:=gj kvs k v;omega
  refine wpAny_setItem_pairs (hsz:=hz) (yh ry) dd fun h' dd' hs=>h _ ?_
  have he:∃ q,h'.get? a=some q:=let ⟨q,_,_,hq,_⟩:=dd';⟨q,hq⟩
  exact Ce I (by rw [e];exact True.intro) hs he (Rw hl hd (rel.put k rv) dd')
 ·subst ey eH
  cases (show u=Value.ref b from ry)
  obtain ⟨z,hd,xs,rel,dd⟩:=Vt I.hok e
  have hz:xs.length≤sizeLine:=by rw [← Paired.length rel];exact z
  have hl:(putK kvs k v).length≤sizeLine:=by have:=gj kvs k v;omega
  refine wpAny_setItem_heap (hsz:=hz) (tupleKind_room_in1 hu) (tV I.hok eb) dd fun h' dd' hs=>h _ ?_
  obtain ⟨q,es,ep,hq,h2,h3,h4,_,h5⟩:=dd'
  refine Ce I (by rw [e];exact True.intro) hs ⟨q,hq⟩ ⟨hl,hd,_,(rel.put k eb rv).keeps fun c ys ec=>?_,q,es,ep,hq,h2,h3,h4,h5⟩
  rw [aB (UT ec e (fun z=>nomatch z))]
  exact ec
end
section
variable {X:Cx} {pins:List (Addr×Obj)} {σ:St} {H:Hp} {s:Shared} {a:Addr} {kvs:List (Key×V)} {k:Key} {u:Value} {A:Around} {E:Value→Shared→Prop}
end
def Vu (i:Expr):Prop:=∀ ov iv,subscripted i false ov iv=operate [ov,iv] (getItem ov iv)
theorem Lk {prog:Program} {w:World} {A:Around} {E:Value→Shared→Prop} {s:Shared} {env:Env} {value slice:Expr} {pos:Pos} {T id:String} {Q:Value→Shared→Prop}
  (hl:typeLookup (.type T) "__getitem__"=pure (some (.builtin id))) (hs:Vu slice)
  (h:wpAny (model prog w) A (eval value env) (fun o s₁=>wpAny (model prog w) A (eval slice env) (fun i s₂=>s₂.TypeIs o T∧wpAny (model prog w) A (getItem o i) Q E s₂) E s₁) E s):
  wpAny (model prog w) A (eval (.Subscript value slice pos) env) Q E s:=by
 refine Subscript_ (wpAny_mono h (fun o s₁ h₁=>wpAny_mono h₁ (fun i s₂ h₂=>?_) fun _ _ x=>x) fun _ _ x=>x)
 obtain ⟨hT,h₂⟩:=h₂
 unfold subscriptTail
 refine wpAny_bind ?_
 rw [getitemInPython_of_ne hT.not_modules]
 refine wpAny_bind (wpAny_specialOf hT hl ?_)
 have fin:wpAny (model prog w) A (subscripted slice false o i) (fun r s₃=>wpAny (model prog w) A (letTemporaryGo value o r >>=fun _=>pure r) Q E s₃) E s₂:=by
  rw [hs o i]
  exact wpAny_operating (wpAny_mono h₂ (fun r s₃ h₃=>wpAny_bind (wpAny_letTemporaryGo (wpAny_pure h₃))) fun _ _ x=>x)
 first
  | exact wpAny_pure (wpAny_bind fin)
  | exact wpAny_bind (wpAny_pure (wpAny_bind fin))
  | exact wpAny_bind fin
theorem yo {X:Cx} {pins:List (Addr×Obj)} {σ:St} {H:Hp} {s:Shared} {a:Addr} {y:V} {o:Option V} (I:Inv X pins σ H s) (g:DGet H a y o):s.TypeIs (.ref a) "dict":=by
 rcases g with ⟨kvs,k,e,_,_⟩ | ⟨kvs,k,b,e,_,_,_⟩
 ·obtain ⟨_,_,vs,_,dd⟩:=yj I.hok e
  exact dd.typeIs
 ·obtain ⟨_,_,xs,_,dd⟩:=ym I.hok e
  exact dd.typeIs
def Hj (td ty:TE):TE:=fun σ H Q=>td σ H fun x H1=>ty σ H1 fun y H2=>∃ a v,x= .ref a∧DGet H2 a y (some v)∧Q v H2
section
variable {X:Cx} {o i e value:Expr} {pos pos' tpos:Pos} {td ty tv:TE}
theorem Ln (hu:X.A.units+1 < cLine) (ho:PE X o td) (hi:PE X i ty) (hs:Vu i):PE X (.Subscript o i pos) (Hj td ty):=by
 intro pins s σ H Q I h
 refine Lk PySem.F.slot_dict_getitem.lookup hs (eZ (ho pins s σ H _ I h) fun u s1 ⟨x,H1,I1,rx,q1⟩=>eZ (hi pins s1 σ H1 _ I1 q1) fun iv s2 qq0=>?_)
 obtain ⟨y,H2,I2,ry,a,v,ex,g,q2⟩:=qq0
 subst ex
 obtain rfl:u=Value.ref a:=rx
 exact ⟨yo I2 g,Eb hu I2 g ry fun w' s3 I3 rw'=>⟨v,H2,I3,rw',q2⟩⟩
end
theorem Hk {P:Program} {w:World} {H:Hp} (h:Heap) (hb:sysModules < h.objs.size):ObjOk P w H (h.push {cls:=.type "dict",data:=.dict #[]}) h.objs.size (.dK []):=
 ⟨Nat.zero_le _,beq_eq_false_iff_ne.mpr (Ne.symm (Nat.ne_of_lt hb)),[],.nil,Heap.DictOf.new h⟩
def Ag:TE:=fun _ H Q=>∀ p,H p=none→Q (.ref p) (upd H p (.dK []))
section
variable {X:Cx} {pos:Pos}
theorem Hl:PE X (.Dict [] [] pos) Ag:=fun pins s σ H Q I h=>
 wpAny_Dict_empty ⟨.ref s.heap.objs.size,_,I.laid (a:=s.heap.objs.size) (o:=.dK []) (t':=s.toks) (fun _ _ q=>Heap.get?_push_of_some _ q) (Nat.le_refl _) (Hk s.heap I.big),rfl,h _ (I.hok.fresh (Nat.le_refl _))⟩
end
def Hn:List (TE×TE)→St→Hp→(List (V×V)→Hp→Prop)→Prop
 | [],_,H,Q=>Q [] H
 | (tk,tv) :: r,σ,H,Q=>tk σ H fun x H1=>tv σ H1 fun y H2=>Hn r σ H2 fun ps H3=>Q ((x,y) :: ps) H3
abbrev VV:List (V×V)→List (Value×Value)→Prop:=Paired fun p q=>RelV p.1 q.1∧RelV p.2 q.2
def PPs (X:Cx) (pos:Pos) (keys:List (Option Expr)) (values:List Expr) (trs:List (TE×TE)):Prop:=
 ∀ (pins:List (Addr×Obj)) (s:Shared) (σ:St) (H:Hp) (Q:List (V×V)→Hp→Prop),Inv X pins σ H s→Hn trs σ H Q→
  wpAny (model X.prog X.w) X.A (evalPairs (pairTrees keys values X.env pos)) (fun vs s'=>∃ ps H',Inv X pins σ H' s'∧VV ps vs∧Q ps H') X.xe s
structure M1 (X:Cx) (o:Expr) (m:Str) (apos:Pos) (e:Expr) (cpos:Pos):Prop where
 base:attributeBase o m X.env (eval o X.env)=eval o X.env
 few:((backTo cpos (starEach [e] X.env)).all (fun x=>!x.1) && (backToKw cpos (keywordEach [] X.env)).all (fun x=>x.1.isSome)
  && decide (([e]:List Expr).length+([]:List Keyword).length+(if ([]:List Keyword).isEmpty then 0 else 1) < 30))=true
 line:(apos.endLine == cpos.line)=true
 trees:backTo cpos (starEach [e] X.env)=[(false,eval e X.env)]
structure M2 (X:Cx) (o:Expr) (m:Str) (apos:Pos) (e f:Expr) (cpos:Pos):Prop where
 base:attributeBase o m X.env (eval o X.env)=eval o X.env
 few:((backTo cpos (starEach [e,f] X.env)).all (fun x=>!x.1) && (backToKw cpos (keywordEach [] X.env)).all (fun x=>x.1.isSome)
  && decide (([e,f]:List Expr).length+([]:List Keyword).length+(if ([]:List Keyword).isEmpty then 0 else 1) < 30))=true
 line:(apos.endLine == cpos.line)=true
 trees:backTo cpos (starEach [e,f] X.env)=[(false,eval e X.env),(false,eval f X.env)]
section
variable {X:Cx} {pins:List (Addr×Obj)} {σ:St} {H:Hp} {s:Shared} {a:Addr} {y d:V} {u r:Value} {o:Option V} {A:Around} {E:Value→Shared→Prop}
end
section
variable {X:Cx} {o e f:Expr} {apos cpos:Pos} {td ty tx:TE}
end
section
variable {X:Cx} {pins:List (Addr×Obj)} {σ:St} {H:Hp} {s:Shared} {a:Addr} {kvs:List (Key×V)} {A:Around} {E:Value→Shared→Prop}
end
section
variable {X:Cx} {pins:List (Addr×Obj)} {σ:St} {H:Hp} {s:Shared} {a:Addr} {y:V} {u:Value} {A:Around} {E:Value→Shared→Prop}
end
end L2
namespace L2
open PySem PySem.Spec PyProof.Rows
section
variable {X:Cx}
section
variable {κ:Type} [DecidableEq κ]
end
end
end L2
namespace L2
open PySem PySem.Spec PyProof.Rows
def Lp (x:Str):It:=⟨fun i _=>i < x.cps.size,fun i H v H'=>H'=H∧∃ c,x.cps[i]?=some c∧v= .str ⟨#[c]⟩,fun i _=>i=x.cps.size⟩
theorem yp {P:Program} {w:World} {K:PySem.W.Frag} {tg:Expr} (it:Addr) (x:Str) (t:Tok) (ty:String)
  (hty:["enumerate","zip","dict_itemiterator","dict_reverseitemiterator","odict_iterator","itertools.zip_longest","itertools.pairwise"].contains ty=false)
  (W:∀ A:Around,A.handled=none→Walks P w A it [it] [it] x.cps.size (SignAt x) fun i h=>h.IsStrIter it ty x t i)
  (hself:∀ (A:Around) (i:Nat) (s:Shared) (Q:Value→Shared→Prop) (E:Value→Shared→Prop),s.heap.IsStrIter it ty x t i→Q (.ref it) s→wpAny (model P w) A (pyIter (.ref it)) Q E s):Turn P w K tg (Lp x) [it] it (fun i h=>h.IsStrIter it ty x t i) where
 mem:=by simp
 obj:=fun i h st b hb=>by
  have e:b=it:=by simpa using hb
  subst e
  obtain ⟨o,e,c,d⟩:=st
  exact ⟨o,e,fun v z=>by rw [d] at z;cases z⟩
 keep:=fun i h h' st k=>by
  obtain ⟨o,e,r⟩:=st
  exact ⟨o,k it (by simp) o e,r⟩
 item:=by
  intro X hP hw hK hc i pins s σ H E I hf st hg
  subst hP hw hK
  obtain ⟨f0,f1,f2,f3,f4,f5⟩:=hf it (by simp)
  refine (W X.A (I.ok.hd hc)).item i s _ _ hg st fun v h' tk hv st' kk=>?_
  obtain ⟨c,u,e1,rfl⟩:=hv
  have I1:Inv X pins σ H {s with heap:=h',toks:=tk}:=I.turned (fun b o hb e=>kk b o (by simpa using hb) e) f0 f1 f3 f4 f5
  obtain ⟨o,e,cl,d⟩:=id st'
  exact ⟨_,rfl,xX (s:={s with heap:=h',toks:=tk}) e cl d hty ⟨.str ⟨#[c]⟩,H,I1,⟨u,rfl⟩,⟨rfl,c,e1,rfl⟩,st',fun b hb=>(hf b hb).1⟩⟩
 done:=by
  intro X hP hw hK hc i pins s σ H E I hf st hg
  subst hP hw hK
  obtain ⟨f0,f1,f2,f3,f4,f5⟩:=hf it (by simp)
  have hg:i=x.cps.size:=hg
  subst hg
  exact (W X.A (I.ok.hd hc)).done s _ _ st fun h' tk kk=>⟨rfl,I.turned (fun b o hb e=>kk b o (by simpa using hb) e) f0 f1 f3 f4 f5⟩
 self:=hself
section
variable {X:Cx}
theorem all_range {bs:List Bool}:(List.range bs.length).all (fun i=>bs.getD i false)=bs.all id:=by
 rw [Bool.eq_iff_iff]
 simp only [List.all_eq_true,List.mem_range]
 constructor
 ·intro h b hb
  obtain ⟨i,hi,e⟩:=List.mem_iff_getElem.mp hb
  have:=h i hi
  rw [List.getD_eq_getElem?_getD,List.getElem?_eq_getElem hi] at this
  simp only [Option.getD_some] at this
  rw [← e];exact this
 ·intro h i hi
  rw [List.getD_eq_getElem?_getD,List.getElem?_eq_getElem hi]
  exact h _ (List.getElem_mem hi)
theorem rE:∀ {bs:List Bool} {us:List Value} {i:Nat} {v:Value},Vals (bs.map V.bl) us→us[i]?=some v→v= .bool (bs.getD i false)
 | [],_,i,v,.nil,e=>by simp at e
 | b :: bs,_,0,v,.cons r t,e=>by simp at e;subst e;exact r
 | b :: bs,_,i+1,v,.cons r t,e=>by
  simp at e
  have:=rE (bs:=bs) t e
  simpa using this
def rAll:List V→Hp→VK→Prop:=fun xs H Q=>∃ (p:Addr) (bs:List Bool),xs=[.ref p]∧H p=some (.lst (bs.map V.bl))∧Q (.bl (bs.all id)) H
theorem Ho (hc:X.calm=true):CallR X (.builtin "all") rAll:=by
 intro pins s σ H xs us Q I r h
 obtain ⟨p,bs,rfl,hp,q⟩:=h
 obtain ⟨u,rfl,ru⟩:=vals1 r
 cases ru
 obtain ⟨hz,its,n,rv,e⟩:=I.hok p _ hp
 refine call_all_walk (wpAny_pyIter_list (items:=its.toArray) ⟨_,e,rfl,n,rfl⟩ ?_)
 refine ⟨s.heap.objs.size,_,_,_,_,_,fun i=>bs.getD i false,rfl,Walks.list (A:=X.A.in1) (I.ok.hd hc) s.heap.objs.size p (Nat.ne_of_lt (Heap.lt_size e)) its.toArray,⟨⟨_,Heap.get?_push_size _ rfl,rfl,rfl⟩,⟨_,Heap.get?_push_of_some _ e,rfl,n,rfl⟩⟩,?_,fun h' tk hk=>?_⟩
 ·intro i v s' Q' E' hv hq
  have:=rE rv (by simpa using hv)
  subst this
  exact wpAny_truthy_bool hq
 ·have hl:its.toArray.size=bs.length:=by have:=rv.length;simpa using this.symm
  rw [hl,all_range]
  refine ⟨.bl _,H,?_,rfl,q⟩
  exact I.kept fun b o e=>hk b o (by simp;exact Nat.ne_of_lt (Heap.lt_size e)) (Heap.get?_push_of_some _ e)
theorem tW:∀ {ys:List Str} {us:List Value},Vals (ys.map V.str) us→StrsAre us ys
 | [],_,.nil=>.nil
 | y :: ys,_,.cons r t=>by
  obtain ⟨k,e⟩:=(show ∃ t,_=Value.str y t from r)
  subst e
  exact .cons y k (tW t)
def rJoin:V→List V→Hp→VK→Prop:=fun x xs H Q=>∃ (sep:Str) (p:Addr) (ys:List Str),x= .str sep∧xs=[.ref p]∧H p=some (.lst (ys.map V.str))∧(ys.map (·.length)).sum+ys.length*sep.length≤16777216∧Q (.str (Txt.join sep ys)) H
theorem Lq:Kq X "str.join" rJoin:=by
 intro pins s σ H x xs v us Q I rx r h
 obtain ⟨sep,p,ys,rfl,rfl,hp,hz,q⟩:=h
 obtain ⟨u,rfl,ru⟩:=vals1 r
 cases ru
 obtain ⟨t,rfl⟩:=rx
 obtain ⟨hz',its,n,rv,e⟩:=I.hok p _ hp
 exact join_list (items:=its.toArray) ⟨_,e,rfl,n,rfl⟩ (by simpa using tW rv) hz fun t' k=>⟨.str _,H,I.tok _,⟨_,rfl⟩,q⟩
def Vv:V→Option Int→Option Int→Hp→VK→Prop:=fun v lo hi H Q=>∃ x,v= .str x∧x.length≤sizeLine∧Q (.str (Txt.slice x lo hi)) H
theorem Rx:SlR X Vv:=by
 intro pins s σ H x v vl vu lo hi sl Q I rx hs pl pu h
 obtain ⟨z,rfl,hz,q⟩:=h
 obtain ⟨t,rfl⟩:=rx
 refine ⟨"str",_,F.slot_str_getitem.lookup,typeIs_str _ _ _,?_⟩
 have fin:∀ (t' k:Nat),EP X pins σ Q (.str (Txt.slice z lo hi) t') {s with toks:=k}:=fun t' k=>⟨.str _,H,I.tok _,⟨_,rfl⟩,q⟩
 have sz:=Nat.le_trans (Txt.slice_le z lo hi) hz
 obtain ⟨o,ho,hc,hd⟩:=hs
 cases pl with
 | none=>
  cases pu with
  | none=>exact wpAny_getItem_str_slice (l:=none) (u:=none) (st:=none) ⟨o,ho,hc,hd⟩ rfl (post_val_or_str ⟨sz,fin⟩)
  | int j tj=>exact wpAny_getItem_str_slice (l:=none) (u:=some (j,tj)) (st:=none) ⟨o,ho,hc,hd⟩ rfl (post_val_or_str ⟨sz,fin⟩)
 | int i ti=>
  cases pu with
  | none=>exact wpAny_getItem_str_slice (l:=some (i,ti)) (u:=none) (st:=none) ⟨o,ho,hc,hd⟩ rfl (post_val_or_str ⟨sz,fin⟩)
  | int j tj=>exact wpAny_getItem_str_slice (l:=some (i,ti)) (u:=some (j,tj)) (st:=none) ⟨o,ho,hc,hd⟩ rfl (post_val_or_str ⟨sz,fin⟩)
def PP:R2:=fun x y H Q=>∃ i n,x= .str i∧y= .int n∧MulOk i n∧Q (.str (Txt.mul i n)) H
theorem Ah:OpR X (binaryOp .Mult) PP:=by
 intro pins s σ H x y v u Q I rx ry h
 obtain ⟨i,n,rfl,rfl,hk,q⟩:=h
 obtain ⟨t,rfl⟩:=rx
 obtain ⟨t',rfl⟩:=ry
 exact SB.mul hk fun t' k=>⟨.str _,H,I.tok _,⟨_,rfl⟩,q⟩
def sgn (x:Str):List V:=x.cps.toList.map fun c=>V.str ⟨#[c]⟩
theorem Ed {x:Str} {acc:Array Value} (h:ItemsOf (SignAt x) acc x.cps.size):Vals (sgn x) acc.toList:=by
 obtain ⟨h1,h2⟩:=h
 have key:∀ (l:List Nat) (a:List Value),l.length=a.length→(∀ (j:Nat) (v:Value),a[j]?=some v→∃ (c:Nat) (u:Tok),l[j]?=some c∧v=Value.str ⟨#[c]⟩ u)→Vals (l.map fun c=>V.str ⟨#[c]⟩) a:=by
  intro l
  induction l with
  | nil=>intro a hl _;cases a with
   | nil=>exact .nil
   | cons _ _=>simp at hl
  | cons c l ih=>
   intro a hl hh
   cases a with
   | nil=>simp at hl
   | cons v a=>
    obtain ⟨c',u,e1,e2⟩:=hh 0 v (by simp)
    simp at e1;subst e1
    refine .cons ⟨u,e2⟩ (ih a (by simpa using hl) fun j v' e=>?_)
    obtain ⟨c',u,e1,e2⟩:=hh (j+1) v' (by simpa using e)
    exact ⟨c',u,by simpa using e1,e2⟩
 refine key x.cps.toList acc.toList (by simp [h1]) fun j v e=>?_
 obtain ⟨c,u,e1,e2⟩:=h2 j v (by simpa using e)
 exact ⟨c,u,by simpa using e1,e2⟩
theorem yq (hc:X.calm=true):CallR X (.type "list") (fun xs H Q=>∃ x,xs=[.str x]∧x.cps.size≤sizeLine∧∀ p,H p=none→Q (.ref p) (upd H p (.lst (sgn x)))):=by
 intro pins s σ H xs us Q I r h
 obtain ⟨x,rfl,hz,q⟩:=h
 obtain ⟨u,rfl,t,rfl⟩:=vals1 r
 refine call_list_str (I.ok.hd hc) x t (hn:=hz) fun h' tk acc' c' hk hS hacc=>?_
 refine ⟨.ref s.heap.objs.size,_,I.laid (o:=.lst (sgn x)) hk (Nat.le_refl _) ⟨by simp [sgn];exact hz,acc'.toList,c',Ed hacc,by simpa using hS⟩,rfl,q _ I.fresh⟩
def Ry (K:PySem.W.Frag):List V→Hp→VK→Prop:=fun xs H Q=>∃ x T t b,xs=[x,.ty T]∧TyOf K H x t∧PySem.W.kitOne K t (.type T)=some b∧Q (.bl b) H
theorem Hq:CallR X (.builtin "isinstance") (Ry X.K):=by
 intro pins s σ H xs us Q I r h
 obtain ⟨x,T,t,b,rfl,ty,e,q⟩:=h
 obtain ⟨u,v,rfl,ru,rv⟩:=vals2 r
 cases rv
 exact DG I ru ty e fun tk=>⟨.bl b,H,I.tok _,rfl,q⟩
def Ai:List V→List V→Bool
 | [],[]=>true
 | x :: xs,y :: ys=>BZ x y && Ai xs ys
 | _,_=>false
theorem tX:∀ (xs ys:List V),xs.length=ys.length→(List.range xs.length).all (fun j=>BZ (xs.getD j .non) (ys.getD j .non))=Ai xs ys
 | [],[],_=>rfl
 | x :: xs,y :: ys,h=>by
  have ih:=tX xs ys (by simpa using h)
  rw [List.length_cons,List.range_succ_eq_map,List.all_cons,List.all_map]
  simp only [Ai]
  rw [← ih]
  rfl
 | [],y :: ys,h=>by simp at h
 | x :: xs,[],h=>by simp at h
theorem yr:∀ {xs ys:List V},xs.length≠ys.length→Ai xs ys=false
 | [],[],h=>absurd rfl h
 | [],y :: ys,_=>rfl
 | x :: xs,[],_=>rfl
 | x :: xs,y :: ys,h=>by simp [Ai,yr (xs:=xs) (ys:=ys) (by simpa using h)]
def Vw (K:PySem.W.Frag) (neg:Bool):R2:=fun x y H Q=>∃ a b xs ys,x= .ref a∧y= .ref b∧SqL K H a xs∧SqL K H b ys∧xs.all jl=true∧ys.all jl=true∧Q (.bl (if neg then !Ai xs ys else Ai xs ys)) H
theorem Ef (hu:X.A.units < cLine):OpR X (compareOp .Eq) (Vw X.K false):=by
 intro pins s σ H x y v u Q I rx ry h
 obtain ⟨a,b,xs,ys,rfl,rfl,ha,hb,fx,fy,q⟩:=h
 cases rx
 cases ry
 obtain ⟨its,r1,p1,z1⟩:=I.list ha
 obtain ⟨jts,r2,p2,z2⟩:=I.list hb
 have l1:its.toArray.size=xs.length:=by simpa using r1.length.symm
 have l2:jts.toArray.size=ys.length:=by simpa using r2.length.symm
 by_cases hl:xs.length=ys.length
 ·refine SeqAt.eq_listAt (e:=fun j=>BZ (xs.getD j .non) (ys.getD j .non)) p1.isList p2.isList (by rw [l1,l2];exact hl) hu (fun j h1 h2=>?_) ?_
  ·have h1':j < xs.length:=by omega
   have h2':j < ys.length:=by omega
   obtain ⟨u1,e1,q1⟩:=r1.get (List.getElem?_eq_getElem h1')
   obtain ⟨u2,e2,q2⟩:=r2.get (List.getElem?_eq_getElem h2')
   have e1':its.toArray[j]=u1:=by
    have:=List.getElem?_eq_some_iff.mp e1
    obtain ⟨_,z⟩:=this
    simpa using z
   have e2':jts.toArray[j]=u2:=by
    have:=List.getElem?_eq_some_iff.mp e2
    obtain ⟨_,z⟩:=this
    simpa using z
   rw [e1',e2']
   have g1:xs.getD j .non=xs[j]:=by rw [List.getD_eq_getElem?_getD,List.getElem?_eq_getElem h1'];rfl
   have g2:ys.getD j .non=ys[j]:=by rw [List.getD_eq_getElem?_getD,List.getElem?_eq_getElem h2'];rfl
   show SeqAt.EqAt X.A.in1 s u1 u2 (BZ (xs.getD j .non) (ys.getD j .non))
   rw [g1,g2]
   exact qN q1 q2 (List.all_eq_true.mp fx _ (List.getElem_mem h1')) (List.all_eq_true.mp fy _ (List.getElem_mem h2'))
  ·rw [l1,tX xs ys hl]
   exact ⟨.bl _,H,I,rfl,q⟩
 ·refine SeqAt.eq_list_lengthsAt p1.isList p2.isList (by rw [l1,l2];simpa using hl) hu ?_
  rw [if_neg (by simp),yr hl] at q
  exact ⟨.bl false,H,I,rfl,q⟩
end
end L2
namespace L2
open PySem PySem.Spec PyProof.Rows
def fu (K:PySem.W.Frag) (mg:Str→Option Value) (x:Str) (st:Stmt):Prop:=∃ f fd,Fun K x x st f fd∧mg x=some (.ref f)
theorem bB {K:PySem.W.Frag} {mg:Str→Option Value} {h:Heap} (X:K.In h) (G:h.Ns mainGlobals mg) {x:Str} {st:Stmt} {f:Addr} {oc:Value} {od an:Option Addr} {osl:Array (Option Value)} {kV doc pm cdv ct:Value}
  (a:PySem.W.nsIn K mainGlobals x=some (some (.ref f)))
  (l:K.lookup f=some ⟨oc,od,.func (PySem.W.fnOf x x (dB st) (bU st) (aq st) .none kV doc pm an cdv ct),osl⟩)
  (c:PySem.W.codeIn K cdv x=true) (k:PySem.W.keepIn K (.ref f)=true):fu K mg x st:=⟨f,_,tM l c k,PySem.W.mg_of X G a⟩
def Has (P:Program) (w:World) (K:PySem.W.Frag) (mg:Str→Option Value) (base:Heap) (k:Nat) (x:Str) (ps:List Str) (sp:Sp):Prop:=
 ∃ f fd,mg x=some (.ref f)∧PySem.W.keepIn K (.ref f)=true∧Binds K fd ps []∧FnOk P w K mg base Af k f fd ps sp
section
variable {P:Program} {w:World} {K:PySem.W.Frag} {mg:Str→Option Value} {base:Heap}
theorem Has.mono {j k:Nat} {x:Str} {ps:List Str} {sp:Sp} (h:Has P w K mg base j x ps sp) (hk:j≤k):Has P w K mg base k x ps sp:=
 let ⟨f,fd,a,b,c,d⟩:=h;⟨f,fd,a,b,c,d.mono hk⟩
theorem Rz {x:Str} {st:Stmt} {N ps:List Str} {k:Nat} {sp:Sp} (D:fu K mg x st) (S:aD N ps (aq st))
  (hb:∀ (kV doc pm:Value) (an:Option Addr) (cdv ct:Value) (us:List Value),us.length=ps.length→bindArgs (PySem.W.fnOf x x (dB st) (bU st) (aq st) .none kV doc pm an cdv ct) ⟨us,[]⟩=pure (ps.zip us))
  (len:∀ vs H Q E,sp vs H Q E→vs.length=ps.length)
  (hbody:∀ (f:Addr) (cdv:Value) (A:Around) (outer:List Env) (s:Shared) (H:Hp) (vs:List V) (Q:VK) (E:XK),Room k (A.deeper (envOfC x (aq st) s.heap.objs.size f cdv))→sp vs H Q E→
   ∃ t,PSs (oR Af P w K mg base N x (aq st) f cdv A outer s H E).nox (bU st) t∧t {nx:=fun _ H'=>Q .non H',rt:=Q} (start N vs) H):Has P w K mg base (k+1) x ps sp:=by
 obtain ⟨f,fd,F,hm⟩:=D
 exact ⟨f,fd,hm,F.kp,F.binds hb,F.ok S len fun cdv A outer s H vs Q E hr h=>hbody f cdv A outer s H vs Q E hr h⟩
end
section
variable {X:Cx}
theorem Hr {k:Nat} {x:Str} {ps:List Str} {sp:Sp} {p pos:Pos} {e:Expr} {es:List Expr} {t:TA} (F:Has X.prog X.w X.K X.mg X.base k x ps sp) (hr:Room k X.A) (hg:Gl X x)
  (ha:PA X (e :: es) t) (hdb:autoParam ((x == ("__debug__":Str))=false) L2.auto2._auto_1) (he:autoParam (starEach (e :: es) X.env=(false,eval e X.env) :: starEach es X.env) L2.auto4._auto_1) (hpl:autoParam ((backTo pos (starEach es X.env)).any (·.1)=false) L2.auto4._auto_1):
  PE X (.Call (.Name x p) (e :: es) [] pos) (uX sp [] E0 t):=by
 obtain ⟨f,fd,a,b,c,d⟩:=F
 exact Ld d hr hg a b c .nil Vr ha hdb he hpl
def yt:R2:=fun x y H Q=>(∃ i j,x= .int i∧y= .int j∧Q (.int (i+j)) H)∨(∃ i j,x= .str i∧y= .str j∧i.length+j.length≤sizeLine∧Q (.str (i ++ j)) H)∨Vp x y H Q
theorem aP:OpR X (binaryOp .Add) yt:=Q7.or (zX.or Ru)
def Hs:R2:=fun x y H Q=>(∃ i j,x= .int i∧y= .int j∧CMul i j∧Q (.int (i*j)) H)∨PP x y H Q∨Vq x y H Q
theorem jW:OpR X (binaryOp .Mult) Hs:=Q8.or (Ah.or Rv)
theorem Ht {x:Str} {z:Str} {pos:Pos} (hg:Gl X x) (hm:∃ t,X.mg x=some (.str z t)) (hd:autoParam ((x == ("__debug__":Str))=false) L2.auto2._auto_1):PE X (.Name x pos) (tC (.str z)):=
 let ⟨t,e⟩:=hm;vU hg e ⟨t,rfl⟩ hd
theorem Hu {x:Str} {z:Int} {pos:Pos} (hg:Gl X x) (hm:∃ t,X.mg x=some (.int z t)) (hd:autoParam ((x == ("__debug__":Str))=false) L2.auto2._auto_1):PE X (.Name x pos) (tC (.int z)):=
 let ⟨t,e⟩:=hm;vU hg e ⟨t,rfl⟩ hd
theorem Vx {x:Str} {T:String} {pos:Pos} (hg:Gl X x) (hm:X.mg x=none) (hv:bootBuiltins x=some (.type T)) (hn:autoParam (x≠"__name__") L2.auto2._auto_1) (hd:autoParam ((x == ("__debug__":Str))=false) L2.auto2._auto_1):PE X (.Name x pos) (tC (.ty T)):=
 Kw hg hm hv rfl hn hd
def Lr (K:PySem.W.Frag):R2:=fun x y H Q=>(∃ i j,x= .str i∧y= .str j∧Q (.bl (!(Builtin.Str.occurrences j i 0 j.length 1).isEmpty)) H)∨Ym K false x y H Q
theorem RB:OpR X (compareOp .In) (Lr X.K):=Dw.or DQ
def v9 (K:PySem.W.Frag):R2:=fun x y H Q=>(∃ i j,x= .str i∧y= .str j∧Q (.bl (!(!(Builtin.Str.occurrences j i 0 j.length 1).isEmpty))) H)∨Ym K true x y H Q
theorem Eg:OpR X (compareOp .NotIn) (v9 X.K):=v4.or vZ
def RC (K:PySem.W.Frag):R2:=fun x y H Q=>rEq x y H Q∨Vw K false x y H Q
theorem RD (hu:X.A.units < cLine):OpR X (compareOp .Eq) (RC X.K):=Vc.or (Ef hu)
def Yn (K:PySem.W.Frag):V→Option Int→Option Int→Hp→VK→Prop:=fun x lo hi H Q=>Vl K x lo hi H Q∨Vg K x lo hi H Q∨Vv x lo hi H Q
theorem RG:SlR X (Yn X.K):=Lh.or (Rm.or Rx)
def Ls (K:PySem.W.Frag) (tl:TE):TI:=fun σ H R=>tl σ H fun x H1=>(∃ a,x= .ref a∧(∃ xs,SqL K H1 a xs)∧R (PK K a) H1)∨(∃ a,x= .ref a∧(∃ xs,SqT K H1 a xs)∧R (UG K a) H1)∨(∃ z,x= .str z∧R (Lp z) H1)
theorem RJ {tg l:Expr} {tl:TE} (hl:PE X l tl):PI X tg l (Ls X.K tl):=by
 intro pins s σ H R I h
 refine eZ (hl pins s σ H _ I h) fun v s1 qq0=>?_
 obtain ⟨x,H1,I1,r1,q1⟩:=qq0
 rcases q1 with ⟨a,rfl,⟨xs,hq⟩,q⟩ | ⟨a,rfl,⟨xs,hq⟩,q⟩ | ⟨z,rfl,q⟩
 ·cases r1
  obtain ⟨its,rv,p,hz⟩:=I1.list hq
  refine wpAny_pyIter_list p.isList ?_
  refine ⟨s1.heap.objs.size,[s1.heap.objs.size],_,_,H1,rfl,I1.kept (t':=s1.toks) fun b o e=>Heap.get?_push_of_some _ e,Ds a _,⟨_,Heap.get?_push_size _ rfl,rfl,rfl⟩,fun b hb=>?_,q⟩
  have e:b=s1.heap.objs.size:=by simpa using hb
  subst e
  exact I1.fpOk (Nat.le_refl _) (I1.hok.fresh (Nat.le_refl _))
 ·cases r1
  obtain ⟨its,rv,p,hz⟩:=I1.tuple hq
  refine wpAny_pyIter_tuple (show s1.heap.IsTuple a its.toArray from p) ?_
  refine ⟨s1.heap.objs.size,[s1.heap.objs.size],_,_,H1,rfl,I1.kept (t':=s1.toks) fun b o e=>Heap.get?_push_of_some _ e,zU a _,⟨_,Heap.get?_push_size _ rfl,rfl,rfl⟩,fun b hb=>?_,q⟩
  have e:b=s1.heap.objs.size:=by simpa using hb
  subst e
  exact I1.fpOk (Nat.le_refl _) (I1.hok.fresh (Nat.le_refl _))
 ·obtain ⟨t,rfl⟩:=r1
  have fin:∀ (ty:String) (T:Turn X.prog X.w X.K tg (Lp z) [s1.heap.objs.size] s1.heap.objs.size (fun i h=>h.IsStrIter s1.heap.objs.size ty z t i)) (o:Obj),(s1.heap.push o).IsStrIter s1.heap.objs.size ty z t 0→PIE X pins σ tg R (.ref s1.heap.objs.size) {s1 with heap:=s1.heap.push o}:=
   fun ty T o st=>⟨s1.heap.objs.size,[s1.heap.objs.size],_,_,H1,rfl,I1.kept (t':=s1.toks) fun b o e=>Heap.get?_push_of_some _ e,T,st,fun b hb=>by
    have e:b=s1.heap.objs.size:=by simpa using hb
    subst e
    exact I1.fpOk (Nat.le_refl _) (I1.hok.fresh (Nat.le_refl _)),q⟩
  cases ha:z.cps.all (· < 128)
  ·exact wpAny_pyIter_wide ha (fin "str_iterator" (yp _ z t _ (by decide) (fun A' hA=>Walks.strWide hA _ z t) fun A i s Q E st h=>wpAny_pyIter_striter_wide st h) _ ⟨_,Heap.get?_push_size _ rfl,rfl,rfl⟩)
  ·exact wpAny_pyIter_ascii ha (fin "str_ascii_iterator" (yp _ z t _ (by decide) (fun A' hA=>Walks.strAscii hA _ z t) fun A i s Q E st h=>wpAny_pyIter_striter_ascii st h) _ ⟨_,Heap.get?_push_size _ rfl,rfl,rfl⟩)
end
section
variable {X:Cx} {K:PySem.W.Frag}
theorem Lw (hK:X.K=K):IxR X (Rp K):=hK ▸ Rq
theorem Aj (hK:X.K=K):OpR X (compareOp .In) (Lr K):=hK ▸ RB
theorem Eh (hK:X.K=K):OpR X (compareOp .NotIn) (v9 K):=hK ▸ Eg
theorem RK (hK:X.K=K) (hu:X.A.units < cLine):OpR X (compareOp .Eq) (RC K):=hK ▸ RD hu
theorem jm (hK:X.K=K):SlR X (Yn K):=hK ▸ RG
theorem Lx {tg l:Expr} {tl:TE} (hK:X.K=K) (hl:PE X l tl):PI X tg l (Ls K tl):=hK ▸ RJ hl
def Ly (K:PySem.W.Frag):List V→Hp→VK→Prop:=fun xs H Q=>∃ x n,xs=[x]∧Vf K x H n∧Q (.int n) H
theorem aC (hK:X.K=K):CallR X (.builtin "len") (Ly K):=hK ▸ GR
theorem jA (hK:X.K=K):CallR X (.builtin "isinstance") (Ry K):=hK ▸ Hq
def Hv (K:PySem.W.Frag):List V→Hp→VK→Prop:=fun xs H Q=>(∃ p ys,xs=[.ref p]∧(SqL K H p ys∨SqT K H p ys)∧∀ l,H l=none→Q (.ref l) (upd H l (.lst ys)))∨(∃ x,xs=[.str x]∧x.cps.size≤sizeLine∧∀ p,H p=none→Q (.ref p) (upd H p (.lst (sgn x))))
theorem o9 (hK:X.K=K) (hc:X.calm=true):CallR X (.type "list") (Hv K):=hK ▸ v5.or (yq hc)
variable {o e:Expr} {es:List Expr} {to:TE} {t:TA} {name:Str} {apos cpos:Pos} {T id:String} {r:V→List V→Hp→VK→Prop}
theorem Lz (hK:X.K=K) (pa:PlainAttrs T) (slot:Slot T name id) (hty:typeOf (.builtin id)=pure (.type "method_descriptor")) (hm:Kq X id r) (ho:PE X o to)
  (hbase:autoParam (attributeBase o name X.env (eval o X.env)=eval o X.env) L2.auto4._auto_1) (hline:autoParam ((apos.endLine == cpos.line)=true) L2.auto4._auto_1):PE X (.Call (.Attribute o name apos) [] [] cpos) (Hb K T r to):=by
 subst hK;exact Rr pa slot hty hm ho hbase hline
theorem RL (hK:X.K=K) (pa:PlainAttrs T) (slot:Slot T name id) (hty:typeOf (.builtin id)=pure (.type "method_descriptor")) (hm:Kq X id r) (ho:PE X o to) (ha:PA X (e :: es) t)
  (hbase:autoParam (attributeBase o name X.env (eval o X.env)=eval o X.env) L2.auto4._auto_1)
  (hfew:((backTo cpos (starEach (e :: es) X.env)).all (fun x=>!x.1) && (backToKw cpos (keywordEach [] X.env)).all (fun x=>x.1.isSome)
   && decide ((e :: es).length+([]:List Keyword).length+(if ([]:List Keyword).isEmpty then 0 else 1) < 30))=true:=by rfl)
  (hline:autoParam ((apos.endLine == cpos.line)=true) L2.auto4._auto_1) (hs:autoParam (starEach (e :: es) X.env=(false,eval e X.env) :: starEach es X.env) L2.auto4._auto_1) (hplain:autoParam ((backTo cpos (starEach es X.env)).any (·.1)=false) L2.auto4._auto_1):
  PE X (.Call (.Attribute o name apos) (e :: es) [] cpos) (Vn K T r to t):=by
 subst hK;exact Vo pa slot hty hm ho ha hbase hfew hline hs hplain
theorem LC {ts:List Expr} {k:Nat} {gs:zN} {n:Nat} {pos:Pos} (hK:X.K=K) (hc:X.calm=true) (h:Uz X ts gs)
  (hn:autoParam ((assignEach ts X.env).length=n) L2.auto4._auto_1) (hst:autoParam ((assignEach ts X.env).findIdx? (·.1)=none) L2.auto4._auto_1):PG X (.Tuple ts k pos) (KR K n gs):=by
 subst hK;exact Gu hc h hn hst
end
section
variable {X:Cx} {sc scope:Scope} {N':List Str} {C:Addr} {s₀:Shared} {H₀:Hp} {ex:List Addr} {x:Str} {pos:Pos}
theorem pvL (i:Nat) (h:sc.names.lookup x=some .local) (hN:autoParam (X.N[i]?=some x) L2.auto4._auto_1) (hsc:autoParam (X.env.scope=sc) L2.auto4._auto_1) (hd:autoParam ((x == ("__debug__":Str))=false) L2.auto6._auto_1) (hcd:autoParam ((x == ("__classdict__":Str))=false) L2.auto6._auto_1):
  PE X (.Name x pos) (qI i):=vR hN (.inl (by rw [hsc];exact h)) hd hcd
theorem pvC (i:Nat) (h:sc.names.lookup x=some .cell) (hN:autoParam (X.N[i]?=some x) L2.auto4._auto_1) (hsc:autoParam (X.env.scope=sc) L2.auto4._auto_1) (hd:autoParam ((x == ("__debug__":Str))=false) L2.auto6._auto_1) (hcd:autoParam ((x == ("__classdict__":Str))=false) L2.auto6._auto_1):
  PE X (.Name x pos) (qI i):=vR hN (.inr (.inl (by rw [hsc];exact h))) hd hcd
theorem pvBL (i:Nat) (h:scope.names.lookup x=some .local) (hN:autoParam (N'[i]?=some x) L2.auto4._auto_1) (hd:autoParam ((x == ("__debug__":Str))=false) L2.auto6._auto_1) (hcd:autoParam ((x == ("__classdict__":Str))=false) L2.auto6._auto_1):
  PE (oU X N' scope C s₀ H₀ ex) (.Name x pos) (qI i):=vR hN (.inl (lookup_relabel_local h)) hd hcd
theorem pvBF (i:Nat) (h:scope.names.lookup x=some .free) (hN:autoParam (N'[i]?=some x) L2.auto4._auto_1) (hd:autoParam ((x == ("__debug__":Str))=false) L2.auto6._auto_1) (hcd:autoParam ((x == ("__classdict__":Str))=false) L2.auto6._auto_1):
  PE (oU X N' scope C s₀ H₀ ex) (.Name x pos) (qI i):=vR hN (by
   rcases pX (env:=X.env) h with z | z
   ·exact .inr (.inl z)
   ·exact .inr (.inr z)) hd hcd
theorem aV (h:sc.names.lookup x=some .globalImplicit) (hsc:autoParam (X.env.scope=sc) L2.auto4._auto_1):Gl X x:=by
 show X.env.scope.names.lookup x=_
 rw [hsc];exact h
theorem jV {env:Env}:∀ {names:List (Str×NameKind)} {x:Str},names.lookup x=some .globalImplicit→
  (names.map fun (n,k)=>if (k == NameKind.free && env.scope.kind == .function && env.kindOf n == some .cell) then (n,NameKind.cell) else (n,k)).lookup x=some .globalImplicit
 | [],_,h=>by simp at h
 | (n,k) :: r,x,h=>by
  have ih:=@jV env r x
  show List.lookup x ((if (k == NameKind.free && env.scope.kind == .function && env.kindOf n == some .cell)=true then (n,NameKind.cell) else (n,k)) :: _)=_
  cases hx:x == n with
  | true=>
   simp only [List.lookup_cons,hx] at h
   cases h
   simp [List.lookup_cons,hx]
  | false=>
   simp only [List.lookup_cons,hx] at h
   by_cases hc:(k == NameKind.free && env.scope.kind == .function && env.kindOf n == some .cell)=true
   ·rw [if_pos hc];simp only [List.lookup_cons,hx];exact ih h
   ·rw [if_neg hc];simp only [List.lookup_cons,hx];exact ih h
theorem Vy (h:scope.names.lookup x=some .globalImplicit):Gl (oU X N' scope C s₀ H₀ ex) x:=jV h
theorem pgB (i:Nat) (h:scope.names.lookup x=some .local) (hN:N'.Nodup) (hi:autoParam (N'[i]?=some x) L2.auto4._auto_1):PG (oU X N' scope C s₀ H₀ ex) (.Name x pos) (oY i):=
 Bx hN hi (.inl (lookup_relabel_local h)) (.inr (lookup_relabel_local h))
end
def jX:Expr→Bool
 | .ListComp ..=>false | .SetComp ..=>false | .DictComp ..=>false | _=>true
theorem vh {value:Expr} {target:Option Expr} {line:Nat} {env:Env} (h:jX value=true):swapsWith value target line env=pure false:=by
 cases value <;> first | rfl | cases h
def ni:Expr→Bool
 | .Slice ..=>false | _=>true
theorem pix {b:Expr} (h:ni b=true):BX b:=by
 intro o i
 cases b <;> first | rfl | cases h
def qO:Expr→Bool
 | .Set ..=>false | _=>true
theorem Hw {e:Expr} {env:Env} (h:qO e=true):∀ x,foldedSetIterable e env x=pure x:=by
 intro x
 cases e <;> first | rfl | cases h
def notStar:Expr→Bool
 | .Starred ..=>false | _=>true
theorem bV {e:Expr} {es:List Expr} {env:Env} (h:notStar e=true):starEach (e :: es) env=(false,eval e env) :: starEach es env:=by
 cases e <;> first | rfl | cases h
theorem mF {env:Env} {pos:Pos}:∀ {es:List Expr},es.all notStar=true→(backTo pos (starEach es env)).any (·.1)=false
 | [],_=>rfl
 | e :: es,h=>by
  simp only [List.all_cons,Bool.and_eq_true] at h
  rw [bV h.1]
  show (false || (backTo pos (starEach es env)).any (·.1))=false
  rw [mF h.2];rfl
theorem Hy {env:Env} {pos:Pos}:∀ {es:List Expr},es.all notStar=true→(backTo pos (starEach es env)).all (fun x=>!x.1)=true
 | [],_=>rfl
 | e :: es,h=>by
  simp only [List.all_cons,Bool.and_eq_true] at h
  rw [bV h.1]
  show (true && (backTo pos (starEach es env)).all (fun x=>!x.1))=true
  rw [Hy h.2];rfl
section
variable {X:Cx} {K:PySem.W.Frag} {e:Expr} {es:List Expr} {te:TE} {t:TA} {pos p:Pos}
theorem paC (ha:PE X e te) (hr:PA X es t) (h:autoParam (notStar e=true) L2.auto4._auto_1):PA X (e :: es) (BR te t):=K9 ha hr (bV h)
theorem Vz {k:Nat} {x:Str} {ps:List Str} {sp:Sp} (F:Has X.prog X.w X.K X.mg X.base k x ps sp) (hr:Room k X.A) (hg:Gl X x) (ha:PA X (e :: es) t) (hdb:(x == ("__debug__":Str))=false) (h:autoParam ((e :: es).all notStar=true) L2.auto4._auto_1):
  PE X (.Call (.Name x p) (e :: es) [] pos) (uX sp [] E0 t):=by
 simp only [List.all_cons,Bool.and_eq_true] at h
 exact Hr F hr hg ha hdb (bV h.1) (mF h.2)
theorem VB {x:Str} {id:String} {r:List V→Hp→VK→Prop} (hc:CallR X (.builtin id) r) (hg:Gl X x) (hm:X.mg x=none) (hv:bootBuiltins x=some (.builtin id)) (ha:PA X (e :: es) t) (hn:x≠"__name__") (hdb:(x == ("__debug__":Str))=false) (h:autoParam ((e :: es).all notStar=true) L2.auto4._auto_1):
  PE X (.Call (.Name x p) (e :: es) [] pos) (Rk r t):=by
 simp only [List.all_cons,Bool.and_eq_true] at h
 exact G3 hc hg hm hv ha hn hdb (bV h.1) (mF h.2)
theorem RM {x:Str} {T:String} {r:List V→Hp→VK→Prop} (hc:CallR X (.type T) r) (hg:Gl X x) (hm:X.mg x=none) (hv:bootBuiltins x=some (.type T)) (ha:PA X (e :: es) t) (hn:x≠"__name__") (hdb:(x == ("__debug__":Str))=false) (h:autoParam ((e :: es).all notStar=true) L2.auto4._auto_1):
  PE X (.Call (.Name x p) (e :: es) [] pos) (Rk r t):=by
 simp only [List.all_cons,Bool.and_eq_true] at h
 exact DP hc hg hm hv ha hn hdb (bV h.1) (mF h.2)
def oG:Expr→Bool
 | .Call ..=>false | _=>true
theorem PQ {o:Expr} {f:Str} {env:Env} {w:Sem Value} (h:oG o=true):attributeBase o f env w=w:=by
 cases o <;> first | rfl | cases h
theorem VD {o:Expr} {to:TE} {name:Str} {apos cpos:Pos} {T id:String} {r:V→List V→Hp→VK→Prop} (hK:X.K=K) (pa:PlainAttrs T) (slot:Slot T name id) (hty:typeOf (.builtin id)=pure (.type "method_descriptor")) (hm:Kq X id r) (ho:PE X o to) (ha:PA X (e :: es) t)
  (hbase:autoParam (oG o=true) L2.auto4._auto_1) (hl:autoParam (es.length < 20) L2.auto2._auto_1) (hline:autoParam ((apos.endLine == cpos.line)=true) L2.auto4._auto_1) (h:autoParam ((e :: es).all notStar=true) L2.auto4._auto_1):
  PE X (.Call (.Attribute o name apos) (e :: es) [] cpos) (Vn K T r to t):=by
 have hA:=Hy (env:=X.env) (pos:=cpos) h
 simp only [List.all_cons,Bool.and_eq_true] at h
 refine RL hK pa slot hty hm ho ha (PQ hbase) ?_ hline (bV h.1) (mF h.2)
 rw [hA]
 have:(e :: es).length+([]:List Keyword).length+(if ([]:List Keyword).isEmpty then 0 else 1) < 30:=by simp;omega
 rw [decide_eq_true this];rfl
theorem RN {o:Expr} {to:TE} {name:Str} {apos cpos:Pos} {T id:String} {r:V→List V→Hp→VK→Prop} (hK:X.K=K) (pa:PlainAttrs T) (slot:Slot T name id) (hty:typeOf (.builtin id)=pure (.type "method_descriptor")) (hm:Kq X id r) (ho:PE X o to)
  (hbase:autoParam (oG o=true) L2.auto4._auto_1) (hline:autoParam ((apos.endLine == cpos.line)=true) L2.auto4._auto_1):PE X (.Call (.Attribute o name apos) [] [] cpos) (Hb K T r to):=
 Lz hK pa slot hty hm ho (PQ hbase) hline
theorem VF {i:Nat} {x:Str} {pos':Pos} (hN:X.N.Nodup) (hi:X.N[i]?=some x) (hx:Loc X.env.scope x) (he:PE X e te) (hf:X.fn x=true) (h:autoParam (jX e=true) L2.auto4._auto_1):PS X (.Assign [.Name x pos'] e pos) (vV te (oY i)):=
 Gw hN hi hx he (vh h) (.inl hf)
theorem RP (he:PE X e te) (h:autoParam (jX e=true) L2.auto4._auto_1):PS X (.Expr e pos) (Bw te):=KJ he (vh h)
theorem ixE {a b:Expr} {ta tb:TE} (hK:X.K=K) (ha:PE X a ta) (hb:PE X b tb) (h:autoParam (ni b=true) L2.auto4._auto_1):PE X (.Subscript a b pos) (GD (Rp K) ta tb):=Vh (Lw hK) ha hb (pix h)
theorem VG {tg iter:Expr} {body:List Stmt} {wi:TI} {g:TG} {tb:TS} (hp:PassesOwn (model X.prog X.w) X.A X.env X.xe) (hc:X.calm=true) (hi:PI X tg iter wi) (hg:PG X tg g) (hb:PSs X body tb) (h:autoParam (qO iter=true) L2.auto4._auto_1):PS X (.For tg iter body [] pos) (KY wi g tb):=
 Q4 hp hc hi hg hb (Hw h)
end
section
variable {X:Cx} {tg iter elt:Expr} {ifs:List Expr} {scope:Scope} {pos:Pos} {N':List Str} {sub:List (Option Nat)} {wi:TI} {g:TG} {tt:TT} {te:TE} {N:List Str} {sc:Scope}
theorem VH (S:rD N sc N' scope sub) (hc:X.calm=true) (hN:X.N=N) (hsc:X.env.scope=sc) (hi:PI X tg iter wi)
  (hg:∀ (C:Addr) (s₀:Shared) (H₀:Hp) (ex:List Addr),PG (oU X N' scope C s₀ H₀ ex) tg g)
  (ht:∀ (C:Addr) (s₀:Shared) (H₀:Hp) (ex:List Addr),v6 (oU X N' scope C s₀ H₀ ex) ifs tt)
  (he:∀ (C:Addr) (s₀:Shared) (H₀:Hp) (ex:List Addr),PE (oU X N' scope C s₀ H₀ ex) elt te) (h:autoParam (qO iter=true) L2.auto4._auto_1):
  PE X (.ListComp elt [⟨tg,iter,ifs,0⟩] scope pos) (tU sub wi g tt te):=Cd S hc hN hsc hi hg ht he (Hw h)
end
theorem bc:bootBuiltins "len"=some (.builtin "len"):=by decide+kernel
theorem RQ:bootBuiltins "max"=some (.builtin "max"):=by decide+kernel
theorem Hz:bootBuiltins "min"=some (.builtin "min"):=by decide+kernel
theorem b7:bootBuiltins "isinstance"=some (.builtin "isinstance"):=by decide+kernel
theorem RT:bootBuiltins "all"=some (.builtin "all"):=by decide+kernel
theorem lg:bootBuiltins "list"=some (.type "list"):=by decide+kernel
theorem HD:bootBuiltins "tuple"=some (.type "tuple"):=by decide+kernel
theorem HF:bootBuiltins "int"=some (.type "int"):=by decide+kernel
theorem HH:bootBuiltins "str"=some (.type "str"):=by decide+kernel
theorem wg:bootBuiltins "enumerate"=some (.type "enumerate"):=by decide+kernel
theorem yw:bootBuiltins "reversed"=some (.type "reversed"):=by decide+kernel
theorem Cg:bootBuiltins "bool"=some (.type "bool"):=by decide+kernel
theorem uF {c A B:Prop} [Decidable c] (h1:c→A) (h2:¬ c→B):if decide c=true then A else B:=by
 by_cases h:c
 ·rw [if_pos (decide_eq_true h)];exact h1 h
 ·rw [if_neg (by rw [decide_eq_false h];exact Bool.false_ne_true)];exact h2 h
theorem iteB {b:Bool} {A B:Prop} (h1:b=true→A) (h2:b=false→B):if b=true then A else B:=by
 cases b with
 | true=>rw [if_pos rfl];exact h1 rfl
 | false=>rw [if_neg Bool.false_ne_true];exact h2 rfl
theorem sS {α:Type} {xs:List α} {k:Int} {v:α} (h0:0≤k) (h:xs[k.toNat]?=some v):zO xs k=some v:=by
 have e:((k.toNat:Nat):Int)=k:=by omega
 rw [← e]
 exact oF h
end L2
namespace L2
open PySem PySem.Spec PyProof.Rows
section
variable {σ:St} {H:Hp} {D:Ends} {ta tb te tc:TE} {tt tu:TT} {Q:VK} {t u:TS} {g:TG}
theorem nj (h:t {D with nx:=u D} σ H):KC t u D σ H:=h
theorem dD (h:D.nx σ H):Gm D σ H:=h
theorem iC (h:te σ H fun x H1=>g x σ H1 D.nx):vV te g D σ H:=h
theorem dF {i:Nat} {v:V} {R:St→Hp→Prop} (h:R (σ.set i (some v)) H):oY i v σ H R:=h
theorem iD {to ti:TE} {ts:zQ} {v:V} {R:St→Hp→Prop} (h:to σ H fun o H1=>ti σ H1 fun i H2=>ts o i v H2 fun H3=>R σ H3):QX to ti ts v σ H R:=h
theorem iG (h:te σ H D.rt):QS te D σ H:=h
theorem dG (h:te σ H fun _ H1=>D.nx σ H1):Bw te D σ H:=h
theorem lK (h:tt σ H fun b H1=>if b=true then t D σ H1 else u D σ H1):QV tt t u D σ H:=h
theorem dH {R:Bool→Hp→Prop} (h:te σ H fun x H1=>∃ k,x= .bl k∧R k H1):BP te σ H R:=h
theorem lM {R:Bool→Hp→Prop} (h:te σ H fun x H1=>∃ k,x= .bl k∧R k H1):tB te σ H R:=h
theorem iH {R:Bool→Hp→Prop} (h:tt σ H fun c H1=>R (!c) H1):QG tt σ H R:=h
theorem iI {R:Bool→Hp→Prop} (h:tt σ H fun c H1=>if c=true then tu σ H1 R else R false H1):Ky tt tu σ H R:=h
theorem lN {R:Bool→Hp→Prop} (h:tt σ H fun c H1=>if c=true then R true H1 else tu σ H1 R):tOr tt tu σ H R:=h
theorem dI (h:ta σ H fun x H1=>∃ c,x= .bl c∧if c=true then tb σ H1 Q else Q (.bl false) H1):Gi ta tb σ H Q:=h
theorem iJ (h:ta σ H fun x H1=>∃ c,x= .bl c∧if c=true then Q (.bl true) H1 else tb σ H1 Q):QL ta tb σ H Q:=h
theorem dJ (h:ta σ H fun x H1=>∃ c,x= .bl c∧Q (.bl (!c)) H1):Gj ta σ H Q:=h
theorem iK (h:tt σ H fun c H1=>if c=true then ta σ H1 Q else tb σ H1 Q):tIf tt ta tb σ H Q:=h
theorem iM {i:Nat} {v:V} (e:σ[i]?=some (some v)) (h:Q v H):qI i σ H Q:=⟨v,e,h⟩
theorem vm {v:V} (h:Q v H):tC v σ H Q:=h
theorem lO {r:R2} (h:ta σ H fun x H1=>tb σ H1 fun y H2=>r x y H2 Q):GD r ta tb σ H Q:=h
theorem lQ {r:List V→Hp→VK→Prop} {a:TA} (h:a σ H fun vs H1=>r vs H1 Q):Rk r a σ H Q:=h
theorem dM {a:TA} {R:List V→Hp→Prop} (h:te σ H fun x H1=>a σ H1 fun xs H2=>R (x :: xs) H2):BR te a σ H R:=h
theorem iQ {R:List V→Hp→Prop} (h:R [] H):K8 σ H R:=h
theorem dN {sp:Sp} {E:XK} {a:TA} (h:a σ H fun vs H1=>sp vs H1 Q E):uX sp [] E a σ H Q:=by
 unfold uX
 simpa only [List.append_nil] using h
theorem vo {a:TA} (h:a σ H fun xs H1=>xs.length≤sizeLine∧∀ p,H1 p=none→Q (.ref p) (upd H1 p (.tup xs))):La a σ H Q:=h
theorem vp {a:TA} (h:a σ H fun xs H1=>xs.length≤sizeLine∧∀ p,H1 p=none→Q (.ref p) (upd H1 p (.lst xs))):Lb a σ H Q:=h
theorem lR {K:PySem.W.Frag} {T:String} {r:V→List V→Hp→VK→Prop} {a:TA} (h:te σ H fun x H1=>Vm K T x H1∧a σ H1 fun xs H2=>r x xs H2 Q):Vn K T r te a σ H Q:=h
theorem iR {K:PySem.W.Frag} {T:String} {r:V→List V→Hp→VK→Prop} (h:te σ H fun x H1=>Vm K T x H1∧r x [] H1 Q):Hb K T r te σ H Q:=h
theorem lU {r:V→Option Int→Option Int→Hp→VK→Prop} {tl th:TO} (h:te σ H fun x H1=>tl σ H1 fun l H2=>th σ H2 fun u H3=>r x l u H3 Q):tSl r te tl th σ H Q:=h
theorem iT {R:Option Int→Hp→Prop} (h:R none H):vW σ H R:=h
theorem dO {R:Option Int→Hp→Prop} (h:te σ H fun x H1=>∃ i,x= .int i∧R (some i) H1):G5 te σ H R:=h
theorem dR {R:Bool→Hp→Prop} (h:R true H):Hg σ H R:=h
theorem dU {a:TA} {R:It→Hp→Prop} (h:a σ H fun vs H1=>∃ j:Int,vs=[.int j]∧-(2 ^ 62)≤j∧j < 2 ^ 62∧R (Gf 0 j.toNat) H1):Gy a σ H R:=h
theorem dW {a:TA} {R:It→Hp→Prop} (h:a σ H fun vs H1=>∃ i j:Int,vs=[.int i,.int j]∧(-(2 ^ 62)≤i∧i < 2 ^ 62∧-(2 ^ 62)≤j∧j < 2 ^ 62)∧R (Gf i (j - i).toNat) H1):Gz a σ H R:=h
theorem dX {K:PySem.W.Frag} {R:It→Hp→Prop} (h:te σ H fun x H1=>(∃ a,x= .ref a∧(∃ xs,SqL K H1 a xs)∧R (PK K a) H1)∨(∃ a,x= .ref a∧(∃ xs,SqT K H1 a xs)∧R (UG K a) H1)∨(∃ z,x= .str z∧R (Lp z) H1)):Ls K te σ H R:=h
theorem dY {sub:List (Option Nat)} {wi:TI} (h:wi σ H fun J H1=>pY sub g tt te σ Q J H1):tU sub wi g tt te σ H Q:=h
theorem iU {wi:TI} {tbd:TS} (h:wi σ H fun J H1=>∃ W:Nat→Nat→St→Hp→Prop,(∃ m,W 0 m σ H1)∧∀ i m σ H,W i m σ H→
 (J.stop i H∧D.nx σ H)∨(J.go i H∧∃ N:St→Hp→Prop,(∀ σ' H',N σ' H'→∃ m',m' < m∧W (i+1) m' σ' H')∧∀ x H',J.yld i H x H'→g x σ H' fun σ2 H2=>tbd {D with nx:=N,ct:=N,bk:=D.nx} σ2 H2)):KY wi g tbd D σ H:=h
variable {i j:Int} {x y:Str} {f:Int→Int→V} {C:Int→Int→Prop} {K:PySem.W.Frag}
theorem lV (h:Q (f i j) H):GF f (.int i) (.int j) H Q:=⟨_,_,rfl,rfl,h⟩
theorem vq (c:C i j) (h:Q (f i j) H):rI C f (.int i) (.int j) H Q:=⟨_,_,rfl,rfl,c,h⟩
theorem dZ (h:Q (.int (i+j)) H):yt (.int i) (.int j) H Q:=.inl ⟨_,_,rfl,rfl,h⟩
theorem Ak (c:x.length+y.length≤sizeLine) (h:Q (.str (x ++ y)) H):yt (.str x) (.str y) H Q:=.inr (.inl ⟨_,_,rfl,rfl,c,h⟩)
theorem wj {a b:Addr} {xs ys:List V} (ha:H a=some (.lst xs)) (hb:H b=some (.lst ys)) (c:xs.length+ys.length≤sizeLine) (h:∀ p,H p=none→Q (.ref p) (upd H p (.lst (xs ++ ys)))):yt (.ref a) (.ref b) H Q:=
 .inr (.inr ⟨a,b,xs,ys,rfl,rfl,ha,hb,c,h⟩)
theorem d7 (c:CMul i j) (h:Q (.int (i*j)) H):Hs (.int i) (.int j) H Q:=.inl ⟨_,_,rfl,rfl,c,h⟩
theorem cO {p:Addr} {xs:List V} {v:V} (s:SqL K H p xs) (e:zO xs i=some v) (h:Q v H):Rp K (.ref p) (.int i) H Q:=.inl ⟨p,xs,i,v,rfl,rfl,s,e,h⟩
theorem yx {c:Nat} (s:x.length≤sizeLine) (e:zO x.cps.toList i=some c) (h:Q (.str ⟨#[c]⟩) H):Rp K (.str x) (.int i) H Q:=.inr (.inr ⟨x,i,c,rfl,rfl,s,e,h⟩)
theorem c7 {p:Addr} {xs:List V} {n:Nat} {v:V} {R:Hp→Prop} (hp:H p=some (.lst xs)) (e:G7 xs.length i=some n) (h:R (upd H p (.lst (xs.set n v)))):G8 (.ref p) (.int i) v H R:=⟨p,xs,i,n,rfl,rfl,hp,e,h⟩
theorem iV (h:Q (.bl (!(Builtin.Str.occurrences y x 0 y.length 1).isEmpty)) H):Lr K (.str x) (.str y) H Q:=.inl ⟨_,_,rfl,rfl,h⟩
theorem lW {b:Bool} {R:Bool→Prop} (h:R b):∃ k,V.bl b= .bl k∧R k:=⟨b,rfl,h⟩
theorem d8 {n:Int} {R:Int→Prop} (h:R n):∃ k,V.int n= .int k∧R k:=⟨n,rfl,h⟩
end
theorem Same.upd {H H':Hp} {p:Addr} {o:HO} (s:Same H H') (hn:H' p=none):Same H (upd H' p o):=fun b u e=>by
 have q:=s b u e
 rw [aB (fun z=>by rw [z,hn] at q;cases q)]
 exact q
end L2
namespace L2
open PySem PySem.Spec PyProof.Rows
def Chg (p:Addr) (H H':Hp):Prop:=∀ b o,b≠p→H b=some o→H' b=some o
theorem Chg.refl (p:Addr) (H:Hp):Chg p H H:=fun _ _ _ e=>e
theorem Chg.trans {p:Addr} {H H1 H2:Hp} (a:Chg p H H1) (b:Chg p H1 H2):Chg p H H2:=fun c o n e=>b c o n (a c o n e)
theorem Chg.new {p q:Addr} {H H1:Hp} {o:HO} (a:Chg p H H1) (hn:H1 q=none):Chg p H (upd H1 q o):=fun b u n e=>by
 have z:=a b u n e
 rw [aB (fun k=>by rw [k,hn] at z;cases z)]
 exact z
theorem cV {H:Hp} {q b:Addr} {o u:HO} (hq:H q=none) (hb:H b=some u):upd H q o b=some u:=by
 rw [aB (fun z=>by rw [z,hq] at hb;cases hb)];exact hb
theorem VJ {vs:List V} {d:Int} (h0:0≤d) (h1:d < vs.length):∃ v,v∈vs∧zO vs d=some v:=by
 have hl:d.toNat < vs.length:=by omega
 exact ⟨vs[d.toNat],List.getElem_mem hl,sS h0 (List.getElem?_eq_getElem hl)⟩
theorem Al (sep:Str) (ys:List Str):Txt.join sep ys=Str.join sep ys:=by
 show Builtin.Str.glued sep ys=Str.join sep ys
 exact PySem.StrLaws.glued_eq_join sep ys
theorem yz (ys:List Str):(Txt.join (Str.ofString "") ys).cps.toList=(ys.map fun y=>y.cps.toList).flatten:=by
 rw [Al]
 have e0:(Str.ofString "").cps= #[]:=by decide+kernel
 have key:∀ ys:List Str,(Str.join (Str.ofString "") ys).cps.toList=(ys.map fun y=>y.cps.toList).flatten:=by
  intro ys
  induction ys with
  | nil=>rfl
  | cons y r ih=>
   cases r with
   | nil=>simp [Str.join]
   | cons z r=>
    show ((y ++ Str.ofString "") ++ Str.join (Str.ofString "") (z :: r)).cps.toList=_
    rw [Str.cps_append,Str.cps_append,e0]
    simp only [Array.append_empty,Array.toList_append,ih,List.map_cons,List.flatten_cons]
 exact key ys
theorem Ci (x:Str):x.length=x.cps.toList.length:=by simp [Str.length]
theorem yC {ys:List Str} (h:∀ y∈ys,y.length=1):(Txt.join (Str.ofString "") ys).length=ys.length:=by
 rw [Ci,yz]
 induction ys with
 | nil=>rfl
 | cons y r ih=>
  have h1:=h y (by simp)
  rw [Ci] at h1
  simp only [List.map_cons,List.flatten_cons,List.length_append,List.length_cons,h1]
  rw [ih fun z hz=>h z (by simp [hz])]
  omega
theorem HJ {ys:List Str} (h:∀ y∈ys,y.length=1):(ys.map (·.length)).sum=ys.length:=by
 induction ys with
 | nil=>rfl
 | cons y r ih=>
  simp only [List.map_cons,List.sum_cons,List.length_cons,h y (by simp),ih fun z hz=>h z (by simp [hz])]
  omega
theorem Ei (c:Nat):(⟨#[c]⟩:Str).length=1:=by simp [Str.length]
section
variable {H:Hp} {Q:VK} {K:PySem.W.Frag}
theorem fX {p:Addr} {xs:List V} (s:SqL K H p xs) (h:Q (.int xs.length) H):Ly K [V.ref p] H Q:=⟨_,_,rfl,.inl ⟨_,s,rfl⟩,h⟩
theorem HN {p:Addr} {xs:List V} (s:SqT K H p xs) (h:Q (.int xs.length) H):Ly K [V.ref p] H Q:=⟨_,_,rfl,.inr ⟨_,s,rfl⟩,h⟩
theorem cu {z:Str} (s:z.length≤sizeLine) (h:Q (.int z.length) H):Ly K [V.str z] H Q:=⟨_,_,rfl,⟨s,rfl⟩,h⟩
theorem lX {i j:Int} {R:Int→Int→Prop} (h:R i j):∃ a b,[V.int i,V.int j]=[.int a,.int b]∧R a b:=⟨_,_,rfl,h⟩
theorem o4 {x:V} {T:String} {t:Value} {b:Bool} (ty:TyOf K H x t) (e:PySem.W.kitOne K t (.type T)=some b) (h:Q (.bl b) H):Ry K [x,.ty T] H Q:=⟨x,T,t,b,rfl,ty,e,h⟩
theorem RV {sep:Str} {p:Addr} {ys:List Str} (hp:H p=some (.lst (ys.map V.str))) (hz:(ys.map (·.length)).sum+ys.length*sep.length≤16777216) (h:Q (.str (Txt.join sep ys)) H):rJoin (.str sep) [.ref p] H Q:=⟨sep,p,ys,rfl,rfl,hp,hz,h⟩
theorem tY {x:Str} {lo hi:Option Int} (hz:x.length≤sizeLine) (h:Q (.str (Txt.slice x lo hi)) H):Yn K (.str x) lo hi H Q:=.inr (.inr ⟨x,rfl,hz,h⟩)
theorem vy {p:Addr} {xs:List V} {lo hi:Option Int} (s:SqL K H p xs) (h:∀ q,H q=none→Q (.ref q) (upd H q (.lst (qM xs lo hi)))):Yn K (.ref p) lo hi H Q:=.inl ⟨p,xs,rfl,s,h⟩
end
section
variable {σ:St} {H:Hp} {Q:VK}
theorem wu {K:PySem.W.Frag} {a:Addr} {xs:List V} (s:SqL K H a xs) (h:∀ p,H p=none→Q (.ref p) (upd H p (.lst xs))):Hv K [.ref a] H Q:=.inl ⟨a,xs,rfl,.inl s,h⟩
end
theorem TyOf.mono {K:PySem.W.Frag} {H H':Hp} {v:V} {T:String} (h:TyOf K H v (.type T)) (s:∀ b o,H b=some o→v= .ref b→H' b=some o):TyOf K H' v (.type T):=by
 generalize e:(Value.type T)=t at h
 cases h with
 | non=>exact .non
 | bl x=>exact .bl x
 | int i=>exact .int i
 | str x=>exact .str x
 | flt x=>exact .flt x
 | lst z=>exact .lst (s _ _ z rfl)
 | frz z=>exact .frz (s _ _ z rfl)
 | tup z=>exact .tup (s _ _ z rfl)
 | dK z=>exact .dK (s _ _ z rfl)
 | dT z=>exact .dT (s _ _ z rfl)
 | ins=>cases e
theorem HQ {sub:List (Option Nat)} {g:TG} {tt:TT} {te:TE} {σ:St} {Q:VK} {H:Hp} {lo:Int} {n:Nat} (Pv:Nat→List V→Hp→Prop) (hn:n≤sizeLine) (h0:Pv 0 [] H) (hl:∀ i ys H,Pv i ys H→ys.length≤i)
  (hs:∀ i ys H,i < n→Pv i ys H→g (.int (lo+i)) (cT sub σ) H fun σ2 H2=>KeepSt (cT sub σ) σ2∧tt σ2 H2 fun b H3=>if b=true then te σ2 H3 fun y H4=>Pv (i+1) (ys ++ [y]) H4 else Pv (i+1) ys H3)
  (hd:∀ ys H,Pv n ys H→∀ D,H D=none→Q (.ref D) (upd H D (.lst ys))):pY sub g tt te σ Q (Gf lo n) H:=
 v8 (n:=n) Pv hn h0 hl (fun i ys H hi _=>hi) (fun ys H _=>Nat.le_refl _) (fun i ys H x H' hi p y=>by
  obtain ⟨e1,e2⟩:=y
  subst e1 e2
  exact hs i ys _ hi p) hd
theorem yD {sub:List (Option Nat)} {g:TG} {tt:TT} {te:TE} {σ:St} {Q:VK} {H:Hp} {z:Str} (Pv:Nat→List V→Hp→Prop) (hn:z.cps.size≤sizeLine) (h0:Pv 0 [] H) (hl:∀ i ys H,Pv i ys H→ys.length≤i)
  (hs:∀ i ys H c,z.cps.toList[i]?=some c→Pv i ys H→g (.str ⟨#[c]⟩) (cT sub σ) H fun σ2 H2=>KeepSt (cT sub σ) σ2∧tt σ2 H2 fun b H3=>if b=true then te σ2 H3 fun y H4=>Pv (i+1) (ys ++ [y]) H4 else Pv (i+1) ys H3)
  (hd:∀ ys H,Pv z.cps.size ys H→∀ D,H D=none→Q (.ref D) (upd H D (.lst ys))):pY sub g tt te σ Q (Lp z) H:=
 v8 (n:=z.cps.size) Pv hn h0 hl (fun i ys H hi _=>hi) (fun ys H _=>rfl) (fun i ys H x H' hi p y=>by
  obtain ⟨e1,c,e2,e3⟩:=y
  subst e1 e3
  exact hs i ys _ c (by simpa using e2) p) hd
theorem vz {sub:List (Option Nat)} {g:TG} {tt:TT} {te:TE} {σ:St} {Q:VK} {H:Hp} {K:PySem.W.Frag} {a:Addr} {xs:List V} (Pv:Nat→List V→Hp→Prop) (hn:xs.length≤sizeLine) (h0:Pv 0 [] H) (hl:∀ i ys H,Pv i ys H→ys.length≤i)
  (hq:∀ i ys H,Pv i ys H→SqL K H a xs)
  (hs:∀ i ys H x,xs[i]?=some x→Pv i ys H→g x (cT sub σ) H fun σ2 H2=>KeepSt (cT sub σ) σ2∧tt σ2 H2 fun b H3=>if b=true then te σ2 H3 fun y H4=>Pv (i+1) (ys ++ [y]) H4 else Pv (i+1) ys H3)
  (hd:∀ ys H,Pv xs.length ys H→∀ D,H D=none→Q (.ref D) (upd H D (.lst ys))):pY sub g tt te σ Q (PK K a) H:=
 v8 (n:=xs.length) Pv hn h0 hl (fun i ys H hi p=>⟨xs,xs[i],hq i ys H p,List.getElem?_eq_getElem hi⟩) (fun ys H p=>⟨xs,hq _ ys H p,Nat.le_refl _⟩) (fun i ys H x H' hi p y=>by
  obtain ⟨e1,e2⟩:=y
  subst e1
  exact hs i ys _ x (e2 xs (hq i ys _ p)) p) hd
end L2
namespace L2
open PySem PySem.Spec PyProof.Rows
structure JE (X:Cx) (e:Expr) (t:TE):Prop where
 run:PE X e t
structure JT (X:Cx) (e:Expr) (t:TT):Prop where
 run:PT X e t
structure JW (X:Cx) (e:Expr) (t:TT):Prop where
 run:PW X e t
structure JA (X:Cx) (es:List Expr) (t:TA):Prop where
 run:PA X es t
structure JS (X:Cx) (s:Stmt) (t:TS):Prop where
 run:PS X s t
structure JB (X:Cx) (s:List Stmt) (t:TS):Prop where
 run:PSs X s t
structure JI (X:Cx) (tg iter:Expr) (t:TI):Prop where
 run:PI X tg iter t
structure JG (X:Cx) (tg:Expr) (t:TG):Prop where
 run:PG X tg t
structure VL (X:Cx) (tg:List Expr) (t:zN):Prop where
 run:Uz X tg t
structure JO (X:Cx) (e:Option Expr) (t:TO):Prop where
 run:PO X e t
structure JPs (X:Cx) (pos:Pos) (keys:List (Option Expr)) (values:List Expr) (t:List (TE×TE)):Prop where
 run:PPs X pos keys values t
structure LK (X:Cx) (ifs:List Expr) (t:TT):Prop where
 run:v6 X ifs t
section
variable {X:Cx} {K:PySem.W.Frag} {sc scope:Scope} {N':List Str} {C:Addr} {s₀:Shared} {H₀:Hp} {ex:List Addr} {x:Str} {pos p p2 pos' apos cpos tpos:Pos} {a b c e o:Expr} {es:List Expr} {ta tb tc te to ti:TE} {t:TA} {tA tB' tt:TT} {rest:List Expr}
theorem ao (i:Nat) (h:sc.names.lookup x=some .local) (hN:autoParam (X.N[i]?=some x) L2.auto4._auto_1) (hsc:autoParam (X.env.scope=sc) L2.auto4._auto_1) (hd:autoParam ((x == ("__debug__":Str))=false) L2.auto6._auto_1) (hcd:autoParam ((x == ("__classdict__":Str))=false) L2.auto6._auto_1):JE X (.Name x pos) (qI i):=⟨pvL i h hN hsc hd hcd⟩
theorem nq (i:Nat) (h:sc.names.lookup x=some .cell) (hN:autoParam (X.N[i]?=some x) L2.auto4._auto_1) (hsc:autoParam (X.env.scope=sc) L2.auto4._auto_1) (hd:autoParam ((x == ("__debug__":Str))=false) L2.auto6._auto_1) (hcd:autoParam ((x == ("__classdict__":Str))=false) L2.auto6._auto_1):JE X (.Name x pos) (qI i):=⟨pvC i h hN hsc hd hcd⟩
theorem nG (i:Nat) (h:scope.names.lookup x=some .local) (hN:autoParam (N'[i]?=some x) L2.auto4._auto_1) (hd:autoParam ((x == ("__debug__":Str))=false) L2.auto6._auto_1) (hcd:autoParam ((x == ("__classdict__":Str))=false) L2.auto6._auto_1):JE (oU X N' scope C s₀ H₀ ex) (.Name x pos) (qI i):=⟨pvBL i h hN hd hcd⟩
theorem rF (i:Nat) (h:scope.names.lookup x=some .free) (hN:autoParam (N'[i]?=some x) L2.auto4._auto_1) (hd:autoParam ((x == ("__debug__":Str))=false) L2.auto6._auto_1) (hcd:autoParam ((x == ("__classdict__":Str))=false) L2.auto6._auto_1):JE (oU X N' scope C s₀ H₀ ex) (.Name x pos) (qI i):=⟨pvBF i h hN hd hcd⟩
theorem aG {i j}:JE X (.Constant (.int i) j pos) (tC (.int i)):=⟨QC⟩
theorem yE {i j}:JE X (.Constant (.bool i) j pos) (tC (.bl i)):=⟨UW⟩
theorem iW {i j}:JE X (.Constant (.str i) j pos) (tC (.str i)):=⟨QD⟩
theorem ww {z:Str} (hg:Gl X x) (hm:∃ t,X.mg x=some (.str z t)) (hd:(x == ("__debug__":Str))=false):JE X (.Name x pos) (tC (.str z)):=⟨Ht hg hm hd⟩
theorem wz {z:Int} (hg:Gl X x) (hm:∃ t,X.mg x=some (.int z t)) (hd:(x == ("__debug__":Str))=false):JE X (.Name x pos) (tC (.int z)):=⟨Hu hg hm hd⟩
theorem wA {T:String} (hg:Gl X x) (hm:X.mg x=none) (hv:bootBuiltins x=some (.type T)) (hn:x≠"__name__") (hd:(x == ("__debug__":Str))=false):JE X (.Name x pos) (tC (.ty T)):=⟨Vx hg hm hv hn hd⟩
theorem bj {op:Operator} {r:R2} (ho:OpR X (binaryOp op) r) (ha:JE X a ta) (hb:JE X b tb):JE X (.BinOp a op b pos) (GD r ta tb):=⟨U9 ho ha.run hb.run⟩
theorem yF {op:CmpOp} {r:R2} (ho:OpR X (compareOp op) r) (ha:JE X a ta) (hb:JE X b tb) (hm:behindInMarks op b=false):JE X (.Compare a [op] [b] pos) (GD r ta tb):=⟨K3 ho ha.run hb.run hm⟩
theorem bx {op:CmpOp} {r:R2} (ho:OpR X (compareOp op) r) (ha:JE X a ta) (hb:JE X b tb) (hm:behindInMarks op b=false):JT X (.Compare a [op] [b] pos) (BP (GD r ta tb)):=⟨K4 ho ha.run hb.run hm⟩
theorem sU (ha:JT X a tA):JW X (.BoolOp .And [a] pos) tA:=⟨Kz ha.run⟩
theorem mG (ha:JT X a tA):JW X (.BoolOp .Or [a] pos) tA:=⟨QH ha.run⟩
theorem wB (ha:JT X a tA) (hb:JW X (.BoolOp .And (b :: rest) pos) tB'):JW X (.BoolOp .And (a :: b :: rest) pos) (Ky tA tB'):=⟨QJ ha.run hb.run⟩
theorem p8 (ha:JT X a tA) (hb:JW X (.BoolOp .Or (b :: rest) pos) tB'):JW X (.BoolOp .Or (a :: b :: rest) pos) (tOr tA tB'):=⟨U0 ha.run hb.run⟩
theorem lY (h:JW X e tt):JT X e tt:=⟨h.run.pt⟩
theorem lA (ha:JT X a tA):JT X (.UnaryOp .Not a pos) (QG tA):=⟨QK ha.run⟩
def plainT:Expr→Bool
 | .BoolOp ..=>false | .UnaryOp ..=>false | .Compare ..=>false | .IfExp ..=>false | _=>true
theorem j9 (h:JE X e te) (hp:autoParam (plainT e=true) L2.auto4._auto_1):JT X e (tB te):=⟨QF h.run (by
 intro whole
 cases e <;> first | rfl | cases hp)⟩
theorem yG {op} (h:JE X a te):JE X (.BoolOp op [a] pos) te:=⟨QM h.run⟩
theorem yH (ha:JE X a ta) (hb:JE X (.BoolOp .And (b :: rest) pos) tb):JE X (.BoolOp .And (a :: b :: rest) pos) (Gi ta tb):=⟨QQ ha.run hb.run⟩
theorem j_or (ha:JE X a ta) (hb:JE X (.BoolOp .Or (b :: rest) pos) tb):JE X (.BoolOp .Or (a :: b :: rest) pos) (QL ta tb):=⟨U7 ha.run hb.run⟩
theorem PX (ha:JE X a ta):JE X (.UnaryOp .Not a pos) (Gj ta):=⟨QR ha.run⟩
theorem j_if (hc:JT X c tA) (ha:JE X a ta) (hb:JE X b tb):JE X (.IfExp c a b pos) (tIf tA ta tb):=⟨Gk hc.run ha.run hb.run⟩
theorem HR {x1} (h:JA X es t):JE X (.Tuple es x1 pos) (La t):=⟨Rh h.run⟩
theorem iY (h:JA X es t):JE X (.List es pos) (Lb t):=⟨Ri h.run⟩
theorem ak:JA X [] K8:=⟨Rg⟩
theorem aa (ha:JE X e te) (hr:JA X es t) (h:autoParam (notStar e=true) L2.auto4._auto_1):JA X (e :: es) (BR te t):=⟨paC ha.run hr.run h⟩
theorem jn:JO X none vW:=⟨Le⟩
theorem jo (h:JE X e te):JO X (some e) (G5 te):=⟨Lf h.run⟩
theorem jq {r:V→Option Int→Option Int→Hp→VK→Prop} {lo hi:Option Expr} {tl th:TO} (hr:SlR X r) (he:JE X e te) (hl:JO X lo tl) (hu:JO X hi th):JE X (.Subscript e (.Slice lo hi none p2) pos) (tSl r te tl th):=⟨G6 hr he.run hl.run hu.run⟩
theorem m5 (hK:X.K=K) (ha:JE X a ta) (hb:JE X b tb) (h:autoParam (ni b=true) L2.auto4._auto_1):JE X (.Subscript a b pos) (GD (Rp K) ta tb):=⟨ixE hK ha.run hb.run h⟩
theorem aF {k:Nat} {ps:List Str} {sp:Sp} (F:Has X.prog X.w X.K X.mg X.base k x ps sp) (hr:Room k X.A) (hg:Gl X x) (ha:JA X (e :: es) t) (hdb:(x == ("__debug__":Str))=false) (h:autoParam ((e :: es).all notStar=true) L2.auto4._auto_1):
  JE X (.Call (.Name x p) (e :: es) [] pos) (uX sp [] E0 t):=⟨Vz F hr hg ha.run hdb h⟩
theorem aH {id:String} {r:List V→Hp→VK→Prop} (hc:CallR X (.builtin id) r) (hg:Gl X x) (hm:X.mg x=none) (hv:bootBuiltins x=some (.builtin id)) (ha:JA X (e :: es) t) (hn:x≠"__name__") (hdb:(x == ("__debug__":Str))=false) (h:autoParam ((e :: es).all notStar=true) L2.auto4._auto_1):
  JE X (.Call (.Name x p) (e :: es) [] pos) (Rk r t):=⟨VB hc hg hm hv ha.run hn hdb h⟩
theorem tZ {T:String} {r:List V→Hp→VK→Prop} (hc:CallR X (.type T) r) (hg:Gl X x) (hm:X.mg x=none) (hv:bootBuiltins x=some (.type T)) (ha:JA X (e :: es) t) (hn:x≠"__name__") (hdb:(x == ("__debug__":Str))=false) (h:autoParam ((e :: es).all notStar=true) L2.auto4._auto_1):
  JE X (.Call (.Name x p) (e :: es) [] pos) (Rk r t):=⟨RM hc hg hm hv ha.run hn hdb h⟩
theorem ph {name:Str} {T id:String} {r:V→List V→Hp→VK→Prop} (hK:X.K=K) (pa:PlainAttrs T) (slot:Slot T name id) (hty:typeOf (.builtin id)=pure (.type "method_descriptor")) (hm:Kq X id r) (ho:JE X o to) (ha:JA X (e :: es) t)
  (hbase:autoParam (oG o=true) L2.auto4._auto_1) (hl:autoParam (es.length < 20) L2.auto2._auto_1) (hline:autoParam ((apos.endLine == cpos.line)=true) L2.auto4._auto_1) (h:autoParam ((e :: es).all notStar=true) L2.auto4._auto_1):JE X (.Call (.Attribute o name apos) (e :: es) [] cpos) (Vn K T r to t):=⟨VD hK pa slot hty hm ho.run ha.run hbase hl hline h⟩
theorem LQ {name:Str} {T id:String} {r:V→List V→Hp→VK→Prop} (hK:X.K=K) (pa:PlainAttrs T) (slot:Slot T name id) (hty:typeOf (.builtin id)=pure (.type "method_descriptor")) (hm:Kq X id r) (ho:JE X o to)
  (hbase:autoParam (oG o=true) L2.auto4._auto_1) (hline:autoParam ((apos.endLine == cpos.line)=true) L2.auto4._auto_1):JE X (.Call (.Attribute o name apos) [] [] cpos) (Hb K T r to):=⟨RN hK pa slot hty hm ho.run hbase hline⟩
theorem jY:LK X [] Hg:=⟨Hh⟩
theorem LR (hc:JT X c tt):LK X [c] tt:=⟨Hi hc.run⟩
variable {tg iter elt:Expr} {ifs:List Expr} {sub:List (Option Nat)} {wi:TI} {g:TG} {N:List Str}
theorem lZ {ta:TA} (hg:Gl X "range") (hm:X.mg "range"=none) (ha:JA X [a] ta) (h:autoParam (notStar a=true) L2.auto4._auto_1):JI X tg (.Call (.Name "range" p) [a] [] pos) (Gy ta):=⟨Dt hg hm ha.run (bV h)⟩
theorem Ej {ta:TA} (hg:Gl X "range") (hm:X.mg "range"=none) (ha:JA X [a,b] ta) (h:autoParam (notStar a=true) L2.auto4._auto_1) (h2:autoParam (notStar b=true) L2.auto4._auto_1):JI X tg (.Call (.Name "range" p) [a,b] [] pos) (Gz ta):=⟨Du hg hm ha.run (by rw [bV h,bV h2];rfl) (by rw [bV h2];rfl)⟩
theorem jr (hK:X.K=K) (hl:JE X e te):JI X tg e (Ls K te):=⟨Lx hK hl.run⟩
theorem b8 {i:Nat} (hN:X.N.Nodup) (hi:X.N[i]?=some x) (hx:Loc X.env.scope x) (hf:X.fn x=true):JG X (.Name x pos) (oY i):=⟨Bx hN hi hx (.inl hf)⟩
theorem uG (i:Nat) (h:scope.names.lookup x=some .local) (hN:N'.Nodup) (hi:autoParam (N'[i]?=some x) L2.auto4._auto_1):JG (oU X N' scope C s₀ H₀ ex) (.Name x pos) (oY i):=⟨pgB i h hN hi⟩
theorem sV:VL X [] QW:=⟨KQ⟩
theorem gW {gs:zN} (h1:JG X e g) (h2:VL X es gs) (hs:autoParam ((assignEach (e :: es) X.env).map (·.2)=assign e X.env :: (assignEach es X.env).map (·.2)) L2.auto4._auto_1):VL X (e :: es) (Gr g gs):=⟨Gs h1.run h2.run hs⟩
theorem Am {ts:List Expr} {k:Nat} {gs:zN} {n:Nat} (hK:X.K=K) (hc:X.calm=true) (h:VL X ts gs) (hn:autoParam ((assignEach ts X.env).length=n) L2.auto4._auto_1) (hst:autoParam ((assignEach ts X.env).findIdx? (·.1)=none) L2.auto4._auto_1):JG X (.Tuple ts k pos) (KR K n gs):=⟨LC hK hc h.run hn hst⟩
theorem lB {ts:zQ} (ho:JE X a ta) (hi:JE X b tb) (hs:KN X ts) (h:autoParam (ni b=true) L2.auto4._auto_1):JG X (.Subscript a b pos) (QX ta tb ts):=⟨QZ ho.run hi.run hs (by
 intro v
 cases b <;> first | rfl | cases h)⟩
theorem mH (S:rD N sc N' scope sub) (hc:X.calm=true) (hN:X.N=N) (hsc:X.env.scope=sc) (hi:JI X tg iter wi)
  (hg:∀ (C:Addr) (s₀:Shared) (H₀:Hp) (ex:List Addr),JG (oU X N' scope C s₀ H₀ ex) tg g)
  (ht:∀ (C:Addr) (s₀:Shared) (H₀:Hp) (ex:List Addr),LK (oU X N' scope C s₀ H₀ ex) ifs tt)
  (he:∀ (C:Addr) (s₀:Shared) (H₀:Hp) (ex:List Addr),JE (oU X N' scope C s₀ H₀ ex) elt te) (h:autoParam (qO iter=true) L2.auto4._auto_1):
  JE X (.ListComp elt [⟨tg,iter,ifs,0⟩] scope pos) (tU sub wi g tt te):=⟨VH S hc hN hsc hi.run (fun C s₀ H₀ ex=>(hg C s₀ H₀ ex).run) (fun C s₀ H₀ ex=>(ht C s₀ H₀ ex).run) (fun C s₀ H₀ ex=>(he C s₀ H₀ ex).run) h⟩
variable {st:Stmt} {sts:List Stmt} {u v:TS}
theorem aM {i:Nat} (hN:X.N.Nodup) (hi:X.N[i]?=some x) (hx:Loc X.env.scope x) (he:JE X e te) (hf:X.fn x=true) (h:autoParam (jX e=true) L2.auto4._auto_1):JS X (.Assign [.Name x pos'] e pos) (vV te (oY i)):=⟨VF hN hi hx he.run hf h⟩
theorem jK {ts:zQ} (he:JE X e te) (hg:JG X (.Subscript a b pos') g) (h:autoParam (jX e=true) L2.auto4._auto_1):JS X (.Assign [.Subscript a b pos'] e pos) (vV te g):=⟨Gv he.run hg.run (by show swapsWith e (some (.Subscript a b pos')) pos.line X.env=pure false;exact vh h) (by cases e <;> rfl) rfl⟩
theorem aN (he:JE X e te):JS X (.Return (some e) pos) (QS te):=⟨QT he.run⟩
theorem bF (he:JE X e te) (h:autoParam (jX e=true) L2.auto4._auto_1):JS X (.Expr e pos) (Bw te):=⟨RP he.run h⟩
theorem cz {sa sb:List Stmt} (hc:JT X c tt) (ha:JB X sa u) (hb:JB X sb v):JS X (.If c sa sb pos) (QV tt u v):=⟨U8 hc.run ha.run hb.run⟩
theorem jt {body:List Stmt} (hp:PassesOwn (model X.prog X.w) X.A X.env X.xe) (hc:X.calm=true) (hi:JI X tg iter wi) (hg:JG X tg g) (hb:JB X body u) (h:autoParam (qO iter=true) L2.auto4._auto_1):JS X (.For tg iter body [] pos) (KY wi g u):=⟨VG hp hc hi.run hg.run hb.run h⟩
theorem HS {body:List Stmt} (hp:PassesOwn (model X.prog X.w) X.A X.env X.xe) (hc:JT X c tt) (hb:JB X body u):JS X (.While c body [] pos) (zR tt u):=⟨Gx hp hc.run hb.run⟩
theorem jP:JS X st Gp:=⟨Gq⟩
theorem bI:JB X [] Gm:=⟨KD⟩
theorem aA (h:JS X st u):JB X [st] u:=⟨KH h.run⟩
theorem az (h:JS X st u) (h2:JB X sts v):JB X (st :: sts) (KC u v):=⟨Gn h.run h2.run⟩
end
section
variable {P:Program} {w:World} {K:PySem.W.Frag} {mg:Str→Option Value} {base:Heap}
theorem fj {x:Str} {st:Stmt} {N ps:List Str} {k:Nat} {sp:Sp} (D:fu K mg x st) (S:aD N ps (aq st))
  (hb:∀ (kV doc pm:Value) (an:Option Addr) (cdv ct:Value) (us:List Value),us.length=ps.length→bindArgs (PySem.W.fnOf x x (dB st) (bU st) (aq st) .none kV doc pm an cdv ct) ⟨us,[]⟩=pure (ps.zip us))
  (len:∀ vs H Q E,sp vs H Q E→vs.length=ps.length)
  (hbody:∀ (f:Addr) (cdv:Value) (A:Around) (outer:List Env) (s:Shared) (H:Hp) (vs:List V) (Q:VK) (E:XK),Room k (A.deeper (envOfC x (aq st) s.heap.objs.size f cdv))→sp vs H Q E→
   ∃ t,JB (oR Af P w K mg base N x (aq st) f cdv A outer s H E).nox (bU st) t∧t {nx:=fun _ H'=>Q .non H',rt:=Q} (start N vs) H):Has P w K mg base (k+1) x ps sp:=
 Rz D S hb len fun f cdv A outer s H vs Q E hr h=>let ⟨t,j,q⟩:=hbody f cdv A outer s H vs Q E hr h;⟨t,j.run,q⟩
theorem okJ {x:Str} {st:Stmt} {N ps:List Str} {k:Nat} {sp:Sp} {f:Addr} {fd:FuncData} (F:Fun K x x st f fd) (S:aD N ps (aq st)) (len:∀ vs H Q E,sp vs H Q E→vs.length=ps.length)
  (hbody:∀ (f:Addr) (cdv:Value) (A:Around) (outer:List Env) (s:Shared) (H:Hp) (vs:List V) (Q:VK) (E:XK),Room k (A.deeper (envOfC x (aq st) s.heap.objs.size f cdv))→sp vs H Q E→
   ∃ t,JB (oR Af P w K mg base N x (aq st) f cdv A outer s H E).nox (bU st) t∧t {nx:=fun _ H'=>Q .non H',rt:=Q} (start N vs) H):FnOk P w K mg base Af (k+1) f fd ps sp:=
 F.ok S len fun cdv A outer s H vs Q E hr h=>let ⟨t,j,q⟩:=hbody f cdv A outer s H vs Q E hr h;⟨t,j.run,q⟩
end
theorem qd {K:PySem.W.Frag} {mg:Str→Option Value} {h:Heap} (X:K.In h) (G:h.Ns mainGlobals mg) {x:Str} {v:Value} {f:Tok→Value} (a:PySem.W.nsIn K mainGlobals x=some (some v)) (e:∃ t,v=f t):∃ t,mg x=some (f t):=by
 obtain ⟨t,rfl⟩:=e
 exact ⟨t,PySem.W.mg_of X G a⟩
theorem VM {l:PySem.W.OpenLaw} {q:Program} {loose:List Str} {XP:(Str→Option Value)→Heap→Prop} {YP:World→Heap→Prop} {d:DefRec} {K:Params→PySem.W.Frag} {st:Stmt} {k:Nat} {sp:PySem.W.Frag→Sp} {x:Str}
  (hn:l.most=some 63) (hdf:d.params.defaults=[]) (hdn:d.name="law") (hk:Room k callerA) (hY:∀ (w:World) (h:Heap),YP w h→(K w.params).In h)
  (hb:∀ (kV doc pm:Value) (an:Option Addr) (cdv ct:Value) (us:List Value),us.length=[x].length→bindArgs (PySem.W.fnOf "law" "law" (dB st) (bU st) (aq st) .none kV doc pm an cdv ct) ⟨us,[]⟩=pure ([x].zip us))
  (F:∀ (w:World) (mg:Str→Option Value) (h:Heap),(K w.params).In h→h.Ns mainGlobals mg→fu (K w.params) mg "law" st∧∀ (base:Heap) (f:Addr) (fd:FuncData),Fun (K w.params) "law" "law" st f fd→FnOk l.prog w (K w.params) mg base Af k f fd [x] (sp (K w.params)))
  (hsp:∀ (K:PySem.W.Frag) (H:Hp) (a:Addr) (ns:List Int),ns.length≤63→SqL K H a (ns.map V.int)→sp K [.ref a] H (fun v _=>v= .bl true) fun _ _ _=>False) (him:autoParam (importsNone q=true) L2.auto6._auto_1):
  PySem.W.WalkO q loose XP YP l.row.toRowW d [] (fun f vs=>PySem.call f vs):=
 L2.Li (n:=63) (k:=k) (x:=x) (CX:=fun _=>Af) (sp:=fun w=>sp (K w.params)) hn (by decide) hdf hk hY (fun w mg fa h X G e=>by
  obtain ⟨⟨f,fd,Fn,hm⟩,ok⟩:=F w mg h X G
  rw [hdn,hm] at e
  have ef:f=fa:=by injection (Option.some.inj e)
  subst ef
  refine ⟨fd,fun s u=>?_,fun base _ _=>ok base f fd Fn⟩
  obtain ⟨oc,od,kV,doc,pm,an,cdv,ct,osl,rfl,lk,hcd⟩:=Fn.ex
  exact .of_eq (hb kV doc pm an cdv ct [u] rfl)) (fun w H a ns hl _ hS=>hsp _ H a ns hl hS) (fun _ _ _ _ _ z=>z) him
end L2
namespace L2
open PySem PySem.Spec PyProof.Rows
def Yo (xs:Nat→List V) (n:Nat):It:=⟨fun i _=>i < n,fun i H v H'=>∃ T,H T=none∧v= .ref T∧H'=upd H T (.tup (xs i)),fun i _=>i=n⟩
theorem RW {P:Program} {w:World} {K:PySem.W.Frag} {elts:List Expr} {k:Nat} {pos:Pos} {it:Addr} {fp wr:List Addr} {n:Nat} {xs:Nat→List V} {Pt:Nat→Array Value→Prop} {St:Nat→Heap→Prop} {Mid:Nat→Addr→Heap→Prop}
  (W:∀ A:Around,A.handled=none→WalksT P w A it fp wr n Pt St Mid) (hxs:∀ i,(xs i).length≤sizeLine) (hPt:∀ i vals,Pt i vals→Vals (xs i) vals.toList) (hmem:it∈fp)
  (hobj:∀ i h,St i h→∀ b∈fp,∃ o,h.get? b=some o∧∀ v,o.data≠.cell v)
  (hself:∀ (A:Around) (i:Nat) (s:Shared) (Q:Value→Shared→Prop) (E:Value→Shared→Prop),St i s.heap→Q (.ref it) s→wpAny (model P w) A (pyIter (.ref it)) Q E s):
  Turn P w K (.Tuple elts k pos) (Yo xs n) fp it St where
 mem:=hmem
 obj:=hobj
 keep:=fun i h h' st kk=>(W {} rfl).frame i h h' st kk
 item:=by
  intro X hP hw hK hc i pins s σ H E I hf st hg
  subst hP hw hK
  have W':=W X.A (I.ok.hd hc)
  refine W'.item i s _ _ hg st fun T vals h' tk hPv hT isT mid kk=>?_
  refine ⟨.ref T,rfl,W'.go elts k pos i T _ _ _ mid fun h'' st'' kk2=>?_⟩
  have hTn:H T=none:=I.hok.fresh hT
  have hTw:T ∉ wr:=W'.apart i T h' mid
  have kall:∀ b o,b ∉ wr→s.heap.get? b=some o→h''.get? b=some o:=fun b o hb e=>kk2 b o hb (kk b o hb e)
  have nT:∀ b o,s.heap.get? b=some o→b≠T:=fun b o e=>Nat.ne_of_lt (Nat.lt_of_lt_of_le (Heap.lt_size e) hT)
  have nTH:∀ b u,H b=some u→b≠T:=fun b u e z=>by rw [z,hTn] at e;cases e
  have nW:∀ b u,H b=some u→b ∉ wr:=fun b u e hb=>by rw [(hf b (W'.sub b hb)).1] at e;cases e
  have isT':h''.IsTuple T vals:=by
   obtain ⟨o,ho,r⟩:=isT
   exact ⟨o,kk2 T o hTw ho,r⟩
  have hlT:∃ o,h''.get? T=some o:=let ⟨o,ho,_⟩:=isT';⟨o,ho⟩
  have I':Inv X pins σ (upd H T (.tup (xs i))) {s with heap:=h'',toks:=tk}:=by
   refine I.step (g':=s.gens) (d':=s.drawn) (ch:=wr) (fun b hb=>?_) (fun b o _ _ hc e _=>kall b o hc e) (fun b o _ _ hc e _=>⟨o.slots,kall b o hc e⟩) (fun b o _ e hn=>by rw [aB (nT b o e)];exact hn)
    (fun b o hc e=>⟨o,kall b o hc e⟩) (fun b ys e=>by rw [aB (nTH b _ e)];exact e) (fun b o u e=>by rw [aB (nTH b _ e)];exact e) (fun b ps e=>⟨#[],by rw [aB (nTH b _ e),e];simp⟩) (fun m hm=>?_) (fun b u e=>?_) I.bare
   ·obtain ⟨f0,f1,f2,f3,f4,f5⟩:=hf b (W'.sub b hb)
    exact ⟨f3,f1,f4,f5⟩
   ·obtain ⟨o,es,ep,ho,r⟩:=hm
    exact ⟨o,es,ep,kall _ o (fun hb=>(hf _ (W'.sub _ hb)).2.1 rfl) ho,r⟩
   ·by_cases hb:b=T
    ·subst hb
     rw [aj] at e;cases e
     obtain ⟨o,ho,hcl,nn,hd⟩:=isT'
     exact ⟨hxs i,vals.toList,hPt i vals hPv,o,ho,hcl,nn,by simpa using hd⟩
    ·rw [aB hb] at e
     refine (I.hok b u e).stay (fun c v hc' q=>kall c v ?_ q) (fun c q=>by rw [aB (nTH c _ q)];exact q) fun c ys q=>by rw [aB (nTH c _ q)];exact q
     rcases hc' with z | z
     ·rw [z];exact nW b u e
     ·exact nW c _ z
  refine ⟨.ref T,upd H T (.tup (xs i)),I',rfl,⟨T,hTn,rfl,rfl⟩,st'',fun b hb=>?_⟩
  obtain ⟨o,e,_⟩:=hobj i _ st b hb
  rw [aB (nT b o e)]
  exact (hf b hb).1
 done:=by
  intro X hP hw hK hc i pins s σ H E I hf st hg
  subst hP hw hK
  have W':=W X.A (I.ok.hd hc)
  have hg:i=n:=hg
  subst hg
  refine W'.done s _ _ st fun h' tk kk=>⟨rfl,?_⟩
  have nW:∀ b u,H b=some u→b ∉ wr:=fun b u e hb=>by rw [(hf b (W'.sub b hb)).1] at e;cases e
  refine I.step (g':=s.gens) (d':=s.drawn) (ch:=wr) (fun b hb=>?_) (fun b o _ _ hc e _=>kk b o hc e) (fun b o _ _ hc e _=>⟨o.slots,kk b o hc e⟩) (fun b o _ e hn=>hn)
    (fun b o hc e=>⟨o,kk b o hc e⟩) (fun b ys e=>e) (fun b o u e=>e) (fun b ps e=>⟨#[],by rw [e];simp⟩) (fun m hm=>?_) (fun b u e=>?_) I.bare
  ·obtain ⟨f0,f1,f2,f3,f4,f5⟩:=hf b (W'.sub b hb)
   exact ⟨f3,f1,f4,f5⟩
  ·obtain ⟨o,es,ep,ho,r⟩:=hm
   exact ⟨o,es,ep,kk _ o (fun hb=>(hf _ (W'.sub _ hb)).2.1 rfl) ho,r⟩
  ·refine (I.hok b u e).stay (fun c v hc' q=>kk c v ?_ q) (fun c q=>q) fun c ys q=>q
   rcases hc' with z | z
   ·rw [z];exact nW b u e
   ·exact nW c _ z
 self:=hself
def yI (x:Str) (i:Nat):List V:=[.int i,.str ⟨#[x.cps.getD i 0]⟩]
end L2
namespace L2
open PySem PySem.Spec PyProof.Rows
section
variable {prog:Program} {w:World} {A:Around} {E:Value→Shared→Prop} {s:Shared}
theorem t6 {it l:Addr} {items:Array Value} (hne:l≠it):∀ (n i:Nat) (s:Shared) (Q:List Value→Shared→Prop),s.heap.IsListIter it l i→s.heap.IsList l items→i+n≤items.size→
  (∀ h',h'.IsListIter it l (i+n)→Heap.SameBut it s.heap h'→Q ((items.toList.drop i).take n) {s with heap:=h'})→wpAny (model prog w) A (draw (.ref it) n) Q E s
 | 0,i,s,Q,hit,_,_,hQ=>by
  show wpAny _ _ (pure []) Q E s
  exact wpAny_pure (by simpa using hQ s.heap hit (Heap.SameBut.refl ..))
 | n+1,i,s,Q,hit,ht,hle,hQ=>by
  have hlt:i < items.size:=by omega
  show wpAny _ _ (pyNext (.ref it) >>=_) Q E s
  refine wpAny_bind (wpAny_pyNext_list_item hit ht (x:=items[i]) (by simp [hlt]) fun h₁ hit₁ hs₁=>?_)
  refine wpAny_bind (wpAny_holding (t6 hne n (i+1) _ _ hit₁ (ht.extBut hs₁.extBut hne) (by omega) fun h₂ hit₂ hs₂=>wpAny_pure ?_))
  have hd:items.toList.drop i=items[i] :: items.toList.drop (i+1):=by simp [List.drop_eq_getElem_cons,hlt]
  have:=hQ h₂ (by rw [show i+(n+1)=i+1+n by omega];exact hit₂) (hs₁.trans hs₂)
  rw [hd,List.take_succ_cons] at this
  exact this
theorem qe {l:Addr} {items:Array Value} {Q:List Value→Shared→Prop} (hh:A.handled=none) (ht:s.heap.IsList l items)
  (hQ:∀ h',Heap.ExtBut s.heap.objs.size s.heap h'→Q items.toList {s with heap:=h'}):wpAny (model prog w) A (unpackItems (.ref l) items.size none) Q E s:=by
 have hlt:l≠s.heap.objs.size:=by obtain ⟨o,ho,_⟩:=ht;exact Nat.ne_of_lt (Heap.lt_size ho)
 unfold unpackItems
 refine wpAny_bind ?_
 ·unfold notIterableAtAll
  refine wpAny_bind (wpAny_specialOf ht.typeIs slot_list_iter.lookup ?_)
  refine wpAny_pure ?_
  simp only [Bool.false_eq_true,if_false]
  refine wpAny_bind (wpAny_holding (wpAny_pyIter_list ht ?_))
  refine wpAny_bind (wpAny_holding (t6 hlt items.size 0 _ _ ⟨_,Heap.get?_push_size _ rfl,rfl,rfl⟩ (let ⟨o,ho,r⟩:=ht;⟨o,Heap.get?_push_of_some _ ho,r⟩) (by omega) fun h₁ hit₁ hs₁=>?_))
  have hall:List.take items.size (List.drop 0 items.toList)=items.toList:=by
   rw [List.drop_zero];exact List.take_of_length_le (by simp)
  rw [hall]
  rw [if_neg (by simp)]
  have ht₁:h₁.IsList l items:=by
   have:(s.heap.push {cls:=.type "list_iterator",data:=.fields #[.ref l,.int 0 0]}).IsList l items:=let ⟨o,ho,r⟩:=ht;⟨o,Heap.get?_push_of_some _ ho,r⟩
   exact this.extBut hs₁.extBut hlt
  refine wpAny_bind (wpAny_holding (wpAny_pyNext_list_end hh hit₁ ht₁ (by simp) fun h₂ he₂=>?_))
  simp only [Option.isSome_none,Bool.false_eq_true,if_false]
  refine wpAny_pure (hQ h₂ fun b o hb e=>he₂ b o hb (hs₁.extBut b o hb (Heap.get?_push_of_some _ e)))
theorem pq {env:Env} {elts:List Expr} {x1} {pos:Pos} {l:Addr} {items:Array Value} {Q:Unit→Shared→Prop} (hh:A.handled=none) (ht:s.heap.IsList l items)
  (hn:(assignEach elts env).length=items.size) (hstar:(assignEach elts env).findIdx? (·.1)=none)
  (h:∀ h',Heap.ExtBut s.heap.objs.size s.heap h'→wpAny (model prog w) A (assignInOrder ((assignEach elts env).map (·.2)) items.toList) Q E {s with heap:=h'}):
  wpAny (model prog w) A (assign (.Tuple elts x1 pos) env (.ref l)) Q E s:=by
 rw [assign_Tuple]
 refine wpAny_bind (wpAny_standAt ?_)
 unfold unpack
 rw [hn,hstar]
 exact wpAny_bind (wpAny_holding (qe hh ht h))
end
def P0 (K:PySem.W.Frag) (n:Nat) (t:zN):TG:=fun v σ H Q=>∃ a xs,v= .ref a∧(SqT K H a xs∨SqL K H a xs)∧xs.length=n∧t xs σ H Q
theorem Ma {X:Cx} {K:PySem.W.Frag} {ts:List Expr} {k:Nat} {gs:zN} {n:Nat} {pos:Pos} (hK:X.K=K) (hc:X.calm=true) (h:VL X ts gs) (hn:autoParam ((assignEach ts X.env).length=n) L2.auto4._auto_1) (hst:autoParam ((assignEach ts X.env).findIdx? (·.1)=none) L2.auto4._auto_1):JG X (.Tuple ts k pos) (P0 K n gs):=⟨by
 subst hK
 intro pins s σ H v u Q I r hw
 obtain ⟨a,xs,e1,hq,hl,hw⟩:=hw
 subst e1
 cases r
 rcases hq with hq | hq
 ·exact (Gu hc h.run hn hst) pins s σ H (.ref a) (.ref a) Q I (show RelV (.ref a) (Value.ref a) from rfl) ⟨a,xs,rfl,hq,hl,hw⟩
 ·obtain ⟨its,rv,ht,hz⟩:=I.list hq
  refine pq (I.ok.hd hc) ht.isList (by simp [hn,← hl,rv.length]) hst fun h' hx=>?_
  have I1:Inv X pins σ H {s with heap:=h'}:=I.kept (t':=s.toks) fun b o e=>hx b o (Nat.ne_of_lt (Heap.lt_size e)) e
  exact h.run pins _ σ H xs _ Q I1 (by simpa using rv) hw⟩
theorem Mf {X:Cx} {ts:List Expr} {k:Nat} {e:Expr} {te:TE} {g:TG} {pos pos':Pos} (he:JE X e te) (hg:JG X (.Tuple ts k pos') g) (h:autoParam (jX e=true) L2.auto4._auto_1) (h2:autoParam ((match e with | .Tuple ..=>false | _=>true)=true) L2.auto4._auto_1):JS X (.Assign [.Tuple ts k pos'] e pos) (vV te g):=
 ⟨Gv he.run hg.run (by show swapsWith e (some (.Tuple ts k pos')) pos.line X.env=pure false;exact vh h) (by cases e <;> first | rfl | cases h2) rfl⟩
def VN (K:PySem.W.Frag):R2:=fun x y H Q=>rNe x y H Q∨∃ (a b:Addr) (ns ms:List Int),x= .ref a∧y= .ref b∧SqL K H a (ns.map V.int)∧SqL K H b (ms.map V.int)∧Q (.bl (!decide (ns=ms))) H
theorem RX {X:Cx} {K:PySem.W.Frag} (hK:X.K=K) (hu:X.A.units+64 < cLine):OpR X (compareOp .NotEq) (VN K):=by
 subst hK
 intro pins s σ H x y v u Q I rx ry h
 rcases h with h | ⟨a,b,ns,ms,rfl,rfl,ha,hb,q⟩
 ·exact Vd pins s σ H x y v u Q I rx ry h
 ·cases rx
  cases ry
  obtain ⟨its,r1,p1,z1⟩:=I.list ha
  obtain ⟨jts,r2,p2,z2⟩:=I.list hb
  exact PySem.W.ne_intsK p1.isList (intsAre_of r1) p2.isList (intsAre_of r2) hu ⟨.bl _,H,I,rfl,q⟩
section
variable {H:Hp} {Q:VK} {K:PySem.W.Frag} {σ:St}
theorem cP {n:Nat} {gs:zN} {p:Addr} {xs:List V} {R:St→Hp→Prop} (s:SqT K H p xs) (hl:xs.length=n) (h:gs xs σ H R):KR K n gs (.ref p) σ H R:=⟨p,xs,rfl,s,hl,h⟩
theorem Mg {n:Nat} {gs:zN} {p:Addr} {xs:List V} {R:St→Hp→Prop} (s:SqL K H p xs) (hl:xs.length=n) (h:gs xs σ H R):P0 K n gs (.ref p) σ H R:=⟨p,xs,rfl,.inr s,hl,h⟩
theorem cC {t:TG} {u:zN} {v:V} {vs:List V} {R:St→Hp→Prop} (h:t v σ H fun σ' H'=>u vs σ' H' R):Gr t u (v :: vs) σ H R:=⟨v,vs,rfl,h⟩
theorem d9 {R:St→Hp→Prop} (h:R σ H):QW [] σ H R:=⟨rfl,h⟩
theorem nH {p:Addr} {xs:List V} {y:V} (hp:H p=some (.lst xs)) (c:xs.length < sizeLine) (h:Q .non (upd H p (.lst (xs ++ [y])))):Ca (.ref p) [y] H Q:=⟨p,xs,y,rfl,rfl,hp,c,h⟩
theorem An {a:Addr} {xs:List V} {k:Int} (ha:H a=some (.lst xs)) (h0: -(2 ^ 63)≤k) (h1:k < 2 ^ 63) (hz:xs.length*k.toNat≤sizeLine) (h:∀ p,H p=none→Q (.ref p) (upd H p (.lst (List.replicate k.toNat xs).flatten))):Hs (.ref a) (.int k) H Q:=
 .inr (.inr ⟨a,k,xs,rfl,rfl,ha,h0,h1,hz,h⟩)
theorem Cj {z:Str} {g:TG} {tb:TS} {D:Ends} {H:Hp} (Pv:Nat→St→Hp→Prop) (h0:Pv 0 σ H)
  (hs:∀ i σ H c,z.cps.toList[i]?=some c→Pv i σ H→g (.str ⟨#[c]⟩) σ H fun σ2 H2=>tb {D with nx:=Pv (i+1),ct:=Pv (i+1),bk:=D.nx} σ2 H2) (hd:∀ σ H,Pv z.length σ H→D.nx σ H):
  ∃ W:Nat→Nat→St→Hp→Prop,(∃ m,W 0 m σ H)∧∀ i m σ H,W i m σ H→
   ((Lp z).stop i H∧D.nx σ H)∨((Lp z).go i H∧∃ N:St→Hp→Prop,(∀ σ' H',N σ' H'→∃ m',m' < m∧W (i+1) m' σ' H')∧∀ x H',(Lp z).yld i H x H'→g x σ H' fun σ2 H2=>tb {D with nx:=N,ct:=N,bk:=D.nx} σ2 H2):=by
 refine ⟨fun i m σ H=>m=z.cps.size - i∧i≤z.cps.size∧Pv i σ H,⟨z.cps.size,by simp,Nat.zero_le _,h0⟩,?_⟩
 rintro i m σ H ⟨rfl,hi,p⟩
 by_cases hlt:i < z.cps.size
 ·refine .inr ⟨hlt,Pv (i+1),fun σ' H' p'=>⟨z.cps.size - (i+1),by omega,rfl,hlt,p'⟩,fun x H' y=>?_⟩
  obtain ⟨e1,c,e2,e3⟩:=y
  subst e1 e3
  exact hs i σ _ c (by simpa using e2) p
 ·have e:i=z.cps.size:=by omega
  subst e
  exact .inl ⟨rfl,hd σ H p⟩
end
end L2
namespace L2
open PySem PySem.Spec PyProof.Rows
section
variable {X:Cx} {tg iter elt:Expr} {ifs:List Expr} {scope:Scope} {pos:Pos} {N':List Str} {sub:List (Option Nat)} {wi:TI} {g:TG} {tt:TT} {te:TE}
theorem HW {N:List Str} {sc:Scope} {use:Option (Value→Sem Unit)} {R:Value→Shared→Prop} {p0:Pos} (S:rD N sc N' scope sub) (hc:X.calm=true) (hN:X.N=N) (hsc:X.env.scope=sc) (hi:PI X tg iter wi)
  (hg:∀ (C:Addr) (s₀:Shared) (H₀:Hp) (ex:List Addr),PG (oU X N' scope C s₀ H₀ ex) tg g)
  (ht:∀ (C:Addr) (s₀:Shared) (H₀:Hp) (ex:List Addr),v6 (oU X N' scope C s₀ H₀ ex) ifs tt)
  (he:∀ (C:Addr) (s₀:Shared) (H₀:Hp) (ex:List Addr),PE (oU X N' scope C s₀ H₀ ex) elt te)
  (hs:∀ x,foldedSetIterable iter X.env x=pure x) (pins:List (Addr×Obj)) (s:Shared) (σ:St) (H:Hp) (Q:VK) (I:Inv X pins σ H s) (h:tU sub wi g tt te σ H Q)
  (hend:∀ (D C:Addr) (s5:Shared) (H5:Hp) (m:Str→Option Value),Inv X pins σ H5 s5→kY X pins H5 C→s5.heap.Ns C m→Q (.ref D) H5→compPost (model X.prog X.w) X.A X.xe use R (.ref D) C (.ok .next) s5):
  wpAny (model X.prog X.w) X.A (comprehension (.ListComp elt [⟨tg,iter,ifs,0⟩] scope pos) scope X.env p0 (newList []) false (eval iter X.env) use) R X.xe s:=by
 have hcl:∀ x∈scope.names,x.2=NameKind.free→∃ c,X.env.cells.lookup x.1=some c:=fun x hx hk=>I.ok.has x.1 (by have:=S.free x hx hk;rw [← hsc] at this;exact this)
 refine wpAny_comprehension_free (use:=use) rfl hs (oZ hcl) S.kind S.loc ?_
 refine eZ (hi pins s σ H _ I h) fun v s1 h1=>eZ h1 fun itv s2 h2=>?_
 obtain ⟨it,fp,tn,J,H2,e,I2,T,st2,f2,W,⟨m0,w0⟩,turn⟩:=h2
 subst e
 refine wpAny_newObj_type (iB fun h₁ hns₁ hk31 hcl₁=>?_)
 dsimp only at hns₁ hk31 hcl₁ ⊢
 generalize hs3:({s2 with heap:=s2.heap.push {cls:=.type "list",dict:=none,data:=.seq ([]:List Value).toArray}}:Shared)=s3
 have e3:s2.heap.push {cls:=.type "list",dict:=none,data:=.seq ([]:List Value).toArray}=s3.heap:=by rw [← hs3]
 rw [e3] at hns₁ hk31 hcl₁ ⊢
 have hD3:s3.heap.get? s2.heap.objs.size=some {cls:=.type "list",dict:=none,data:=.seq ([]:List Value).toArray}:=by rw [← e3];exact Heap.get?_push_size _ rfl
 have I3:Inv X pins σ H2 s3:=by
  rw [← hs3]
  exact I2.kept (t':=s2.toks) fun b o e=>Heap.get?_push_of_some _ e
 have k23:∀ b o,s2.heap.get? b=some o→s3.heap.get? b=some o:=fun b o e=>by rw [← e3];exact Heap.get?_push_of_some _ e
 have hsz:s3.heap.objs.size=s2.heap.objs.size+1:=by rw [← e3,Heap.size_push]
 have hDn:H2 s2.heap.objs.size=none:=I2.hok.fresh (Nat.le_refl _)
 have fD:kY X pins H2 s2.heap.objs.size:=I2.fpOk (Nat.le_refl _) hDn
 have hfo:∀ b∈fp,b < s2.heap.objs.size:=fun b hb=>let ⟨o,e,_⟩:=T.obj _ _ st2 b hb;Heap.lt_size e
 have hDfp:s2.heap.objs.size ∉ fp:=fun z=>absurd (hfo _ z) (Nat.lt_irrefl _)
 have I4:=vd (tk:=s3.toks+([]:List (Str×Value)).length) S hN hsc I3 f2 (fun b hb=>by rw [hsz];exact Nat.lt_succ_of_lt (hfo b hb)) (D:=s2.heap.objs.size) (by rw [hsz];exact Nat.lt_succ_self _) fD hns₁ hk31 hcl₁
 have stat:∀ {H':Hp} {ob:Obj},(∀ b∈fp,H' b=none)→∀ b∈fp,kY (oU X N' scope s3.heap.objs.size s3 H2 (s2.heap.objs.size :: fp)) [(s2.heap.objs.size,ob)] H' b:=fun {H' ob} hn b hb=>by
  obtain ⟨q1,q2⟩:=I4.ok.exf b (List.mem_cons_of_mem _ hb)
  refine ⟨hn b hb,q1,I4.ok.exfs b (List.mem_cons_of_mem _ hb),.inl (List.mem_cons_of_mem _ hb),q2,fun p hp z=>?_⟩
  have hp':p=(s2.heap.objs.size,ob):=by simpa [oU] using hp
  subst hp'
  have z':s2.heap.objs.size=b:=z
  exact hDfp (by rw [z'];exact hb)
 generalize hXC:oU X N' scope s3.heap.objs.size s3 H2 (s2.heap.objs.size :: fp)=XC at I4 stat
 have eP:XC.prog=X.prog:=by rw [← hXC];rfl
 have eW:XC.w=X.w:=by rw [← hXC];rfl
 have eK:XC.K=X.K:=by rw [← hXC];rfl
 have eA:XC.A=X.A:=by rw [← hXC];rfl
 have eE:XC.env=compEnvC scope (Ea X scope s3.heap.objs.size) s3.heap.objs.size X.env:=by rw [← hXC];rfl
 have eC:XC.calm=true:=by rw [← hXC];exact hc
 have eX:XC.xe=fun _ _=>False:=by rw [← hXC];rfl
 have eH:XC.H₀=H2:=by rw [← hXC];rfl
 have eS:XC.s₀=s3:=by rw [← hXC];rfl
 have eF:XC.fs=frs X.stack:=by rw [← hXC];rfl
 have eEx:XC.ex=s2.heap.objs.size :: fp:=by rw [← hXC];rfl
 have ePn:XC.pn=[]:=by rw [← hXC];rfl
 have hgC:PG XC tg g:=by rw [← hXC];exact hg _ _ _ _
 have htC:v6 XC ifs tt:=by rw [← hXC];exact ht _ _ _ _
 have heC:PE XC elt te:=by rw [← hXC];exact he _ _ _ _
 have pinD:∀ {σ':St} {H':Hp} {s':Shared} {ob:Obj},Inv XC [] σ' H' s'→H' s2.heap.objs.size=none→s'.heap.get? s2.heap.objs.size=some ob→(∀ v,ob.data≠.cell v)→Inv XC [(s2.heap.objs.size,ob)] σ' H' s':=fun {σ' H' s' ob} J hn hg hd=>
  J.pins_of fun p hp=>by
   have hp':p=(s2.heap.objs.size,ob):=by simpa using hp
   subst hp'
   refine ⟨hg,hn,(J.ok.exf _ (by rw [eEx];exact List.mem_cons_self)).1,J.ok.exfs _ (by rw [eEx];exact List.mem_cons_self),hd⟩
 have loop:codeAny (model X.prog X.w) X.A (.compLoop (.ListComp elt [⟨tg,iter,ifs,0⟩] scope pos) 0 (.ref it) (.ref s2.heap.objs.size) (compEnvC scope (Ea X scope s3.heap.objs.size) s3.heap.objs.size X.env))
   (compPost (model X.prog X.w) X.A X.xe use R (.ref s2.heap.objs.size) s3.heap.objs.size) {s3 with heap:=h₁,toks:=s3.toks+([]:List (Str×Value)).length}:=by
  refine u9 (fun n s'=>∃ (i:Nat) (ys:List V) (its:List Value) (nn:Nat) (H':Hp),Inv XC [] (cT sub σ) H' s'∧tn i s'.heap∧(∀ b∈fp,H' b=none)∧H' s2.heap.objs.size=none∧
   s'.heap.get? s2.heap.objs.size=some {cls:=.type "list",data:=.seq its.toArray nn}∧Vals ys its∧W i n ys H') ?_ m0
   ⟨0,[],[],_,H2,I4,T.keep _ _ _ st2 fun b _ o e=>hk31 b o (k23 b o e),fun b hb=>(f2 b hb).1,hDn,hk31 _ _ hD3,.nil,w0⟩
  rintro n s4 ⟨i,ys,its,nn,H4,J4,st4,fr4,dn4,dg4,rv4,w4⟩
  have P4:=pinD J4 dn4 dg4 (fun v z=>by cases z)
  rcases turn i n ys H4 w4 with ⟨stop,hyl,qn⟩ | ⟨go,hyl,N,hN,step⟩
  ·have hdone:=T.done XC eP eW eK eC i _ s4 _ H4 (fun _ _=>False) P4 (stat fr4) st4 stop
   rw [eA] at hdone
   refine wpAny_mono hdone (fun r s5 ⟨hr,I5⟩=>?_) fun _ _ z=>z
   subst hr
   obtain ⟨m,hn,_⟩:=id I5.loc
   have hCe:XC.env.locals=s3.heap.objs.size:=by rw [eE];rfl
   rw [hCe] at hn
   have hDg:=(I5.pin (s2.heap.objs.size,_) (by rw [ePn];exact List.mem_cons_self)).1
   have hDne:s2.heap.objs.size≠s3.heap.objs.size:=by rw [hsz];exact Nat.ne_of_lt (Nat.lt_succ_self _)
   have hHC:H4 s3.heap.objs.size=none:=by have:=I5.free;rw [hCe] at this;exact this
   have k56:∀ b o,b≠s3.heap.objs.size→s5.heap.get? b=some o→s5.heap.get? b=some o:=fun b o hb e=>e
   have un:=I5.base
   rw [eF,eEx,eH,eS] at un
   have nC:∀ b o,s3.heap.get? b=some o→b≠s3.heap.objs.size:=fun b o e=>Nat.ne_of_lt (Heap.lt_size e)
   have hok6:HOk X.prog X.w (upd H4 s2.heap.objs.size (.lst ys)) s5.heap:=by
    have h5:=I5.hok
    rw [eP,eW] at h5
    have Kp:∀ b u,H4 b=some u→b≠s3.heap.objs.size:=fun b u e z=>by rw [z,hHC] at e;cases e
    intro b u e
    by_cases hb:b=s2.heap.objs.size
    ·subst hb
     rw [aj] at e;cases e
     exact ⟨hyl,its,nn,rv4,k56 _ _ hDne hDg⟩
    ·rw [aB hb] at e
     have nD:∀ c u,H4 c=some u→c≠s2.heap.objs.size:=fun c u e z=>by rw [z,dn4] at e;cases e
     refine (h5 b u e).stay (fun c v hc' q=>k56 c v ?_ q) (fun c q=>by rw [aB (nD c _ q)];exact q) fun c xs q=>by rw [aB (nD c _ q)];exact q
     rcases hc' with z | z
     ·rw [z];exact Kp b u e
     ·exact Kp c _ z
   have nD2:∀ c u,H4 c=some u→c≠s2.heap.objs.size:=fun c u e z=>by rw [z,dn4] at e;cases e
   have un6:Un (frs X.stack) (s2.heap.objs.size :: fp) H2 (upd H4 s2.heap.objs.size (.lst ys)) s3.heap s5.heap:=
    ⟨fun b o e nn' hb hx=>k56 b o (nC b o e) (un.keep b o e nn' hb hx),fun b o e nn' hb hx=>let ⟨sl,q⟩:=un.slot b o e nn' hb hx;⟨sl,k56 b _ (nC b o e) q⟩,
     fun b o e nn' hx=>by rw [aB (fun z=>hx (by rw [z];exact List.mem_cons_self))];exact un.free b o e nn' hx,
     fun b o e hx=>let ⟨o',q⟩:=un.there b o e hx;⟨o',k56 b o' (nC b o e) q⟩,
     fun b xs e=>by have q:=un.tups b xs e;rw [aB (nD2 b _ q)];exact q,
     fun b o u e=>by have q:=un.frzs b o u e;rw [aB (nD2 b _ q)];exact q,
     fun b ps e=>let ⟨more,q⟩:=un.tbls b ps e;⟨more,by rw [aB (nD2 b _ q)];exact q⟩⟩
   have I6:Inv X pins σ (upd H4 s2.heap.objs.size (.lst ys)) s5:=by
    refine I3.call' (s':=s5) (ch:=s2.heap.objs.size :: fp) ?_ un6 hok6 I5.bare fun b hb=>?_
    ·show s5.os=s3.os
     have:=I5.os
     rw [eS] at this
     exact this
    ·have q:kY X pins H2 b:=by
      rcases List.mem_cons.mp hb with rfl | z
      ·exact fD
      ·exact f2 b z
     obtain ⟨f0,f1,f2',f3,f4,f5⟩:=q
     exact ⟨f3,f1,f4,f5⟩
   have dC:upd H4 s2.heap.objs.size (.lst ys) s3.heap.objs.size=none:=by rw [aB (Ne.symm hDne)];exact hHC
   exact hend _ _ s5 _ m I6 (I3.fpOk (Nat.le_refl _) dC) hn (qn _ dn4)
  ·have hitem:=T.item XC eP eW eK eC i _ s4 _ H4 (fun _ _=>False) P4 (stat fr4) st4 go
   rw [eA] at hitem
   refine wpAny_mono hitem (fun r s5 ⟨u,hr,h5⟩=>?_) fun _ _ z=>z
   subst hr
   dsimp only
   refine wpAny_mono h5 (fun _ s6 ⟨x,H6,I6,r6,y6,st6,fr6⟩=>?_) fun _ _ z=>z
   have P6:=I6.pinned (stat fr6) (T.obj _ _ st6)
   rw [← eE,← eP,← eW,← eA]
   refine wpAny_mono (hgC _ s6 _ H6 x u _ P6 r6 (step x H6 y6)) (fun _ s7 ⟨σ7,H7,I7,kp7,q7⟩=>?_) fun _ _ z=>by rw [eX] at z;exact z
   refine wpAny_mono (htC _ s7 σ7 H7 _ I7 q7) (fun ok s8 ⟨H8,I8,q8⟩=>?_) fun _ _ z=>by rw [eX] at z;exact z
   have fin:∀ {H9:Hp} {s9:Shared},Inv XC ([(s2.heap.objs.size,({cls:=.type "list",data:=.seq its.toArray nn}:Obj))] ++ qJ fp s6.heap) σ7 H9 s9→Inv XC [] (cT sub σ) H9 s9∧tn (i+1) s9.heap∧(∀ b∈fp,H9 b=none)∧H9 s2.heap.objs.size=none∧
     s9.heap.get? s2.heap.objs.size=some {cls:=.type "list",data:=.seq its.toArray nn}:=fun {H9 s9} J=>by
    have pD:=J.pin (s2.heap.objs.size,({cls:=.type "list",data:=.seq its.toArray nn}:Obj)) (by rw [ePn];simp)
    have pF:∀ b∈fp,∀ o,s6.heap.get? b=some o→s9.heap.get? b=some o∧H9 b=none:=fun b hb o e=>by
     have q:=J.pin (b,o) (by rw [ePn];exact List.mem_append_right _ (List.mem_append_right _ (mD hb e)))
     exact ⟨q.1,q.2.1⟩
    refine ⟨?_,T.keep _ _ _ st6 fun b hb o e=>(pF b hb o e).1,fun b hb=>?_,pD.2.1,pD.1⟩
    ·have J0:Inv XC [] σ7 H9 s9:=J.pins_of fun p hp=>nomatch hp
     exact J0.weak kp7.1.symm fun j v e=>kp7.2 j v e
    ·obtain ⟨o,e,_⟩:=T.obj _ _ st6 b hb
     exact (pF b hb o e).2
   cases ok with
   | false=>
    rw [if_neg (by simp)]
    rw [if_neg (by simp)] at q8
    obtain ⟨m',hm,w8⟩:=hN _ _ q8
    obtain ⟨a1,a2,a3,a4,a5⟩:=fin I8
    exact ⟨m',hm,i+1,ys,its,nn,H8,a1,a2,a3,a4,a5,rv4,w8⟩
   | true=>
    rw [if_pos rfl]
    rw [if_pos rfl] at q8
    refine wpAny_mono (heC _ s8 σ7 H8 _ I8 q8) (fun xv s9 ⟨y,H9,I9,r9,n9⟩=>?_) fun _ _ z=>by rw [eX] at z;exact z
    obtain ⟨m',hm,w9⟩:=hN _ _ n9
    obtain ⟨a1,a2,a3,a4,a5⟩:=fin I9
    refine wpAny_list_append_plain (items:=its.toArray) ⟨nn,a5⟩ (fun h' ⟨n',hp'⟩ sb=>?_) (by simp;rw [← rv4.length];omega)
    obtain ⟨q1,q2⟩:=I4.ok.exf s2.heap.objs.size (by rw [eEx];exact List.mem_cons_self)
    have a1':Inv XC [] (cT sub σ) H9 {s9 with heap:=h'}:=a1.turned (t':=s9.toks) (fun b o hb e=>(sb.2 b hb).trans e) a4 q1 (.inl (by rw [eEx];exact List.mem_cons_self)) q2 (fun p hp=>by rw [ePn] at hp;exact nomatch hp)
    refine ⟨m',hm,i+1,ys ++ [y],its ++ [xv],n',H9,a1',T.keep _ _ _ a2 fun b hb o e=>(sb.2 b (fun z=>hDfp (by rw [← z];exact hb))).trans e,a3,a4,?_,rv4.append (.cons r9 .nil),w9⟩
    rw [hp']
    simp
 subst hs3
 exact codeAny_compStart_list loop (T.self _ 0 _ _ _ (T.keep _ _ _ st2 fun b _ o e=>hk31 b o (k23 b o e)) loop)
theorem Ao {N:List Str} {sc:Scope} {i:Nat} {x:Str} {pos' spos:Pos} (hNd:X.N.Nodup) (hxi:X.N[i]?=some x) (hx:Loc X.env.scope x) (hf:X.fn x=true) (S:rD N sc N' scope sub) (hc:X.calm=true) (hN:X.N=N) (hsc:X.env.scope=sc) (hi:PI X tg iter wi)
  (hg:∀ (C:Addr) (s₀:Shared) (H₀:Hp) (ex:List Addr),PG (oU X N' scope C s₀ H₀ ex) tg g)
  (ht:∀ (C:Addr) (s₀:Shared) (H₀:Hp) (ex:List Addr),v6 (oU X N' scope C s₀ H₀ ex) ifs tt)
  (he:∀ (C:Addr) (s₀:Shared) (H₀:Hp) (ex:List Addr),PE (oU X N' scope C s₀ H₀ ex) elt te)
  (hs:∀ x,foldedSetIterable iter X.env x=pure x):PS X (.Assign [.Name x pos'] (.ListComp elt [⟨tg,iter,ifs,0⟩] scope pos) spos) (vV (tU sub wi g tt te) (oY i)):=by
 intro pins s σ H D I h
 have hsw:∃ b,swapsWith (.ListComp elt [⟨tg,iter,ifs,0⟩] scope pos) (some (.Name x pos')) spos.line X.env=pure b:=⟨_,rfl⟩
 obtain ⟨b,hsw⟩:=hsw
 cases b with
 | false=>exact Gw hNd hxi hx (Cd S hc hN hsc hi hg ht he hs) hsw (.inl hf) pins s σ H D I h
 | true=>
  rw [exec_Assign_Name_used _ _ _ _ hsw]
  refine wpAny_bind (wpAny_standAt (wpAny_bind ?_))
  show wpAny _ X.A (do let _ ← comprehension (.ListComp elt [⟨tg,iter,ifs,0⟩] scope pos) scope X.env _ (newList []) false (eval iter X.env) (some (assign (.Name x pos') X.env))) _ _ s
  refine wpAny_bind (wpAny_mono (HW (use:=some (assign (.Name x pos') X.env)) (R:=fun _ s'=>SP X pins D .next s') S hc hN hsc hi hg ht he hs pins s σ H _ I h ?_) (fun _ s' hq=>wpAny_pure (wpAny_pure hq)) fun _ _ e=>e)
  intro Da C s5 H5 m I5 fC hn q
  show wpAny _ X.A (assign (.Name x pos') X.env (.ref Da)) _ _ _
  refine wpAny_assign_Name (uU I5 hNd hxi hx (v:=.ref Da) rfl (fun s6 I6 qq0=>?_) (.inl hf))
  obtain ⟨a,sb,ha⟩:=qq0
  obtain ⟨f0,f1,f2,f3,f4,f5⟩:=fC
  have hCa:C≠a:=fun z=>by
   rcases ha with e | e
   ·exact f1 (z.trans e)
   ·exact f4 x a e z.symm
  exact ⟨m,hn.sameBut sb hCa,fun h' hs'=>⟨_,H5,I6.turned (t':=s6.toks) (fun b o hb e=>hs'.extBut b o hb e) f0 f1 f3 f4 f5,q⟩⟩
end
section
variable {X:Cx} {tg iter elt:Expr} {ifs:List Expr} {scope:Scope} {pos:Pos} {N':List Str} {sub:List (Option Nat)} {wi:TI} {g:TG} {tt:TT} {te:TE} {N:List Str} {sc:Scope}
theorem Mh {i:Nat} {x:Str} {pos' spos:Pos} (hNd:X.N.Nodup) (hxi:X.N[i]?=some x) (hx:Loc X.env.scope x) (S:rD N sc N' scope sub) (hc:X.calm=true) (hN:X.N=N) (hsc:X.env.scope=sc) (hi:JI X tg iter wi)
  (hg:∀ (C:Addr) (s₀:Shared) (H₀:Hp) (ex:List Addr),JG (oU X N' scope C s₀ H₀ ex) tg g)
  (ht:∀ (C:Addr) (s₀:Shared) (H₀:Hp) (ex:List Addr),LK (oU X N' scope C s₀ H₀ ex) ifs tt)
  (he:∀ (C:Addr) (s₀:Shared) (H₀:Hp) (ex:List Addr),JE (oU X N' scope C s₀ H₀ ex) elt te) (hf:X.fn x=true) (h:autoParam (qO iter=true) L2.auto4._auto_1):
  JS X (.Assign [.Name x pos'] (.ListComp elt [⟨tg,iter,ifs,0⟩] scope pos) spos) (vV (tU sub wi g tt te) (oY i)):=
 ⟨Ao hNd hxi hx hf S hc hN hsc hi.run (fun C s₀ H₀ ex=>(hg C s₀ H₀ ex).run) (fun C s₀ H₀ ex=>(ht C s₀ H₀ ex).run) (fun C s₀ H₀ ex=>(he C s₀ H₀ ex).run) (Hw h)⟩
end
end L2
namespace L2
open PySem PySem.Spec PyProof.Rows
section
variable {X:Cx} {pins:List (Addr×Obj)} {σ:St} {H:Hp} {s:Shared}
theorem Inv.newtup {wr:List Addr} {T:Addr} {vals:Array Value} {xs:List V} {h'':Heap} {tk:Nat} (I:Inv X pins σ H s) (hf:∀ b∈wr,kY X pins H b) (hT:s.heap.objs.size≤T)
  (kall:∀ b o,b ∉ wr→s.heap.get? b=some o→h''.get? b=some o) (isT':h''.IsTuple T vals) (hv:Vals xs vals.toList) (hx:xs.length≤sizeLine):Inv X pins σ (upd H T (.tup xs)) {s with heap:=h'',toks:=tk}:=by
 have hTn:H T=none:=I.hok.fresh hT
 have nT:∀ b o,s.heap.get? b=some o→b≠T:=fun b o e=>Nat.ne_of_lt (Nat.lt_of_lt_of_le (Heap.lt_size e) hT)
 have nTH:∀ b u,H b=some u→b≠T:=fun b u e z=>by rw [z,hTn] at e;cases e
 have nW:∀ b u,H b=some u→b ∉ wr:=fun b u e hb=>by rw [(hf b hb).1] at e;cases e
 refine I.step (g':=s.gens) (d':=s.drawn) (ch:=wr) (fun b hb=>?_) (fun b o _ _ hc e _=>kall b o hc e) (fun b o _ _ hc e _=>⟨o.slots,kall b o hc e⟩) (fun b o _ e hn=>by rw [aB (nT b o e)];exact hn)
  (fun b o hc e=>⟨o,kall b o hc e⟩) (fun b ys e=>by rw [aB (nTH b _ e)];exact e) (fun b o u e=>by rw [aB (nTH b _ e)];exact e) (fun b ps e=>⟨#[],by rw [aB (nTH b _ e),e];simp⟩) (fun m hm=>?_) (fun b u e=>?_) I.bare
 ·obtain ⟨f0,f1,f2,f3,f4,f5⟩:=hf b hb
  exact ⟨f3,f1,f4,f5⟩
 ·obtain ⟨o,es,ep,ho,r⟩:=hm
  exact ⟨o,es,ep,kall _ o (fun hb=>(hf _ hb).2.1 rfl) ho,r⟩
 ·by_cases hb:b=T
  ·subst hb
   rw [aj] at e;cases e
   obtain ⟨o,ho,hcl,nn,hd⟩:=isT'
   exact ⟨hx,vals.toList,hv,o,ho,hcl,nn,by simpa using hd⟩
  ·rw [aB hb] at e
   refine (I.hok b u e).stay (fun c v hc' q=>kall c v ?_ q) (fun c q=>by rw [aB (nTH c _ q)];exact q) fun c ys q=>by rw [aB (nTH c _ q)];exact q
   rcases hc' with z | z
   ·rw [z];exact nW b u e
   ·exact nW c _ z
theorem Inv.only {wr:List Addr} {h':Heap} {tk:Nat} (I:Inv X pins σ H s) (hf:∀ b∈wr,kY X pins H b) (kk:∀ b o,b ∉ wr→s.heap.get? b=some o→h'.get? b=some o):Inv X pins σ H {s with heap:=h',toks:=tk}:=by
 have nW:∀ b u,H b=some u→b ∉ wr:=fun b u e hb=>by rw [(hf b hb).1] at e;cases e
 refine I.step (g':=s.gens) (d':=s.drawn) (ch:=wr) (fun b hb=>?_) (fun b o _ _ hc e _=>kk b o hc e) (fun b o _ _ hc e _=>⟨o.slots,kk b o hc e⟩) (fun b o _ e hn=>hn)
   (fun b o hc e=>⟨o,kk b o hc e⟩) (fun b ys e=>e) (fun b o u e=>e) (fun b ps e=>⟨#[],by rw [e];simp⟩) (fun m hm=>?_) (fun b u e=>?_) I.bare
 ·obtain ⟨f0,f1,f2,f3,f4,f5⟩:=hf b hb
  exact ⟨f3,f1,f4,f5⟩
 ·obtain ⟨o,es,ep,ho,r⟩:=hm
  exact ⟨o,es,ep,kk _ o (fun hb=>(hf _ hb).2.1 rfl) ho,r⟩
 ·refine (I.hok b u e).stay (fun c v hc' q=>kk c v ?_ q) (fun c q=>q) fun c ys q=>q
  rcases hc' with z | z
  ·rw [z];exact nW b u e
  ·exact nW c _ z
end
def UJ (K:PySem.W.Frag) (a:Addr):It:=
 ⟨fun i H=>∃ xs x,SqL K H a xs∧xs[i]?=some x,
  fun i H v H'=>∃ T x,H T=none∧v= .ref T∧(∀ xs,SqL K H a xs→xs[i]?=some x)∧H'=upd H T (.tup [.int i,x]),
  fun i H=>∃ xs,SqL K H a xs∧xs.length≤i⟩
theorem Aq {P:Program} {w:World} {K:PySem.W.Frag} {elts:List Expr} {k:Nat} {pos:Pos} {e it a:Addr} (hne:e≠it):
  Turn P w K (.Tuple elts k pos) (UJ K a) [e,it] e (fun i h=>(∃ old,IsEnum h e it i old)∧h.IsListIter it a i) where
 mem:=by simp
 obj:=fun i h st c hc=>by
  obtain ⟨⟨old,he⟩,⟨o1,e1,c1,d1⟩⟩:=st
  simp only [List.mem_cons,List.mem_nil_iff,or_false] at hc
  rcases hc with rfl | rfl
  ·exact ⟨_,he,fun v z=>by cases z⟩
  ·exact ⟨_,e1,fun v z=>by rw [d1] at z;cases z⟩
 keep:=fun i h h' st kk=>by
  obtain ⟨⟨old,he⟩,h1⟩:=st
  exact ⟨⟨old,kk e (by simp) _ he⟩,h1.at fun o q=>kk it (by simp) o q⟩
 item:=by
  intro X hP hw hK hc i pins s σ H E I hf st hg
  subst hP hw hK
  obtain ⟨⟨old,he⟩,h1⟩:=st
  obtain ⟨xs,x,hq,hx⟩:=hg
  obtain ⟨its,rv,p,_⟩:=I.list hq
  obtain ⟨u,hu,ru⟩:=rv.get hx
  refine wpAny_pyNext_enum_item he h1 p.isList (x:=u) (by simpa using hu) hne fun h' a1 a2 a3 a4 hk=>?_
  refine ⟨_,rfl,wpAny_letOwnedTupleGo_enum a1 fun h'' a1' sb=>?_⟩
  have lt:∀ {c o},s.heap.get? c=some o→s.heap.objs.size≠c:=fun e=>Nat.ne_of_gt (Heap.lt_size e)
  have lti:s.heap.objs.size≠it:=by obtain ⟨o,q,_⟩:=h1;exact lt q
  have isT:h''.IsTuple s.heap.objs.size #[.int i s.toks,u]:=⟨_,sb.extBut _ _ (lt he) a3,rfl,_,rfl⟩
  have kall:∀ b o,b ∉ [e,it]→s.heap.get? b=some o→h''.get? b=some o:=fun b o hb q=>by
   simp only [List.mem_cons,List.mem_nil_iff,or_false,not_or] at hb
   exact sb.extBut _ _ hb.1 (hk b o hb.1 hb.2 q)
  have hTn:H s.heap.objs.size=none:=I.hok.fresh (Nat.le_refl _)
  refine ⟨.ref s.heap.objs.size,_,I.newtup (tk:=s.toks+1) hf (Nat.le_refl _) kall isT (xs:=[.int i,x]) (.cons ⟨_,rfl⟩ (.cons ru .nil)) (by simp;decide),rfl,⟨_,x,hTn,rfl,fun zs hs=>by rw [I.list_inj hs hq];exact hx,rfl⟩,?_,fun b hb=>?_⟩
  ·exact ⟨⟨_,a1'⟩,a2.extBut sb.extBut (Ne.symm hne)⟩
  ·have:s.heap.objs.size≠b:=by
    simp only [List.mem_cons,List.mem_nil_iff,or_false] at hb
    rcases hb with rfl | rfl
    ·exact lt he
    ·exact lti
   rw [aB (Ne.symm this)]
   exact (hf b hb).1
 done:=by
  intro X hP hw hK hc i pins s σ H E I hf st hg
  subst hP hw hK
  obtain ⟨⟨old,he⟩,h1⟩:=st
  obtain ⟨xs,hq,hx⟩:=hg
  obtain ⟨its,rv,p,_⟩:=I.list hq
  have l1:=rv.length
  refine wpAny_pyNext_enum_end (I.ok.hd hc) he h1 p.isList (by simp;omega) fun h' hk=>⟨rfl,I.only (tk:=s.toks) hf fun b o hb q=>?_⟩
  simp only [List.mem_cons,List.mem_nil_iff,or_false,not_or] at hb
  exact hk b o hb.2 q
 self:=fun _ _ _ _ _ st h=>let ⟨⟨_,he⟩,_⟩:=st;wpAny_pyIter_enum he h
theorem Ek {X:Cx} {elts:List Expr} {k:Nat} {tp:Pos} {pins:List (Addr×Obj)} {σ:St} {H1:Hp} {s1:Shared} {x:Str} {t:Tok} {R:It→Hp→Prop} (hc:X.calm=true) (I1:Inv X pins σ H1 s1) (q:R (Yo (yI x) x.cps.size) H1):
  wpAny (model X.prog X.w) X.A (call (.type "enumerate") [.str x t]) (fun v s1=>wpAny (model X.prog X.w) X.A (pyIter v) (PIE X pins σ (.Tuple elts k tp) R) X.xe s1) X.xe s1:=by
 refine call_enumerate_str fun h' he hit hsz hk=>?_
 have J1:Inv X pins σ H1 {s1 with heap:=h'}:=I1.kept (t':=s1.toks) hk
 have ne1:s1.heap.objs.size+1≠s1.heap.objs.size:=Nat.succ_ne_self _
 have nm:s1.heap.objs.size+1 ∉ [s1.heap.objs.size]:=fun z=>ne1 (List.mem_singleton.mp z)
 have hPt:∀ (i:Nat) (vals:Array Value),(∃ t y,SignAt x i y∧vals= #[.int i t,y])→Vals (yI x i) vals.toList:=by
  rintro i vals ⟨t,y,⟨c,u,e1,rfl⟩,rfl⟩
  refine .cons ⟨t,rfl⟩ (.cons ⟨u,?_⟩ .nil)
  rw [show x.cps.getD i 0=c by simp [Array.getD_eq_getD_getElem?,e1]]
 have fin:∀ (ty:String) (Dr:∀ A:Around,A.handled=none→Draws X.prog X.w A s1.heap.objs.size [s1.heap.objs.size] x.cps.size (SignAt x) fun i h=>h.IsStrIter s1.heap.objs.size ty x t i),h'.IsStrIter s1.heap.objs.size ty x t 0→
   wpAny (model X.prog X.w) X.A (pyIter (.ref (s1.heap.objs.size+1))) (PIE X pins σ (.Tuple elts k tp) R) X.xe {s1 with heap:=h'}:=by
  intro ty Dr hit'
  have W:∀ A:Around,A.handled=none→WalksT X.prog X.w A (s1.heap.objs.size+1) [s1.heap.objs.size+1,s1.heap.objs.size] [s1.heap.objs.size+1,s1.heap.objs.size] x.cps.size
    (fun i vals=>∃ t y,SignAt x i y∧vals= #[.int i t,y]) (fun i h=>(∃ old,IsEnum h (s1.heap.objs.size+1) s1.heap.objs.size i old)∧h.IsStrIter s1.heap.objs.size ty x t i)
    (fun i T h=>(∃ y,IsEnumOut h (s1.heap.objs.size+1) s1.heap.objs.size ((i:Int)+1) y T)∧h.IsStrIter s1.heap.objs.size ty x t (i+1)∧T≠s1.heap.objs.size+1∧T≠s1.heap.objs.size):=
   fun A hA=>WalksT.enumerateD (Dr A.in1 hA) (s1.heap.objs.size+1) ne1 nm (by simp)
  have hself:∀ (A:Around) (i:Nat) (s:Shared) (Q:Value→Shared→Prop) (E:Value→Shared→Prop),((∃ old,IsEnum s.heap (s1.heap.objs.size+1) s1.heap.objs.size i old)∧s.heap.IsStrIter s1.heap.objs.size ty x t i)→Q (.ref (s1.heap.objs.size+1)) s→wpAny (model X.prog X.w) A (pyIter (.ref (s1.heap.objs.size+1))) Q E s:=by
   rintro A i s Q E ⟨⟨old,he⟩,_⟩ hQ
   exact wpAny_pyIter_enum he hQ
  refine hself _ 0 _ _ _ ⟨⟨_,he⟩,hit'⟩ ?_
  refine ⟨s1.heap.objs.size+1,[s1.heap.objs.size+1,s1.heap.objs.size],_,_,H1,rfl,J1,RW W (fun i=>by simp [yI];decide) hPt (by simp) ?_ hself,⟨⟨_,he⟩,hit'⟩,fun b hb=>?_,q⟩
  ·rintro i h ⟨⟨old,he⟩,o,ho,hcl,hd⟩ b hb
   rcases List.mem_cons.mp hb with rfl | hb
   ·exact ⟨_,he,fun v z=>by cases z⟩
   ·rw [List.mem_singleton.mp hb]
    exact ⟨o,ho,fun v z=>by rw [hd] at z;cases z⟩
  ·have hb':s1.heap.objs.size≤b:=by
    rcases List.mem_cons.mp hb with rfl | hb
    ·exact Nat.le_succ _
    ·rw [List.mem_singleton.mp hb];exact Nat.le_refl _
   exact I1.fpOk hb' (I1.hok.fresh hb')
 cases hx:x.cps.all (· < 128)
 ·exact fin "str_iterator" (fun A hA=>Draws.strWide hA _ x t) (by simpa [strIterType,hx] using hit)
 ·exact fin "str_ascii_iterator" (fun A hA=>Draws.strAscii hA _ x t) (by simpa [strIterType,hx] using hit)
def Qa (K:PySem.W.Frag) (ta:TA):TI:=fun σ H R=>ta σ H fun vs H1=>(∃ x:Str,vs=[.str x]∧R (Yo (yI x) x.cps.size) H1)∨∃ a xs,vs=[.ref a]∧SqL K H1 a xs∧R (UJ K a) H1
theorem wC {X:Cx} {K:PySem.W.Frag} {a:Expr} {ta:TA} {elts:List Expr} {k:Nat} {tp p pos:Pos} (hK:X.K=K) (hc:X.calm=true) (hg:Gl X "enumerate") (hm:X.mg "enumerate"=none) (ha:JA X [a] ta) (h:autoParam (notStar a=true) L2.auto4._auto_1):
  JI X (.Tuple elts k tp) (.Call (.Name "enumerate" p) [a] [] pos) (Qa K ta):=⟨by
 subst hK
 intro pins s σ H R I hq
 refine Call_ (jk I hg hm wg (PyProof.Rows.callWith_type1 (eZ (ha.run pos pins s σ H _ I hq) fun us s1 qq0=>?_) (bV h) rfl))
 obtain ⟨vs,H1,I1,r1,q1⟩:=qq0
 rcases q1 with ⟨x,e,q⟩ | ⟨l,xs,e,hl,q⟩
 ·subst e
  obtain ⟨u,rfl,t,rfl⟩:=vals1 r1
  exact Ek hc I1 q
 ·subst e
  obtain ⟨u,rfl,ru⟩:=vals1 r1
  cases ru
  obtain ⟨its,rv,p1,_⟩:=I1.list hl
  refine call_enumerate_list p1.isList fun h' z1 z2 z3 hk=>?_
  have J1:Inv X pins σ H1 {s1 with heap:=h'}:=I1.kept (t':=s1.toks) hk
  refine wpAny_pyIter_enum z1 ?_
  refine ⟨s1.heap.objs.size+1,_,_,_,H1,rfl,J1,Aq (Nat.succ_ne_self _),⟨⟨_,z1⟩,z2⟩,fun b hb=>?_,q⟩
  have hb':s1.heap.objs.size≤b:=by
   simp only [List.mem_cons,List.mem_nil_iff,or_false] at hb
   have key:∀ n c:Nat,(c=n+1∨c=n)→n≤c:=fun n c h=>by omega
   exact key _ _ hb
  exact I1.fpOk hb' (I1.hok.fresh hb')⟩
end L2
namespace L2
open PySem PySem.Spec PyProof.Rows PySem.SeqAt
mutual
def DR (H:Hp):PyData→V→Prop
 | .none,v=>v= .non
 | .bool b,v=>v= .bl b
 | .int n,v=>v= .int n
 | .str x,v=>v= .str x
 | .list ds,v=>∃ a vs,v= .ref a∧H a=some (.lst vs)∧DRs H ds vs
 | .tuple ds,v=>∃ a vs,v= .ref a∧H a=some (.tup vs)∧DRs H ds vs
 | .dict _,_=>False
def DRs (H:Hp):List PyData→List V→Prop
 | [],vs=>vs=[]
 | d :: ds,vs=>∃ v r,vs=v :: r∧DR H d v∧DRs H ds r
end
mutual
theorem DR.reads {P:Program} {w:World} {H:Hp} {h:Heap} (ok:HOk P w H h):∀ (d:PyData) (v:V) (u:Value),DR H d v→RelV v u→∃ as,Reads h u d as
 | .none,_,u,q,r=>by rw [DR] at q;subst q;cases r;exact ⟨_,.none⟩
 | .bool b,_,u,q,r=>by rw [DR] at q;subst q;cases r;exact ⟨_,.bool _⟩
 | .int n,_,u,q,r=>by rw [DR] at q;subst q;obtain ⟨t,rfl⟩:=r;exact ⟨_,.int _ _⟩
 | .str n,_,u,q,r=>by rw [DR] at q;subst q;obtain ⟨t,rfl⟩:=r;exact ⟨_,.str _ _⟩
 | .list ds,v,u,q,r=>by
  rw [DR] at q
  obtain ⟨a,vs,rfl,e,t⟩:=q
  cases r
  obtain ⟨_,its,n,rv,g⟩:=ok a _ e
  obtain ⟨as,ra⟩:=DRs.reads ok ds vs its t rv
  exact ⟨_,.list g rfl rfl (by simpa using ra)⟩
 | .tuple ds,v,u,q,r=>by
  rw [DR] at q
  obtain ⟨a,vs,rfl,e,t⟩:=q
  cases r
  obtain ⟨_,its,rv,g⟩:=ok a _ e
  obtain ⟨as,ra⟩:=DRs.reads ok ds vs its t rv
  obtain ⟨o,ho,hc,n,hd⟩:=g
  exact ⟨_,.tuple ho hc hd (by simpa using ra)⟩
 | .dict _,_,_,q,_=>by rw [DR] at q;exact q.elim
theorem DRs.reads {P:Program} {w:World} {H:Hp} {h:Heap} (ok:HOk P w H h):∀ (ds:List PyData) (vs:List V) (us:List Value),DRs H ds vs→Vals vs us→∃ as,ReadsAll h us ds as
 | [],_,us,q,r=>by rw [DRs] at q;subst q;cases r;exact ⟨_,.nil⟩
 | d :: ds,_,us,q,r=>by
  rw [DRs] at q
  obtain ⟨v,r',rfl,q1,q2⟩:=q
  cases r with
  | cons a b=>
   obtain ⟨as,h1⟩:=DR.reads ok d v _ q1 a
   obtain ⟨bs,h2⟩:=DRs.reads ok ds r' _ q2 b
   exact ⟨_,.cons h1 h2⟩
end
def VP:R2:=fun x y H Q=>∃ d e,DR H d x∧DR H e y∧shaped d=true∧shaped e=true∧Q (.bl (PyData.eqv d e)) H
def VR:R2:=fun x y H Q=>∃ d e,DR H d x∧DR H e y∧shaped d=true∧shaped e=true∧Q (.bl (!PyData.eqv d e)) H
section
variable {X:Cx}
theorem RZ (hu:X.A.units+64 < cLine):OpR X (compareOp .Eq) VP:=by
 intro pins s σ H x y v u Q I rx ry h
 obtain ⟨d,e,h1,h2,h3,h4,q⟩:=h
 obtain ⟨as,r1⟩:=DR.reads I.hok d x v h1 rx
 obtain ⟨bs,r2⟩:=DR.reads I.hok e y u h2 ry
 exact eq_dataH r1 r2 h3 h4 hu ⟨.bl _,H,I,rfl,q⟩
theorem R0 (hu:X.A.units+64 < cLine):OpR X (compareOp .NotEq) VR:=by
 intro pins s σ H x y v u Q I rx ry h
 obtain ⟨d,e,h1,h2,h3,h4,q⟩:=h
 obtain ⟨as,r1⟩:=DR.reads I.hok d x v h1 rx
 obtain ⟨bs,r2⟩:=DR.reads I.hok e y u h2 ry
 exact ne_dataH r1 r2 h3 h4 hu ⟨.bl _,H,I,rfl,q⟩
def Mi (K:PySem.W.Frag):R2:=fun x y H Q=>RC K x y H Q∨VP x y H Q
def Mj (K:PySem.W.Frag):R2:=fun x y H Q=>VN K x y H Q∨VR x y H Q
theorem R1 {K:PySem.W.Frag} (hK:X.K=K) (hu:X.A.units+64 < cLine):OpR X (compareOp .Eq) (Mi K):=(RK hK (Nat.lt_of_le_of_lt (Nat.le_add_right _ _) hu)).or (RZ hu)
theorem wD {K:PySem.W.Frag} (hK:X.K=K) (hu:X.A.units+64 < cLine):OpR X (compareOp .NotEq) (Mj K):=(RX hK hu).or (R0 hu)
end
section
variable {H:Hp} {Q:VK} {K:PySem.W.Frag} {σ:St}
theorem dg {i j:Int} (h:Q (.bl (decide (V.int i=V.int j))) H):Mi K (.int i) (.int j) H Q:=.inl (.inl ⟨rfl,h⟩)
theorem dh {i j:Str} (h:Q (.bl (decide (V.str i=V.str j))) H):Mi K (.str i) (.str j) H Q:=.inl (.inl ⟨rfl,h⟩)
theorem eN {i j:Int} (h:Q (.bl (!decide (V.int i=V.int j))) H):Mj K (.int i) (.int j) H Q:=.inl (.inl ⟨rfl,h⟩)
theorem eO {i j:Str} (h:Q (.bl (!decide (V.str i=V.str j))) H):Mj K (.str i) (.str j) H Q:=.inl (.inl ⟨rfl,h⟩)
theorem cF {a:TA} {R:It→Hp→Prop} (h:a σ H fun vs H1=>(∃ x:Str,vs=[.str x]∧R (Yo (yI x) x.cps.size) H1)∨∃ a xs,vs=[.ref a]∧SqL K H1 a xs∧R (UJ K a) H1):Qa K a σ H R:=h
theorem qP {a:Addr} {xs:List V} {g:TG} {tb:TS} {D:Ends} (Pv:Nat→St→Hp→Prop) (h0:Pv 0 σ H) (hq:∀ i σ H,i≤xs.length→Pv i σ H→SqL K H a xs)
  (hs:∀ i σ H T x,xs[i]?=some x→Pv i σ H→H T=none→g (.ref T) σ (upd H T (.tup [.int i,x])) fun σ2 H2=>tb {D with nx:=Pv (i+1),ct:=Pv (i+1),bk:=D.nx} σ2 H2) (hd:∀ σ H,Pv xs.length σ H→D.nx σ H):
  ∃ W:Nat→Nat→St→Hp→Prop,(∃ m,W 0 m σ H)∧∀ i m σ H,W i m σ H→
   ((UJ K a).stop i H∧D.nx σ H)∨((UJ K a).go i H∧∃ N:St→Hp→Prop,(∀ σ' H',N σ' H'→∃ m',m' < m∧W (i+1) m' σ' H')∧∀ x H',(UJ K a).yld i H x H'→g x σ H' fun σ2 H2=>tb {D with nx:=N,ct:=N,bk:=D.nx} σ2 H2):=by
 refine ⟨fun i m σ H=>m=xs.length - i∧i≤xs.length∧Pv i σ H,⟨xs.length,by simp,Nat.zero_le _,h0⟩,?_⟩
 rintro i m σ H ⟨rfl,hi,p⟩
 have q1:=hq i σ H hi p
 by_cases hlt:i < xs.length
 ·refine .inr ⟨⟨xs,xs[i],q1,List.getElem?_eq_getElem hlt⟩,Pv (i+1),fun σ' H' p'=>⟨xs.length - (i+1),by omega,rfl,hlt,p'⟩,fun x H' y=>?_⟩
  obtain ⟨T,u,hT,e1,e2,e4⟩:=y
  subst e1 e4
  exact hs i σ H T u (e2 xs q1) p hT
 ·have e:i=xs.length:=by omega
  subst e
  exact .inl ⟨⟨xs,q1,Nat.le_refl _⟩,hd σ H p⟩
end
end L2
namespace L2
open PySem PySem.Spec PyProof.Rows
theorem HX:typeLookup (.type "list_reverseiterator") "__len__"=pure none:=by rw [typeLookup_type,builtinLookup_eq_fast];kernel_rfl
theorem El:typeLookup (.type "list_reverseiterator") "__length_hint__"=pure (some (.builtin "list_reverseiterator.__length_hint__")):=by rw [typeLookup_type,builtinLookup_eq_fast];kernel_rfl
section
variable {prog:Program} {w:World} {A:Around} {E:Value→Shared→Prop} {s:Shared}
theorem HY {it l:Addr} {i:Int} {Q:Bool→Shared→Prop} (hit:s.heap.IsRevIter it l i) (h:Q false s):wpAny (model prog w) A (Builtin.List.listLengthHint (.ref it)) Q E s:=by
 unfold Builtin.List.listLengthHint
 refine wpAny_bind (wpAny_specialOf hit.typeIs HX ?_)
 show wpAny _ _ (specialOf (Value.ref it) (Str.ofString "__length_hint__") >>=_) _ _ _
 refine wpAny_bind (wpAny_specialOf hit.typeIs El ?_)
 generalize hid:("list_reverseiterator.__length_hint__":String)=id0
 wp_delta
 rw [show splitId id0=some ("list_reverseiterator","__length_hint__") from by subst hid;decide+kernel]
 subst hid
 refine wpAny_bind (wpAny_isInstance (T:="list_reverseiterator") (b:=true) hit.typeIs (by rw [isSubtype_type];kernel_rfl) ?_)
 refine wpAny_ite_split (fun hab=>absurd hab (by decide)) (fun _=>?_)
 refine wpAny_ite_split (fun _=>?_) (fun hab=>absurd (by decide+kernel) hab)
 refine wpAny_ite_split (fun hab=>absurd hab (by decide+kernel)) (fun _=>?_)
 exact wpAny_pure h
theorem Ia {it l:Addr} {items:Array Value} {Q:Value→Shared→Prop} (hh:A.handled=none) (hit:s.heap.IsRevIter it l ((items.size:Int) - 1)) (hl:s.heap.IsList l items) (hne:l≠it) (hn:items.size≤sizeLine)
  (hQ:∀ h' tk acc' c',(∀ b o,b≠it→s.heap.get? b=some o→h'.get? b=some o)→h'.get? s.heap.objs.size=some {cls:=.type "list",dict:=none,data:=.seq acc' c',slots:=#[]}→
   ItemsOf (fun i v=>items[items.size - 1 - i]?=some v) acc' items.size→Q (.ref s.heap.objs.size) {s with heap:=h',toks:=tk}):
  wpAny (model prog w) A (call (.type "list") [.ref it]) Q E s:=by
 refine callType_codes (Q₁:=fun obj s₁=>obj= .ref s.heap.objs.size∧s₁={s with heap:=s.heap.push {cls:=.type "list",data:=.seq #[]}}) F.called_list (F.typeCall_list_1 _) F.entry_list_init
  (code_list_new _ ⟨rfl,rfl⟩) fun obj s₁ h₁=>?_
 obtain ⟨rfl,rfl⟩:=h₁
 have iti:it < s.heap.objs.size:=by obtain ⟨o,e,_⟩:=hit;exact Heap.lt_size e
 have itl:l < s.heap.objs.size:=by obtain ⟨o,e,_⟩:=hl;exact Heap.lt_size e
 generalize hS0:s.heap.objs.size=S at iti itl hQ
 have hS:(s.heap.push {cls:=.type "list",data:=.seq #[]}).get? S=some {cls:=.type "list",data:=.seq #[]}:=by rw [← hS0];exact Heap.get?_push_size _ rfl
 have kp:∀ b o,s.heap.get? b=some o→(s.heap.push {cls:=.type "list",data:=.seq #[]}).get? b=some o:=fun b o e=>Heap.get?_push_of_some _ e
 generalize s.heap.push {cls:=.type "list",data:=.seq #[]}=h1 at hS kp
 have hit1:h1.IsRevIter it l ((items.size:Int) - 1):=hit.at fun o e=>kp it o e
 have hl1:h1.IsList l items:=hl.at fun o e=>kp l o e
 refine ⟨⟨_,hS,rfl⟩,F.args_list_init_2 _ _,?_⟩
 have nSi:S≠it:=Nat.ne_of_gt iti
 have nSl:S≠l:=Nat.ne_of_gt itl
 have hSf:S ∉ [it,l]:=by simp [nSi,nSl]
 have W:=(Walks.listRev (prog:=prog) (w:=w) (A:=A.in1.in1) hh it l hne items).toS
 show wpAny _ A.in1.in1 (do let old ← Builtin.List.listItems (.ref S);Builtin.List.listUpdate (.ref S) (fun _=>#[]);letGo old.toList.reverse;Builtin.List.listExtendWith (.ref S) (.ref it) .none) _ _ _
 unfold Builtin.List.listItems
 refine wpAny_bind (wpAny_bind (wpAny_seqItems hS rfl (wpAny_pure ?_)))
 show wpAny _ A.in1.in1 (updateSeq S (fun _=>#[]) >>=fun _=>letGo (#[]:Array Value).toList.reverse >>=fun _=>Builtin.List.listExtendWith (.ref S) (.ref it) .none) _ _ _
 refine wpAny_bind (wpAny_updateSeq hS rfl ?_)
 have hS2:=Heap.get?_update_self (Obj.mapSeq (fun _=>(#[]:Array Value))) hS rfl
 have k2:∀ b o,b≠S→h1.get? b=some o→(h1.update S (Obj.mapSeq (fun _=>(#[]:Array Value)))).get? b=some o:=fun b o hb e=>(Heap.get?_update_other _ _ (Ne.symm hb)).trans e
 generalize h1.update S (Obj.mapSeq (fun _=>(#[]:Array Value)))=h2 at hS2 k2
 have hit2:=hit1.at (h':=h2) fun o e=>k2 it o (Ne.symm nSi) e
 have hl2:=hl1.at (h':=h2) fun o e=>k2 l o (Ne.symm nSl) e
 refine wpAny_bind (wpAny_letGo ?_)
 unfold Builtin.List.listExtendWith
 refine wpAny_bind (wpAny_typeOf (T:="list_reverseiterator") (Heap.IsRevIter.typeIs (s:={s with heap:=h2}) hit2) ?_)
 have e1:Builtin.List.listSameRef (.ref S) (.ref it)=false:=by simp [Builtin.List.listSameRef,nSi]
 have e2:(Value.type "list_reverseiterator" == Value.type "list")=false:=by decide
 have e3:(Value.type "list_reverseiterator" == Value.type "tuple")=false:=by decide
 simp only [e1,e2,e3,Bool.or_false,Bool.false_eq_true,if_false]
 refine wpAny_bind (wpAny_pyIter_revIter (s:={s with heap:=h2}) hit2 ?_)
 refine wpAny_bind (wpAny_holding (HY (s:={s with heap:=h2}) hit2 ?_))
 refine wpAny_ite_split (fun hab=>absurd hab (by decide+kernel)) (fun _=>?_)
 refine wpAny_pure ⟨plainId_quiet F.plain_extend_loop _,?_⟩
 refine codeAny_extend_loopS W hn S hSf .none items.size 0 _ #[] _ rfl (Nat.zero_le _) ⟨Nat.zero_le _,by simpa using hit2,hl2⟩ hS2 (ItemsOf.nil _) fun s' acc' c' hm hS' hacc=>?_
 rw [Moved.eq_with hm]
 refine ⟨rfl,hQ s'.heap s'.toks acc' c' (fun b o hb e=>hm.heap b o (fun hmem=>?_) (k2 b o (fun z=>?_) (kp b o e))) hS' hacc⟩
 ·rcases List.mem_cons.mp hmem with e' | hmem
  ·exact absurd (Heap.lt_size e) (by rw [e',hS0];exact Nat.lt_irrefl _)
  ·exact hb (List.mem_singleton.mp hmem)
 ·exact absurd (Heap.lt_size e) (by rw [z,hS0];exact Nat.lt_irrefl _)
end
end L2
namespace L2
open PySem PySem.Spec PyProof.Rows
section
variable {X:Cx} {K:PySem.W.Frag} {a b c e:Expr} {ta tb tc te:TE} {pos p p2 p3:Pos}
theorem Ml {op op':CmpOp} {r r':R2} (ho:OpR X (compareOp op) r) (ho':OpR X (compareOp op') r') (ha:JE X a ta) (hb:JE X b tb) (hc:JE X c tc) (hm:autoParam (lastMarks [op,op'] [b,c]=false) L2.auto5._auto_1):
  JE X (.Compare a [op,op'] [b,c] pos) (zW r r' ta tb tc):=⟨GQ ho ho' ha.run hb.run hc.run hm⟩
theorem arg1 {Q:List Value→Shared→Prop} {E:Value→Shared→Prop} {s:Shared} (hs:notStar e=true) (h:wpAny (model X.prog X.w) X.A (eval e X.env) (fun u s1=>Q [u] s1) E s):wpAny (model X.prog X.w) X.A (spliced (backTo pos (starEach [e] X.env))) Q E s:=by
 rw [bV hs]
 show wpAny _ _ (spliced ((false,eval e X.env) :: backTo pos (starEach [] X.env))) _ _ s
 exact Calls.spliced_cons (wpAny_mono h (fun u s1 q=>Calls.spliced_nil q) fun _ _ z=>z)
def Ib (K:PySem.W.Frag) (ta:TE):TE:=fun σ H Q=>ta σ H fun x H1=>∃ l xs,x= .ref l∧SqL K H1 l xs∧∀ q,H1 q=none→Q (.ref q) (upd H1 q (.lst xs.reverse))
theorem Em (hK:X.K=K) (hc:X.calm=true) (hg:Gl X "list") (hm:X.mg "list"=none) (hg2:Gl X "reversed") (hm2:X.mg "reversed"=none) (ha:JE X a ta) (h:autoParam (notStar a=true) L2.auto4._auto_1):
  JE X (.Call (.Name "list" p) [.Call (.Name "reversed" p2) [a] [] p3] [] pos) (Ib K ta):=⟨by
 subst hK
 intro pins s σ H Q I hq
 refine wpAny_Call_Name_kw (jk I hg hm lg (PyProof.Rows.callWith_type1 (arg1 rfl (wpAny_Call_Name_kw (jk I hg2 hm2 yw (PyProof.Rows.callWith_type1 (arg1 h (eZ (ha.run pins s σ H _ I hq) fun u s1 qq0=>?_)) (bV h) rfl)))) rfl rfl))
 obtain ⟨x,H1,I1,rx,l,xs,ex,hx,q⟩:=qq0
 subst ex
 cases rx
 obtain ⟨its,r,ht,hz⟩:=I1.list hx
 have hlen:=r.length
 refine call_reversed_list ht.isList ?_
 have lt:l < s1.heap.objs.size:=by obtain ⟨o,ho,_⟩:=ht.isList;exact Heap.lt_size ho
 have e0:(s1.heap.push (PySem.revObj l ((its.toArray.size:Int) - 1))).get? s1.heap.objs.size=some (PySem.revObj l ((its.toArray.size:Int) - 1)):=Heap.get?_push_size _ rfl
 have k0:∀ b o,s1.heap.get? b=some o→(s1.heap.push (PySem.revObj l ((its.toArray.size:Int) - 1))).get? b=some o:=fun b o q=>Heap.get?_push_of_some _ q
 have s0:(s1.heap.push (PySem.revObj l ((its.toArray.size:Int) - 1))).objs.size=s1.heap.objs.size+1:=Heap.size_push ..
 refine Ia (it:=s1.heap.objs.size) (l:=l) (I1.ok.hd hc) ⟨_,e0,rfl,rfl⟩ (ht.isList.at fun o q=>k0 l o q) (Nat.ne_of_lt lt) (by simp;omega) fun h' tk acc' c' hk hS hacc=>?_
 have eacc:acc'.toList=its.reverse:=by
  apply List.ext_getElem?
  intro i
  have a1:acc'.size=its.length:=by have:=hacc.1;simpa using this
  by_cases hi:i < its.length
  ·have hi':i < acc'.size:=by omega
   have a2:=hacc.2 i acc'[i] (Array.getElem?_eq_getElem hi')
   rw [List.getElem?_reverse hi]
   simp at a2
   rw [a2]
   simp [hi']
  ·rw [List.getElem?_eq_none (by simp;omega),List.getElem?_eq_none (by simp;omega)]
 have rr:Vals xs.reverse acc'.toList:=by rw [eacc];exact r.reverse
 have k1:∀ b o,s1.heap.get? b=some o→h'.get? b=some o:=fun b o z=>hk b o (Nat.ne_of_lt (Heap.lt_size z)) (k0 b o z)
 have hle:s1.heap.objs.size≤(s1.heap.push (PySem.revObj l ((its.toArray.size:Int) - 1))).objs.size:=by rw [s0];exact Nat.le_succ _
 refine ⟨.ref _,_,I1.laid (t':=tk) (o:=.lst xs.reverse) k1 hle ⟨by simp;omega,acc'.toList,c',rr,by simpa using hS⟩,rfl,q _ (I1.hok.fresh hle)⟩⟩
end
end L2
namespace L2
open PySem PySem.Spec PyProof.Rows
def En (h:Heap) (T:Addr):Prop:=∃ oT ts,h.get? T=some oT∧oT.data= .fields ts∧3 < ts.size
def gP (C:Addr) (dd:Option Addr) (vs:Array Value):Obj:={cls:=.ref C,dict:=dd,data:=.fields vs}
def Mm (l:List Env):List Addr:=l.filterMap (·.frame)
section
variable {M:Model} {A:Around} {E:Value→Shared→Prop}
theorem vA {base:Heap} {env:Env} {outer:List Env} {L x C:Addr} {dd:Option Addr} {vs:Array Value} {hd:Value} {had:Bool} {Q:Unit→Shared→Prop} {s:Shared}
  (fr:A.frames=some (env :: outer)) (ff:s.heap.FunFrames base (env :: outer)) (fL:env.frame=some L) (ex:s.heap.get? x=some (gP C dd vs)) (sz:1 < vs.size) (nx:x ∉ Mm (env :: outer))
  (k:∀ h' T,h'.get? x=some (gP C dd (vs.setIfInBounds 1 (.ref T)))→s.heap.objs.size≤T→En h' T→(∀ b o,b≠x→b ∉ Mm (env :: outer)→s.heap.get? b=some o→h'.get? b=some o)→
   (∀ b o,b≠x→s.heap.get? b=some o→∃ sl,h'.get? b=some {o with slots:=sl})→Q () {s with heap:=h'}):
  wpAny M A (do let c ← frameOf env;let pl ← entryPlaceOf L had;let t ← EntryCells.newEntry hd c .none (rawInt L) .none pl;setField (.ref x) 1 t) Q E s:=by
 refine wpAny_bind (wpAny_frameOf_fun fr ff fL fun g1 so=>?_)
 refine wpAny_bind (wpAny_entryPlaceOf fun pl isp=>?_)
 unfold EntryCells.newEntry newFields
 refine wpAny_bind (wpAny_newObj_type ?_ (isp.sizeOk5 _ _ _ _ _))
 have x1:g1.get? x=some (gP C dd vs):=(so.2.1 x nx).trans ex
 have lts:([hd,Value.ref L,.none,rawInt L,.none] ++ (if pl.isEmpty then List.replicate 6 Value.none else pl)).toArray.size > 3:=by
  simp only [List.size_toArray,List.length_append,List.length_cons,List.length_nil];omega
 generalize ([hd,Value.ref L,.none,rawInt L,.none] ++ (if pl.isEmpty then List.replicate 6 Value.none else pl)).toArray=tv at lts
 have x2:(g1.push {cls:=.type "traceback",dict:=none,data:=.fields tv}).get? x=some (gP C dd vs):=Heap.get?_push_of_some _ x1
 have nTx:g1.objs.size≠x:=Nat.ne_of_gt (Heap.lt_size x1)
 have t2:(g1.push {cls:=.type "traceback",dict:=none,data:=.fields tv}).get? g1.objs.size=some {cls:=.type "traceback",dict:=none,data:=.fields tv}:=Heap.get?_push_size _ rfl
 have o2:∀ b o,g1.get? b=some o→(g1.push {cls:=.type "traceback",dict:=none,data:=.fields tv}).get? b=some o:=fun b o e=>Heap.get?_push_of_some _ e
 refine wpAny_setField (vs:=vs) x2 rfl sz ?_
 have e3:=Heap.get?_update_self (Obj.mapFields (·.setIfInBounds 1 (Value.ref g1.objs.size))) x2 rfl
 have ot:∀ b,b≠x→((g1.push {cls:=.type "traceback",dict:=none,data:=.fields tv}).update x (Obj.mapFields (·.setIfInBounds 1 (Value.ref g1.objs.size)))).get? b=(g1.push {cls:=.type "traceback",dict:=none,data:=.fields tv}).get? b:=fun b hb=>Heap.get?_update_other _ _ (Ne.symm hb)
 refine k _ g1.objs.size e3 (by rw [so.1];exact Nat.le_refl _) ⟨_,tv,(ot _ nTx).trans t2,rfl,lts⟩ (fun b o hb hf e=>?_) (fun b o hb e=>?_)
 ·rw [ot b hb];exact o2 b o ((so.2.1 b hf).trans e)
 ·obtain ⟨sl,q⟩:=so.2.2 b o e
  exact ⟨sl,by rw [ot b hb];exact o2 b _ q⟩
structure Ck (fs:List Addr) (x C:Addr) (dd:Option Addr) (hd:Option Addr) (h h':Heap) (T:Addr):Prop where
 obj:∃ vs,h'.get? x=some (gP C dd vs)∧vs[1]?=some (.ref T)∧vs[2]?=some .none
 tb:En h' T
 ne:T≠x
 new:h.objs.size≤T∨hd=some T
 keep:∀ b o,b≠x→some b≠hd→b ∉ fs→h.get? b=some o→h'.get? b=some o
 slot:∀ b o,b≠x→some b≠hd→h.get? b=some o→∃ sl,h'.get? b=some {o with slots:=sl}
 tail:∀ b o,hd=some b→h.get? b=some o→∃ o',h'.get? b=some o'
theorem V0 {base:Heap} {env:Env} {outer:List Env} {L x C:Addr} {dd:Option Addr} {vs:Array Value} {Q:Unit→Shared→Prop} {s:Shared}
  (fr:A.frames=some (env :: outer)) (ff:s.heap.FunFrames base (env :: outer)) (fL:env.frame=some L) (ex:s.heap.get? x=some (gP C dd vs)) (h1:vs[1]?=some .none∧vs[2]?=some .none) (nx:x ∉ Mm (env :: outer))
  (k:∀ h' T,Ck (Mm (env :: outer)) x C dd none s.heap h' T→Q () {s with heap:=h'}):wpAny M A (noteFrame (.ref x) env) Q E s:=by
 unfold noteFrame
 simp only [fL]
 refine wpAny_bind (wpAny_field ex rfl h1.1 ?_)
 rw [if_neg (by decide)]
 have sz:1 < vs.size:=(Array.getElem?_eq_some_iff.mp h1.1).1
 refine vA fr ff fL ex sz nx fun h' T a1 a2 a3 a4 a5=>k h' T ⟨⟨_,a1,by simp [sz],by rw [Array.getElem?_setIfInBounds_ne (by decide)];exact h1.2⟩,a3,?_,.inl a2,fun b o hb _ hf e=>a4 b o hb hf e,fun b o hb _ e=>a5 b o hb e,fun b o z=>by cases z⟩
 exact Nat.ne_of_gt (Nat.lt_of_lt_of_le (Heap.lt_size ex) a2)
theorem V1 {base:Heap} {env:Env} {outer:List Env} {L x C T0:Addr} {dd:Option Addr} {vs:Array Value} {Q:Unit→Shared→Prop} {s:Shared}
  (fr:A.frames=some (env :: outer)) (ff:s.heap.FunFrames base (env :: outer)) (fL:env.frame=some L) (ex:s.heap.get? x=some (gP C dd vs)) (h1:vs[1]?=some (.ref T0)∧vs[2]?=some .none) (t0:En s.heap T0) (ne:T0≠x) (nx:x ∉ Mm (env :: outer)) (nT:T0 ∉ Mm (env :: outer))
  (k:∀ h' T,Ck (Mm (env :: outer)) x C dd (some T0) s.heap h' T→Q () {s with heap:=h'}):wpAny M A (noteFrame (.ref x) env) Q E s:=by
 obtain ⟨oT,ts,g,d,l3⟩:=id t0
 unfold noteFrame
 simp only [fL]
 refine wpAny_bind (wpAny_field ex rfl h1.1 ?_)
 rw [if_pos (show (Value.ref T0 != Value.none)=true from by simp)]
 refine wpAny_bind (wpAny_field g d (Array.getElem?_eq_getElem l3) ?_)
 by_cases q:(ts[3] == rawInt L)=true
 ·rw [if_pos q]
  exact wpAny_pure (k _ T0 ⟨⟨vs,ex,h1⟩,t0,ne,.inr rfl,fun b o _ _ _ e=>e,fun b o _ _ e=>⟨o.slots,e⟩,fun b o _ e=>⟨o,e⟩⟩)
 ·rw [if_neg q]
  refine wpAny_bind (wpAny_setField g d l3 ?_)
  have tT:=Heap.get?_update_self (Obj.mapFields (·.setIfInBounds 3 Value.none)) g (Obj.isFreed_of_fields (Obj.data_mapFields d _))
  have ot:∀ b,b≠T0→(s.heap.update T0 (Obj.mapFields (·.setIfInBounds 3 Value.none))).get? b=s.heap.get? b:=fun b hb=>Heap.get?_update_other _ _ (Ne.symm hb)
  have sz:1 < vs.size:=(Array.getElem?_eq_some_iff.mp h1.1).1
  have ff2:(s.heap.update T0 (Obj.mapFields (·.setIfInBounds 3 Value.none))).FunFrames base (env :: outer):=ff.of_keeps fun b o hb hn=>by
   refine ⟨o,(ot b (fun z=>?_)).trans hb,rfl⟩
   rw [z,g] at hb;cases hb;exact hn _ d
  refine vA (s:={s with heap:=s.heap.update T0 (Obj.mapFields (·.setIfInBounds 3 Value.none))}) fr ff2 fL ((ot x (Ne.symm ne)).trans ex) sz nx fun h' T a1 a2 a3 a4 a5=>k h' T ⟨⟨_,a1,by simp [sz],by rw [Array.getElem?_setIfInBounds_ne (by decide)];exact h1.2⟩,a3,?_,.inl (by rw [Heap.size_update] at a2;exact a2),fun b o hb h0 hf e=>a4 b o hb hf ((ot b (fun z=>h0 (by rw [z]))).trans e),fun b o hb h0 e=>a5 b o hb ((ot b (fun z=>h0 (by rw [z]))).trans e),fun b o hb e=>?_⟩
  ·exact Nat.ne_of_gt (Nat.lt_of_lt_of_le (Heap.lt_size ex) (by rw [Heap.size_update] at a2;exact a2))
  ·cases hb
   obtain ⟨sl,z⟩:=a5 T0 _ ne tT
   exact ⟨_,z⟩
theorem V3 {x C T0:Addr} {dd:Option Addr} {vs:Array Value} {Q:Unit→Shared→Prop} {s:Shared} (ex:s.heap.get? x=some (gP C dd vs)) (h1:vs[1]?=some (.ref T0)∧vs[2]?=some .none) (t0:En s.heap T0) (ne:T0≠x)
  (k:∀ h',Ck [] x C dd (some T0) s.heap h' T0→Q () {s with heap:=h'}):wpAny M A (setFlight (.ref x) none) Q E s:=by
 obtain ⟨oT,ts,g,d,l3⟩:=id t0
 unfold setFlight
 refine wpAny_bind (wpAny_field ex rfl h1.1 ?_)
 rw [if_pos (show (Value.ref T0 != Value.none)=true from by simp)]
 refine wpAny_setField g d l3 (k _ ?_)
 have d2:=Obj.data_mapFields d (·.setIfInBounds 3 ((none:Option Addr).elim Value.none fun f=>rawInt f))
 have tT:=Heap.get?_update_self (Obj.mapFields (·.setIfInBounds 3 ((none:Option Addr).elim Value.none fun f=>rawInt f))) g (Obj.isFreed_of_fields d2)
 have ot:∀ b,b≠T0→(s.heap.update T0 (Obj.mapFields (·.setIfInBounds 3 ((none:Option Addr).elim Value.none fun f=>rawInt f)))).get? b=s.heap.get? b:=fun b hb=>Heap.get?_update_other _ _ (Ne.symm hb)
 exact ⟨⟨vs,(ot x (Ne.symm ne)).trans ex,h1⟩,⟨_,_,tT,d2,by simpa using l3⟩,ne,.inr rfl,fun b o _ h0 _ e=>(ot b (fun z=>h0 (by rw [z]))).trans e,fun b o _ h0 e=>⟨o.slots,(ot b (fun z=>h0 (by rw [z]))).trans e⟩,fun b o hb e=>by cases hb;exact ⟨_,tT⟩⟩
end
end L2
namespace L2
open PySem PySem.Spec PyProof.Rows
def Yp:List Value:=[.type "ValueError",.type "Exception",.type "BaseException",.type "object"]
def UL (K:PySem.W.Frag) (D:Addr):Bool:=match K.lookup D with
 | some ⟨.type "type",_,.cls cd,sl⟩=>(match cd.mro,sl.toList with
  | .ref E :: bm,[_,_,_,_,some (.builtin n),_]=>E == D && n == "ValueError.__new__" && cd.hasDel == false && cd.hasDict && PySem.W.tailIn K Yp bm
  | _,_=>false)
 | _=>false
theorem Ar {K:PySem.W.Frag} {D:Addr} (q:UL K D=true):∃ nm qn N bs bm sn sub ab col dd k0 k1 k2 k3 k5,K.lookup D=some (excClassObj nm qn D N bs bm true sn sub ab col dd k0 k1 k2 k3 k5 "ValueError.__new__")∧∀ h,K.In h→OwnTail h Yp bm:=by
 unfold UL at q
 split at q
 ·rename_i dd cd sl ho
  split at q
  ·rename_i D' bm k0 k1 k2 k3 n k5 hm hs
   simp only [Bool.and_eq_true,beq_iff_eq] at q
   obtain ⟨⟨⟨⟨e1,e2⟩,e3⟩,e4⟩,e5⟩:=q
   subst e1 e2
   obtain ⟨nm,bs,mro,ns,qn,hd,sn,sub,ab,col,del⟩:=cd
   dsimp only at hm e3 e4
   subst hm e3 e4
   have hsl:sl= #[k0,k1,k2,k3,some (.builtin "ValueError.__new__"),k5]:=by
    obtain ⟨l⟩:=sl
    dsimp only at hs
    rw [hs]
   subst hsl
   exact ⟨nm,qn,ns,bs,bm,sn,sub,ab,col,dd,k0,k1,k2,k3,k5,ho,fun h X=>PySem.W.tail_of_in X e5⟩
  ·cases q
 ·cases q
section
variable {prog:Program} {w:World} {A:Around} {K:PySem.W.Frag} {D f:Addr} {E:Value→Shared→Prop}
theorem yJ {h:Heap} {g:Array GenState} {d:Drawn} {t:Nat} {os:OsState} {us:List Value} {Q:Fin→Shared→Prop} (X:K.In h) (hx:UL K D=true)
  (hi:PySem.W.findIn K (.ref D) "__init__"=some (some (.ref f))) (hf:PySem.W.typeIn K (.ref f)=some (.type "function")) (hl:us.length≤sizeLine)
  (k:wpAny (model prog w) A (call (.ref f) (.ref (h.objs.size+1) :: us)) (fun r s'=>r= .none∧Q (.done (.ret (.ref (h.objs.size+1)))) s') E
   ⟨(h.push {cls:=.type "tuple",data:=.seq us.toArray}).push (gP D none #[.ref h.objs.size,.none,.none,.none,.bool false,.none]),g,d,t,os⟩):
  wpAny (model prog w) A (Builtin.«type.__call__» ⟨.ref D :: us,[]⟩) Q E ⟨h,g,d,t,os⟩:=by
 obtain ⟨nm,qn,N,bs,bm,sn,sub,ab,col,dd,k0,k1,k2,k3,k5,lk0,tl⟩:=Ar hx
 have T:=tl h X
 have hD:=X _ _ lk0
 have L3:=PySem.W.looks_findIn (M:=model prog w) X hi
 have L4:=PySem.W.bind_fn (M:=model prog w) X (.ref (h.objs.size+1)) hf
 repeat (first | with_reducible refine wpAny_loadPart_at hD ?_ | with_reducible refine wpAny_madeBy_exc hD ?_ | wp_step)
 refine codeAny_call_builtin_code (Code.quiet_builtin _ F.excBase_ValueError.quiet) (wpAny_check_new_subT F.excBase_ValueError T hD (codeAny_exc_new_subT F.excBase_ValueError T hD ?_ hl))
 show wpAny _ _ _ _ _ _
 have keep:∀ b o,h.get? b=some o→((h.push {cls:=.type "tuple",data:=.seq us.toArray}).push (gP D none #[.ref h.objs.size,.none,.none,.none,.bool false,.none])).get? b=some o:=fun b o q=>Heap.get?_push_of_some _ (Heap.get?_push_of_some _ q)
 have gx:((h.push {cls:=.type "tuple",data:=.seq us.toArray}).push (gP D none #[.ref h.objs.size,.none,.none,.none,.bool false,.none])).get? (h.objs.size+1)=some (gP D none #[.ref h.objs.size,.none,.none,.none,.bool false,.none]):=by
  have:=Heap.get?_push_size (h.push {cls:=.type "tuple",data:=.seq us.toArray}) (o:=gP D none #[.ref h.objs.size,.none,.none,.none,.bool false,.none]) rfl
  rwa [Heap.size_push] at this
 have hD1:=keep _ _ hD
 have M3:=L3.keeps keep
 have M4:=L4.keeps keep
 have cD:(Value.ref D :: bm).contains (.ref D)=true:=by simp
 unfold gP at gx M3 M4 hD1 k
 unfold isInstance
 repeat (first | with_reducible refine wpAny_loadPart_at gx ?_ | (with_reducible refine wpAny_isSubtype_exc hD1 ?_;rw [cD]) | wp_step)
 show wpAny _ _ (typeLookup (.ref D) _) _ _ _
 refine M3.at ?_
 refine wpAny_holding (wpAny_bind (M4.at ?_))
 dsimp only
 refine wpAny_bind (wpAny_mono k (fun r s' hr=>?_) fun _ _ z=>z)
 obtain ⟨rfl,z⟩:=hr
 wp_walk
 exact z
theorem R3 {s:Shared} {us:List Value} {Q:Value→Shared→Prop} (X:K.In s.heap) (hx:UL K D=true)
  (hi:PySem.W.findIn K (.ref D) "__init__"=some (some (.ref f))) (hf:PySem.W.typeIn K (.ref f)=some (.type "function")) (hl:us.length≤sizeLine)
  (k:wpAny (model prog w) (A.under (.builtin "type.__call__" ⟨.ref D :: us,[]⟩)) (call (.ref f) (.ref (s.heap.objs.size+1) :: us)) (fun r s'=>r= .none∧Q (.ref (s.heap.objs.size+1)) s') E
   {s with heap:=(s.heap.push {cls:=.type "tuple",data:=.seq us.toArray}).push (gP D none #[.ref s.heap.objs.size,.none,.none,.none,.bool false,.none])}):
  wpAny (model prog w) A (call (.ref D) us) Q E s:=by
 obtain ⟨h,g,d,t,os⟩:=s
 obtain ⟨nm,qn,N,bs,bm,sn,sub,ab,col,dd,k0,k1,k2,k3,k5,lk0,tl⟩:=Ar hx
 have hD:=X _ _ lk0
 have f1:=tc_lookup
 have f2:=tc_bind (.ref D)
 have hT:(⟨h,g,d,t,os⟩:Shared).TypeIs (.ref D) "type":=⟨_,hD,rfl⟩
 refine wpAny_call (codeAny_of_tree ?_)
 show wpAny _ _ (callAny (.ref D) _) _ _ _
 repeat (any_goals (first | assumption | with_reducible refine wpAny_loadPart_at hD ?_ | wp_step))
 refine ⟨rfl,codeAny_call_builtin_at (Code.quiet_builtin _ (by decide+kernel)) entry_typeCall (wpAny_check_type_call_sub hD (yJ X hx hi hf hl ?_))⟩
 exact k
end
end L2
namespace L2
open PySem PySem.Spec PyProof.Rows
def rZ (x C dx:Addr):HO:=.ext fun h=>∃ vs,h.get? x=some (gP C (some dx) vs)∧vs[2]?=some .none
def kh (x C:Addr):HO:=.ext fun h=>∃ t,h.get? x=some (gP C none #[.ref t,.none,.none,.none,.bool false,.none])
theorem Cm {P:Program} {w:World} {H:Hp} {h:Heap} {x C dx:Addr} {vs:Array Value} (e:h.get? x=some (gP C (some dx) vs)) (h2:vs[2]?=some .none):ObjOk P w H h x (rZ x C dx):=
 ⟨⟨vs,e,h2⟩,⟨_,e⟩,fun h1 h2 ⟨vs,e,z⟩ k=>⟨vs,k _ e,z⟩⟩
theorem Mq {P:Program} {w:World} {H:Hp} {h:Heap} {x C dx:Addr} (ok:HOk P w H h) (e:H x=some (rZ x C dx)):∃ vs,h.get? x=some (gP C (some dx) vs)∧vs[2]?=some .none:=(ok _ _ e).1
structure Head (X:Cx) (pins:List (Addr×Obj)) (H:Hp) (x C dx T:Addr) (h:Heap):Prop where
 obj:∃ vs,h.get? x=some (gP C (some dx) vs)∧vs[1]?=some (.ref T)∧vs[2]?=some .none
 tb:En h T
 fp:kY X pins H T
 tr:H x=some (rZ x C dx)
theorem Head.ne {X:Cx} {pins:List (Addr×Obj)} {H:Hp} {x C dx T:Addr} {h:Heap} (a:Head X pins H x C dx T h):T≠x:=fun z=>by
 have:=a.fp.1
 rw [z,a.tr] at this;cases this
def Fly (X:Cx) (pins:List (Addr×Obj)) (H:Hp) (x C dx:Addr) (h:Heap):Prop:=
 H x=some (rZ x C dx)∧((∃ vs,h.get? x=some (gP C (some dx) vs)∧vs[1]?=some .none∧vs[2]?=some .none)∨∃ T,Head X pins H x C dx T h)
section
variable {X:Cx} {pins:List (Addr×Obj)} {σ:St} {H:Hp} {s:Shared} {x C dx:Addr} {h':Heap} {T:Addr} {hd:Option Addr}
theorem Inv.noted {fs:List Addr} (I:Inv X pins σ H s) (hx:H x=some (rZ x C dx)) (hh:∀ b,hd=some b→kY X pins H b) (hf:∀ b∈fs,b∈X.env.locals :: X.fs) (N:Ck fs x C (some dx) hd s.heap h' T):Inv X pins σ H {s with heap:=h'}:=by
 obtain ⟨m,⟨oL,esL,epL,hoL,rL⟩,_⟩:=id I.loc
 have fsF:∀ b∈fs,H b=none:=fun b hb=>by
  rcases List.mem_cons.mp (hf b hb) with e | hb
  ·rw [e];exact I.free
  ·obtain ⟨_,o,ho,_⟩:=I.ok.funs.mem hb
   exact I.base.free b o ho (I.ok.frf b hb) fun z=>I.ok.exfs b z hb
 have nx:∀ b,H b=none→b≠x:=fun b n z=>by rw [z,hx] at n;cases n
 have hdF:∀ b,hd=some b→H b=none:=fun b e=>(hh b e).1
 have mem:∀ b,b ∉ hd.toList→some b≠hd:=fun b nb z=>nb (by rw [← z];simp)
 refine I.step (g':=s.gens) (d':=s.drawn) (t':=s.toks) (ch:=hd.toList) (fun b hb=>?_) (fun b o hL hb hc e n=>?_) (fun b o hL hb hc e n=>?_) (fun _ _ _ _ n=>n) (fun b o hc e=>?_) (fun _ _ e=>e) (fun _ _ _ e=>e) (fun b ps e=>⟨#[],by rw [e];simp⟩) (fun m hm=>?_) (fun b u e=>?_) I.bare
 ·have e:hd=some b:=by cases hd <;> simp_all
  obtain ⟨_,a2,_,a4,a5,a6⟩:=hh b e
  exact ⟨a4,a2,a5,a6⟩
 ·refine N.keep b o (nx b n) (mem b hc) (fun z=>?_) e
  rcases List.mem_cons.mp (hf b z) with q | q
  ·exact hL q
  ·exact hb q
 ·exact N.slot b o (nx b n) (mem b hc) e
 ·by_cases q:b=x
  ·obtain ⟨vs,z,_⟩:=N.obj
   exact ⟨_,by rw [q];exact z⟩
  ·obtain ⟨sl,z⟩:=N.slot b o q (mem b hc) e
   exact ⟨_,z⟩
 ·obtain ⟨o,es,ep,ho,r⟩:=hm
  obtain ⟨sl,z⟩:=N.slot _ o (nx _ I.free) (fun q=>(hh _ q.symm).2.1 rfl) ho
  exact ⟨_,es,ep,z,r⟩
 ·by_cases q:b=x
  ·subst q
   rw [hx] at e;cases e
   obtain ⟨vs,z,_,z2⟩:=N.obj
   exact Cm z z2
  ·refine (I.hok b u e).stay (fun c v hc z=>?_) (fun _ q=>q) fun _ _ q=>q
   have tc:∃ u,H c=some u:=by
    rcases hc with rfl | hc
    ·exact ⟨_,e⟩
    ·exact ⟨_,hc⟩
   obtain ⟨uc,tc⟩:=tc
   refine N.keep c v (fun zz=>?_) (fun zz=>?_) (fun zz=>?_) z
   ·rcases hc with rfl | hc
    ·exact q zz
    ·rw [zz,hx] at hc;cases hc
   ·rw [hdF c zz.symm] at tc;cases tc
   ·rw [fsF c zz] at tc;cases tc
theorem Ie {A:Around} {E:Value→Shared→Prop} {Q:Unit→Shared→Prop} (I:Inv X pins σ H s) (hst:X.stack=X.env :: X.outer) (hfr:X.env.frame=some X.env.locals) (hA:A.frames=some X.stack) (F:Fly X pins H x C dx s.heap)
  (k:∀ h' T,Inv X pins σ H {s with heap:=h'}→Head X pins H x C dx T h'→Q () {s with heap:=h'}):wpAny (model X.prog X.w) A (noteFrame (.ref x) X.env) Q E s:=by
 have ff:s.heap.FunFrames X.base (X.env :: X.outer):=hst ▸ I.stack
 have sub:∀ b∈Mm (X.env :: X.outer),b∈X.env.locals :: X.fs:=fun b hb=>I.stkSub b (by rw [hst];exact hb)
 have nf:∀ b u,H b=some u→b ∉ Mm (X.env :: X.outer):=fun b u e z=>by
  rw [I.stkFree b (by rw [hst];exact z)] at e;cases e
 obtain ⟨hx,⟨vs,e,h1⟩ | ⟨T0,hT⟩⟩:=F
 ·refine V0 (hst ▸ hA) ff hfr e h1 (nf x _ hx) fun h' T N=>?_
  have J:=I.noted hx (fun b z=>by cases z) sub N
  refine k h' T J ⟨N.obj,N.tb,?_,hx⟩
  have zT:s.heap.objs.size≤T:=by rcases N.new with z | z;exact z;cases z
  exact I.fpOk zT (I.hok.fresh zT)
 ·obtain ⟨vs,e,h1⟩:=hT.obj
  refine V1 (hst ▸ hA) ff hfr e h1 hT.tb hT.ne (nf x _ hx) (fun z=>?_) fun h' T N=>?_
  ·rcases List.mem_cons.mp (sub T0 z) with q | q
   ·exact hT.fp.2.1 q
   ·exact hT.fp.2.2.1 q
  ·have J:=I.noted hx (fun b z=>by cases z;exact hT.fp) sub N
   refine k h' T J ⟨N.obj,N.tb,?_,hx⟩
   rcases N.new with z | z
   ·exact I.fpOk z (I.hok.fresh z)
   ·cases z;exact hT.fp
theorem Ig {A:Around} {E:Value→Shared→Prop} {Q:Unit→Shared→Prop} (I:Inv X pins σ H s) (F:Head X pins H x C dx T s.heap)
  (k:∀ h',Inv X pins σ H {s with heap:=h'}→Head X pins H x C dx T h'→Q () {s with heap:=h'}):wpAny (model X.prog X.w) A (setFlight (.ref x) none) Q E s:=by
 obtain ⟨vs,e,h1⟩:=F.obj
 refine V3 e h1 F.tb F.ne fun h' N=>?_
 exact k h' (I.noted F.tr (fun b z=>by cases z;exact F.fp) (fun b z=>absurd z (by simp)) N) ⟨N.obj,N.tb,F.fp,F.tr⟩
def Ih (P:Program) (w:World):DK:=fun outer H s E e s'=>∃ x C dx T H',e= .ref x∧s'.os=s.os∧AllBare s'.gens∧Un (frs outer) [] H H' s.heap s'.heap∧HOk P w H' s'.heap∧H' x=some (rZ x C dx)∧H' T=none∧s.heap.objs.size≤T∧
 (∃ vs,s'.heap.get? x=some (gP C (some dx) vs)∧vs[1]?=some (.ref T)∧vs[2]?=some .none)∧En s'.heap T∧E (.ref C) (some x) H'
def XE (X:Cx) (pins:List (Addr×Obj)) (R:St→XK) (e:Value) (s':Shared):Prop:=∃ x C dx σ H',e= .ref x∧Inv X pins σ H' s'∧Fly X pins H' x C dx s'.heap∧R σ (.ref C) (some x) H'
theorem Cp {R:St→XK} {e:Value} {s':Shared} (I:Inv X pins σ H s) (c:Ih X.prog X.w X.stack H s (R σ) e s'):XE X pins R e s':=by
 obtain ⟨x,C,dx,T,H',rfl,os,bare,un,hok,tx,tT,zT,ob,tb,r⟩:=c
 obtain ⟨hh,g,d,t,os'⟩:=s'
 obtain rfl:os'=s.os:=os
 have J:=I.call (h':=hh) (g':=g) (d':=d) (t':=t) (ch:=[]) un hok bare (fun b z=>absurd z (by simp))
 exact ⟨x,C,dx,σ,H',rfl,J,⟨tx,.inr ⟨T,ob,tb,I.fpOk zT tT,tx⟩⟩,r⟩
def nJ (X:Cx) (R:St→XK):Prop:=∀ (pins:List (Addr×Obj)) (e:Value) (s':Shared),XE X pins R e s'→X.xe e s'
end
theorem bM {P:Program} {w:World} {K:PySem.W.Frag} {mg:Str→Option Value} {base:Heap} {N:List Str} {qual:Str} {scope:Scope} {f:Addr} {cd:Value} {A:Around} {outer:List Env} {s:Shared} {H:Hp} {E:XK}:
  nJ (oR (Ih P w) P w K mg base N qual scope f cd A outer s H E) (fun _=>E):=by
 rintro pins e s' ⟨x,C,dx,σ,H',he,I,F,r⟩
 subst he
 show wpAny _ _ (leaving _ _) _ _ _
 unfold leaving
 refine wpAny_bind (Ie (X:=oR (Ih P w) P w K mg base N qual scope f cd A outer s H E) I rfl rfl I.ok.frames F fun h1 T J1 F1=>?_)
 refine Ig (X:=oR (Ih P w) P w K mg base N qual scope f cd A outer s H E) J1 F1 fun h2 J2 F2=>?_
 refine ⟨x,C,dx,T,H',rfl,J2.os,J2.bare,J2.base,J2.hok,F2.tr,F2.fp.1,?_,F2.obj,F2.tb,r⟩
 rcases F2.fp.2.2.2.1 with z | z
 ·exact absurd (show T∈([]:List Addr) from z) (by simp)
 ·exact z
end L2
namespace L2
open PySem PySem.Spec PyProof.Rows
def mJ (d:Addr) (fs:List (Str×V)):HO:=.ext fun h=>∃ mA,h.Ns1 d mA∧∀ f,RelO (fs.lookup f) (mA f)
theorem wF {P:Program} {w:World} {H:Hp} {h:Heap} {d:Addr} {fs:List (Str×V)} {mA:Str→Option Value} (n:h.Ns1 d mA) (r:∀ f,RelO (fs.lookup f) (mA f)):ObjOk P w H h d (mJ d fs):=by
 refine ⟨⟨mA,n,r⟩,let ⟨o,_,_,e,_⟩:=n;⟨o,e⟩,fun h1 h2 ⟨m,n,r⟩ k=>⟨m,?_,r⟩⟩
 obtain ⟨o,es,ep,e,q⟩:=n
 exact ⟨o,es,ep,k _ e,q⟩
theorem wG {P:Program} {w:World} {H:Hp} {h:Heap} {d:Addr} {fs:List (Str×V)} (ok:HOk P w H h) (e:H d=some (mJ d fs)):∃ mA,h.Ns1 d mA∧∀ f,RelO (fs.lookup f) (mA f):=(ok _ _ e).1
def ir (x C d:Addr):HO:=.ext fun h=>∃ t,h.get? x=some (gP C (some d) #[.ref t,.none,.none,.none,.bool false,.none])
theorem Eo {P:Program} {w:World} {H:Hp} {h:Heap} {x C d t:Addr} (e:h.get? x=some (gP C (some d) #[.ref t,.none,.none,.none,.bool false,.none])):ObjOk P w H h x (ir x C d):=
 ⟨⟨t,e⟩,⟨_,e⟩,fun h1 h2 ⟨t,e⟩ k=>⟨t,k _ e⟩⟩
theorem qQ {P:Program} {w:World} {H:Hp} {h:Heap} {x C d:Addr} (ok:HOk P w H h) (e:H x=some (ir x C d)):∃ t,h.get? x=some (gP C (some d) #[.ref t,.none,.none,.none,.bool false,.none]):=(ok _ _ e).1
def gY:List Value→Bool
 | [.type a,.type b,.type c,.type d]=>a == "ValueError" && b == "Exception" && c == "BaseException" && d == "object"
 | .ref _ :: r=>gY r
 | _=>false
theorem rG {l:List Value} (e:gY l=true):(∃ a r,l= .ref a :: r∧gY r=true)∨l=Yp:=by
 unfold gY at e
 split at e
 ·simp only [Bool.and_eq_true,beq_iff_eq] at e
  obtain ⟨⟨⟨rfl,rfl⟩,rfl⟩,rfl⟩:=e
  exact .inr rfl
 ·exact .inl ⟨_,_,rfl,e⟩
 ·cases e
theorem rH (self:Value):∀ (l:List Value),gY l=true→refuseLoop self "__setattr__" l=pure ()
 | [],e=>by cases e
 | v :: r,e=>by
  rcases rG e with ⟨a,r',q,e'⟩ | q
  ·cases q
   rw [refuseLoop_ref]
   exact rH self r e'
  ·rw [q]
   exact F.store_ValueError.passes self
theorem t7:∀ (l:List Value),gY l=true→l.contains (.type "object")=true∧l.contains (.type "BaseException")=true
 | [],e=>by cases e
 | v :: r,e=>by
  rcases rG e with ⟨a,r',q,e'⟩ | q
  ·cases q
   obtain ⟨h1,h2⟩:=t7 r e'
   exact ⟨by rw [List.contains_cons,h1,Bool.or_true],by rw [List.contains_cons,h2,Bool.or_true]⟩
  ·rw [q]
   decide
def R4 (K:PySem.W.Frag) (C:Addr):Bool:=UL K C && (PySem.W.clsIn K C).any (fun cd=>gY cd.mro && cd.hasDict) && PySem.W.findIn K (.ref C) "__setattr__" == some (some (.builtin "object.__setattr__")) &&
 PySem.W.findIn K (.ref C) "__getattribute__" == some (some (.builtin "BaseException.__getattribute__")) && PySem.W.findIn K (.ref C) "__getattr__" == some none
structure XCls (K:PySem.W.Frag) (C:Addr):Prop where
 xi:UL K C=true
 ov:∃ cd,PySem.W.clsIn K C=some cd∧gY cd.mro=true∧cd.hasDict=true
 sa:PySem.W.findIn K (.ref C) "__setattr__"=some (some (.builtin "object.__setattr__"))
 ga:PySem.W.findIn K (.ref C) "__getattribute__"=some (some (.builtin "BaseException.__getattribute__"))
 gh:PySem.W.findIn K (.ref C) "__getattr__"=some none
theorem Mr {K:PySem.W.Frag} {C:Addr} (h:R4 K C=true):XCls K C:=by
 unfold R4 at h
 simp only [Bool.and_eq_true,beq_iff_eq] at h
 obtain ⟨⟨⟨⟨h1,h2⟩,h3⟩,h4⟩,h5⟩:=h
 obtain ⟨cd,a,b⟩:=PySem.W.any_some h2
 simp only [Bool.and_eq_true] at b
 exact ⟨h1,⟨cd,a,b.1,b.2⟩,h3,h4,h5⟩
theorem Ms {l:List Value} (e:gY l=true):l.isEmpty=false:=by
 cases l with
 | nil=>cases e
 | cons _ _=>rfl
section
variable {prog:Program} {w:World} {A:Around} {s:Shared} {K:PySem.W.Frag} {x C:Addr} {R:Result→Shared→Prop}
theorem XCls.mro {c:Value} {b:Bool} (k:XCls K C) (h:∀ cd,PySem.W.clsIn K C=some cd→gY cd.mro=true→cd.mro.contains c=b):PySem.W.mroIn K C c=some b:=by
 obtain ⟨cd,a,o,_⟩:=k.ov
 unfold PySem.W.mroIn
 rw [a,Option.bind_some,if_neg (by rw [Ms o];decide),h cd a o]
theorem XCls.isObj (k:XCls K C):PySem.W.mroIn K C (.type "object")=some true:=k.mro fun cd _ o=>(t7 _ o).1
theorem XCls.isExc (k:XCls K C):PySem.W.mroIn K C (.type "BaseException")=some true:=k.mro fun cd _ o=>(t7 _ o).2
theorem Qc {ox:Obj} {od:Option Obj} {name:Str} {tk:Tok} {v:Value} (X:K.In s.heap) (I:PySem.W.InstAt s.heap x ox C od) (c:XCls K C) (ht:NoAttr K C name)
  (h:wpAny (model prog w) A.in1 (Builtin.ObjectAttr.storeInOwnDict (.ref x) (.ref C) (.str name tk) name v false)
   (fun fin s'=>match fin with | .done f=>R (.ok f) s' | .again c'=>c'.quiet=true∧codeAny (model prog w) A c' R s') (fun e s'=>R (.error e) s') s):
  codeAny (model prog w) A (.call (.builtin "object.__setattr__") ⟨[.ref x,.str name tk,v],[]⟩) R s:=by
 obtain ⟨cd,hc,ho,_⟩:=c.ov
 have sub:PySem.W.Looks (model prog w) s.heap (isInstance (.ref x) (.type "object")) true:=I.type.andThen (PySem.W.looks_mroIn X c.isObj)
 refine codeAny_call_builtin F.store_object.slot.plain F.store_object.entry (@PySem.W.check_slot (model prog w) _ _ s "object.__setattr__" "object" "__setattr__" (.ref x) [.str name tk,v] [] _ F.store_object.kind F.store_object.split sub (F.store_object.args (.ref x) (.str name tk) v) ?_)
 have hm:PySem.W.Looks (model prog w) s.heap (mroOf (.ref C)) cd.mro:=(PySem.W.looks_clsIn X hc).andThen .now
 have L3:PySem.W.Looks (model prog w) s.heap (Builtin.ObjectAttr.storeTaker? none) none:=.now
 rw [PySem.W.osa_eq,refuse_eq]
 refine wpAny_bind (wpAny_bind (I.type.here (wpAny_bind (hm.here ?_))))
 rw [rH _ _ ho]
 refine wpAny_pure (wpAny_bind (I.type.here (wpAny_bind ((PySem.W.looks_findIn X ht).here (wpAny_bind (L3.here ?_))))))
 exact h
end
theorem Ii {H:Hp} {d x:Addr} {a b c:HO} (n:d≠x):upd (upd (upd H d a) x b) d c=upd (upd H x b) d c:=by
 funext y
 unfold upd
 by_cases h:y=d
 ·simp [h]
 ·simp [h]
section
variable {X:Cx} {pins:List (Addr×Obj)} {σ:St} {H:Hp} {s:Shared} {x C d:Addr} {fs:List (Str×V)} {f:Str} {v y:V} {u:Value} {A:Around} {E:Value→Shared→Prop}
theorem V4 {Q:Unit→Shared→Prop} (I:Inv X pins σ H s) (e:H x=some (kh x C)) (c:XCls X.K C) (n:NoAttr X.K C f) (ry:RelV y u)
  (h:∀ s' d,H d=none→d≠x→Inv X pins σ (upd (upd H x (ir x C d)) d (mJ d [(f,y)])) s'→Q () s'):wpAny (model X.prog X.w) A (setAttr (.ref x) f u) Q E s:=by
 obtain ⟨⟨t,hx⟩,-,-⟩:ObjOk X.prog X.w H s.heap x (kh x C):=I.hok x _ e
 obtain ⟨cd,hc,ho,hd⟩:=c.ov
 have J:PySem.W.InstAt s.heap x (gP C none #[.ref t,.none,.none,.none,.bool false,.none]) C none:=⟨hx,rfl,rfl,True.intro⟩
 refine PySem.W.set_plain I.kIn J c.sa (Qc (s:={s with toks:=s.toks+1}) I.kIn J c n ?_)
 refine wpAny_bind (wpAny_pure (wpAny_bind (wpAny_bind (wpAny_loadPart hx (wpAny_bind ((PySem.W.looks_clsIn (M:=model X.prog X.w) I.kIn hc).here (s:={s with toks:=s.toks+1}) ?_))))))
 rw [hd]
 have hp:s.heap.objs.size≠x:=Nat.ne_of_gt (Heap.lt_size hx)
 have hx1:(s.heap.push {cls:=.type "dict",data:=.dict #[]}).get? x=some (gP C none #[.ref t,.none,.none,.none,.bool false,.none]):=Heap.get?_push_of_some _ hx
 have d1:(s.heap.push {cls:=.type "dict",data:=.dict #[]}).get? s.heap.objs.size=some {cls:=.type "dict",data:=.dict #[]}:=Heap.get?_push_size _ rfl
 have n1:∀ {hh:Heap},hh.get? s.heap.objs.size=some {cls:=.type "dict",data:=.dict #[]}→hh.Ns1 s.heap.objs.size (fun _=>none):=fun q=>Heap.Ns1.of_empty ⟨_,#[],_,q,rfl,fun e he=>absurd he (by simp),fun _=>rfl⟩
 have I1:Inv X pins σ (upd H s.heap.objs.size (mJ s.heap.objs.size [])) {s with heap:=s.heap.push {cls:=.type "dict",data:=.dict #[]},toks:=s.toks+1}:=
  I.laid (t':=s.toks+1) (fun b o q=>Heap.get?_push_of_some _ q) (Nat.le_refl _) (wF (n1 d1) fun g=>True.intro)
 refine wpAny_bind (wpAny_alloc' ?_)
 refine wpAny_bind (wpAny_update' hx1 ?_)
 have hx2:=Heap.get?_update_self (fun o:Obj=>({o with dict:=some s.heap.objs.size}:Obj)) hx1 rfl
 have ot:∀ b,b≠x→((s.heap.push {cls:=.type "dict",data:=.dict #[]}).update x fun o=>{o with dict:=some s.heap.objs.size}).get? b=(s.heap.push {cls:=.type "dict",data:=.dict #[]}).get? b:=fun b hb=>Heap.get?_update_other _ _ (Ne.symm hb)
 have e1:upd H s.heap.objs.size (mJ s.heap.objs.size []) x=some (kh x C):=(aB (Ne.symm hp)).trans e
 have I2:Inv X pins σ (upd (upd H s.heap.objs.size (mJ s.heap.objs.size [])) x (ir x C s.heap.objs.size)) {s with heap:=(s.heap.push {cls:=.type "dict",data:=.dict #[]}).update x fun o=>{o with dict:=some s.heap.objs.size},toks:=s.toks+1}:=
  I1.write (t':=s.toks+1) (x:=x) (e:=x) (by rw [e1];exact True.intro) (.inl rfl) (fun b o hb q=>(ot b hb).trans q) ⟨_,hx2⟩ (Eo hx2)
 refine wpAny_pure (wpAny_bind (wpAny_pure (wpAny_bind ?_)))
 refine wpAny_nsSet1 (n1 ((ot _ hp).trans d1)) fun h' hn' hs=>?_
 obtain ⟨oD,esD,epD,hoD,hdD,hcD⟩:=hn'.count (PySem.Within.cons f u PySem.Within.nil)
 refine wpAny_bind (wpAny_lookBehind hoD (by rw [hdD];exact pastItsLine_dict (Nat.le_trans hcD (by rw [List.length_cons,List.length_nil,sizeLine_eq];omega))) ?_)
 refine wpAny_pure (h _ s.heap.objs.size (I.hok.fresh (Nat.le_refl _)) hp ?_)
 rw [← Ii (a:=mJ s.heap.objs.size []) hp]
 refine I2.write (x:=s.heap.objs.size) (e:=s.heap.objs.size) (by rw [aB hp,aj];exact True.intro) (.inl rfl) (fun b o hb q=>(hs.2 b hb).trans q) ⟨_,hoD⟩ (wF hn' fun g=>?_)
 by_cases q:g=f
 ·have qb:(g == f)=true:=beq_iff_eq.mpr q
  simp only [List.lookup,qb,if_pos q]
  exact ry
 ·have qb:(g == f)=false:=beq_eq_false_iff_ne.mpr q
  simp only [List.lookup,qb,if_neg q]
  exact True.intro
end
end L2
namespace L2
open PySem PySem.Spec PyProof.Rows
section
variable {X:Cx} {pins:List (Addr×Obj)} {σ:St} {H:Hp} {s:Shared} {x C d:Addr} {fs:List (Str×V)} {f:Str} {v y:V} {u:Value} {A:Around} {E:Value→Shared→Prop}
theorem Mt {h:Heap} {P:Program} {w:World} (ok:HOk P w H h) (e:H x=some (ir x C d)) (e2:H d=some (mJ d fs)):d≠x:=fun z=>by
 subst z
 obtain ⟨t,a⟩:=qQ ok e
 obtain ⟨mA,⟨o,es,ep,b,q,_⟩,_⟩:=wG ok e2
 rw [a] at b;cases b;cases q
theorem V5 {Q:Unit→Shared→Prop} (I:Inv X pins σ H s) (e:H x=some (ir x C d)) (e2:H d=some (mJ d fs)) (hl:fs.length < 1000) (c:XCls X.K C) (n:NoAttr X.K C f) (ry:RelV y u)
  (h:∀ s',Inv X pins σ (upd H d (mJ d (j8 f y fs))) s'→Q () s'):wpAny (model X.prog X.w) A (setAttr (.ref x) f u) Q E s:=by
 have ne:=Mt I.hok e e2
 obtain ⟨vs,hx⟩:=qQ I.hok e
 obtain ⟨mA,nA,rA⟩:=wG I.hok e2
 obtain ⟨cd,hc,ho,hd⟩:=c.ov
 have J:PySem.W.InstAt s.heap x (gP C (some d) #[.ref vs,.none,.none,.none,.bool false,.none]) C (some (Classical.choose nA)):=⟨hx,rfl,rfl,let ⟨_,_,q,_⟩:=Classical.choose_spec nA;q⟩
 refine PySem.W.set_plain I.kIn J c.sa (Qc (s:={s with toks:=s.toks+1}) I.kIn J c n ?_)
 refine wpAny_bind (wpAny_pure (wpAny_bind (wpAny_bind (wpAny_loadPart hx (wpAny_bind ((PySem.W.looks_clsIn (M:=model X.prog X.w) I.kIn hc).here (s:={s with toks:=s.toks+1}) ?_))))))
 rw [hd]
 refine wpAny_pure (a:=some d) (wpAny_bind (wpAny_pure (wpAny_bind ?_)))
 refine wpAny_nsSet1 (s:={s with toks:=s.toks+1}) nA fun h' hn' hs=>?_
 have wi:PySem.Within mA (fs.map (·.1)):=fun z hz=>by
  have r:=rA z
  cases q:fs.lookup z with
  | none=>rw [q] at r;exact absurd (RelO.none_of r) hz
  | some a=>exact List.mem_map.mpr ⟨(z,a),PySem.mem_of_lookup q,rfl⟩
 obtain ⟨oD,esD,epD,hoD,hdD,hcD⟩:=hn'.count (PySem.Within.cons f u wi)
 refine wpAny_bind (wpAny_lookBehind hoD (by rw [hdD];exact pastItsLine_dict (Nat.le_trans hcD (by rw [List.length_cons,List.length_map,sizeLine_eq];omega))) ?_)
 refine wpAny_pure (h _ ?_)
 refine I.write (x:=d) (e:=d) (by rw [e2];exact True.intro) (.inl rfl) (fun b o hb q=>(hs.2 b hb).trans q) ⟨_,hoD⟩ (wF hn' fun g=>?_)
 rw [m7]
 by_cases q:g=f
 ·rw [if_pos q,if_pos q];exact ry
 ·rw [if_neg q,if_neg q];exact rA g
end
end L2
namespace L2
open PySem PySem.Spec PyProof.Rows
def Cr (K:PySem.W.Frag) (C:Addr):Bool:=R4 K C && PySem.W.findIn K (.ref C) "__class__" == some (some (.builtin "object.__class__")) && PySem.W.specialIn K (.builtin "object.__class__") "__get__" == some (some (.builtin "getset_descriptor.__get__")) && PySem.W.takesIn K (.builtin "object.__class__") == some true
structure Qd (K:PySem.W.Frag) (C:Addr):Prop where
 cls:XCls K C
 ca:PySem.W.findIn K (.ref C) "__class__"=some (some (.builtin "object.__class__"))
 cg:PySem.W.specialIn K (.builtin "object.__class__") "__get__"=some (some (.builtin "getset_descriptor.__get__"))
 ct:PySem.W.takesIn K (.builtin "object.__class__")=some true
theorem Ij {K:PySem.W.Frag} {C:Addr} (h:Cr K C=true):Qd K C:=by
 unfold Cr at h
 simp only [Bool.and_eq_true,beq_iff_eq] at h
 exact ⟨Mr h.1.1.1,h.1.1.2,h.1.2,h.2⟩
section
variable {prog:Program} {w:World} {A:Around} {E:Value→Shared→Prop} {s:Shared} {K:PySem.W.Frag} {x C:Addr} {ox od:Obj}
theorem Ep {Q:Option Value→Shared→Prop} (c:Qd K C) (KI:K.In s.heap) (J:PySem.W.InstAt s.heap x ox C (some od)) (h:Q (some (.ref C)) {s with toks:=s.toks+1}):wpAny (model prog w) A (getAttr? (.ref x) "__class__") Q E s:=by
 obtain ⟨cd,hc,ho,hd⟩:=c.cls.ov
 have hf:PySem.W.findObj K C (some od) "__class__"=some (.bind (.builtin "getset_descriptor.__get__") (.builtin "object.__class__")):=PySem.W.findObj_data (by rw [hc];rfl) c.ca c.cg c.ct
 obtain ⟨hh,g,dr,t,os⟩:=s
 have L0:=J.type (M:=model prog w)
 have L1:=PySem.W.looks_findIn (M:=model prog w) KI c.cls.ga
 have L2:=PySem.W.looks_findIn (M:=model prog w) KI c.cls.gh
 have L3:=PySem.W.looks_find (M:=model prog w) KI J hf
 have sub:PySem.W.Looks (model prog w) hh (isInstance (.ref x) (.type "BaseException")) true:=L0.andThen (PySem.W.looks_mroIn KI c.cls.isExc)
 have hb0:(onTheHeap (Value.ref C) && Value.builtin "BaseException.__getattribute__" == Value.builtin "object.__getattribute__")=false:=by
  rw [show (Value.builtin "BaseException.__getattribute__" == Value.builtin "object.__getattribute__")=false from by decide+kernel,Bool.and_false]
 unfold getAttr? getAttrBy? getAttrBy
 refine wpAny_bind (wpAny_mkText (wpAny_bind (wpAny_attempt (wpAny_holding (wpAny_bind (L0.at (wpAny_bind (L1.at ?_))))))))
 dsimp only
 rw [hb0,if_neg Bool.false_ne_true]
 unfold getAttrByItsOwn hookBefore
 refine wpAny_bind ?_
 rw [if_pos (show onTheHeap (Value.ref C)=true from rfl)]
 refine L2.at ?_
 refine wpAny_bind (wpAny_attempt (wpAny_holding ?_))
 unfold callGetattribute
 rw [if_neg (show ¬ ((false && onTheHeap (Value.builtin "BaseException.__getattribute__"))=true) from by decide)]
 unfold boundAndCalled
 refine wpAny_bind (wpAny_of_eq (F.attrBase_ValueError.ga.bind (.ref x)) ?_)
 refine wpAny_call (codeAny_call_builtin F.attrBase_ValueError.ga.plain F.entry_bexc_ga (@PySem.W.check_slot (model prog w) _ _ ⟨hh,g,dr,t+1,os⟩ "BaseException.__getattribute__" "BaseException" "__getattribute__" (.ref x) [.str "__class__" t] [] _ (by decide+kernel) (by decide+kernel) sub (F.args_bexc_ga (.ref x) (.str "__class__" t)) ?_))
 refine wpAny_bind (wpAny_pure (wpAny_bind (wpAny_pure (wpAny_bind (L0.at (wpAny_bind (L3.at ?_)))))))
 show wpAny _ _ (holding [.builtin "object.__class__"] (call (.builtin "getset_descriptor.__get__") [.builtin "object.__class__",.ref x,.ref C]) >>=ret) _ _ _
 refine wpAny_bind (wpAny_holding (wpAny_call (PySem.W.class_get (s:=⟨hh,g,dr,t+1,os⟩) KI J c.cls.isObj ?_)))
 refine wpAny_pure ?_
 show wpAny _ _ (handedOut (.ref C)) _ _ _
 rw [PySem.W.handedOut_of rfl]
 exact wpAny_pure (wpAny_pure h)
theorem Ik (c:Qd K C):PySem.W.KitX K (.ref x) (.ref C) (fun h=>PySem.W.InstAt h x ox C (some od)) where
 ty:=fun _ _ _ I=>I.type
 it:=fun _ _ X _=>by
  obtain ⟨cd,hc,_⟩:=c.cls.ov
  unfold PySem.W.clsIn at hc
  split at hc
  ·rename_i a1 a2 a3 a4 ho
   intro A1 Q1 E1 s1 k q
   unfold isType loadHead
   exact wpAny_bind (wpAny_loadPart (k _ _ (X _ _ ho)) (wpAny_pure q))
  ·cases hc
 ne:=fun h tp dd its n sl X htp=>by
  obtain ⟨cd,hc,_⟩:=c.cls.ov
  refine Bool.eq_false_iff.mpr fun q=>?_
  obtain rfl:C=tp:=Value.ref.inj (beq_iff_eq.mp q)
  unfold PySem.W.clsIn at hc
  split at hc
  ·rename_i a1 a2 a3 a4 ho
   cases (X _ _ ho).symm.trans htp
  ·cases hc
 ca:=fun X I k=>Ep c X I k
end
def Yq (H:Hp) (x C:Addr) (fs:List (Str×V)):Prop:=∃ d,H x=some (rZ x C d)∧H d=some (mJ d fs)
def Yr:V→Option Value
 | .ty T=>some (.type T)
 | .ref C=>some (.ref C)
 | _=>none
theorem Il {v:V} {u c:Value} (e:Yr v=some c) (r:RelV v u):u=c:=by
 cases v <;> first | cases e;exact r | cases e
def Im:List V→Option (List Value)
 | []=>some []
 | v :: r=>match Yr v,Im r with
  | some c,some l=>some (c :: l)
  | _,_=>none
theorem Cu:∀ {vs:List V} {us cs:List Value},Im vs=some cs→Vals vs us→us=cs
 | [],us,cs,e,r=>by cases r;cases e;rfl
 | v :: vs,us,cs,e,r=>by
  cases r with
  | cons r1 r2=>
   unfold Im at e
   split at e
   ·rename_i c l h1 h2
    cases e
    rw [Il h1 r1,Cu h2 r2]
   ·cases e
def Cv (K:PySem.W.Frag):List V→Hp→VK→Prop:=fun xs H Q=>∃ x t b,(TyOf K H x t∨∃ a C fs,x= .ref a∧Yq H a C fs∧Qd K C∧t= .ref C)∧
 ((∃ v c,xs=[x,v]∧Yr v=some c∧PySem.W.kitOne K t c=some b)∨(∃ p vs cs,xs=[x,.ref p]∧H p=some (.tup vs)∧Im vs=some cs∧PySem.W.kitAny K t cs=some b))∧Q (.bl b) H
section
variable {X:Cx} {pins:List (Addr×Obj)} {σ:St} {H:Hp} {s:Shared} {A:Around} {E:Value→Shared→Prop} {Q:Value→Shared→Prop} {c:Value} {b:Bool}
theorem Io {x:V} {u t:Value} (I:Inv X pins σ H s) (rx:RelV x u) (ty:TyOf X.K H x t∨∃ a C fs,x= .ref a∧Yq H a C fs∧Qd X.K C∧t= .ref C):
  ∃ φ:Heap→Prop,PySem.W.KitX X.K u t φ∧φ s.heap∧u≠.builtin "__main__.__loader__#opaque":=by
 rcases ty with ty | ⟨a,C,fs,rfl,⟨d,e1,e2⟩,c,rfl⟩
 ·cases ty with
  | non=>cases (show u=Value.none from rx);exact ⟨_,PySem.W.kitx_none,True.intro,(fun z=>nomatch z)⟩
  | bl y=>cases (show u=Value.bool y from rx);exact ⟨_,PySem.W.kitx_bool,True.intro,(fun z=>nomatch z)⟩
  | int i=>obtain ⟨t,q⟩:=(show ∃ t,u=Value.int i t from rx);cases q;exact ⟨_,PySem.W.kitx_int,True.intro,(fun z=>nomatch z)⟩
  | str y=>obtain ⟨t,q⟩:=(show ∃ t,u=Value.str y t from rx);cases q;exact ⟨_,PySem.W.kitx_str,True.intro,(fun z=>nomatch z)⟩
  | flt y=>obtain ⟨t,q⟩:=(show ∃ t,u=Value.float y t from rx);cases q;exact ⟨_,PySem.W.kitx_float,True.intro,(fun z=>nomatch z)⟩
  | @lst a xs ea=>
   cases (show u=Value.ref a from rx)
   obtain ⟨_,_,n,_,h1⟩:=(show ObjOk X.prog X.w H s.heap a (.lst xs) from I.hok a _ ea)
   exact ⟨_,PySem.W.kitx_list,⟨_,h1,rfl⟩,(fun z=>nomatch z)⟩
  | @frz a ob xs ea=>
   cases (show u=Value.ref a from rx)
   obtain ⟨_,_,_,n,_,h1⟩:=(show ObjOk X.prog X.w H s.heap a (.frz ob (.lst xs)) from I.hok a _ ea)
   exact ⟨_,PySem.W.kitx_list,⟨_,h1,rfl⟩,(fun z=>nomatch z)⟩
  | @tup a xs ea=>
   cases (show u=Value.ref a from rx)
   obtain ⟨_,_,_,p⟩:=(show ObjOk X.prog X.w H s.heap a (.tup xs) from I.hok a _ ea)
   obtain ⟨o,h1,h2,_⟩:=p
   exact ⟨_,PySem.W.kitx_tuple,⟨o,h1,h2⟩,(fun z=>nomatch z)⟩
  | @dK a kvs ea=>
   cases (show u=Value.ref a from rx)
   obtain ⟨_,_,vs,_,p⟩:=(show ObjOk X.prog X.w H s.heap a (.dK kvs) from I.hok a _ ea)
   obtain ⟨o,es,ep,h1,h2,_⟩:=p
   exact ⟨_,PySem.W.kitx_dict,⟨o,h1,h2.1⟩,(fun z=>nomatch z)⟩
  | @dT a kvs ea=>
   cases (show u=Value.ref a from rx)
   obtain ⟨_,_,xs,_,o,es,ep,h1,h2,_⟩:=(show ObjOk X.prog X.w H s.heap a (.dT kvs) from I.hok a _ ea)
   exact ⟨_,PySem.W.kitx_dict,⟨o,h1,h2.1⟩,(fun z=>nomatch z)⟩
  | @ins a C dx fs ea cl ha hn htk hm=>
   cases (show u=Value.ref a from rx)
   obtain ⟨mA,O,_⟩:=pP I.hok ea
   obtain ⟨od,J,_⟩:=O.look
   exact ⟨_,PySem.W.kitx_own (cl.get _) cl.hd ha hn htk hm,J,(fun z=>nomatch z)⟩
 ·cases (show u=Value.ref a from rx)
  obtain ⟨vs,hx,_⟩:=Mq I.hok e1
  obtain ⟨mA,nA,rA⟩:=wG I.hok e2
  obtain ⟨od,hod,lk⟩:=uW nA
  exact ⟨_,Ik (ox:=gP C (some d) vs) (od:=od) c,⟨hx,rfl,rfl,hod⟩,(fun z=>nomatch z)⟩
theorem vB {K:PySem.W.Frag} (hK:X.K=K):CallR X (.builtin "isinstance") (Cv K):=by
 subst hK
 intro pins s σ H xs us Q I r h
 obtain ⟨x,t,b,ty,w,q⟩:=h
 rcases w with ⟨v,c,rfl,ec,e⟩ | ⟨p,vs,cs,rfl,ep,ec,e⟩
 ·obtain ⟨u,u2,rfl,ru,rv⟩:=vals2 r
  obtain rfl:=Il ec rv
  obtain ⟨φ,Z,hφ,hne⟩:=Io I ru ty
  exact PySem.W.kia_one Z I.kIn hφ e hne fun tk=>⟨.bl b,H,I.tok _,rfl,q⟩
 ·obtain ⟨u,u2,rfl,ru,rv⟩:=vals2 r
  cases (show u2=Value.ref p from rv)
  obtain ⟨φ,Z,hφ,hne⟩:=Io I ru ty
  obtain ⟨_,its,rt,o,h1,h2,n,h3⟩:=(show ObjOk X.prog X.w H s.heap p (.tup vs) from I.hok p _ ep)
  obtain rfl:=Cu ec rt
  obtain ⟨oc,odd,oda,osl⟩:=o
  dsimp only at h2 h3
  subst h2 h3
  exact PySem.W.kia_tup Z I.kIn hφ h1 e hne fun tk=>⟨.bl b,H,I.tok _,rfl,q⟩
end
end L2
namespace L2
open PySem PySem.Spec PyProof.Rows
theorem dz {X:Cx} (h:∀ (e:Value) (s:Shared),X.xe e s=False):nJ X (fun _ _ _ _=>False):=fun _ _ _ ⟨_,_,_,_,_,_,_,_,z⟩=>z.elim
section
variable {X:Cx} {k:Nat} {f C:Addr} {fd:FuncData} {ps:List Str} {sp:Sp} {R:St→XK} {x:Str} {p pos:Pos} {e:Expr} {es:List Expr} {t:TA} {pins:List (Addr×Obj)} {σ:St} {H:Hp} {s:Shared} {Q:VK} {us:List Value} {vs:List V}
theorem Cw (F:FnOk X.prog X.w X.K X.mg X.base (Ih X.prog X.w) k f fd ps sp) (hr:Room k X.A) (hb:Binds X.K fd ps []) (hx:nJ X R) (I:Inv X pins σ H s) (r:Vals vs us) (h:sp vs H Q (R σ)):
  wpAny (model X.prog X.w) X.A (call (.ref f) us) (EP X pins σ Q) X.xe s:=by
 have hl:(us ++ []).length=ps.length:=by rw [List.append_nil,← r.length];exact F.len _ _ _ _ h
 have bd:=hb s us I.kIn hl
 rw [List.append_nil] at bd
 refine wpAny_call (codeAny_mono (F.run X.A X.stack s H ⟨us,[]⟩ us vs Q (R σ) hr I.env0 bd r h) fun rr s' hq=>?_)
 cases rr with
 | error e=>exact hx pins e s' (Cp I hq)
 | ok fl=>
  cases fl with
  | ret u=>exact I.after hq
  | next=>exact False.elim hq
  | brk=>exact False.elim hq
  | cont=>exact False.elim hq
def Ip (K:PySem.W.Frag) (ta tv:TE) (f:Str):TS:=fun D σ H=>tv σ H fun y H1=>ta σ H1 fun x H2=>∃ a C,x= .ref a∧XCls K C∧NoAttr K C f∧
 ((H2 a=some (kh a C)∧∀ d,H2 d=none→d≠a→D.nx σ (upd (upd H2 a (ir a C d)) d (mJ d [(f,y)])))∨
  (∃ d fs,H2 a=some (ir a C d)∧H2 d=some (mJ d fs)∧fs.length < 1000∧D.nx σ (upd H2 d (mJ d (j8 f y fs)))))
theorem Mu {o value:Expr} {ta tv:TE} {fn:Str} {pos':Pos} (ha:PE X o ta) (hv:PE X value tv) (hs:swapsWith value (some (.Attribute o fn pos')) pos.line X.env=pure false):PS X (.Assign [.Attribute o fn pos'] value pos) (Ip X.K ta tv fn):=by
 intro pins s σ H D I h
 refine plainObj_wpAny_Assign_Attribute (eZ (hv pins s σ H _ I h) fun u s1 ⟨y,H1,I1,ry,q⟩=>eZ (ha pins s1 σ H1 _ I1 q) fun ov s2 qq0=>?_) hs
 obtain ⟨x,H2,I2,rx,a,C,ex,c,n,q2⟩:=qq0
 subst ex
 obtain rfl:ov=Value.ref a:=rx
 rcases q2 with ⟨e,q2⟩ | ⟨d,fs,e,e2,hl,q2⟩
 ·exact V4 I2 e c n ry fun s3 d z1 z2 I3=>⟨σ,_,I3,q2 d z1 z2⟩
 ·exact V5 I2 e e2 hl c n ry fun s3 I3=>⟨σ,_,I3,q2⟩
def wH (C:Addr) (fl:List Str):Sp:=fun vs H Q E=>∃ x ws,vs= .ref x :: ws∧ws.length=fl.length∧H x=some (kh x C)∧∀ d,H d=none→d≠x→Q .non (upd (upd H x (ir x C d)) d (mJ d (fl.zip ws)))
structure V6 (P:Program) (w:World) (K:PySem.W.Frag) (mg:Str→Option Value) (base:Heap) (k:Nat) (x:Str) (C:Addr) (fl:List Str):Prop where
 at_:mg x=some (.ref C)
 cl:Qd K C
 kp:PySem.W.keepIn K (.ref C)=true
 na:∀ f∈fl,NoAttr K C f
 run:∃ f fd ps,PySem.W.findIn K (.ref C) "__init__"=some (some (.ref f))∧PySem.W.typeIn K (.ref f)=some (.type "function")∧Binds K fd ps []∧FnOk P w K mg base Af k f fd ps (wH C fl)
def Ir (C:Addr) (fl:List Str) (R:St→XK) (t:TA):TS:=fun _ σ H=>t σ H fun vs H1=>vs.length=fl.length∧vs.length≤sizeLine∧∀ x H2,Same H1 H2→Yq H2 x C (fl.zip vs)→R σ (.ref C) (some x) H2
theorem R5 {Q:Value→Shared→Prop} {E:Value→Shared→Prop} {fl:List Str} (M:V6 X.prog X.w X.K X.mg X.base k x C fl) (hr:Room (k+1) X.A) (I:Inv X pins σ H s) (r:Vals vs us) (hl:vs.length=fl.length) (hz:vs.length≤sizeLine)
  (q:∀ a d s',H a=none→H d=none→d≠a→Inv X pins σ (upd (upd (upd H a (kh a C)) a (ir a C d)) d (mJ d (fl.zip vs))) s'→Q (.ref a) s'):wpAny (model X.prog X.w) X.A (call (.ref C) us) Q E s:=by
 obtain ⟨f,fd,ps,hi,hf,hb,F⟩:=M.run
 refine R3 I.kIn M.cl.cls.xi hi hf (by rw [← r.length];exact hz) ?_
 have I1:Inv X pins σ H {s with heap:=s.heap.push {cls:=.type "tuple",data:=.seq us.toArray}}:=I.kept (t':=s.toks) fun b o e=>Heap.get?_push_of_some _ e
 have sz1:(s.heap.push {cls:=.type "tuple",data:=.seq us.toArray}).objs.size=s.heap.objs.size+1:=Heap.size_push _ _
 have hfr:H (s.heap.objs.size+1)=none:=I.hok.fresh (Nat.le_succ _)
 have gx:((s.heap.push {cls:=.type "tuple",data:=.seq us.toArray}).push (gP C none #[.ref s.heap.objs.size,.none,.none,.none,.bool false,.none])).get? (s.heap.objs.size+1)=some (gP C none #[.ref s.heap.objs.size,.none,.none,.none,.bool false,.none]):=by
  rw [← sz1];exact Heap.get?_push_size _ rfl
 have I2:Inv X pins σ (upd H (s.heap.objs.size+1) (kh (s.heap.objs.size+1) C)) {s with heap:=(s.heap.push {cls:=.type "tuple",data:=.seq us.toArray}).push (gP C none #[.ref s.heap.objs.size,.none,.none,.none,.bool false,.none])}:=
  I1.laid (t':=s.toks) (fun b o e=>Heap.get?_push_of_some _ e) (by show (s.heap.push _).objs.size≤_;rw [sz1];exact Nat.le_refl _) ⟨⟨_,gx⟩,⟨_,gx⟩,fun h1 h2 ⟨t,z⟩ kk=>⟨t,kk _ z⟩⟩
 have r2:Vals (V.ref (s.heap.objs.size+1) :: vs) (Value.ref (s.heap.objs.size+1) :: us):=.cons rfl r
 have sp0:wH C fl (V.ref (s.heap.objs.size+1) :: vs) (upd H (s.heap.objs.size+1) (kh (s.heap.objs.size+1) C)) (fun v H2=>v= .non∧∃ d,H d=none∧d≠s.heap.objs.size+1∧H2=upd (upd (upd H (s.heap.objs.size+1) (kh (s.heap.objs.size+1) C)) (s.heap.objs.size+1) (ir (s.heap.objs.size+1) C d)) d (mJ d (fl.zip vs))) E0:=
  ⟨_,_,rfl,hl,aj,fun d hd ne=>⟨rfl,d,by rw [aB ne] at hd;exact hd,ne,rfl⟩⟩
 have hl2:((Value.ref (s.heap.objs.size+1) :: us) ++ []).length=ps.length:=by rw [List.append_nil,← r2.length];exact F.len _ _ _ _ sp0
 have bd:=hb _ (Value.ref (s.heap.objs.size+1) :: us) I2.kIn hl2
 rw [List.append_nil] at bd
 refine wpAny_call (codeAny_mono (F.run _ X.stack _ _ ⟨Value.ref (s.heap.objs.size+1) :: us,[]⟩ (Value.ref (s.heap.objs.size+1) :: us) _ _ E0 (hr.make C us []) (I2.env0.make C us []) bd r2 sp0) fun rr s' hq=>?_)
 cases rr with
 | error e=>exact False.elim hq
 | ok fl=>
  cases fl with
  | ret u=>
   obtain ⟨v,H',I3,rv,ev,d,hd,ne,eH⟩:=I2.after hq
   subst ev
   rw [eH] at I3
   exact ⟨rv,q _ d s' hfr hd ne I3⟩
  | next=>exact False.elim hq
  | brk=>exact False.elim hq
  | cont=>exact False.elim hq
theorem thrown {env:Env} {C:Addr} {Q:Flow→Shared→Prop} {m:Sem Value} (hc:X.calm=true) (c:Qd X.K C) (hx:nJ X R)
  (h:wpAny (model X.prog X.w) X.A m (fun v s1=>∃ x d H1,v= .ref x∧Inv X pins σ H1 s1∧H1 x=some (ir x C d)∧R σ (.ref C) (some x) (upd H1 x (rZ x C d))) X.xe s):
  wpAny (model X.prog X.w) X.A (raiseStmt env (some m) none) Q X.xe s:=by
 obtain ⟨nm,qn,N,bs,bm,sn,sub,ab,col,dd,k0,k1,k2,k3,k5,lk0,tl⟩:=Ar c.cls.xi
 unfold raiseStmt
 refine wpAny_bind (eZ h fun v s1 qq0=>?_)
 obtain ⟨x,d,H1,ev,I1,e1,r1⟩:=qq0
 subst ev
 have KI:=I1.kIn
 obtain ⟨t,he⟩:=qQ I1.hok e1
 have hh:X.A.handled=none:=I1.ok.hd hc
 have hcB:(Value.ref C :: bm).contains (.type "BaseException")=true:=by
  rw [List.contains_cons,(tl _ KI).hasType (show Yp.contains (.type "BaseException")=true from by decide)];rfl
 have fin:X.xe (.ref x) s1:=by
  have I2:Inv X pins σ (upd H1 x (rZ x C d)) s1:=I1.write (t':=s1.toks) (x:=x) (e:=x) (h':=s1.heap) (by rw [e1];exact True.intro) (.inl rfl) (fun b o _ z=>z) ⟨_,he⟩ (Cm he rfl)
  exact hx pins _ s1 ⟨x,C,d,σ,_,rfl,I2,⟨aj,.inl ⟨_,he,rfl,rfl⟩⟩,r1⟩
 have hD:=KI _ _ lk0
 obtain ⟨hp,g,dr,tk,os⟩:=s1
 unfold gP at he
 repeat (first | with_reducible refine wpAny_loadPart_at he ?_ | with_reducible refine wpAny_loadPart_at hD ?_ | (with_reducible refine wpAny_isSubtype_exc hD ?_;rw [hcB]) | wp_step)
 exact wpAny_raiseNew_none hh fin
end
end L2
namespace L2
open PySem PySem.Spec PyProof.Rows
section
variable {X:Cx} {k:Nat} {C:Addr} {R:St→XK} {x:Str} {p cpos pos:Pos} {e:Expr} {es:List Expr} {t:TA} {fl:List Str}
theorem yK {H:Hp} {a d:Addr} {vs:List V} (ha:H a=none) (hd:H d=none) (ne:d≠a):Same H (upd (upd (upd (upd H a (kh a C)) a (ir a C d)) d (mJ d (fl.zip vs))) a (rZ a C d))∧
  Yq (upd (upd (upd (upd H a (kh a C)) a (ir a C d)) d (mJ d (fl.zip vs))) a (rZ a C d)) a C (fl.zip vs):=by
 refine ⟨fun b o h=>?_,d,aj,by rw [aB ne,aj]⟩
 have na:b≠a:=fun z=>by rw [z,ha] at h;cases h
 have nd:b≠d:=fun z=>by rw [z,hd] at h;cases h
 rw [aB na,aB nd,aB na,aB na]
 exact h
theorem Iu (M:V6 X.prog X.w X.K X.mg X.base k x C fl) (hr:Room (k+1) X.A) (hc:X.calm=true) (hg:Gl X x) (hx:nJ X R) (ha:PA X (e :: es) t) (hdb:(x == ("__debug__":Str))=false)
  (he:starEach (e :: es) X.env=(false,eval e X.env) :: starEach es X.env) (hpl:(backTo cpos (starEach es X.env)).any (·.1)=false):PS X (.Raise (some (.Call (.Name x p) (e :: es) [] cpos)) none pos) (Ir C fl R t):=by
 intro pins s σ H D I h
 rw [arm_exec_Raise]
 refine wpAny_bind (wpAny_standAt (thrown (pins:=pins) (σ:=σ) (C:=C) hc M.cl hx (wpAny_bind (eZ (Q:=fun v s1=>∃ x d H1,v= .ref x∧Inv X pins σ H1 s1∧H1 x=some (ir x C d)∧R σ (.ref C) (some x) (upd H1 x (rZ x C d))) ?_ fun v s3 h3=>wpAny_bind (wpAny_standAt (wpAny_pure h3))))))
 refine wpAny_Call_Name_kw (pO I hg M.at_ ?_ hdb)
 refine PySem.W.callWith_K (h₀:=X.base) I.ok.mod.kin M.kp (eZ (ha cpos pins s σ H _ I h) fun us s1 ⟨vs,H1,I1,r,hl,hz,q⟩=>⟨I1.kIn,?_⟩) he hpl
 refine R5 M hr I1 r hl hz fun a d s2 z1 z2 ne I2=>⟨a,d,_,rfl,I2,?_,?_⟩
 ·rw [aB (Ne.symm ne),aj]
 ·obtain ⟨w1,w2⟩:=yK (C:=C) (fl:=fl) (vs:=vs) z1 z2 ne
  exact q a _ w1 w2
end
section
variable {X:Cx} {pins:List (Addr×Obj)} {σ σ':St} {H:Hp} {s:Shared} {h':Heap}
end
end L2
namespace L2
open PySem PySem.Spec PyProof.Rows
section
variable {X:Cx} {pins pins':List (Addr×Obj)} {σ:St} {H:Hp} {s:Shared} {x C d T:Addr} {R:St→XK} {D:Ends}
abbrev TH:=Ends→St→Addr→Addr→Hp→Prop
def PH (X:Cx) (hs:List ExceptHandler) (th:TH):Prop:=∀ (pins:List (Addr×Obj)) (s:Shared) (σ:St) (H:Hp) (D:Ends) (x C d T:Addr),Inv X pins σ H s→Head X pins H x C d T s.heap→th D σ x C H→
 wpAny (model X.prog X.w) X.A (handleBy (.ref x) X.env hs) (SP X pins D) X.xe s
variable {nm n:Str} {P:Addr} {i:Nat} {p pos:Pos} {b0:Stmt} {suite:List Stmt} {ts:TS} {th:TH} {hs:List ExceptHandler}
end
end L2
namespace L2
open PySem PySem.Spec PyProof.Rows
def aU (mg:Str→Option Value) (x:Str):Addr:=match mg x with
 | some (.ref a)=>a
 | _=>0
theorem fZ {mg:Str→Option Value} {x:Str} {C:Addr} (h:mg x=some (.ref C)):aU mg x=C:=by unfold aU;rw [h]
structure R6 (K:PySem.W.Frag) (mg:Str→Option Value) (x:Str):Prop where
 at_:mg x=some (.ref (aU mg x))
 cl:Qd K (aU mg x)
theorem V7 {K:PySem.W.Frag} {mg:Str→Option Value} {h:Heap} (X:K.In h) (G:h.Ns mainGlobals mg) {x:Str} {C:Addr} (a:PySem.W.nsIn K mainGlobals x=some (some (.ref C))) (b:Cr K C=true):R6 K mg x:=by
 have m:=PySem.W.mg_of X G a
 have e:=fZ m
 exact ⟨by rw [e];exact m,by rw [e];exact Ij b⟩
structure oV (K:PySem.W.Frag) (mg:Str→Option Value) (x:Str) (fl:List Str) (qual:Str) (st:Stmt):Prop where
 c:R6 K mg x
 kp:PySem.W.keepIn K (.ref (aU mg x))=true
 na:∀ f∈fl,NoAttr K (aU mg x) f
 ini:∃ f fd,PySem.W.findIn K (.ref (aU mg x)) "__init__"=some (some (.ref f))∧PySem.W.typeIn K (.ref f)=some (.type "function")∧Fun K "__init__" qual st f fd
def Iv (K:PySem.W.Frag) (C:Addr) (fl:List Str):Bool:=fl.all fun n=>PySem.W.findIn K (.ref C) n == some none
theorem t8 {K:PySem.W.Frag} {mg:Str→Option Value} {h:Heap} (X:K.In h) (G:h.Ns mainGlobals mg) {x qual:Str} {C f:Addr} {fl:List Str} {st:Stmt} {oc:Value} {od an:Option Addr} {osl:Array (Option Value)} {kV doc pm cdv ct:Value}
  (a:PySem.W.nsIn K mainGlobals x=some (some (.ref C))) (b:Cr K C=true) (kp:PySem.W.keepIn K (.ref C)=true) (na:Iv K C fl=true)
  (i:PySem.W.findIn K (.ref C) "__init__"=some (some (.ref f))) (t:PySem.W.typeIn K (.ref f)=some (.type "function"))
  (l:K.lookup f=some ⟨oc,od,.func (PySem.W.fnOf "__init__" qual (dB st) (bU st) (aq st) .none kV doc pm an cdv ct),osl⟩) (c:PySem.W.codeIn K cdv qual=true) (k:PySem.W.keepIn K (.ref f)=true):oV K mg x fl qual st:=by
 have m:=PySem.W.mg_of X G a
 have e:=fZ m
 refine ⟨V7 X G a b,by rw [e];exact kp,fun n hn=>?_,f,_,by rw [e];exact i,t,tM l c k⟩
 rw [e]
 have:=List.all_eq_true.mp na n hn
 exact beq_iff_eq.mp this
structure Sub (K:PySem.W.Frag) (mg:Str→Option Value) (x y:Str) (b:Bool):Prop where
 mro:PySem.W.mroIn K (aU mg x) (.ref (aU mg y))=some b
 one:PySem.W.kitOne K (.ref (aU mg x)) (.ref (aU mg y))=some b
theorem wI {K:PySem.W.Frag} {mg:Str→Option Value} {h:Heap} (X:K.In h) (G:h.Ns mainGlobals mg) {x y:Str} {C P:Addr} {r:Bool} (a:PySem.W.nsIn K mainGlobals x=some (some (.ref C))) (b:PySem.W.nsIn K mainGlobals y=some (some (.ref P)))
  (m:PySem.W.mroIn K C (.ref P)=some r) (o:PySem.W.kitOne K (.ref C) (.ref P)=some r):Sub K mg x y r:=by
 have e:=fZ (PySem.W.mg_of X G a)
 have e2:=fZ (PySem.W.mg_of X G b)
 exact ⟨by rw [e,e2];exact m,by rw [e,e2];exact o⟩
structure JH (X:Cx) (hs:List ExceptHandler) (th:TH):Prop where
 run:PH X hs th
section
variable {X:Cx} {K:PySem.W.Frag} {k:Nat} {x n fn:Str} {ps:List Str} {sp:Sp} {R:St→XK} {p pos cpos pos':Pos} {e o value:Expr} {es:List Expr} {t:TA} {ta tv:TE} {st:Stmt} {u ts:TS} {th:TH} {hs:List ExceptHandler} {i:Nat}
theorem V8 {C:Addr} (hg:Gl X x) (hm:X.mg x=some (.ref C)) (hd:(x == ("__debug__":Str))=false):JE X (.Name x pos) (tC (.ref C)):=⟨vU hg hm rfl hd⟩
theorem Mv (hK:X.K=K) (ha:JE X o ta) (hv:JE X value tv) (h:autoParam (jX value=true) L2.auto4._auto_1):JS X (.Assign [.Attribute o fn pos'] value pos) (Ip K ta tv fn):=by
 subst hK
 exact ⟨Mu ha.run hv.run (vh h)⟩
theorem Iw {fl:List Str} (M:V6 X.prog X.w X.K X.mg X.base k x (aU X.mg x) fl) (hr:Room (k+1) X.A) (hc:X.calm=true) (hg:Gl X x) (hx:nJ X R) (ha:JA X (e :: es) t) (hdb:(x == ("__debug__":Str))=false) (h:autoParam ((e :: es).all notStar=true) L2.auto4._auto_1):
  JS X (.Raise (some (.Call (.Name x p) (e :: es) [] cpos)) none pos) (Ir (aU X.mg x) fl R t):=by
 have h1:notStar e=true:=by simp only [List.all_cons,Bool.and_eq_true] at h;exact h.1
 have h2:es.all notStar=true:=by simp only [List.all_cons,Bool.and_eq_true] at h;exact h.2
 exact ⟨Iu M hr hc hg hx ha.run hdb (bV h1) (mF h2)⟩
end
section
variable {P:Program} {w:World} {K:PySem.W.Frag} {mg:Str→Option Value} {base:Heap}
theorem mkX {x qual:Str} {st:Stmt} {N ps:List Str} {fl:List Str} {k:Nat} (D:oV K mg x fl qual st) (S:aD N ps (aq st))
  (hb:∀ (kV doc pm:Value) (an:Option Addr) (cdv ct:Value) (us:List Value),us.length=ps.length→bindArgs (PySem.W.fnOf "__init__" qual (dB st) (bU st) (aq st) .none kV doc pm an cdv ct) ⟨us,[]⟩=pure (ps.zip us))
  (hl:ps.length=fl.length+1)
  (hbody:∀ (f:Addr) (cdv:Value) (A:Around) (outer:List Env) (s:Shared) (H:Hp) (vs:List V) (Q:VK) (E:XK),Room k (A.deeper (envOfC qual (aq st) s.heap.objs.size f cdv))→wH (aU mg x) fl vs H Q E→
   ∃ t,JB (oR Af P w K mg base N qual (aq st) f cdv A outer s H E).nox (bU st) t∧t {nx:=fun _ H'=>Q .non H',rt:=Q} (start N vs) H):V6 P w K mg base (k+1) x (aU mg x) fl:=by
 obtain ⟨f,fd,a,b,F⟩:=D.ini
 refine ⟨D.c.at_,D.c.cl,D.kp,D.na,f,fd,ps,a,b,F.binds hb,F.ok S (fun vs H Q E h=>?_) fun cdv A outer s H vs Q E hr h=>let ⟨t,j,q⟩:=hbody f cdv A outer s H vs Q E hr h;⟨t,j.run,q⟩⟩
 obtain ⟨y,ws,rfl,hw,_⟩:=h
 rw [List.length_cons,hw,hl]
end
end L2
namespace L2
open PySem PySem.Spec PyProof.Rows
def initOf:Stmt→Stmt
 | .ClassDef _ _ _ (s :: _) _ _ _ _ _ _ _=>s
 | s=>s
section
variable {σ:St} {H:Hp} {D:Ends} {Q:VK} {sp:Sp} {R:St→XK} {a:TA} {K:PySem.W.Frag} {C P:Addr} {fl:List Str} {th:TH} {ts:TS} {i:Nat} {ta:TE} {f:Str}
theorem R7 {x v:V} {t c:Value} {b:Bool} (ty:TyOf K H x t) (e:Yr v=some c) (o:PySem.W.kitOne K t c=some b) (h:Q (.bl b) H):Cv K [x,v] H Q:=⟨x,t,b,.inl ty,.inl ⟨v,c,rfl,e,o⟩,h⟩
theorem wJ {x:V} {t:Value} {p:Addr} {vs:List V} {cs:List Value} {b:Bool} (ty:TyOf K H x t) (hp:H p=some (.tup vs)) (e:Im vs=some cs) (o:PySem.W.kitAny K t cs=some b) (h:Q (.bl b) H):Cv K [x,.ref p] H Q:=
 ⟨x,t,b,.inl ty,.inr ⟨p,vs,cs,rfl,hp,e,o⟩,h⟩
theorem rd1 {f1 p0 p1:Str} {vs:List V} {E:XK} (c:XCls K C) (n:NoAttr K C f1) (h:wH C [f1] vs H Q E):Ip K (qI 0) (qI 1) f1 {nx:=fun _ H'=>Q .non H',rt:=Q} (start [p0,p1] vs) H:=by
 obtain ⟨x,ws,rfl,hw,hx,q⟩:=h
 match ws,hw with
 | [v],_=>exact ⟨v,rfl,.ref x,rfl,x,C,rfl,c,n,.inl ⟨hx,fun d hd ne=>q d hd ne⟩⟩
end
end L2
namespace L2
open PySem PySem.Spec PyProof.Rows
def Er (lo c:Int) (n:Nat):It:=⟨fun i _=>i < n,fun i H x H'=>H'=H∧x= .int (lo+i*c),fun i _=>n≤i⟩
theorem Es {P:Program} {w:World} {K:PySem.W.Frag} {tg:Expr} (it:Addr) (lo c:Int) (n:Nat):Turn P w K tg (Er lo c n) [it] it (fun i h=>IsRangeIter h it (lo+(i:Nat)*c) ((n:Int) - (i:Nat)) c) where
 mem:=by simp
 obj:=fun i h st b hb=>by
  obtain rfl:b=it:=by simpa using hb
  exact ⟨_,st,fun v z=>by
   have z2:Data.fields _=Data.cell v:=z
   cases z2⟩
 keep:=fun i h h' st k=>k it (by simp) _ st
 item:=by
  intro X hP hw hK hc i pins s σ H E I hf st hg
  subst hP hw hK
  obtain ⟨f0,f1,f2,f3,f4,f5⟩:=hf it (by simp)
  have W:=Walks.range (prog:=X.prog) (w:=X.w) (I.ok.hd hc) it lo c n
  refine W.item i s _ _ hg st fun v h' tk hv st' kk=>?_
  obtain ⟨t,rfl⟩:=hv
  have I1:Inv X pins σ H {s with heap:=h',toks:=tk}:=I.turned (fun b o hb e=>kk b o (by simpa using hb) e) f0 f1 f3 f4 f5
  exact ⟨_,rfl,xX (s:={s with heap:=h',toks:=tk}) (n:="range_iterator") st' rfl rfl (by decide) ⟨.int (lo+i*c),H,I1,⟨t,rfl⟩,⟨rfl,rfl⟩,st',fun b hb=>(hf b hb).1⟩⟩
 done:=by
  intro X hP hw hK hc i pins s σ H E I hf st hg
  subst hP hw hK
  obtain ⟨f0,f1,f2,f3,f4,f5⟩:=hf it (by simp)
  exact wpAny_pyNext_range_end (I.ok.hd hc) st (by have:n≤i:=hg;omega) fun h' eb=>⟨rfl,I.turned (t':=s.toks) (fun b o hb e=>eb b o hb e) f0 f1 f3 f4 f5⟩
 self:=fun _ _ _ _ _ st h=>wpAny_pyIter_rangeiter st h
def Iz (ta:TA):TI:=fun σ H R=>ta σ H fun vs H1=>∃ (i j c:Int) (n:Nat),vs=[.int i,.int j,.int c]∧c≠0∧Builtin.divisionGoesByPylong (j - i) c=false∧Builtin.Range.small i j c=true∧Builtin.Range.rangeSize i j c=(n:Int)∧R (Er i c n) H1
section
variable {X:Cx} {tg:Expr}
theorem Et {a b c:Expr} {ta:TA} {p pos:Pos} (hg:Gl X "range") (hm:X.mg "range"=none) (ha:PA X [a,b,c] ta) (hs:starEach [a,b,c] X.env=(false,eval a X.env) :: starEach [b,c] X.env) (hs2:(backTo pos (starEach [b,c] X.env)).any (·.1)=false):
  PI X tg (.Call (.Name "range" p) [a,b,c] [] pos) (Iz ta):=by
 intro pins s σ H R I h
 refine Call_ (jk I hg hm boot_range (PyProof.Rows.callWith_type1 (eZ (ha pos pins s σ H _ I h) fun us s1 ⟨vs,H1,I1,r1,q1⟩=>?_) hs hs2))
 obtain ⟨i,j,c,n,rfl,hc,hd,hsm,hn,q⟩:=q1
 cases r1 with
 | cons r rr=>
  cases rr with
  | cons r' rr=>
   cases rr with
   | cons r'' rr=>
    cases rr
    obtain ⟨t,rfl⟩:=r
    obtain ⟨t',rfl⟩:=r'
    obtain ⟨t'',rfl⟩:=r''
    refine call_range_3 hc ?_ (.inl hd)
    refine wpAny_pyIter_range (IsRange.new ..) hsm ?_
    have I2:Inv X pins σ H1 {s1 with heap:=s1.heap.push {cls:=.type "range",data:=.fields #[.int i t,.int j t',.int c t'']}}:=I1.kept (t':=s1.toks) fun b o e=>Heap.get?_push_of_some _ e
    refine ⟨(s1.heap.push {cls:=.type "range",data:=.fields #[.int i t,.int j t',.int c t'']}).objs.size,[(s1.heap.push {cls:=.type "range",data:=.fields #[.int i t,.int j t',.int c t'']}).objs.size],_,_,H1,rfl,
     I2.kept (t':=s1.toks) fun b o e=>Heap.get?_push_of_some _ e,Es _ i c n,?_,fun b hb=>?_,q⟩
    ·have e1:i+((0:Nat):Int)*c=i:=by simp
     have e2:(n:Int) - ((0:Nat):Int)=Builtin.Range.rangeSize i j c:=by rw [hn];simp
     show IsRangeIter _ _ (i+((0:Nat):Int)*c) ((n:Int) - ((0:Nat):Int)) c
     rw [e1,e2]
     exact Heap.get?_push_size _ rfl
    ·obtain rfl:b=(s1.heap.push {cls:=.type "range",data:=.fields #[.int i t,.int j t',.int c t'']}).objs.size:=by simpa using hb
     exact I2.fpOk (Nat.le_refl _) (I2.hok.fresh (Nat.le_refl _))
theorem Eu {a b c:Expr} {ta:TA} {p pos:Pos} (hg:Gl X "range") (hm:X.mg "range"=none) (ha:JA X [a,b,c] ta) (h:autoParam (notStar a=true) L2.auto4._auto_1) (h2:autoParam ([b,c].all notStar=true) L2.auto4._auto_1):JI X tg (.Call (.Name "range" p) [a,b,c] [] pos) (Iz ta):=
 ⟨Et hg hm ha.run (bV h) (mF h2)⟩
end
section
variable {σ:St} {H:Hp} {Q:VK}
theorem eQ {a:TA} {R:It→Hp→Prop} (h:a σ H fun vs H1=>∃ (i j c:Int) (n:Nat),vs=[.int i,.int j,.int c]∧c≠0∧Builtin.divisionGoesByPylong (j - i) c=false∧Builtin.Range.small i j c=true∧Builtin.Range.rangeSize i j c=(n:Int)∧R (Er i c n) H1):Iz a σ H R:=h
theorem IK {lo c:Int} {n:Nat} {g:TG} {tb:TS} {D:Ends} (Pv:Nat→St→Hp→Prop) (h0:Pv 0 σ H)
  (hs:∀ i σ H,i < n→Pv i σ H→g (.int (lo+i*c)) σ H fun σ2 H2=>tb {D with nx:=Pv (i+1),ct:=Pv (i+1),bk:=D.nx} σ2 H2) (hd:∀ σ H,Pv n σ H→D.nx σ H):
  ∃ W:Nat→Nat→St→Hp→Prop,(∃ m,W 0 m σ H)∧∀ i m σ H,W i m σ H→
   ((Er lo c n).stop i H∧D.nx σ H)∨((Er lo c n).go i H∧∃ N:St→Hp→Prop,(∀ σ' H',N σ' H'→∃ m',m' < m∧W (i+1) m' σ' H')∧∀ x H',(Er lo c n).yld i H x H'→g x σ H' fun σ2 H2=>tb {D with nx:=N,ct:=N,bk:=D.nx} σ2 H2):=by
 refine ⟨fun i m σ H=>m=n - i∧i≤n∧Pv i σ H,⟨n,by simp,Nat.zero_le _,h0⟩,?_⟩
 rintro i m σ H ⟨rfl,hi,p⟩
 by_cases hlt:i < n
 ·refine .inr ⟨hlt,Pv (i+1),fun σ' H' p'=>⟨n - (i+1),by omega,rfl,hlt,p'⟩,fun x H' y=>?_⟩
  obtain ⟨rfl,rfl⟩:=y
  exact hs i σ _ hlt p
 ·obtain rfl:i=n:=by omega
  exact .inl ⟨Nat.le_refl _,hd σ H p⟩
end
section
variable {X:Cx} {e:Expr} {te:TE} {lo hi:Option Expr} {st:Expr} {tl th ts:TO} {pos p2:Pos}
theorem wK:JE X (.Dict [] [] pos) Ag:=⟨Hl⟩
end
section
variable {σ:St} {H:Hp} {Q:VK} {te:TE}
theorem eU (h:∀ p,H p=none→Q (.ref p) (upd H p (.dK []))):Ag σ H Q:=h
end
def V9 (K:PySem.W.Frag) (neg:Bool):R2:=fun x y H Q=>∃ a b xs,x= .ref a∧y= .ref b∧SqL K H a xs∧SqL K H b xs∧(∀ v∈xs,jl v=true∨∃ r,v= .ref r)∧Q (.bl (!neg)) H
theorem qg {v:V} (f:jl v=true):BZ v v=true:=by
 cases v <;> first | (cases f;done) | rfl | (simp [BZ])
section
variable {X:Cx}
theorem R8 (hu:X.A.units < cLine):OpR X (compareOp .Eq) (V9 X.K false):=by
 intro pins s σ H x y v u Q I rx ry h
 obtain ⟨a,b,xs,rfl,rfl,ha,hb,fx,q⟩:=h
 cases rx
 cases ry
 obtain ⟨its,r1,p1,z1⟩:=I.list ha
 obtain ⟨jts,r2,p2,z2⟩:=I.list hb
 have l1:its.toArray.size=xs.length:=by simpa using r1.length.symm
 have l2:jts.toArray.size=xs.length:=by simpa using r2.length.symm
 refine SeqAt.eq_listAt (e:=fun _=>true) p1.isList p2.isList (by rw [l1,l2]) hu (fun j h1 h2=>?_) ?_
 ·have hj:j < xs.length:=by omega
  obtain ⟨u1,e1,q1⟩:=r1.get (List.getElem?_eq_getElem hj)
  obtain ⟨u2,e2,q2⟩:=r2.get (List.getElem?_eq_getElem hj)
  have f1:its.toArray[j]=u1:=by
   obtain ⟨_,z⟩:=List.getElem?_eq_some_iff.mp e1
   simpa using z
  have f2:jts.toArray[j]=u2:=by
   obtain ⟨_,z⟩:=List.getElem?_eq_some_iff.mp e2
   simpa using z
  rw [f1,f2]
  rcases fx _ (List.getElem_mem hj) with f | ⟨r,f⟩
  ·rw [← qg f]
   exact qN q1 q2 f f
  ·rw [f] at q1 q2
   cases (show u1=Value.ref r from q1)
   cases (show u2=Value.ref r from q2)
   exact SeqAt.EqAt.same _
 ·have e:(List.range its.toArray.size).all (fun _=>true)=true:=by simp
  rw [e]
  exact ⟨.bl true,H,I,rfl,q⟩
def IV (K:PySem.W.Frag):R2:=fun x y H Q=>Mi K x y H Q∨V9 K false x y H Q
theorem R9 {K:PySem.W.Frag} (hK:X.K=K) (hu:X.A.units+64 < cLine):OpR X (compareOp .Eq) (IV K):=by
 subst hK
 exact (R1 rfl hu).or (R8 (Nat.lt_of_le_of_lt (Nat.le_add_right _ _) hu))
end
section
variable {H:Hp} {Q:VK} {K:PySem.W.Frag}
theorem di {i j:Int} (h:Q (.bl (decide (V.int i=V.int j))) H):IV K (.int i) (.int j) H Q:=.inl (dg h)
theorem dj {i j:Str} (h:Q (.bl (decide (V.str i=V.str j))) H):IV K (.str i) (.str j) H Q:=.inl (dh h)
theorem Sd {a b:Addr} {xs:List V} (h1:SqL K H a xs) (h2:SqL K H b xs) (f:∀ v∈xs,jl v=true∨∃ r,v= .ref r) (h:Q (.bl true) H):IV K (.ref a) (.ref b) H Q:=.inr ⟨a,b,xs,rfl,rfl,h1,h2,f,h⟩
end
end L2
namespace L2
open PySem PySem.Spec PyProof.Rows
open AutoSeq1 (wpAny_loadPart')
theorem Av:isSubtype (.type "dict") (.type "dict")=pure true:=by rw [isSubtype_type];kernel_rfl
theorem Ew {prog:Program} {w:World} {A:Around} {E:Value→Shared→Prop} {s:Shared} {Q:Value→Shared→Prop} {a:Addr} {o:Obj} {e:DictEntry} {ep:Nat} {k:Key} (ho:s.heap.get? a=some o) (hc:o.cls= .type "dict") (hd:o.data= .dict #[e] ep)
  (hkey:(bZ prog w).is k e.key=true) (hh:e.hash=(bZ prog w).hash k) (hsm:(a == sysModules)=false) (hu:A.units < cLine) (h:Q (.bool true) s):wpAny (model prog w) A (compareOp .Eq (.ref a) (.ref a)) Q E s:=by
 show wpAny _ _ (richCompare .Eq (.ref a) (.ref a)) _ _ _
 refine wpAny_richCompare_same_room ⟨o,ho,hc⟩ ⟨o,ho,hc⟩ F.slot_dict_eq (wpAny_call (codeAny_call_builtin F.slot_dict_eq.plain F.entry_dict_eq (F.slot_dict_eq.check _ _ _ _ _ _ _ _ ⟨o,ho,hc⟩ (F.args_dict_eq_2 _ _) ?_))) hu
 have ko:KeysOf (bZ prog w) #[e]:=fun x hx=>by
  simp at hx
  subst hx
  exact ⟨k,hkey,hh⟩
 have f2:=Av
 obtain ⟨hp,g,d,tk,os⟩:=s
 have hT:(⟨hp,g,d,tk,os⟩:Shared).TypeIs (.ref a) "dict":=⟨_,ho,hc⟩
 unfold Builtin.«dict.__eq__»
 wp_walk using wpAny_loadPart' ho
 have en:∀ (Q:Array DictEntry→Shared→Prop) (E:Value→Shared→Prop),Q #[e] ⟨hp,g,d,tk,os⟩→wpAny (model prog w) A.in1 (dictEntries a) Q E ⟨hp,g,d,tk,os⟩:=fun Q E q=>by
  unfold dictEntries
  refine wpAny_bind (wpAny_loadPart ho ?_)
  simp only [hd]
  exact wpAny_pure q
 have eo:∀ (Q:Nat→Shared→Prop) (E:Value→Shared→Prop),Q ep ⟨hp,g,d,tk,os⟩→wpAny (model prog w) A.in1 (dictEpoch a) Q E ⟨hp,g,d,tk,os⟩:=fun Q E q=>by
  unfold dictEpoch
  refine wpAny_bind (wpAny_loadPart ho ?_)
  simp only [hd]
  exact wpAny_pure q
 simp only [hd]
 refine wpAny_pure ?_
 refine wpAny_bind (en _ _ ?_)
 rw [if_neg (by simp)]
 refine wpAny_bind (eo _ _ ?_)
 refine wpAny_bind ?_
 rw [Std.Legacy.Range.forIn_eq_forIn_range']
 simp only [Std.Legacy.Range.size,Nat.sub_zero,Nat.add_sub_cancel,Nat.div_one]
 show wpAny _ _ (forIn [0] _ _) _ _ _
 rw [List.forIn_cons]
 refine wpAny_bind (wpAny_bind (en _ _ ?_))
 show wpAny _ _ (holding [e.key,e.val] _ >>=_) _ _ _
 refine wpAny_bind (wpAny_holding ?_)
 refine wpAny_bind (show wpAny (model prog w) A.in1 (dictFind a e.key e.hash) _ _ _ from ?_)
 rw [hh]
 refine wpAny_dictFind_of hkey ho hd ko ?_
 have fi:(#[e]:Array DictEntry).findIdx? (fun e=>(bZ prog w).is k e.key)=some 0:=by simp [hkey]
 rw [fi]
 refine wpAny_bind (en _ _ ?_)
 show wpAny _ _ (holding [e.val] (eqBool e.val e.val)) _ _ _
 refine wpAny_holding (SeqAt.EqAt.same e.val prog w _ _ ?_)
 rw [if_neg (by simp)]
 refine wpAny_bind (eo _ _ ?_)
 rw [if_neg (by simp)]
 refine wpAny_pure ?_
 show wpAny _ _ (forIn [] _ _) _ _ _
 rw [List.forIn_nil]
 refine wpAny_pure (wpAny_pure ?_)
 exact wpAny_pure ⟨(fun z=>nomatch z),h⟩
section
variable {X:Cx}
def Qe (K:PySem.W.Frag):R2:=fun x y H Q=>∃ a b xs,x= .ref a∧y= .ref b∧SqT K H a xs∧SqT K H b xs∧(∀ v∈xs,jl v=true∨∃ r,v= .ref r)∧Q (.bl true) H
theorem Mw (hu:X.A.units < cLine):OpR X (compareOp .Eq) (Qe X.K):=by
 intro pins s σ H x y v u Q I rx ry h
 obtain ⟨a,b,xs,rfl,rfl,ha,hb,fx,q⟩:=h
 cases rx
 cases ry
 obtain ⟨its,r1,p1,z1⟩:=I.tuple ha
 obtain ⟨jts,r2,p2,z2⟩:=I.tuple hb
 have l1:its.toArray.size=xs.length:=by simpa using r1.length.symm
 have l2:jts.toArray.size=xs.length:=by simpa using r2.length.symm
 refine SeqAt.eq_tupleAt (e:=fun _=>true) p1 p2 hu (fun j h1 h2=>?_) ?_
 ·have hj:j < xs.length:=by omega
  obtain ⟨u1,e1,q1⟩:=r1.get (List.getElem?_eq_getElem hj)
  obtain ⟨u2,e2,q2⟩:=r2.get (List.getElem?_eq_getElem hj)
  have f1:its.toArray[j]=u1:=by
   obtain ⟨_,z⟩:=List.getElem?_eq_some_iff.mp e1
   simpa using z
  have f2:jts.toArray[j]=u2:=by
   obtain ⟨_,z⟩:=List.getElem?_eq_some_iff.mp e2
   simpa using z
  rw [f1,f2]
  rcases fx _ (List.getElem_mem hj) with f | ⟨r,f⟩
  ·rw [← qg f]
   exact qN q1 q2 f f
  ·rw [f] at q1 q2
   cases (show u1=Value.ref r from q1)
   cases (show u2=Value.ref r from q2)
   exact SeqAt.EqAt.same _
 ·have e:((List.range (min its.toArray.size jts.toArray.size)).all (fun _=>true) && its.toArray.size == jts.toArray.size)=true:=by rw [l1,l2];simp
  rw [e]
  exact ⟨.bl true,H,I,rfl,q⟩
def Qf:R2:=fun x y H Q=>∃ a k v,x= .ref a∧y= .ref a∧H a=some (.dK [(k,v)])∧Q (.bl true) H
theorem Mx (hu:X.A.units < cLine):OpR X (compareOp .Eq) Qf:=by
 intro pins s σ H x y v u Q I rx ry h
 obtain ⟨a,k,z,rfl,rfl,ha,q⟩:=h
 cases rx
 cases ry
 obtain ⟨_,hsm,vs,kv,o,es,ep,h1,h2,h3,h4,h5,h6⟩:=(show ObjOk X.prog X.w H s.heap a (.dK [(k,z)]) from I.hok a _ ha)
 cases kv with
 | cons a1 a2=>
  cases a2
  obtain ⟨l⟩:=es
  dsimp only at h5
  cases h5 with
  | @cons en _ _ _ p1 p2 p3=>
   cases p3
   obtain ⟨k',b1,b2⟩:=h4 en (by simp)
   exact Ew (e:=en) h1 h2.1 h3 b1 b2 hsm hu ⟨.bl true,H,I,rfl,q⟩
def Mz (K:PySem.W.Frag):R2:=fun x y H Q=>IV K x y H Q∨Qe K x y H Q∨Qf x y H Q
theorem jB {K:PySem.W.Frag} (hK:X.K=K) (hu:X.A.units+64 < cLine):OpR X (compareOp .Eq) (Mz K):=by
 subst hK
 exact (R9 rfl hu).or ((Mw (Nat.lt_of_le_of_lt (Nat.le_add_right _ _) hu)).or (Mx (Nat.lt_of_le_of_lt (Nat.le_add_right _ _) hu)))
end
section
variable {H:Hp} {Q:VK} {K:PySem.W.Frag}
theorem cG {σ:St} {r r':R2} {ta tb tc:TE} (h:ta σ H fun x H1=>tb σ H1 fun y H2=>r x y H2 fun z H3=>∃ k,z= .bl k∧if k=true then tc σ H3 fun w H4=>r' y w H4 Q else Q (.bl false) H3):zW r r' ta tb tc σ H Q:=h
theorem dm {i j:Int} (h:Q (.bl (decide (V.int i=V.int j))) H):Mz K (.int i) (.int j) H Q:=.inl (di h)
theorem dq {i j:Str} (h:Q (.bl (decide (V.str i=V.str j))) H):Mz K (.str i) (.str j) H Q:=.inl (dj h)
end
end L2
namespace L2
open PySem PySem.Spec PyProof.Rows PySem.SeqAt
theorem MF (lo hi:Option Int) (n:Nat):Builtin.Str.strSliceIndices lo hi 1 n=(List.range (HT.sIx n n hi - HT.sIx n 0 lo)).map fun k=>HT.sIx n 0 lo+k:=by
 have c:∀ (i:Int) (d:Nat),max 0 (min (if i < 0 then i+(n:Int) else i) (n:Int))=((HT.sIx n d (some i):Nat):Int):=by
  intro i d
  rw [← HT.clip_eq]
  split <;> omega
 have key:∀ a b:Nat,(List.range (if (a:Int) < (b:Int) then ((b:Int) - a+1 - 1) / 1 else 0).toNat).map (fun k:Nat=>((a:Int)+1*(k:Int)).toNat)=(List.range (b - a)).map fun k=>a+k:=by
  intro a b
  have e3:(if (a:Int) < (b:Int) then ((b:Int) - a+1 - 1) / 1 else 0).toNat=b - a:=by split <;> omega
  rw [e3]
  refine List.map_congr_left fun k _=>?_
  omega
 unfold Builtin.Str.strSliceIndices sliceRange
 simp only [show (1:Int) > 0 by decide,if_true]
 cases lo with
 | none=>
  cases hi with
  | none=>exact key 0 n
  | some j=>rw [← key,← c j n];rfl
 | some i=>
  cases hi with
  | none=>rw [← key,← c i 0];rfl
  | some j=>rw [← key,← c i 0,← c j n]
theorem Qg {α β:Type} {f:α→Option β} {g:α→β}:∀ (l:List α),(∀ k∈l,f k=some (g k))→l.filterMap f=l.map g
 | [],_=>rfl
 | k :: l,h=>by rw [List.filterMap_cons,h k (by simp),List.map_cons,Qg l fun j hj=>h j (List.mem_cons_of_mem _ hj)]
theorem Ex (l:List Nat) (a m:Nat) (h:a+m≤l.length):((List.range m).map fun k=>a+k).filterMap (fun i=>l[i]?)=(l.drop a).take m:=by
 rw [List.filterMap_map,Qg (g:=fun k=>l.getD (a+k) 0)]
 ·refine List.ext_getElem? fun i=>?_
  rw [List.getElem?_map,List.getElem?_take]
  by_cases hi:i < m
  ·rw [if_pos hi,List.getElem?_range hi,List.getElem?_drop,List.getElem?_eq_getElem (by omega)]
   simp [List.getElem?_eq_getElem (show a+i < l.length by omega)]
  ·rw [if_neg hi,List.getElem?_eq_none (by simp;omega)];rfl
 ·intro k hk
  have hk:=List.mem_range.mp hk
  show l[a+k]?=_
  rw [List.getD_eq_getElem?_getD,List.getElem?_eq_getElem (by omega)];rfl
theorem vC (z:Str) (lo hi:Option Int):(Txt.slice z lo hi).cps.toList=(z.cps.toList.drop (HT.sIx z.length 0 lo)).take (HT.sIx z.length z.length hi - HT.sIx z.length 0 lo):=by
 have hn:z.cps.toList.length=z.length:=by simp [Str.length]
 have la:=HT.sIx_le z.length 0 (Nat.zero_le _) lo
 have lb:=HT.sIx_le z.length z.length (Nat.le_refl _) hi
 unfold Txt.slice
 rw [MF]
 generalize HT.sIx z.length 0 lo=a at la ⊢
 generalize HT.sIx z.length z.length hi=b at lb ⊢
 split
 ·rename_i h
  simp at h
  have ha:a=0:=by
   rcases Nat.eq_zero_or_pos z.length with h0 | h0
   ·omega
   ·omega
  subst ha
  rw [List.drop_zero,List.take_of_length_le (by omega)]
 ·show List.filterMap (fun x=>z.cps[x]?) _=_
  have e:(fun x:Nat=>z.cps[x]?)=fun x=>z.cps.toList[x]?:=by funext x;simp
  rw [e]
  by_cases h:a≤b
  ·exact Ex _ a (b - a) (by omega)
  ·rw [show b - a=0 by omega];simp
theorem qi (z:Str) (k:Nat):(Txt.slice z none (some (k:Int))).cps.toList=z.cps.toList.take k:=by
 rw [vC,HT.sIx_none,HT.sIx_nat,List.drop_zero,Nat.sub_zero]
 have hn:z.cps.toList.length=z.length:=by simp [Str.length]
 by_cases h:k≤z.length
 ·rw [Nat.min_eq_left h]
 ·rw [Nat.min_eq_right (by omega),List.take_of_length_le (by omega),List.take_of_length_le (by omega)]
theorem kj (z:Str) (k:Nat):(Txt.slice z (some (k:Int)) none).cps.toList=z.cps.toList.drop k:=by
 rw [vC,HT.sIx_none,HT.sIx_nat]
 have hn:z.cps.toList.length=z.length:=by simp [Str.length]
 by_cases h:k≤z.length
 ·rw [Nat.min_eq_left h,List.take_of_length_le (by rw [List.length_drop];omega)]
 ·rw [Nat.min_eq_right (by omega),List.drop_eq_nil_of_le (by omega),List.drop_eq_nil_of_le (by omega)];simp
theorem ue {xs:List V} {H:Hp} {R:Addr→Prop} (c:Nat.ble xs.length 64=true) (h:∀ p,H p=none→R p):xs.length≤sizeLine∧∀ p,H p=none→R p:=
 ⟨Nat.le_trans (Nat.le_of_ble_eq_true c) (by decide),h⟩
theorem iZ {A B:Prop} (h:A):if (!false)=true then A else B:=(if_pos (show (!false)=true from rfl)).mpr h
theorem jc {A B:Prop} (h:B):if (!true)=true then A else B:=by rw [if_neg (by simp)];exact h
theorem Cy {t u:TS} {D:Ends} {σ:St} {H:Hp} (M:St→Hp→Prop) (h1:∀ σ H,M σ H→u D σ H) (h2:∀ N,(∀ σ H,M σ H→N σ H)→t {D with nx:=N} σ H):KC t u D σ H:=h2 _ h1
end L2
namespace L2
open PySem PySem.Spec PyProof.Rows PySem.SeqAt
open AutoSeq1 (wpAny_loadPart')
section
variable {X:Cx}
end
theorem Aw {prog:Program} {w:World} {A:Around} {E:Value→Shared→Prop} {s:Shared} {Q:Value→Shared→Prop} {a:Addr} {o:Obj} {e:DictEntry} {ep:Nat} {k:Key} (ho:s.heap.get? a=some o) (hc:o.cls= .type "dict") (hd:o.data= .dict #[e] ep)
  (hkey:(bZ prog w).is k e.key=true) (hh:e.hash=(bZ prog w).hash k) (hsm:(a == sysModules)=false) (hu:A.units < cLine) (h:Q (.bool false) s):wpAny (model prog w) A (compareOp .NotEq (.ref a) (.ref a)) Q E s:=by
 show wpAny _ _ (richCompare .NotEq (.ref a) (.ref a)) _ _ _
 refine wpAny_richCompare_same_room ⟨o,ho,hc⟩ ⟨o,ho,hc⟩ F.slot_dict_ne (wpAny_call (codeAny_call_builtin F.slot_dict_ne.plain F.entry_dict_ne (F.slot_dict_ne.check _ _ _ _ _ _ _ _ ⟨o,ho,hc⟩ (F.args_dict_ne_2 _ _) ?_))) hu
 have ko:KeysOf (bZ prog w) #[e]:=fun x hx=>by
  simp at hx
  subst hx
  exact ⟨k,hkey,hh⟩
 have f2:=Av
 obtain ⟨hp,g,d,tk,os⟩:=s
 have hT:(⟨hp,g,d,tk,os⟩:Shared).TypeIs (.ref a) "dict":=⟨_,ho,hc⟩
 unfold Builtin.«dict.__ne__»
 wp_walk using wpAny_loadPart' ho
 have en:∀ (Q:Array DictEntry→Shared→Prop) (E:Value→Shared→Prop),Q #[e] ⟨hp,g,d,tk,os⟩→wpAny (model prog w) A.in1 (dictEntries a) Q E ⟨hp,g,d,tk,os⟩:=fun Q E q=>by
  unfold dictEntries
  refine wpAny_bind (wpAny_loadPart ho ?_)
  simp only [hd]
  exact wpAny_pure q
 have eo:∀ (Q:Nat→Shared→Prop) (E:Value→Shared→Prop),Q ep ⟨hp,g,d,tk,os⟩→wpAny (model prog w) A.in1 (dictEpoch a) Q E ⟨hp,g,d,tk,os⟩:=fun Q E q=>by
  unfold dictEpoch
  refine wpAny_bind (wpAny_loadPart ho ?_)
  simp only [hd]
  exact wpAny_pure q
 simp only [hd]
 refine wpAny_pure ?_
 refine wpAny_bind (en _ _ ?_)
 rw [if_neg (by simp)]
 refine wpAny_bind (eo _ _ ?_)
 refine wpAny_bind ?_
 rw [Std.Legacy.Range.forIn_eq_forIn_range']
 simp only [Std.Legacy.Range.size,Nat.sub_zero,Nat.add_sub_cancel,Nat.div_one]
 show wpAny _ _ (forIn [0] _ _) _ _ _
 rw [List.forIn_cons]
 refine wpAny_bind (wpAny_bind (en _ _ ?_))
 show wpAny _ _ (holding [e.key,e.val] _ >>=_) _ _ _
 refine wpAny_bind (wpAny_holding ?_)
 refine wpAny_bind (show wpAny (model prog w) A.in1 (dictFind a e.key e.hash) _ _ _ from ?_)
 rw [hh]
 refine wpAny_dictFind_of hkey ho hd ko ?_
 have fi:(#[e]:Array DictEntry).findIdx? (fun e=>(bZ prog w).is k e.key)=some 0:=by simp [hkey]
 rw [fi]
 refine wpAny_bind (en _ _ ?_)
 show wpAny _ _ (holding [e.val] (eqBool e.val e.val)) _ _ _
 refine wpAny_holding (SeqAt.EqAt.same e.val prog w _ _ ?_)
 rw [if_neg (by simp)]
 refine wpAny_bind (eo _ _ ?_)
 rw [if_neg (by simp)]
 refine wpAny_pure ?_
 show wpAny _ _ (forIn [] _ _) _ _ _
 rw [List.forIn_nil]
 refine wpAny_pure (wpAny_pure ?_)
 exact wpAny_pure ⟨(fun z=>nomatch z),h⟩
theorem yL {prog:Program} {w:World} {A:Around} {E:Value→Shared→Prop} {s:Shared} {Q:Value→Shared→Prop} {a:Addr} {o:Obj} {ep:Nat} (ho:s.heap.get? a=some o) (hc:o.cls= .type "dict") (hd:o.data= .dict #[] ep)
  (hsm:(a == sysModules)=false) (hu:A.units < cLine) (h:Q (.bool false) s):wpAny (model prog w) A (compareOp .NotEq (.ref a) (.ref a)) Q E s:=by
 show wpAny _ _ (richCompare .NotEq (.ref a) (.ref a)) _ _ _
 refine wpAny_richCompare_same_room ⟨o,ho,hc⟩ ⟨o,ho,hc⟩ F.slot_dict_ne (wpAny_call (codeAny_call_builtin F.slot_dict_ne.plain F.entry_dict_ne (F.slot_dict_ne.check _ _ _ _ _ _ _ _ ⟨o,ho,hc⟩ (F.args_dict_ne_2 _ _) ?_))) hu
 have f2:=Av
 obtain ⟨hp,g,d,tk,os⟩:=s
 have hT:(⟨hp,g,d,tk,os⟩:Shared).TypeIs (.ref a) "dict":=⟨_,ho,hc⟩
 unfold Builtin.«dict.__ne__»
 wp_walk using wpAny_loadPart' ho
 have en:∀ (Q:Array DictEntry→Shared→Prop) (E:Value→Shared→Prop),Q #[] ⟨hp,g,d,tk,os⟩→wpAny (model prog w) A.in1 (dictEntries a) Q E ⟨hp,g,d,tk,os⟩:=fun Q E q=>by
  unfold dictEntries
  refine wpAny_bind (wpAny_loadPart ho ?_)
  simp only [hd]
  exact wpAny_pure q
 have eo:∀ (Q:Nat→Shared→Prop) (E:Value→Shared→Prop),Q ep ⟨hp,g,d,tk,os⟩→wpAny (model prog w) A.in1 (dictEpoch a) Q E ⟨hp,g,d,tk,os⟩:=fun Q E q=>by
  unfold dictEpoch
  refine wpAny_bind (wpAny_loadPart ho ?_)
  simp only [hd]
  exact wpAny_pure q
 simp only [hd]
 refine wpAny_pure ?_
 refine wpAny_bind (en _ _ ?_)
 rw [if_neg (by simp)]
 refine wpAny_bind (eo _ _ ?_)
 refine wpAny_bind ?_
 rw [Std.Legacy.Range.forIn_eq_forIn_range']
 simp only [Std.Legacy.Range.size,Nat.sub_zero,Nat.add_sub_cancel,Nat.div_one]
 show wpAny _ _ (forIn [] _ _) _ _ _
 rw [List.forIn_nil]
 refine wpAny_pure (wpAny_pure ?_)
 exact wpAny_pure ⟨(fun z=>nomatch z),h⟩
def Qh:R2:=fun x y H Q=>∃ a kvs,x= .ref a∧y= .ref a∧H a=some (.dK kvs)∧kvs.length≤1∧Q (.bl false) H
section
variable {X:Cx}
theorem MJ (hu:X.A.units < cLine):OpR X (compareOp .NotEq) Qh:=by
 intro pins s σ H x y v u Q I rx ry h
 obtain ⟨a,kvs,rfl,rfl,ha,hl,q⟩:=h
 cases rx
 cases ry
 obtain ⟨_,hsm,vs,kv,o,es,ep,h1,h2,h3,h4,h5,h6⟩:=(show ObjOk X.prog X.w H s.heap a (.dK kvs) from I.hok a _ ha)
 match kvs,hl with
 | [],_=>
  cases kv
  obtain ⟨l⟩:=es
  dsimp only at h5
  cases h5
  exact yL h1 h2.1 h3 hsm hu ⟨.bl false,H,I,rfl,q⟩
 | [(k,z)],_=>
  cases kv with
  | cons a1 a2=>
   cases a2
   obtain ⟨l⟩:=es
   dsimp only at h5
   cases h5 with
   | @cons en _ _ _ p1 p2 p3=>
    cases p3
    obtain ⟨k',b1,b2⟩:=h4 en (by simp)
    exact Aw (e:=en) h1 h2.1 h3 b1 b2 hsm hu ⟨.bl false,H,I,rfl,q⟩
def Wa (K:PySem.W.Frag):R2:=fun x y H Q=>Mj K x y H Q∨Qh x y H Q
theorem Sg {K:PySem.W.Frag} (hK:X.K=K) (hu:X.A.units+64 < cLine):OpR X (compareOp .NotEq) (Wa K):=(wD hK hu).or (MJ (Nat.lt_of_le_of_lt (Nat.le_add_right _ _) hu))
end
section
variable {H:Hp} {Q:VK} {K:PySem.W.Frag} {σ:St} {D:Ends}
end
end L2
namespace L2
open PySem PySem.Spec PyProof.Rows
section
variable {X:Cx}
theorem Sh {i:Nat} {x:Str} {e:Expr} {te:TE} {op:Operator} {r:R2} {pos pos':Pos} (hN:X.N.Nodup) (hi:X.N[i]?=some x) (hx:Loc X.env.scope x) (he:JE X e te) (ho:OpR X (inplaceOp op) r) (hf:X.fn x=true):
  JS X (.AugAssign (.Name x pos') op e pos) (Q0 i te r):=⟨Q3 hN hi hx he.run ho (.inl hf)⟩
end
section
variable {σ:St} {H:Hp} {Q:VK} {D:Ends}
theorem Qi {i:Nat} {te:TE} {r:R2} {v:V} (e:σ[i]?=some (some v)) (h:te σ H fun y H1=>r v y H1 fun z H2=>D.nx (σ.set i (some z)) H2):Q0 i te r D σ H:=⟨v,e,h⟩
end
end L2
namespace L2
open PySem PySem.Spec PyProof.Rows
def rInD (K:PySem.W.Frag):R2:=fun x y H Q=>Lr K x y H Q∨∃ a o,y= .ref a∧DGet H a x o∧Q (.bl o.isSome) H
def MK (K:PySem.W.Frag):R2:=fun x y H Q=>v9 K x y H Q∨∃ a o,y= .ref a∧DGet H a x o∧Q (.bl (!o.isSome)) H
def mZ:zQ:=fun o i v H R=>G8 o i v H R∨∃ a H4,o= .ref a∧DPut H a i v H4∧R H4
def uf (n0:List V→Hp→(Int→Int→Nat→Prop)→Prop) (ta:TA):TE:=fun σ H Q=>ta σ H fun vs H1=>n0 vs H1 fun lo c n=>∀ q,H1 q=none→Q (.ref q) (upd H1 q (.lst ((List.range n).map fun i:Nat=>V.int (lo+(i:Int)*c))))
def Wb:List V→Hp→(Int→Int→Nat→Prop)→Prop:=fun vs _ R=>∃ n:Nat,vs=[.int n]∧n≤1000000∧R 0 1 n
theorem Ey {lo c:Int} {n:Nat} {acc:Array Value} (h:ItemsOf (fun i v=>∃ t,v= .int (lo+i*c) t) acc n):Vals ((List.range n).map fun i:Nat=>V.int (lo+(i:Int)*c)) acc.toList:=by
 obtain ⟨h1,h2⟩:=h
 have key:∀ (k:Nat) (a:List Value) (b:Nat),a.length=k→(∀ (j:Nat) (v:Value),a[j]?=some v→∃ t,v= .int (lo+((b+j:Nat):Int)*c) t)→Vals ((List.range' b k).map fun i:Nat=>V.int (lo+(i:Int)*c)) a:=by
  intro k
  induction k with
  | zero=>intro a b hl _;cases a with
   | nil=>exact .nil
   | cons _ _=>simp at hl
  | succ k ih=>
   intro a b hl hh
   cases a with
   | nil=>simp at hl
   | cons v a=>
    obtain ⟨t,e⟩:=hh 0 v (by simp)
    rw [List.range'_succ,List.map_cons]
    refine .cons ⟨t,by simpa using e⟩ (ih a (b+1) (by simpa using hl) fun j v' e=>?_)
    obtain ⟨t,e⟩:=hh (j+1) v' (by simpa using e)
    exact ⟨t,by rw [e];congr 3;omega⟩
 rw [List.range_eq_range']
 refine key n acc.toList 0 (by simpa using h1) fun j v e=>?_
 obtain ⟨t,e⟩:=h2 j v (by simpa using e)
 exact ⟨t,by rw [e];congr 3;simp⟩
section
variable {X:Cx}
theorem qj {pins:List (Addr×Obj)} {σ:St} {H1:Hp} {s1:Shared} {Q:VK} {E:Value→Shared→Prop} {lo hi c:Int} {t u v:Tok} {tk n:Nat} (hc:X.calm=true) (I1:Inv X pins σ H1 s1) (hs:Builtin.Range.small lo hi c=true) (hn:Builtin.Range.rangeSize lo hi c=(n:Int)) (hl:n≤1000000)
  (q:∀ q,H1 q=none→Q (.ref q) (upd H1 q (.lst ((List.range n).map fun i:Nat=>V.int (lo+(i:Int)*c))))):
  wpAny (model X.prog X.w) X.A (call (.type "list") [.ref s1.heap.objs.size]) (EP X pins σ Q) E {s1 with heap:=s1.heap.push {cls:=.type "range",data:=.fields #[.int lo t,.int hi u,.int c v]},toks:=tk}:=by
 have I2:Inv X pins σ H1 {s1 with heap:=s1.heap.push {cls:=.type "range",data:=.fields #[.int lo t,.int hi u,.int c v]},toks:=tk}:=I1.kept fun b o e=>Heap.get?_push_of_some _ e
 refine call_list_range (n:=n) (I1.ok.hd hc) (IsRange.new ..) hs hn (by omega) fun h' tk' acc' c' hk hS hacc=>?_
 have hsl:n≤sizeLine:=Nat.le_trans hl (by decide)
 exact ⟨.ref _,_,I2.laid (t':=tk') (o:=.lst ((List.range n).map fun i:Nat=>V.int (lo+(i:Int)*c))) hk (Nat.le_refl _) ⟨by simpa using hsl,acc'.toList,c',Ey hacc,by simpa using hS⟩,rfl,q _ I2.fresh⟩
theorem Ax {a:Expr} {ta:TA} {p p2 p3 pos:Pos} (hc:X.calm=true) (hg:Gl X "list") (hm:X.mg "list"=none) (hg2:Gl X "range") (hm2:X.mg "range"=none) (ha:JA X [a] ta) (h:autoParam (notStar a=true) L2.auto4._auto_1):
  JE X (.Call (.Name "list" p) [.Call (.Name "range" p2) [a] [] p3] [] pos) (uf Wb ta):=⟨by
 intro pins s σ H Q I hq
 refine wpAny_Call_Name_kw (jk I hg hm lg (PyProof.Rows.callWith_type1 (arg1 rfl (wpAny_Call_Name_kw (jk I hg2 hm2 boot_range (PyProof.Rows.callWith_type1 (eZ (ha.run p3 pins s σ H _ I hq) fun us s1 qq0=>?_) (bV h) rfl)))) rfl rfl))
 obtain ⟨vs,H1,I1,r1,q1⟩:=qq0
 obtain ⟨n,rfl,hn,q⟩:=q1
 obtain ⟨u,rfl,t,rfl⟩:=vals1 r1
 exact call_range_1 (qj hc I1 (small_one (by omega) (by omega) (by omega) (by omega)) (by rw [rangeSize_one];split <;> omega) hn q)⟩
end
section
variable {X:Cx}
theorem Sq {K:PySem.W.Frag} (hK:X.K=K) (hu:X.A.units+64 < cLine):OpR X (compareOp .In) (rInD K):=(Aj hK).or (by
 intro pins s σ H x y v u Q I rx ry h
 obtain ⟨a,o,rfl,g,q⟩:=h
 obtain rfl:u=Value.ref a:=ry
 exact d_in (by omega) I g rx fun s3 I3=>⟨.bl o.isSome,H,I3,rfl,q⟩)
theorem Ez {K:PySem.W.Frag} (hK:X.K=K) (hu:X.A.units+64 < cLine):OpR X (compareOp .NotIn) (MK K):=(Eh hK).or (by
 intro pins s σ H x y v u Q I rx ry h
 obtain ⟨a,o,rfl,g,q⟩:=h
 obtain rfl:u=Value.ref a:=ry
 exact Lj (by omega) I g rx fun s3 I3=>⟨.bl (!o.isSome),H,I3,rfl,q⟩)
theorem jL (hu:X.A.units+64 < cLine):KN X mZ:=by
 intro pins s σ H o i v ov iv u Q I ro ri rv h
 rcases h with h | ⟨a,H4,rfl,g,q⟩
 ·exact set_list pins s σ H o i v ov iv u Q I ro ri rv h
 ·obtain rfl:ov=Value.ref a:=ro
  exact Ec (by omega) I g ri rv fun s4 I4=>⟨H4,I4,q⟩
end
section
variable {σ:St} {H:Hp} {Q:VK} {K:PySem.W.Frag}
theorem fY {n0:List V→Hp→(Int→Int→Nat→Prop)→Prop} {ta:TA} (h:ta σ H fun vs H1=>n0 vs H1 fun lo c n=>∀ q,H1 q=none→Q (.ref q) (upd H1 q (.lst ((List.range n).map fun i:Nat=>V.int (lo+(i:Int)*c))))):uf n0 ta σ H Q:=h
theorem MN {n:Nat} {R:Int→Int→Nat→Prop} (hn:n≤1000000) (h:R 0 1 n):Wb [.int n] H R:=⟨n,rfl,hn,h⟩
theorem mK {p:Addr} {xs:List V} {i:Int} {n:Nat} {v:V} {R:Hp→Prop} (hp:H p=some (.lst xs)) (e:G7 xs.length i=some n) (h:R (upd H p (.lst (xs.set n v)))):mZ (.ref p) (.int i) v H R:=.inl (c7 hp e h)
end
end L2
namespace L2
open PySem PySem.Spec PyProof.Rows
def Wc (i j:Int):Prop:=0 < j∧j < 1606938044258990275541962092341162602522202993782792835301376
section
variable {X:Cx}
theorem yM:OpR X (binaryOp .FloorDiv) (rI Wc fun i j=>.int (i / j)):=Va fun i j _ _ _ _ _ hc q=>by
 have h1:(0:Int) < j:=hc.1
 have h2:=hc.2
 refine floordiv_int (by omega) (by rw [Int.fdiv_eq_ediv_of_nonneg i (by omega)];exact q) (.inl (PyProof.noPylong_of_log2 ?_))
 have h3:j.natAbs.log2 < 200:=(Nat.log2_lt (by omega)).mpr (by omega)
 omega
end
end L2
namespace L2
open PySem PySem.Spec PyProof.Rows
open PySem.Sem (wp)
open PySem.AutoSeq1 (wpAny_loadPart')
section
variable {prog:Program} {w:World} {A:Around} {E:Value→Shared→Prop} {s:Shared}
end
end L2
namespace L2
open PySem PySem.Spec PyProof.Rows
section
variable {K:PySem.W.Frag} {σ:St} {H:Hp}
end
section
variable {X:Cx} {e:Expr} {te:TE} {lo hi:Option Expr} {st:Expr} {tl th ts:TO} {pos p2:Pos}
end
end L2
namespace L2
open PySem PySem.Spec PyProof.Rows
end L2
namespace L2
open PySem PySem.Spec PyProof.Rows
open PySem.Sem (wp)
open PySem.AutoSeq1 (wpAny_loadPart')
section
variable {prog:Program} {w:World} {A:Around} {E:Value→Shared→Prop} {s:Shared}
end
end L2
namespace L2
open PySem PySem.Spec PyProof.Rows
section
variable {prog:Program} {w:World} {A:Around} {E:Value→Shared→Prop} {s:Shared}
end
end L2
namespace L2
open PySem PySem.Spec PyProof.Rows
section
variable {K:PySem.W.Frag} {σ:St} {H:Hp}
end
end L2
namespace L2
open PySem PySem.Spec PyProof.Rows
structure Sml (d:PyData):Prop where
 sh:d.showable=true
 dp:d.depth≤58
 lv:d.leavesShort 60=true
 bk:d.bulk≤10000
end L2
namespace L2
open PySem PySem.Spec PyProof.Rows
open PySem.Sem (wp)
section
variable {X:Cx} {pos:Pos} {σ:St} {H:Hp} {Q:VK} {K:PySem.W.Frag}
end
end L2
namespace L2
open PySem PySem.Spec PyProof.Rows
end L2
namespace L2
open PySem PySem.Spec PyProof.Rows
structure Qj (k:Nat) (A:Around):Prop where
 dp:A.depth+3*k+5 < recursionLimit
 un:A.units+16*k+200 < cLine
 gd:A.guards=some []
structure FnU (P:Program) (w:World) (K:PySem.W.Frag) (mg:Str→Option Value) (base:Heap) (k:Nat) (f:Addr) (fd:FuncData) (ps:List Str) (sp:Sp):Prop where
 len:∀ vs H Q E,sp vs H Q E→vs.length=ps.length
 run:∀ (A:Around) (outer:List Env) (s:Shared) (H:Hp) (args:Args) (us:List Value) (vs:List V) (Q:VK) (E:XK),Qj k A→Env0 P w K mg base A outer s H→BindsTo s fd args (ps.zip us)→Vals vs us→sp vs H Q E→
  codeAny (model P w) A (.call (.ref f) args) (CR Af outer P w H s Q E) s
end L2
namespace L2
open PySem PySem.Spec PyProof.Rows
section
variable {prog:Program} {w:World} {A:Around} {E:Value→Shared→Prop} {s:Shared} {K:PySem.W.Frag} {x C:Addr} {ox:Obj} {od:Option Obj}
end
section
variable {prog:Program} {w:World} {A:Around} {K:PySem.W.Frag} {D:Addr} {E:Value→Shared→Prop}
end
structure X0 (K:PySem.W.Frag) (mg:Str→Option Value) (x:Str):Prop where
 c:R6 K mg x
 ini:PySem.W.findIn K (.ref (aU mg x)) "__init__"=some (some (.builtin "ValueError.__init__"))
 kp:PySem.W.keepIn K (.ref (aU mg x))=true
section
variable {X:Cx} {x:Str} {p pos:Pos} {e:Expr} {es:List Expr} {t:TA}
end
end L2
namespace L2
open PySem PySem.Spec PyProof.Rows
open PySem.Sem (wp)
structure Ss (z TI TO i1 i2:Addr) (fp1 fp2:List Addr):Prop where
 TIz:TI≠z
 TOz:TO≠z
 i1z:i1≠z
 i2z:i2≠z
 TITO:TI≠TO
 TIi1:TI≠i1
 TIi2:TI≠i2
 TOi1:TO≠i1
 TOi2:TO≠i2
 i12:i1≠i2
 f1:∀ b∈fp1,b≠z∧b≠TO∧b≠i2
 f2:∀ b∈fp2,b≠z∧b≠TO∧b≠i1
section
variable {prog:Program} {w:World} {A:Around} {E:Value→Shared→Prop} {s:Shared} {z TI TO i1 i2:Addr} {fp1 fp2:List Addr} {n1 n2 k1 k2:Nat} {P1 P2:Nat→Value→Prop} {St1 St2:Nat→Heap→Prop} {a b:Value}
end
end L2
namespace L2
open PySem PySem.Spec PyProof.Rows
open PySem.Sem (wp)
section
variable {σ:St} {H:Hp} {K:PySem.W.Frag}
end
end L2
namespace L2
open PySem PySem.Spec PyProof.Rows
open PySem.Sem (wp)
open AutoSeq1 (wpAny_loadPart')
section
variable {X:Cx}
end
section
variable {H:Hp} {Q:VK} {K:PySem.W.Frag}
end
end L2
namespace L2
open PySem PySem.W PySem.Spec PyProof.Rows
section
variable {g:Nat→Int} {N:Nat}
end
end L2
namespace L2
open PySem PySem.W PySem.Spec PyProof.Rows
section
variable {prog:Program} {w:World} {A:Around} {E:Value→Shared→Prop} {s:Shared}
end
end L2
namespace L2
open PySem PySem.W PySem.Spec PyProof.Rows
section
variable {prog:Program} {w:World} {A:Around} {E:Value→Shared→Prop} {s:Shared}
end
section
variable {X:Cx}
end
section
variable {H:Hp} {Q:VK}
end
end L2
namespace L2
open PySem PySem.Spec PyProof.Rows
open PySem.Sem (wp)
section
variable {prog:Program} {w:World} {A:Around} {E:Value→Shared→Prop} {s:Shared} {z TI TO i1 i2:Addr} {fp1 fp2:List Addr} {n1 n2 k1 k2:Nat} {P1 P2:Nat→Value→Prop} {St1 St2:Nat→Heap→Prop} {a b f0 f1:Value}
end
end L2
namespace L2
open PySem PySem.Spec PyProof.Rows
open PySem.Sem (wp)
open PySem.AutoSeq1 (wpAny_loadPart')
section
variable {prog:Program} {w:World} {A:Around} {E:Value→Shared→Prop} {s:Shared} {z TI TO i1 i2 e:Addr} {fp1 fp2:List Addr} {n1 n2 k1 k2:Nat} {P1 P2:Nat→Value→Prop} {St1 St2:Nat→Heap→Prop} {a b f0 f1:Value}
end
structure EApart (e z TI TO i1 i2 a b:Addr):Prop where
 Z:Ss z TI TO i1 i2 [i1,a] [i2,b]
 ez:e≠z
 eTI:e≠TI
 eTO:e≠TO
 ei1:e≠i1
 ei2:e≠i2
 a1:a≠i1
 b2:b≠i2
end L2
namespace L2
open PySem PySem.Spec PyProof.Rows
open PySem.Sem (wp)
open PySem.AutoSeq1 (wpAny_loadPart')
section
variable {σ:St} {H:Hp} {K:PySem.W.Frag}
end
end L2
namespace L2
open PySem PySem.Spec PyProof.Rows
open PySem.Sem (wp)
section
variable {prog:Program} {w:World} {A:Around} {E:Value→Shared→Prop} {s:Shared}
end
structure TurnU (P:Program) (w:World) (K:PySem.W.Frag) (tg:Expr) (J:It) (fp:List Addr) (it:Addr) (tn:Nat→Heap→Prop) (xh:Addr):Prop where
 mem:it∈fp
 obj:∀ i h,tn i h→∀ b∈fp,∃ o,h.get? b=some o∧∀ v,o.data≠.cell v
 keep:∀ i h h',tn i h→(∀ b∈fp,∀ o,h.get? b=some o→h'.get? b=some o)→tn i h'
 item:∀ (X:Cx),X.prog=P→X.w=w→X.K=K→X.A.handled=some (.ref xh)→∀ (i:Nat) (pins:List (Addr×Obj)) (s:Shared) (σ:St) (H:Hp) (E:Value→Shared→Prop),Inv X pins σ H s→(∀ b∈fp,kY X pins H b)→tn i s.heap→J.go i H→
  wpAny (model P w) X.A (pyNext (.ref it)) (fun r s1=>∃ u,r=some u∧
   wpAny (model P w) X.A (letOwnedTupleGo tg (.ref it) u) (fun _ s2=>∃ x H',Inv X pins σ H' s2∧RelV x u∧J.yld i H x H'∧tn (i+1) s2.heap∧∀ b∈fp,H' b=none) E s1) E s
 done:∀ (X:Cx),X.prog=P→X.w=w→X.K=K→X.A.handled=some (.ref xh)→∀ (i:Nat) (pins:List (Addr×Obj)) (s:Shared) (σ:St) (H:Hp) (E:Value→Shared→Prop),Inv X pins σ H s→(∀ b∈fp,kY X pins H b)→tn i s.heap→J.stop i H→
  wpAny (model P w) X.A (pyNext (.ref it)) (fun r s1=>r=none∧Inv X pins σ H s1) E s
 self:∀ (A:Around) (i:Nat) (s:Shared) (Q:Value→Shared→Prop) (E:Value→Shared→Prop),tn i s.heap→Q (.ref it) s→wpAny (model P w) A (pyIter (.ref it)) Q E s
section
variable {X:Cx} {tg iter elt:Expr} {ifs:List Expr} {scope:Scope} {pos:Pos} {N':List Str} {sub:List (Option Nat)} {wi:TI} {g:TG} {tt:TT} {te:TE}
end
structure FnV (P:Program) (w:World) (K:PySem.W.Frag) (mg:Str→Option Value) (base:Heap) (k:Nat) (f:Addr) (fd:FuncData) (ps:List Str) (sp:Addr→Sp):Prop where
 len:∀ xh vs H Q E,sp xh vs H Q E→vs.length=ps.length
 run:∀ (A:Around) (outer:List Env) (s:Shared) (H:Hp) (args:Args) (us:List Value) (vs:List V) (Q:VK) (E:XK) (xh:Addr),A.handled=some (.ref xh)→Qj k A→Env0 P w K mg base A outer s H→BindsTo s fd args (ps.zip us)→Vals vs us→sp xh vs H Q E→
  codeAny (model P w) A (.call (.ref f) args) (CR Af outer P w H s Q E) s
end L2
namespace L2
open PySem PySem.Spec PyProof.Rows
section
variable {X:Cx} {nm n:Str} {P:Addr} {i:Nat} {p pos:Pos} {b0:Stmt} {suite:List Stmt} {ts:Addr→TS} {th:TH} {hs:List ExceptHandler}
variable {K:PySem.W.Frag} {x:Str}
end
end L2
namespace L2
open PySem PySem.Spec PyProof.Rows
section
variable {K:PySem.W.Frag} {σ:St} {H:Hp}
end
def Qk (K:PySem.W.Frag):R2:=fun x y H Q=>∃ a b xs,x= .ref a∧y= .ref b∧SqT K H a xs∧SqT K H b xs∧(∀ v∈xs,jl v=true∨∃ r,v= .ref r)∧Q (.bl false) H
section
variable {X:Cx}
theorem MP (hu:X.A.units < cLine):OpR X (compareOp .NotEq) (Qk X.K):=by
 intro pins s σ H x y v u Q I rx ry h
 obtain ⟨a,b,xs,rfl,rfl,ha,hb,fx,q⟩:=h
 cases rx
 cases ry
 obtain ⟨its,r1,p1,z1⟩:=I.tuple ha
 obtain ⟨jts,r2,p2,z2⟩:=I.tuple hb
 have l1:its.toArray.size=xs.length:=by simpa using r1.length.symm
 have l2:jts.toArray.size=xs.length:=by simpa using r2.length.symm
 refine SeqAt.RcNeAt.tuples (e:=fun _=>true) p1 p2 hu (fun j h1 h2=>?_) X.prog X.w _ _ ?_
 ·have hj:j < xs.length:=by omega
  obtain ⟨u1,e1,q1⟩:=r1.get (List.getElem?_eq_getElem hj)
  obtain ⟨u2,e2,q2⟩:=r2.get (List.getElem?_eq_getElem hj)
  have f1:its.toArray[j]=u1:=by
   obtain ⟨_,z⟩:=List.getElem?_eq_some_iff.mp e1
   simpa using z
  have f2:jts.toArray[j]=u2:=by
   obtain ⟨_,z⟩:=List.getElem?_eq_some_iff.mp e2
   simpa using z
  rw [f1,f2]
  rcases fx _ (List.getElem_mem hj) with f | ⟨r,f⟩
  ·rw [← qg f]
   exact qN q1 q2 f f
  ·rw [f] at q1 q2
   cases (show u1=Value.ref r from q1)
   cases (show u2=Value.ref r from q2)
   exact SeqAt.EqAt.same _
 ·have e:(!((List.range (min its.toArray.size jts.toArray.size)).all (fun _=>true) && its.toArray.size == jts.toArray.size))=false:=by rw [l1,l2];simp
  rw [e]
  exact ⟨.bl false,H,I,rfl,q⟩
def Wd (K:PySem.W.Frag):R2:=fun x y H Q=>Wa K x y H Q∨Qk K x y H Q
theorem Su {K:PySem.W.Frag} (hK:X.K=K) (hu:X.A.units+64 < cLine):OpR X (compareOp .NotEq) (Wd K):=by
 subst hK
 exact (Sg rfl hu).or (MP (Nat.lt_of_le_of_lt (Nat.le_add_right _ _) hu))
end
section
variable {K:PySem.W.Frag} {H:Hp} {Q:VK}
end
end L2
namespace L2
open PySem PySem.Spec PyProof.Rows
structure m6 (K:PySem.W.Frag) (mg:Str→Option Value) (x:Str):Prop where
 at_:mg x=some (.ref (aU mg x))
 cl:Cls K (aU mg x)
 makes:PySem.W.makesIn K (aU mg x)=true
 kp:PySem.W.keepIn K (.ref (aU mg x))=true
def clsIn (K:PySem.W.Frag) (C:Addr):Bool:=PySem.W.plainGet K C Str.empty && PySem.W.hasDictIn K C && PySem.W.plainOver K C
theorem yN {K:PySem.W.Frag} {mg:Str→Option Value} {h:Heap} (X:K.In h) (G:h.Ns mainGlobals mg) {x:Str} {C:Addr} (a:PySem.W.nsIn K mainGlobals x=some (some (.ref C))) (b:clsIn K C=true)
  (s:PySem.W.findIn K (.ref C) "__setattr__"=some (some (.builtin "object.__setattr__"))) (m:PySem.W.makesIn K C=true) (k:PySem.W.keepIn K (.ref C)=true):m6 K mg x:=by
 have e0:=PySem.W.mg_of X G a
 have e:=fZ e0
 unfold clsIn at b
 simp only [Bool.and_eq_true] at b
 exact ⟨by rw [e];exact e0,by rw [e];exact ⟨b.1.1,b.1.2,b.2,s⟩,by rw [e];exact m,by rw [e];exact k⟩
structure uH (K:PySem.W.Frag) (mg:Str→Option Value) (x m qual:Str) (st:Stmt):Prop where
 ex:∃ f fd,Meth K (aU mg x) m f∧Fun K m qual st f fd
theorem Cz {K:PySem.W.Frag} {mg:Str→Option Value} {h:Heap} (X:K.In h) (G:h.Ns mainGlobals mg) {x m qual:Str} {C f:Addr} {st:Stmt} {oc:Value} {od an:Option Addr} {osl:Array (Option Value)} {kV doc pm cdv ct:Value}
  (a:PySem.W.nsIn K mainGlobals x=some (some (.ref C))) (i:PySem.W.findIn K (.ref C) m=some (some (.ref f))) (n:PySem.W.isFn K (.ref f)=true)
  (l:K.lookup f=some ⟨oc,od,.func (PySem.W.fnOf m qual (dB st) (bU st) (aq st) .none kV doc pm an cdv ct),osl⟩) (c:PySem.W.codeIn K cdv qual=true) (k:PySem.W.keepIn K (.ref f)=true):uH K mg x m qual st:=by
 have e:=fZ (PySem.W.mg_of X G a)
 exact ⟨f,_,by rw [e];exact ⟨i,n,k⟩,tM l c k⟩
theorem yO {K:PySem.W.Frag} {mg:Str→Option Value} {h:Heap} (X:K.In h) (G:h.Ns mainGlobals mg) {x:Str} {C:Addr} {fl:List Str} (a:PySem.W.nsIn K mainGlobals x=some (some (.ref C))) (b:Iv K C fl=true):∀ f∈fl,NoAttr K (aU mg x) f:=fun n hn=>by
 rw [fZ (PySem.W.mg_of X G a)]
 have:=List.all_eq_true.mp b n hn
 first | exact of_decide_eq_true this | exact beq_iff_eq.mp this | simpa using this
def ql (j:Nat):Stmt→Stmt
 | .ClassDef _ _ _ ss _ _ _ _ _ _ _=>ss.getD j (.Pass ⟨0,0,0,0⟩)
 | s=>s
def yP (P:Program) (w:World) (K:PySem.W.Frag) (mg:Str→Option Value) (base:Heap) (k:Nat) (x m:Str) (ps:List Str) (sp:Sp):Prop:=
 ∃ f fd,Meth K (aU mg x) m f∧Binds K fd ps []∧FnOk P w K mg base (Ih P w) k f fd ps sp
section
variable {P:Program} {w:World} {K:PySem.W.Frag} {mg:Str→Option Value} {base:Heap}
theorem M6 {x m qual:Str} {st:Stmt} {N ps:List Str} {k:Nat} {sp:Sp} (D:uH K mg x m qual st) (S:aD N ps (aq st))
  (hb:∀ (kV doc pm:Value) (an:Option Addr) (cdv ct:Value) (us:List Value),us.length=ps.length→bindArgs (PySem.W.fnOf m qual (dB st) (bU st) (aq st) .none kV doc pm an cdv ct) ⟨us,[]⟩=pure (ps.zip us))
  (len:∀ vs H Q E,sp vs H Q E→vs.length=ps.length)
  (hbody:∀ (f:Addr) (cdv:Value) (A:Around) (outer:List Env) (s:Shared) (H:Hp) (vs:List V) (Q:VK) (E:XK),Room k (A.deeper (envOfC qual (aq st) s.heap.objs.size f cdv))→sp vs H Q E→
   ∃ t,JB (oR (Ih P w) P w K mg base N qual (aq st) f cdv A outer s H E) (bU st) t∧t {nx:=fun _ H'=>Q .non H',rt:=Q} (start N vs) H):yP P w K mg base (k+1) x m ps sp:=by
 obtain ⟨f,fd,hm,F⟩:=D.ex
 refine ⟨f,fd,hm,F.binds hb,?_⟩
 obtain ⟨oc,od,kV,doc,pm,an,cdv,ct,osl,rfl,lk,hcd⟩:=F.ex
 exact BV lk hcd S len fun A outer s H vs Q E hr h=>let ⟨t,j,q⟩:=hbody f cdv A outer s H vs Q E hr h;⟨t,j.run,q⟩
end
def Ay (C:Addr) (sp:Sp) (R:St→XK) (t:TA):TE:=fun σ H Q=>t σ H fun vs H1=>∀ x dx,H1 x=none→H1 dx=none→dx≠x→
 sp (.ref x :: vs) (upd (upd H1 dx (.own x)) x (.ins C dx [])) (fun v H2=>v= .non∧Q (.ref x) H2) (R σ)
section
variable {X:Cx} {K:PySem.W.Frag} {k:Nat} {f C:Addr} {ps:List Str} {sp:Sp} {R:St→XK} {x m fn:Str} {p pos apos pos':Pos} {e o value:Expr} {es:List Expr} {ta tv:TE} {t:TA} {pins:List (Addr×Obj)} {σ:St} {H:Hp} {s:Shared} {Q:VK} {us:List Value} {vs:List V}
theorem EY (c:m6 X.K X.mg x) (F:yP X.prog X.w X.K X.mg X.base k x "__init__" ps sp) (hr:Room (k+1) X.A) (hx:nJ X R) (I:Inv X pins σ H s) (r:Vals vs us)
  (h:∀ y dx,H y=none→H dx=none→dx≠y→sp (.ref y :: vs) (upd (upd H dx (.own y)) y (.ins (aU X.mg x) dx [])) (fun v H2=>v= .non∧Q (.ref y) H2) (R σ)):
  wpAny (model X.prog X.w) X.A (call (.ref (aU X.mg x)) us) (EP X pins σ Q) X.xe s:=by
 obtain ⟨f,fd,hm,hb,F⟩:=F
 have hq:=h (s.heap.objs.size+1) s.heap.objs.size (I.hok.fresh (Nat.le_succ _)) (I.hok.fresh (Nat.le_refl _)) (Nat.ne_of_lt (Nat.lt_succ_self _))
 have I2:=Inv.made (C:=aU X.mg x) I
 have r2:Vals (V.ref (s.heap.objs.size+1) :: vs) (Value.ref (s.heap.objs.size+1) :: us):=.cons rfl r
 have hl:((Value.ref (s.heap.objs.size+1) :: us) ++ []).length=ps.length:=by
  have e:=r2.length
  rw [F.len _ _ _ _ hq] at e
  rw [List.append_nil]
  exact e.symm
 have bd:=hb _ (Value.ref (s.heap.objs.size+1) :: us) I2.kIn hl
 rw [List.append_nil] at bd
 refine wpAny_call (GZ (f:=f) I.kIn c.makes hm.at_ (beq_iff_eq.mp hm.fn) (codeAny_mono (F.run _ X.stack _ _ ⟨Value.ref (s.heap.objs.size+1) :: us,[]⟩ (Value.ref (s.heap.objs.size+1) :: us) _ _ (R σ) (hr.make (aU X.mg x) us [])
  (I2.env0.make (aU X.mg x) us []) bd r2 hq) fun r s' hq'=>?_))
 cases r with
 | error e=>exact hx pins e s' (Cp I2 hq')
 | ok fl=>
  cases fl with
  | ret u=>
   obtain ⟨v,H',I3,rv,ev,q3⟩:=I2.after hq'
   subst ev
   exact ⟨rv,⟨V.ref (s.heap.objs.size+1),H',I3,rfl,q3⟩⟩
  | next=>exact False.elim hq'
  | brk=>exact False.elim hq'
  | cont=>exact False.elim hq'
theorem cH (c:m6 X.K X.mg x) (F:yP X.prog X.w X.K X.mg X.base k x "__init__" ps sp) (hr:Room (k+1) X.A) (hg:Gl X x) (hx:nJ X R) (ha:JA X (e :: es) t) (hdb:(x == ("__debug__":Str))=false) (h:autoParam ((e :: es).all notStar=true) L2.auto4._auto_1):
  JE X (.Call (.Name x p) (e :: es) [] pos) (Ay (aU X.mg x) sp R t):=⟨by
 have h1:notStar e=true:=by simp only [List.all_cons,Bool.and_eq_true] at h;exact h.1
 have h2:es.all notStar=true:=by simp only [List.all_cons,Bool.and_eq_true] at h;exact h.2
 intro pins s σ H Q I h
 refine wpAny_Call_Name_kw (pO I hg c.at_ ?_ hdb)
 refine PySem.W.callWith_K (h₀:=X.base) I.ok.mod.kin c.kp (eZ (ha.run pos pins s σ H _ I h) fun us s1 ⟨vs,H1,I1,r,q⟩=>⟨I1.kIn,?_⟩) (bV h1) (mF h2)
 exact EY c F hr hx I1 r q⟩
theorem CG (hK:X.K=K) (he:JE X e ta) (h:autoParam (oG e=true) L2.auto4._auto_1):JE X (.Attribute e fn pos) (Ra K ta fn):=by
 subst hK
 exact ⟨Rc he.run (by cases e <;> first | rfl | cases h)⟩
theorem qR (hK:X.K=K) (ha:JE X o ta) (hv:JE X value tv) (h:autoParam (jX value=true) L2.auto4._auto_1):JS X (.Assign [.Attribute o fn pos'] value pos) (Rb K ta tv fn):=by
 subst hK
 exact ⟨Rf ha.run hv.run (vh h)⟩
end
section
variable {σ:St} {H:Hp} {D:Ends} {Q:VK} {sp:Sp} {R:St→XK} {a:TA} {K:PySem.W.Frag} {C:Addr} {ta tv:TE} {f m:Str}
theorem cI (h:a σ H fun vs H1=>∀ x dx,H1 x=none→H1 dx=none→dx≠x→sp (.ref x :: vs) (upd (upd H1 dx (.own x)) x (.ins C dx [])) (fun v H2=>v= .non∧Q (.ref x) H2) (R σ)):Ay C sp R a σ H Q:=h
theorem jd (h:ta σ H fun x H1=>∃ a C dx fs v,x= .ref a∧H1 a=some (.ins C dx fs)∧Cls K C∧NoAttr K C f∧fs.lookup f=some v∧Q v H1):Ra K ta f σ H Q:=h
theorem eV (h:tv σ H fun y H1=>ta σ H1 fun x H2=>∃ a C dx fs,x= .ref a∧H2 a=some (.ins C dx fs)∧Cls K C∧NoAttr K C f∧fs.length < 1000∧D.nx σ (upd H2 a (.ins C dx (j8 f y fs)))):Rb K ta tv f D σ H:=h
end
end L2
namespace L2
open PySem PySem.Spec PyProof.Rows
section
variable {X:Cx} {mg:Str→Option Value} {o:Expr} {ta:TE} {t:TA} {x m:Str} {ps:List Str} {sp:Sp} {k:Nat} {R:St→XK} {e:Expr} {es:List Expr} {pos apos:Pos}
theorem IW {p:Pos} (hmg:X.mg=mg) (c:m6 X.K X.mg x) (F:yP X.prog X.w X.K X.mg X.base k x "__init__" ps sp) (hr:Room (k+1) X.A) (hg:Gl X x) (hx:nJ X R) (ha:JA X (e :: es) t) (hdb:(x == ("__debug__":Str))=false) (h:autoParam ((e :: es).all notStar=true) L2.auto4._auto_1):
  JE X (.Call (.Name x p) (e :: es) [] pos) (Ay (aU mg x) sp R t):=by
 subst hmg
 exact cH c F hr hg hx ha hdb h
end
end L2
namespace L2
open PySem PySem.Spec PyProof.Rows
section
variable {σ:St} {H:Hp} {Q:VK}
def Sv (o:HO) (n:Nat) (H:Hp) (Q:VK):Prop:=n≤sizeLine∧∀ p,H p=none→Q (.ref p) (upd H p o)
theorem ju {a:TA} (h:a σ H fun xs H1=>Sv (.lst xs) xs.length H1 Q):Lb a σ H Q:=h
theorem jw {a:TA} (h:a σ H fun xs H1=>Sv (.tup xs) xs.length H1 Q):La a σ H Q:=h
theorem fJ {o:HO} {n:Nat} (c:Nat.ble n 64=true) (h:∀ p H',H p=none→Same H H'→H' p=some o→Q (.ref p) H'):Sv o n H Q:=
 ⟨Nat.le_trans (Nat.le_of_ble_eq_true c) (by decide),fun p np=>h p _ np ((Same.refl H).upd np) aj⟩
end
end L2
namespace L2
open PySem PySem.Spec PyProof.Rows
section
variable {X:Cx}
def M8:V→List V→Hp→VK→Prop:=fun x xs H Q=>∃ (z y:Str) (i:Nat) (rest:List Nat),x= .str z∧xs=[.str y]∧Builtin.Str.occurrences z y 0 z.length 1=i :: rest∧Q (.int i) H
theorem Fb:Kq X "str.index" M8:=by
 intro pins s σ H x xs v us Q I rx r h
 obtain ⟨z,y,i,rest,rfl,rfl,ho,q⟩:=h
 obtain ⟨u,rfl,t',rfl⟩:=vals1 r
 obtain ⟨t,rfl⟩:=rx
 exact SC.index ho ⟨.int _,H,I.tok _,⟨_,rfl⟩,q⟩
end
end L2
namespace L2
open PySem PySem.Spec PyProof.Rows
section
variable {sub:List (Option Nat)} {g:TG} {tt:TT} {te:TE} {σ:St} {Q:VK} {H:Hp} {K:PySem.W.Frag} {a:Addr} {xs:List V} {lo:Int} {n:Nat} {z:Str}
theorem Fd (Pv:Nat→List V→Hp→Prop) (hn:n≤sizeLine) (h0:Pv 0 [] H) (hl:∀ i ys H,Pv i ys H→ys.length≤i)
  (hs:∀ i ys H,i < n→Pv i ys H→g (.int (lo+i)) (cT sub σ) H fun σ2 H2=>KeepSt (cT sub σ) σ2∧tt σ2 H2 fun b H3=>if b=true then te σ2 H3 fun y H4=>Pv (i+1) (ys ++ [y]) H4 else Pv (i+1) ys H3)
  (hd:∀ ys H D H',Pv n ys H→H D=none→Same H H'→H' D=some (.lst ys)→Q (.ref D) H'):pY sub g tt te σ Q (Gf lo n) H:=
 HQ Pv hn h0 hl hs fun ys H p D nD=>hd ys H D _ p nD ((Same.refl H).upd nD) aj
theorem mL (Pv:Nat→List V→Hp→Prop) (hn:xs.length≤sizeLine) (h0:Pv 0 [] H) (hl:∀ i ys H,Pv i ys H→ys.length≤i) (hq:∀ i ys H,Pv i ys H→SqL K H a xs)
  (hs:∀ i ys H x,xs[i]?=some x→Pv i ys H→g x (cT sub σ) H fun σ2 H2=>KeepSt (cT sub σ) σ2∧tt σ2 H2 fun b H3=>if b=true then te σ2 H3 fun y H4=>Pv (i+1) (ys ++ [y]) H4 else Pv (i+1) ys H3)
  (hd:∀ ys H D H',Pv xs.length ys H→H D=none→Same H H'→H' D=some (.lst ys)→Q (.ref D) H'):pY sub g tt te σ Q (PK K a) H:=
 vz Pv hn h0 hl hq hs fun ys H p D nD=>hd ys H D _ p nD ((Same.refl H).upd nD) aj
theorem vD (Pv:Nat→List V→Hp→Prop) (hn:z.cps.size≤sizeLine) (h0:Pv 0 [] H) (hl:∀ i ys H,Pv i ys H→ys.length≤i)
  (hs:∀ i ys H c,z.cps.toList[i]?=some c→Pv i ys H→g (.str ⟨#[c]⟩) (cT sub σ) H fun σ2 H2=>KeepSt (cT sub σ) σ2∧tt σ2 H2 fun b H3=>if b=true then te σ2 H3 fun y H4=>Pv (i+1) (ys ++ [y]) H4 else Pv (i+1) ys H3)
  (hd:∀ ys H D H',Pv z.cps.size ys H→H D=none→Same H H'→H' D=some (.lst ys)→Q (.ref D) H'):pY sub g tt te σ Q (Lp z) H:=
 yD Pv hn h0 hl hs fun ys H p D nD=>hd ys H D _ p nD ((Same.refl H).upd nD) aj
theorem CJ {f:Nat→V} {i:Nat} {y:V} (h:y=f i):(List.range i).map f ++ [y]=(List.range (i+1)).map f:=by rw [h,List.range_succ,List.map_append];rfl
theorem vG (f:Nat→V) (hn:n≤sizeLine)
  (hs:∀ i,i < n→g (.int (lo+i)) (cT sub σ) H fun σ2 H2=>KeepSt (cT sub σ) σ2∧tt σ2 H2 fun b H3=>if b=true then te σ2 H3 fun y H4=>H4=H∧(List.range i).map f ++ [y]=(List.range (i+1)).map f else H3=H∧(List.range i).map f=(List.range (i+1)).map f)
  (hd:∀ D H',H D=none→Same H H'→H' D=some (.lst ((List.range n).map f))→Q (.ref D) H'):pY sub g tt te σ Q (Gf lo n) H:=by
 refine Fd (fun i ys H'=>H'=H∧ys=(List.range i).map f) hn ⟨rfl,rfl⟩ ?_ ?_ ?_
 ·rintro i ys H' ⟨_,rfl⟩
  simp
 ·rintro i ys H' hi ⟨rfl,rfl⟩
  exact hs i hi
 ·rintro ys H1 D H' ⟨rfl,rfl⟩ nD s e
  exact hd D H' nD s e
end
end L2
namespace L2
open PySem PySem.Spec PyProof.Rows
def Kr (rk:Keyed→Int) (xs:Array Keyed) (i:Nat):Int:=match xs[i]? with
 | some p=>rk p
 | none=>0
structure SB (a₀:Array Keyed) (kd:SortKind) (st:SortSt):Prop where
 perm:(arrOf st).Perm a₀
 kind:kindOf st=kd
 failed:failedOf st=none
section
variable {M:Model} {A:Around} {E:Value→Shared→Prop} {s:Shared} {kd:SortKind} {rk:Keyed→Int} {a₀:Array Keyed}
structure Nx (a₀:Array Keyed) (kd:SortKind) (rk:Keyed→Int) (lo:Nat) (st st':SortSt):Prop where
 sb:SB a₀ kd st'
 fr:∀ k,k < lo→Kr rk (arrOf st') k=Kr rk (arrOf st) k
 pe:pendingOf st'=pendingOf st
end
end L2
namespace L2
open PySem PySem.Spec PyProof.Rows
section
variable {M:Model} {A:Around} {E:Value→Shared→Prop} {s:Shared} {kd:SortKind} {rk:Keyed→Int} {a₀:Array Keyed}
end
end L2
namespace L2
open PySem PySem.Spec PyProof.Rows
section
variable {M:Model} {A:Around} {E:Value→Shared→Prop} {s:Shared} {kd:SortKind} {rk:Keyed→Int} {a₀:Array Keyed}
abbrev PwL (rk:Keyed→Int) (l:List Keyed):Prop:=l.Pairwise fun p q=>rk p≤rk q
structure Sm (st st':SortSt):Prop where
 arr:arrOf st'=arrOf st
 kind:kindOf st'=kindOf st
 failed:failedOf st'=failedOf st
 pend:pendingOf st'=pendingOf st
structure MI (rk:Keyed→Int) (a b out:Array Keyed) (ia ib:Nat):Prop where
 ha:ia≤a.size
 hb:ib≤b.size
 so:PwL rk out.toList
 le:∀ p∈out.toList,∀ q∈a.toList.drop ia ++ b.toList.drop ib,rk p≤rk q
 pm:(out.toList ++ (a.toList.drop ia ++ b.toList.drop ib)).Perm (a.toList ++ b.toList)
end
end L2
set_option maxHeartbeats 8000000
namespace L2
open PySem PySem.Spec PyProof.Rows
section
variable {M:Model} {A:Around} {E:Value→Shared→Prop} {s:Shared} {kd:SortKind} {rk:Keyed→Int} {a₀:Array Keyed}
end
end L2
namespace L2
open PySem PySem.Spec PyProof.Rows
section
variable {M:Model} {A:Around} {E:Value→Shared→Prop} {s:Shared} {kd:SortKind} {rk:Keyed→Int} {a₀:Array Keyed}
structure MH (rk:Keyed→Int) (a b out:Array Keyed) (na nb:Nat):Prop where
 ha:na≤a.size
 hb:nb≤b.size
 so:PwL rk out.toList.reverse
 le:∀ p∈a.toList.take na ++ b.toList.take nb,∀ q∈out.toList,rk p≤rk q
 pm:((a.toList.take na ++ b.toList.take nb) ++ out.toList.reverse).Perm (a.toList ++ b.toList)
end
end L2
namespace L2
open PySem PySem.Spec PyProof.Rows
section
variable {M:Model} {A:Around} {E:Value→Shared→Prop} {s:Shared} {kd:SortKind} {rk:Keyed→Int} {a₀:Array Keyed}
end
end L2
namespace L2
open PySem PySem.Spec PyProof.Rows
section
variable {M:Model} {A:Around} {E:Value→Shared→Prop} {s:Shared} {kd:SortKind} {rk:Keyed→Int} {a₀:Array Keyed}
end
end L2
namespace L2
open PySem PySem.W PySem.Spec PyProof.Rows
section
variable {prog:Program} {w:World} {A:Around} {E:Value→Shared→Prop} {s:Shared}
end
section
variable {X:Cx}
end
section
variable {H:Hp} {Q:VK}
end
end L2
namespace L2
open PySem PySem.Spec PyProof.Rows
section
variable {prog:Program} {w:World} {A:Around} {E:Value→Shared→Prop} {s:Shared}
end
end L2
namespace L2
open PySem PySem.Spec PyProof.Rows
section
variable {K:PySem.W.Frag} {σ:St} {H:Hp}
end
end L2
namespace L2
open PySem PySem.W PySem.Spec PyProof.Rows
section
variable {prog:Program} {w:World} {A:Around} {E:Value→Shared→Prop} {s:Shared}
end
section
variable {X:Cx}
end
section
variable {H:Hp} {Q:VK}
end
end L2
namespace L2
open PySem PySem.Spec PyProof.Rows
end L2
namespace L2
open PySem PySem.Spec PyProof.Rows
section
variable {X:Cx}
end
section
variable {H:Hp} {Q:VK} {K:PySem.W.Frag}
end
end L2
namespace L2
open PySem PySem.Spec PyProof.Rows
section
variable {X:Cx} {N':List Str} {scope:Scope} {C:Addr} {s₀:Shared} {H₀:Hp} {ex:List Addr} {x:Str} {pos:Pos}
end
end L2
namespace L2
open PySem PySem.Spec PyProof.Rows
section
variable {X:Cx}
end
section
variable {H:Hp} {Q:VK}
end
section
variable {sub:List (Option Nat)} {g:TG} {tt:TT} {te:TE} {σ:St} {Q:VK} {H:Hp} {K:PySem.W.Frag} {a b:Addr} {xs ys:List V}
end
end L2
namespace HT
open PySem PySem.Spec PyProof.Rows
section
variable {prog:Program} {w:World} {A:Around} {E:Value→Shared→Prop} {s:Shared}
end
end HT
namespace L2
open PySem PySem.Spec PyProof.Rows
section
variable {X:Cx}
end
section
variable {H:Hp} {Q:VK} {K:PySem.W.Frag} {p:Addr} {xs:List V} {lo hi:Option Int}
end
theorem pA {xs:List V} {k:Nat}:qM xs (some (k:Int)) none=xs.drop k:=by
 unfold qM
 rw [HT.sIx_none,HT.sIx_nat]
 by_cases h:k≤xs.length
 ·rw [Nat.min_eq_left h,List.take_of_length_le (by rw [List.length_drop];omega)]
 ·rw [Nat.min_eq_right (by omega),List.drop_eq_nil_of_le (by omega),List.drop_eq_nil_of_le (by omega)];simp
theorem ug {xs:List V} {k:Nat}:qM xs none (some (k:Int))=xs.take k:=by
 unfold qM
 rw [HT.sIx_none,HT.sIx_nat,List.drop_zero,Nat.sub_zero]
 by_cases h:k≤xs.length
 ·rw [Nat.min_eq_left h]
 ·rw [Nat.min_eq_right (by omega),List.take_of_length_le (by omega),List.take_of_length_le (by omega)]
end L2
namespace L2
open PySem PySem.Spec PyProof.Rows
end L2
namespace L2
open PySem PySem.Spec PyProof.Rows
section
variable {prog:Program} {w:World} {A:Around} {E:Value→Shared→Prop} {s:Shared} {d it:Addr} {es:Array DictEntry} {ep i:Nat}
end
end L2
namespace L2
open PySem PySem.Spec PyProof.Rows
section
variable {X:Cx} {pins:List (Addr×Obj)} {σ:St} {H:Hp} {s:Shared}
end
end L2
namespace L2
open PySem PySem.Spec PyProof.Rows
section
variable {prog:Program} {w:World} {A:Around} {E:Value→Shared→Prop} {s:Shared} {d it v:Addr} {es:Array DictEntry} {ep i:Nat}
end
end L2
namespace L2
open PySem PySem.Spec PyProof.Rows
section
variable {X:Cx} {K:PySem.W.Frag} {a b e f o:Expr} {ta tb tc:TE} {pos apos cpos:Pos} {H:Hp} {Q:VK} {σ:St}
theorem Ja (hu:X.A.units+64 < cLine) (ha:JE X a ta) (hb:JE X b tb) (h:autoParam (ni b=true) L2.auto4._auto_1):JE X (.Subscript a b pos) (Hj ta tb):=⟨Ln (by omega) ha.run hb.run (pix h)⟩
theorem wL (h:ta σ H fun x H1=>tb σ H1 fun y H2=>∃ a v,x= .ref a∧DGet H2 a y (some v)∧Q v H2):Hj ta tb σ H Q:=h
end
end L2
namespace L2
open PySem PySem.Spec PyProof.Rows
section
variable {prog:Program} {w:World} {A:Around} {E:Value→Shared→Prop} {s:Shared} {d:Addr} {es:Array DictEntry} {ep:Nat}
end
section
variable {X:Cx} {pins:List (Addr×Obj)} {σ:St} {H:Hp} {s:Shared} {K:PySem.W.Frag}
end
section
variable {X:Cx} {pins:List (Addr×Obj)} {σ:St} {H:Hp} {s:Shared} {a b:Addr} {kvs:List (List Key×V)} {k:List Key} {z:V} {r:Value} {A:Around} {E:Value→Shared→Prop}
end
section
variable {X:Cx} {K:PySem.W.Frag} {e f o:Expr} {es:List Expr} {ta tb tc:TE} {t:TA} {pos apos cpos:Pos} {H:Hp} {Q:VK} {σ:St} {D:Ends}
end
end L2
namespace L2
open PySem PySem.Spec PyProof.Rows
structure o5 (K:PySem.W.Frag) (mg:Str→Option Value) (xs:List Str) (m qual:Str) (st:Stmt):Prop where
 ex:∃ f fd,(∀ x∈xs,Meth K (aU mg x) m f)∧Fun K m qual st f fd
theorem wM {K:PySem.W.Frag} {mg:Str→Option Value} {h:Heap} (X:K.In h) (G:h.Ns mainGlobals mg) {x1 x2 x3 x4 m qual:Str} {C1 C2 C3 C4 f:Addr} {st:Stmt} {oc:Value} {od an:Option Addr} {osl:Array (Option Value)} {kV doc pm cdv ct:Value}
  (a1:PySem.W.nsIn K mainGlobals x1=some (some (.ref C1))) (a2:PySem.W.nsIn K mainGlobals x2=some (some (.ref C2))) (a3:PySem.W.nsIn K mainGlobals x3=some (some (.ref C3))) (a4:PySem.W.nsIn K mainGlobals x4=some (some (.ref C4)))
  (i1:PySem.W.findIn K (.ref C1) m=some (some (.ref f))) (i2:PySem.W.findIn K (.ref C2) m=some (some (.ref f))) (i3:PySem.W.findIn K (.ref C3) m=some (some (.ref f))) (i4:PySem.W.findIn K (.ref C4) m=some (some (.ref f)))
  (n:PySem.W.isFn K (.ref f)=true)
  (l:K.lookup f=some ⟨oc,od,.func (PySem.W.fnOf m qual (dB st) (bU st) (aq st) .none kV doc pm an cdv ct),osl⟩) (c:PySem.W.codeIn K cdv qual=true) (k:PySem.W.keepIn K (.ref f)=true):o5 K mg [x1,x2,x3,x4] m qual st:=by
 have e1:=fZ (PySem.W.mg_of X G a1)
 have e2:=fZ (PySem.W.mg_of X G a2)
 have e3:=fZ (PySem.W.mg_of X G a3)
 have e4:=fZ (PySem.W.mg_of X G a4)
 refine ⟨f,_,fun x hx=>?_,tM l c k⟩
 simp only [List.mem_cons,List.mem_nil_iff,or_false] at hx
 rcases hx with rfl | rfl | rfl | rfl
 ·rw [e1];exact ⟨i1,n,k⟩
 ·rw [e2];exact ⟨i2,n,k⟩
 ·rw [e3];exact ⟨i3,n,k⟩
 ·rw [e4];exact ⟨i4,n,k⟩
def Fe (P:Program) (w:World) (K:PySem.W.Frag) (mg:Str→Option Value) (base:Heap) (k:Nat) (xs:List Str) (m:Str) (ps:List Str) (sp:Sp):Prop:=
 ∃ f fd,(∀ x∈xs,Meth K (aU mg x) m f)∧Binds K fd ps []∧FnOk P w K mg base (Ih P w) k f fd ps sp
section
variable {P:Program} {w:World} {K:PySem.W.Frag} {mg:Str→Option Value} {base:Heap}
theorem Nb {xs:List Str} {m qual:Str} {st:Stmt} {N ps:List Str} {k:Nat} {sp:Sp} (D:o5 K mg xs m qual st) (S:aD N ps (aq st))
  (hb:∀ (kV doc pm:Value) (an:Option Addr) (cdv ct:Value) (us:List Value),us.length=ps.length→bindArgs (PySem.W.fnOf m qual (dB st) (bU st) (aq st) .none kV doc pm an cdv ct) ⟨us,[]⟩=pure (ps.zip us))
  (len:∀ vs H Q E,sp vs H Q E→vs.length=ps.length)
  (hbody:∀ (f:Addr) (cdv:Value) (A:Around) (outer:List Env) (s:Shared) (H:Hp) (vs:List V) (Q:VK) (E:XK),Room k (A.deeper (envOfC qual (aq st) s.heap.objs.size f cdv))→sp vs H Q E→
   ∃ t,JB (oR (Ih P w) P w K mg base N qual (aq st) f cdv A outer s H E) (bU st) t∧t {nx:=fun _ H'=>Q .non H',rt:=Q} (start N vs) H):Fe P w K mg base (k+1) xs m ps sp:=by
 obtain ⟨f,fd,hm,F⟩:=D.ex
 refine ⟨f,fd,hm,F.binds hb,?_⟩
 obtain ⟨oc,od,kV,doc,pm,an,cdv,ct,osl,rfl,lk,hcd⟩:=F.ex
 exact BV lk hcd S len fun A outer s H vs Q E hr h=>let ⟨t,j,q⟩:=hbody f cdv A outer s H vs Q E hr h;⟨t,j.run,q⟩
end
def Jb (mg:Str→Option Value) (xs:List Str) (m:Str) (sp:Sp) (R:St→XK) (ta:TE) (t:TA):TE:=fun σ H Q=>ta σ H fun x H1=>∃ a y dx fs,x= .ref a∧y∈xs∧H1 a=some (.ins (aU mg y) dx fs)∧fs.lookup m=none∧t σ H1 fun vs H2=>sp (x :: vs) H2 Q (R σ)
def Ql (sp:Sp) (R:St→XK) (t:TA):TE:=fun σ H Q=>t σ H fun vs H1=>sp vs H1 Q (R σ)
def Ys (K:PySem.W.Frag) (mg:Str→Option Value) (xs:List Str):Prop:=∀ x∈xs,Cls K (aU mg x)
theorem Nf {K:PySem.W.Frag} {mg:Str→Option Value} {x1 x2 x3 x4:Str} (h1:m6 K mg x1) (h2:m6 K mg x2) (h3:m6 K mg x3) (h4:m6 K mg x4):Ys K mg [x1,x2,x3,x4]:=fun x hx=>by
 simp only [List.mem_cons,List.mem_nil_iff,or_false] at hx
 rcases hx with rfl | rfl | rfl | rfl
 ·exact h1.cl
 ·exact h2.cl
 ·exact h3.cl
 ·exact h4.cl
structure CK (K:PySem.W.Frag) (mg:Str→Option Value) (x m qual:Str) (st:Stmt):Prop where
 at_:mg x=some (.ref (aU mg x))
 sp:PySem.W.specialIn K (.ref (aU mg x)) "__getattribute__"=some (some (.builtin "type.__getattribute__"))
 rd:PySem.W.readsIn K (aU mg x) (.type "type")=true
 ex:∃ f fd,PySem.W.findCls K (.ref (aU mg x)) (.type "type") m=some (.val (.ref f))∧PySem.W.keepIn K (.ref f)=true∧Fun K m qual st f fd
theorem We {K:PySem.W.Frag} {mg:Str→Option Value} {h:Heap} (X:K.In h) (G:h.Ns mainGlobals mg) {x m qual:Str} {C f:Addr} {st:Stmt} {oc:Value} {od an:Option Addr} {osl:Array (Option Value)} {kV doc pm cdv ct:Value}
  (a:PySem.W.nsIn K mainGlobals x=some (some (.ref C))) (s:PySem.W.specialIn K (.ref C) "__getattribute__"=some (some (.builtin "type.__getattribute__"))) (r:PySem.W.readsIn K C (.type "type")=true)
  (i:PySem.W.findCls K (.ref C) (.type "type") m=some (.val (.ref f)))
  (l:K.lookup f=some ⟨oc,od,.func (PySem.W.fnOf m qual (dB st) (bU st) (aq st) .none kV doc pm an cdv ct),osl⟩) (c:PySem.W.codeIn K cdv qual=true) (k:PySem.W.keepIn K (.ref f)=true):CK K mg x m qual st:=by
 have e0:=PySem.W.mg_of X G a
 have e:=fZ e0
 exact ⟨by rw [e];exact e0,by rw [e];exact s,by rw [e];exact r,f,_,by rw [e];exact i,k,tM l c k⟩
def Sw (P:Program) (w:World) (K:PySem.W.Frag) (mg:Str→Option Value) (base:Heap) (k:Nat) (x m:Str) (ps:List Str) (sp:Sp):Prop:=
 mg x=some (.ref (aU mg x))∧PySem.W.specialIn K (.ref (aU mg x)) "__getattribute__"=some (some (.builtin "type.__getattribute__"))∧PySem.W.readsIn K (aU mg x) (.type "type")=true∧
 ∃ f fd,PySem.W.findCls K (.ref (aU mg x)) (.type "type") m=some (.val (.ref f))∧PySem.W.keepIn K (.ref f)=true∧Binds K fd ps []∧FnOk P w K mg base (Ih P w) k f fd ps sp
section
variable {P:Program} {w:World} {K:PySem.W.Frag} {mg:Str→Option Value} {base:Heap}
theorem hasC {x m qual:Str} {st:Stmt} {N ps:List Str} {k:Nat} {sp:Sp} (D:CK K mg x m qual st) (S:aD N ps (aq st))
  (hb:∀ (kV doc pm:Value) (an:Option Addr) (cdv ct:Value) (us:List Value),us.length=ps.length→bindArgs (PySem.W.fnOf m qual (dB st) (bU st) (aq st) .none kV doc pm an cdv ct) ⟨us,[]⟩=pure (ps.zip us))
  (len:∀ vs H Q E,sp vs H Q E→vs.length=ps.length)
  (hbody:∀ (f:Addr) (cdv:Value) (A:Around) (outer:List Env) (s:Shared) (H:Hp) (vs:List V) (Q:VK) (E:XK),Room k (A.deeper (envOfC qual (aq st) s.heap.objs.size f cdv))→sp vs H Q E→
   ∃ t,JB (oR (Ih P w) P w K mg base N qual (aq st) f cdv A outer s H E) (bU st) t∧t {nx:=fun _ H'=>Q .non H',rt:=Q} (start N vs) H):Sw P w K mg base (k+1) x m ps sp:=by
 obtain ⟨f,fd,hm,kp,F⟩:=D.ex
 refine ⟨D.at_,D.sp,D.rd,f,fd,hm,kp,F.binds hb,?_⟩
 obtain ⟨oc,od,kV,doc,pm,an,cdv,ct,osl,rfl,lk,hcd⟩:=F.ex
 exact BV lk hcd S len fun A outer s H vs Q E hr h=>let ⟨t,j,q⟩:=hbody f cdv A outer s H vs Q E hr h;⟨t,j.run,q⟩
end
section
variable {X:Cx} {K:PySem.W.Frag} {k:Nat} {f C:Addr} {ps xs:List Str} {sp:Sp} {R:St→XK} {x m fn:Str} {p pos apos pos':Pos} {e o value:Expr} {es:List Expr} {ta tv:TE} {t:TA} {pins:List (Addr×Obj)} {σ:St} {H:Hp} {s:Shared} {Q:VK} {us:List Value} {vs:List V} {mg:Str→Option Value}
theorem bG {pl:Sem Bool} (hmg:X.mg=mg) (he:JE X o ta) (c:Ys X.K X.mg xs) (F:Fe X.prog X.w X.K X.mg X.base k xs m ps sp) (hr:Room k X.A) (hx:nJ X R)
  (ht:eval (.Call (.Attribute o m apos) [] [] pos) X.env=(do
   let ov ← eval o X.env
   standAt apos.atName
   let (f,first) ← holding [ov] (getMethod ov m pl)
   callWith pos f first (backTo pos (starEach [] X.env)) (backToKw pos (keywordEach [] X.env))):=by rfl):
  JE X (.Call (.Attribute o m apos) [] [] pos) (Jb mg xs m sp R ta K8):=⟨by
 subst hmg
 obtain ⟨f,fd,hm,hb,F⟩:=F
 intro pins s σ H Q I h
 refine PySem.W.methodCall_KW (pl:=pl) (eZ (he.run pins s σ H _ I h) fun u s1 qq0=>?_) ht
 obtain ⟨x,H1,I1,rx,a,y,dx,fs,ex,hy,ea,l,q⟩:=qq0
 subst ex
 obtain rfl:u=Value.ref a:=rx
 refine zZ I1 ea (c y hy) (hm y hy) l ?_
 exact PySem.W.callWith_K0 (first:=[.ref a]) I1.kIn (hm y hy).kp (Cw (us:=[.ref a]) (vs:=[.ref a]) F hr hb hx I1 (.cons rfl .nil) q)⟩
theorem wN {pl:Sem Bool} (F:Sw X.prog X.w X.K X.mg X.base k x m ps sp) (hr:Room k X.A) (hg:Gl X x) (hx:nJ X R) (ha:JA X (e :: es) t) (hdb:(x == ("__debug__":Str))=false)
  (hs:autoParam ((e :: es).all notStar=true) L2.auto4._auto_1)
  (ht:eval (.Call (.Attribute (.Name x p) m apos) (e :: es) [] pos) X.env=(do
   let ov ← eval (.Name x p) X.env
   standAt apos.atName
   let (f,first) ← holding [ov] (getMethod ov m pl)
   callWith pos f first (backTo pos (starEach (e :: es) X.env)) (backToKw pos (keywordEach [] X.env))):=by rfl):
  JE X (.Call (.Attribute (.Name x p) m apos) (e :: es) [] pos) (Ql sp R t):=⟨by
 have h1:notStar e=true:=by simp only [List.all_cons,Bool.and_eq_true] at hs;exact hs.1
 have h2:es.all notStar=true:=by simp only [List.all_cons,Bool.and_eq_true] at hs;exact hs.2
 obtain ⟨at_,sg,rd,f,fd,fc,kp,hb,F⟩:=F
 intro pins s σ H Q I h
 refine PySem.W.methodCall_KW (pl:=pl) (pO I hg at_ ?_ hdb) ht
 refine PySem.W.method_cls I.kIn sg (PySem.W.cls_value I.kIn rd fc rfl ?_)
 have I1:=I.tok (s.toks+1)
 refine PySem.W.callWith_K (first:=[]) (h₀:=X.base) I.ok.mod.kin kp (eZ (ha.run pos pins _ σ H _ I1 h) fun us s2 ⟨vs,H2,I2,r,q2⟩=>⟨I2.kIn,?_⟩) (bV h1) (mF h2)
 exact Cw F hr hb hx I2 r q2⟩
end
section
variable {σ:St} {H:Hp} {D:Ends} {Q:VK} {sp:Sp} {R:St→XK} {a:TA} {K:PySem.W.Frag} {xs:List Str} {mg:Str→Option Value} {ta tv:TE} {f m:Str}
theorem cJ (h:ta σ H fun x H1=>∃ b y dx fs,x= .ref b∧y∈xs∧H1 b=some (.ins (aU mg y) dx fs)∧fs.lookup m=none∧a σ H1 fun vs H2=>sp (x :: vs) H2 Q (R σ)):Jb mg xs m sp R ta a σ H Q:=h
theorem eY (h:a σ H fun vs H1=>sp vs H1 Q (R σ)):Ql sp R a σ H Q:=h
end
end L2
namespace L2
open PySem PySem.Spec PyProof.Rows
def Wf (xs:Array Value) (c:Nat):Obj:={cls:=.type "list",dict:=none,data:=.seq xs c,slots:=#[]}
section
variable {prog:Program} {w:World} {A:Around} {R:Result→Shared→Prop} {I S:Addr} {fp wr:List Addr} {n:Nat} {P:Nat→Value→Prop} {St:Nat→Heap→Prop} {d:Value} {bt:Nat→Nat→Bool}
abbrev mdl (I S:Addr) (d:Value):Code:=.builtin "max.loop" ⟨[.ref I,.none,.ref S],[(Str.ofString "default",d)]⟩
theorem Ng (W:Walks prog w A.in1 I fp wr n P St) (hcmp:CmpOf prog w A.in1 .Gt P bt) (hSf:S ∉ fp):∀ (k j:Nat) (s:Shared) (v:Value) (c:Nat),j+k+1=n→St (j+1) s.heap→P (argBest bt j) v→s.heap.get? S=some (Wf #[v,v] c)→
  (∀ v h' tk,P (argBest bt (n - 1)) v→(∀ b o,b ∉ wr→b≠S→s.heap.get? b=some o→h'.get? b=some o)→R (.ok (.ret v)) {s with heap:=h',toks:=tk})→codeAny (model prog w) A (mdl I S d) R s:=by
 have hSw:S ∉ wr:=fun h=>hSf (W.sub _ h)
 have nm:(toString "max" ++ toString ".loop":String)="max.loop":=by decide
 intro k
 induction k with
 | zero=>
  intro j s v c e hst hv hS hR
  refine codeAny_builtin F.entry_max_loop ?_
  rw [Around.under_plainId F.plain_max_loop _]
  show wpAny _ A.in1 (seqItems? (.ref S) >>=_) _ _ s
  refine wpAny_bind (wpAny_seqItems hS rfl ?_)
  show wpAny _ A.in1 (tryCatch (pyNext (.ref I)) _ >>=_) _ _ s
  have e':j+1=n:=e
  refine wpAny_bind (wpAny_tryCatch (W.done s _ _ (e' ▸ hst) fun h' tk kp=>?_))
  refine wpAny_bind (m:=updateSeq S fun _=>#[]) ?_
  refine wpAny_updateSeq (kp S _ hSw hS) rfl (wpAny_bind (wpAny_letGo (wpAny_pure (hR v _ tk ?_ fun b o n1 n2 q=>?_))))
  ·rw [← e'];exact hv
  ·exact (Heap.get?_update_other _ _ (Ne.symm n2)).trans (kp b o n1 q)
 | succ k ih=>
  intro j s v c e hst hv hS hR
  refine codeAny_builtin F.entry_max_loop ?_
  rw [Around.under_plainId F.plain_max_loop _]
  show wpAny _ A.in1 (seqItems? (.ref S) >>=_) _ _ s
  refine wpAny_bind (wpAny_seqItems hS rfl ?_)
  show wpAny _ A.in1 (tryCatch (pyNext (.ref I)) _ >>=_) _ _ s
  refine wpAny_bind (wpAny_tryCatch (W.item (j+1) s _ _ (by omega) hst fun u h' tk hu hst' kp=>?_))
  have hS':=kp S _ hSw hS
  show wpAny _ A.in1 (tryCatch (holding [u,u] (richCompare .Gt u v >>=_)) _ >>=_) _ _ _
  refine wpAny_bind (wpAny_tryCatch (wpAny_holding (wpAny_bind (hcmp (j+1) (argBest bt j) u v _ _ _ hu hv ?_))))
  refine wpAny_bind (wpAny_holding (wpAny_truthy_bool (wpAny_bind (wpAny_letGo (wpAny_pure ?_)))))
  have eb:argBest bt (j+1)=if bt (j+1) (argBest bt j) then j+1 else argBest bt j:=rfl
  cases hb:bt (j+1) (argBest bt j) with
  | true=>
   rw [hb,if_pos rfl] at eb
   rw [if_pos rfl]
   refine wpAny_bind (wpAny_updateSeq hS' rfl (wpAny_bind (wpAny_letGo ?_)))
   rw [nm]
   refine wpAny_pure ⟨plainId_quiet F.plain_max_loop _,ih (j+1) _ u _ (by omega) (W.frame _ _ _ hst' fun b hf o q=>?_) (by rw [eb];exact hu) (Heap.get?_update_self _ hS' rfl) fun v' h2 tk2 hv' k2=>hR v' h2 tk2 hv' fun b o n1 n2 q=>?_⟩
   ·exact (Heap.get?_update_other _ _ (fun z:S=b=>hSf (z ▸ hf))).trans q
   ·exact k2 b o n1 n2 ((Heap.get?_update_other _ _ (Ne.symm n2)).trans (kp b o n1 q))
  | false=>
   rw [hb,if_neg (by decide)] at eb
   rw [if_neg (by decide)]
   refine wpAny_bind (wpAny_letGo ?_)
   rw [nm]
   exact wpAny_pure ⟨plainId_quiet F.plain_max_loop _,ih (j+1) _ v c (by omega) hst' (by rw [eb];exact hv) hS' fun v' h2 tk2 hv' k2=>hR v' h2 tk2 hv' fun b o n1 n2 q=>k2 b o n1 n2 (kp b o n1 q)⟩
theorem Az (W:Walks prog w A.in1 I fp wr n P St) (hcmp:CmpOf prog w A.in1 .Gt P bt) (hSf:S ∉ fp) {s:Shared} {c:Nat} (hst:St 0 s.heap) (hS:s.heap.get? S=some (Wf #[] c))
  (h0:n=0→∀ h' tk,(∀ b o,b ∉ wr→b≠S→s.heap.get? b=some o→h'.get? b=some o)→R (.ok (.ret d)) {s with heap:=h',toks:=tk})
  (hR:0 < n→∀ v h' tk,P (argBest bt (n - 1)) v→(∀ b o,b ∉ wr→b≠S→s.heap.get? b=some o→h'.get? b=some o)→R (.ok (.ret v)) {s with heap:=h',toks:=tk}):codeAny (model prog w) A (mdl I S d) R s:=by
 have hSw:S ∉ wr:=fun h=>hSf (W.sub _ h)
 have nm:(toString "max" ++ toString ".loop":String)="max.loop":=by decide
 refine codeAny_builtin F.entry_max_loop ?_
 rw [Around.under_plainId F.plain_max_loop _]
 show wpAny _ A.in1 (seqItems? (.ref S) >>=_) _ _ s
 refine wpAny_bind (wpAny_seqItems hS rfl ?_)
 show wpAny _ A.in1 (tryCatch (pyNext (.ref I)) _ >>=_) _ _ s
 by_cases hn:n=0
 ·refine wpAny_bind (wpAny_tryCatch (W.done s _ _ (hn ▸ hst) fun h' tk kp=>?_))
  show wpAny _ A.in1 (rule _ >>=_) _ _ _
  exact wpAny_bind (wpAny_rule (wpAny_pure (h0 hn h' tk fun b o n1 _ q=>kp b o n1 q)))
 ·refine wpAny_bind (wpAny_tryCatch (W.item 0 s _ _ (by omega) hst fun u h' tk hu hst' kp=>?_))
  have hS':=kp S _ hSw hS
  show wpAny _ A.in1 (updateSeq S (fun _=>#[u,u]) >>=_) _ _ _
  refine wpAny_bind (wpAny_updateSeq hS' rfl ?_)
  rw [nm]
  refine wpAny_pure ⟨plainId_quiet F.plain_max_loop _,Ng W hcmp hSf (n - 1) 0 _ u _ (by omega) (W.frame _ _ _ hst' fun b hf o q=>?_) hu (Heap.get?_update_self _ hS' rfl) fun v' h2 tk2 hv' k2=>hR (by omega) v' h2 tk2 hv' fun b o n1 n2 q=>?_⟩
  ·exact (Heap.get?_update_other _ _ (fun z:S=b=>hSf (z ▸ hf))).trans q
  ·exact k2 b o n1 n2 ((Heap.get?_update_other _ _ (Ne.symm n2)).trans (kp b o n1 q))
theorem Ff (a v:Value):argsOk "max" ⟨[a],[(Str.ofString "default",v)]⟩:=by unfold argsOk;kernel_rfl
theorem Fg {E:Value→Shared→Prop} {s:Shared} {x:Value} {Q:Value→Shared→Prop} (h:wpAny (model prog w) A.in1 (pyIter x) (fun it s₂=>∃ I fp wr n P St bt,it= .ref I∧Walks prog w A.in1 I fp wr n P St∧St 0 s₂.heap∧(∀ b∈fp,b < s₂.heap.objs.size)∧CmpOf prog w A.in1 .Gt P bt∧
   (n=0→∀ h' tk,(∀ b o,b ∉ wr→s₂.heap.get? b=some o→h'.get? b=some o)→Q d {s₂ with heap:=h',toks:=tk})∧
   (0 < n→∀ v h' tk,P (argBest bt (n - 1)) v→(∀ b o,b ∉ wr→s₂.heap.get? b=some o→h'.get? b=some o)→Q v {s₂ with heap:=h',toks:=tk})) E s):
  wpAny (model prog w) A (call (.builtin "max") [x] [(Str.ofString "default",d)]) Q E s:=by
 have nm:(toString "max" ++ toString ".loop":String)="max.loop":=by decide
 refine kmk_tree F.kind_max F.plain_max F.entry_max (Ff _ _) ?_
 show wpAny _ A.in1 (Builtin.Builtins.bindParams "max" ["key","default"] 0 ⟨[],[(Str.ofString "default",d)]⟩ >>=_) _ _ s
 refine wpAny_bind (wpAny_of_eq (show Builtin.Builtins.bindParams "max" ["key","default"] 0 ⟨[],[(Str.ofString "default",d)]⟩=pure [none,some d] from rfl) ?_)
 refine wpAny_bind (wpAny_pure ?_)
 refine wpAny_bind (wpAny_mono h (fun it s₂ h₂=>?_) fun _ _ e=>e)
 obtain ⟨I,fp,wr,n,P,St,bt,rfl,W,hst,hfp,hcmp,q0,q1⟩:=h₂
 refine wpAny_bind (wpAny_newObj_type ?_)
 have hSf:s₂.heap.objs.size ∉ fp:=fun hm=>Nat.lt_irrefl _ (hfp _ hm)
 rw [nm]
 have lt:∀ {b o},s₂.heap.get? b=some o→b≠s₂.heap.objs.size:=fun e=>Nat.ne_of_lt (Heap.lt_size e)
 exact wpAny_pure ⟨plainId_quiet F.plain_max_loop _,Az W hcmp hSf (W.frame _ _ _ hst fun b _ o e=>Heap.get?_push_of_some _ e) (Heap.get?_push_size _ rfl)
  (fun hn h' tk kp=>q0 hn h' tk fun b o n1 e=>kp b o n1 (lt e) (Heap.get?_push_of_some _ e)) (fun hn v h' tk hv kp=>q1 hn v h' tk hv fun b o n1 e=>kp b o n1 (lt e) (Heap.get?_push_of_some _ e))⟩
end
def Jc:V→V→Hp→VK→Prop:=fun x y H Q=>∃ (p:Addr) (ns:List Int),x= .ref p∧H p=some (.lst (ns.map V.int))∧(ns=[]→Q y H)∧∀ M,M∈ns→(∀ a∈ns,a≤M)→Q (.int M) H
def Qm (ta td:TE):TE:=fun σ H Q=>ta σ H fun x H1=>td σ H1 fun y H2=>Jc x y H2 Q
section
variable {X:Cx} {pins:List (Addr×Obj)} {σ:St} {H:Hp} {s:Shared} {Q:VK} {x:Str} {p pos kpos:Pos} {e dv:Expr} {ta td:TE}
theorem Jd {u ud:Value} {v y:V} (hc:X.calm=true) (I:Inv X pins σ H s) (rv:RelV v u) (ry:RelV y ud) (h:Jc v y H Q):
  wpAny (model X.prog X.w) X.A (call (.builtin "max") [u] [(Str.ofString "default",ud)]) (EP X pins σ Q) X.xe s:=by
 obtain ⟨p,ns,rfl,hp,q0,q1⟩:=h
 obtain rfl:u= .ref p:=rv
 obtain ⟨hz,its,n,rv,g⟩:=I.hok p _ hp
 have hi:IntsAre its ns:=intsAre_of rv
 have hl:=rv.length
 obtain ⟨ys,ey⟩:=hi.allInts.items
 have hn:=hi.numsOf
 have hL:s.heap.IsList p (intItems ys):=⟨_,g,rfl,n,by rw [← ey]⟩
 have en:ys.toList.map (·.1)=ns:=by rw [← nums_intItems,← ey,← hn]
 have el:ys.size=ns.length:=by rw [← en];simp
 have ez:(intItems ys).size=ys.size:=by simp [intItems]
 refine Fg (iter_intList hL fun s₂ e st hfp hlI=>?_)
 subst e
 refine ⟨_,_,_,_,_,_,_,rfl,Walks.list (A:=X.A.in1) (I.ok.hd hc) _ p hlI (intItems ys),st,hfp,CmpOf.ints_gt (numAt ys) (fun _ _=>intItems_at),fun h0 h' tk hk=>?_,fun h0 v h' tk hP hk=>?_⟩
 ·exact ⟨y,H,I.kept (old_kept hk),ry,q0 (List.eq_nil_of_length_eq_zero (by omega))⟩
 ·have hP':(intItems ys)[argBest (fun i j=>decide (numAt ys i > numAt ys j)) (ys.size - 1)]?=some v:=by rw [← ez];exact hP
  obtain ⟨t,rfl⟩:=intItems_at hP'
  obtain ⟨h1,h2⟩:=argBest_gt (numAt ys) (ys.size - 1)
  refine ⟨.int _,H,I.kept (old_kept hk),⟨t,rfl⟩,q1 _ ?_ fun a ha=>?_⟩
  ·rw [← en,numAt_eq];exact getD_mem (by rw [List.length_map,Array.length_toList];omega)
  ·rw [← en] at ha
   obtain ⟨j,hj,rfl⟩:=mem_getD ha
   rw [List.length_map,Array.length_toList] at hj
   rw [← numAt_eq];exact h2 j (by omega)
theorem Sy (hc:X.calm=true) (hg:Gl X "max") (hm:X.mg "max"=none) (ha:JE X e ta) (hd:JE X dv td) (h:autoParam (notStar e=true) L2.auto4._auto_1):
  JE X (.Call (.Name "max" p) [e] [⟨some "default",dv,kpos⟩] pos) (Qm ta td):=⟨by
 intro pins s σ H Q I hq
 refine wpAny_Call_Name_kw (jk I hg hm (show bootBuiltins "max"=some (.builtin "max") from by decide+kernel) ?_)
 refine PyProof.Rows.callWith_kw (arg1 h (eZ (ha.run pins s σ H _ I hq) fun u s1 qq0=>?_)) (by rw [bV h];rfl) (by rw [bV h];rfl)
 obtain ⟨v,H1,I1,rv,q1⟩:=qq0
 refine wpAny_evalAll_cons (wpAny_bind (eZ (hd.run pins s1 σ H1 _ I1 q1) fun ud s2 ⟨y,H2,I2,ry,q2⟩=>wpAny_bind (wpAny_standAt (wpAny_pure (wpAny_evalAll_nil ?_)))))
 exact Jd hc I2 rv ry q2⟩
end
section
variable {σ:St} {H:Hp} {Q:VK} {ta td:TE}
theorem cL (h:ta σ H fun x H1=>td σ H1 fun y H2=>Jc x y H2 Q):Qm ta td σ H Q:=h
end
structure ITxt (K:PySem.W.Frag) (mg:Str→Option Value) (x:Str):Prop where
 ha:PySem.W.findIn K (.ref (aU mg x)) "__class__"=some (some (.builtin "object.__class__"))
 hn:PySem.W.specialIn K (.builtin "object.__class__") "__get__"=some (some (.builtin "getset_descriptor.__get__"))
 htk:PySem.W.takesIn K (.builtin "object.__class__")=some true
 hm:PySem.W.mroIn K (aU mg x) (.type "object")=some true
theorem CN {K:PySem.W.Frag} {mg:Str→Option Value} {h:Heap} (X:K.In h) (G:h.Ns mainGlobals mg) {x:Str} {C:Addr} (a:PySem.W.nsIn K mainGlobals x=some (some (.ref C)))
  (b:PySem.W.findIn K (.ref C) "__class__"=some (some (.builtin "object.__class__"))) (c:PySem.W.specialIn K (.builtin "object.__class__") "__get__"=some (some (.builtin "getset_descriptor.__get__")))
  (d:PySem.W.takesIn K (.builtin "object.__class__")=some true) (e:PySem.W.mroIn K C (.type "object")=some true):ITxt K mg x:=by
 have q:=fZ (PySem.W.mg_of X G a)
 exact ⟨by rw [q];exact b,c,d,by rw [q];exact e⟩
theorem ITxt.ty {K:PySem.W.Frag} {mg:Str→Option Value} {x:Str} (i:ITxt K mg x) (cl:Cls K (aU mg x)) {H:Hp} {a dx:Addr} {fs:List (Str×V)} (h:H a=some (.ins (aU mg x) dx fs)):TyOf K H (.ref a) (.ref (aU mg x)):=.ins h cl i.ha i.hn i.htk i.hm
theorem km {K:PySem.W.Frag} {mg:Str→Option Value} {h:Heap} (X:K.In h) (G:h.Ns mainGlobals mg) {x:Str} {C:Addr} {t:Value} {r:Option Bool} (a:PySem.W.nsIn K mainGlobals x=some (some (.ref C))) (o:PySem.W.kitOne K t (.ref C)=r):PySem.W.kitOne K t (.ref (aU mg x))=r:=by
 rw [fZ (PySem.W.mg_of X G a)];exact o
end L2
namespace L2
open PySem PySem.Spec PyProof.Rows
def Wg:List V→Hp→(Int→Int→Nat→Prop)→Prop:=fun vs _ R=>∃ (lo:Int) (n:Nat),vs=[.int lo,.int (lo+n)]∧0≤lo∧lo≤1000000∧n≤1000000∧R lo 1 n
section
variable {X:Cx}
theorem uh {a b:Expr} {ta:TA} {p p2 p3 pos:Pos} (hc:X.calm=true) (hg:Gl X "list") (hm:X.mg "list"=none) (hg2:Gl X "range") (hm2:X.mg "range"=none) (ha:JA X [a,b] ta) (h:autoParam (notStar a=true) L2.auto4._auto_1) (h2:autoParam (notStar b=true) L2.auto4._auto_1):
  JE X (.Call (.Name "list" p) [.Call (.Name "range" p2) [a,b] [] p3] [] pos) (uf Wg ta):=⟨by
 intro pins s σ H Q I hq
 refine wpAny_Call_Name_kw (jk I hg hm lg (PyProof.Rows.callWith_type1 (arg1 rfl (wpAny_Call_Name_kw (jk I hg2 hm2 boot_range (PyProof.Rows.callWith_type1 (eZ (ha.run p3 pins s σ H _ I hq) fun us s1 qq0=>?_) (bV h) (by rw [bV h2];rfl))))) rfl rfl))
 obtain ⟨vs,H1,I1,r1,q1⟩:=qq0
 obtain ⟨lo,n,rfl,h0,h1,hn,q⟩:=q1
 obtain ⟨u,w',rfl,⟨t,rfl⟩,⟨t',rfl⟩⟩:=vals2 r1
 exact call_range_2 (qj hc I1 (small_one (by omega) (by omega) (by omega) (by omega)) (by rw [rangeSize_one];split <;> omega) hn q)⟩
end
section
variable {H:Hp}
theorem CP {lo hi:Int} {n:Nat} {R:Int→Int→Nat→Prop} (e:hi=lo+n) (h0:0≤lo) (h1:lo≤1000000) (hn:n≤1000000) (h:R lo 1 n):Wg [.int lo,.int hi] H R:=⟨lo,n,by rw [e],h0,h1,hn,h⟩
end
end L2
namespace L2
open PySem PySem.Spec PyProof.Rows
def Qn (K:PySem.W.Frag):R2:=fun x y H Q=>∃ a b xs,x= .ref a∧y= .ref b∧SqL K H a xs∧SqL K H b xs∧(∀ v∈xs,jl v=true∨∃ r,v= .ref r)∧Q (.bl false) H
section
variable {X:Cx}
theorem Nh (hu:X.A.units < cLine):OpR X (compareOp .NotEq) (Qn X.K):=by
 intro pins s σ H x y v u Q I rx ry h
 obtain ⟨a,b,xs,rfl,rfl,ha,hb,fx,q⟩:=h
 cases rx
 cases ry
 obtain ⟨its,r1,p1,z1⟩:=I.list ha
 obtain ⟨jts,r2,p2,z2⟩:=I.list hb
 have l1:its.toArray.size=xs.length:=by simpa using r1.length.symm
 have l2:jts.toArray.size=xs.length:=by simpa using r2.length.symm
 refine SeqAt.RcNeAt.lists (e:=fun _=>true) p1.isList p2.isList (by rw [l1,l2]) hu (fun j h1 h2=>?_) X.prog X.w _ _ ?_
 ·have hj:j < xs.length:=by omega
  obtain ⟨u1,e1,q1⟩:=r1.get (List.getElem?_eq_getElem hj)
  obtain ⟨u2,e2,q2⟩:=r2.get (List.getElem?_eq_getElem hj)
  have f1:its.toArray[j]=u1:=by
   obtain ⟨_,z⟩:=List.getElem?_eq_some_iff.mp e1
   simpa using z
  have f2:jts.toArray[j]=u2:=by
   obtain ⟨_,z⟩:=List.getElem?_eq_some_iff.mp e2
   simpa using z
  rw [f1,f2]
  rcases fx _ (List.getElem_mem hj) with f | ⟨r,f⟩
  ·rw [← qg f]
   exact qN q1 q2 f f
  ·rw [f] at q1 q2
   cases (show u1=Value.ref r from q1)
   cases (show u2=Value.ref r from q2)
   exact SeqAt.EqAt.same _
 ·have e:(!((List.range its.toArray.size).all (fun _=>true)))=false:=by simp
  rw [e]
  exact ⟨.bl false,H,I,rfl,q⟩
def Ni (K:PySem.W.Frag) (r:Bool):R2:=fun x y H Q=>∃ a b xs ys,x= .ref a∧y= .ref b∧SqL K H a xs∧SqL K H b ys∧xs.length≠ys.length∧Q (.bl r) H
theorem Nj (hu:X.A.units < cLine):OpR X (compareOp .Eq) (Ni X.K false):=by
 intro pins s σ H x y v u Q I rx ry h
 obtain ⟨a,b,xs,ys,rfl,rfl,ha,hb,ne,q⟩:=h
 cases rx
 cases ry
 obtain ⟨its,r1,p1,z1⟩:=I.list ha
 obtain ⟨jts,r2,p2,z2⟩:=I.list hb
 have l1:its.toArray.size=xs.length:=by simpa using r1.length.symm
 have l2:jts.toArray.size=ys.length:=by simpa using r2.length.symm
 exact SeqAt.eq_list_lengthsAt p1.isList p2.isList (by rw [l1,l2];simpa using ne) hu ⟨.bl false,H,I,rfl,q⟩
theorem Nk (hu:X.A.units < cLine):OpR X (compareOp .NotEq) (Ni X.K true):=by
 intro pins s σ H x y v u Q I rx ry h
 obtain ⟨a,b,xs,ys,rfl,rfl,ha,hb,ne,q⟩:=h
 cases rx
 cases ry
 obtain ⟨its,r1,p1,z1⟩:=I.list ha
 obtain ⟨jts,r2,p2,z2⟩:=I.list hb
 have l1:its.toArray.size=xs.length:=by simpa using r1.length.symm
 have l2:jts.toArray.size=ys.length:=by simpa using r2.length.symm
 exact SeqAt.RcNeAt.lists_lengths p1.isList p2.isList (by rw [l1,l2];simpa using ne) hu X.prog X.w _ _ ⟨.bl true,H,I,rfl,q⟩
def Je (K:PySem.W.Frag):R2:=fun x y H Q=>Mz K x y H Q∨Ni K false x y H Q
theorem jC {K:PySem.W.Frag} (hK:X.K=K) (hu:X.A.units+64 < cLine):OpR X (compareOp .Eq) (Je K):=by
 subst hK
 exact (jB rfl hu).or (Nj (Nat.lt_of_le_of_lt (Nat.le_add_right _ _) hu))
def Wh (K:PySem.W.Frag):R2:=fun x y H Q=>Wd K x y H Q∨Qn K x y H Q∨Ni K true x y H Q
theorem SJ {K:PySem.W.Frag} (hK:X.K=K) (hu:X.A.units+64 < cLine):OpR X (compareOp .NotEq) (Wh K):=by
 subst hK
 exact (Su rfl hu).or ((Nh (Nat.lt_of_le_of_lt (Nat.le_add_right _ _) hu)).or (Nk (Nat.lt_of_le_of_lt (Nat.le_add_right _ _) hu)))
end
section
variable {K:PySem.W.Frag} {H:Hp} {Q:VK}
theorem wO {i j:Int} (h:Q (.bl (decide (V.int i=V.int j))) H):Je K (.int i) (.int j) H Q:=.inl (dm h)
theorem wQ {i j:Str} (h:Q (.bl (decide (V.str i=V.str j))) H):Je K (.str i) (.str j) H Q:=.inl (dq h)
theorem SM {a b:Addr} {xs:List V} (ha:H a=some (.lst xs)) (hb:H b=some (.lst xs)) (f:∀ v∈xs,jl v=true∨∃ r,v= .ref r) (h:Q (.bl true) H):Je K (.ref a) (.ref b) H Q:=.inl (.inl (Sd (SqL.of ha) (SqL.of hb) f h))
theorem SN {a b:Addr} {xs ys:List V} (ha:H a=some (.lst xs)) (hb:H b=some (.lst ys)) (f:xs.length≠ys.length) (h:Q (.bl false) H):Je K (.ref a) (.ref b) H Q:=.inr ⟨a,b,xs,ys,rfl,rfl,SqL.of ha,SqL.of hb,f,h⟩
theorem SQ {a b:Addr} {xs:List V} (ha:H a=some (.lst xs)) (hb:H b=some (.lst xs)) (f:∀ v∈xs,jl v=true∨∃ r,v= .ref r) (h:Q (.bl false) H):Wh K (.ref a) (.ref b) H Q:=.inr (.inl ⟨a,b,xs,rfl,rfl,SqL.of ha,SqL.of hb,f,h⟩)
end
section
variable {X:Cx} {K:PySem.W.Frag} {o:Expr} {apos cpos:Pos} {ta:TE}
end
end L2
namespace My
open PySem L2
abbrev bD (d:Stmt) (x:Str):Prop:=(aq d).names.lookup x=some NameKind.local
abbrev SX (d:Stmt) (x:Str):Prop:=(aq d).names.lookup x=some NameKind.cell
abbrev bK (d:Stmt) (x:Str):Prop:=(aq d).names.lookup x=some NameKind.globalImplicit
def nI (cs:List Nat):List Int:=cs.map fun i:Nat=>(i:Int)
def oW (E:List Nat) (p:Nat):Bool:=decide (E.getD p 0 < E.getD (p+1) 0)
def aJ (E:List Nat) (p:Nat):List Nat:=if oW E p=true then (E.set p (E.getD (p+1) 0)).set (p+1) (E.getD p 0) else E
def bz (E:List Nat) (ps:List Nat):List Nat:=ps.foldl aJ E
theorem mj (E ps:List Nat) (p:Nat):bz E (ps ++ [p])=aJ (bz E ps) p:=by unfold bz;rw [List.foldl_append];rfl
theorem oH (E:List Nat) (p:Nat):(aJ E p).length=E.length:=by unfold aJ;split <;> simp
theorem jQ (E ps:List Nat):(bz E ps).length=E.length:=by
 induction ps generalizing E with
 | nil=>rfl
 | cons p ps ih=>exact (ih (aJ E p)).trans (oH E p)
theorem vH {E:List Nat} {p:Nat} (h:p+1 < E.length):E=E.take p ++ E.getD p 0 :: E.getD (p+1) 0 :: E.drop (p+2)∧(E.set p (E.getD (p+1) 0)).set (p+1) (E.getD p 0)=E.take p ++ E.getD (p+1) 0 :: E.getD p 0 :: E.drop (p+2):=by
 have e1:E.getD p 0=E[p]:=by rw [List.getD_eq_getElem?_getD,List.getElem?_eq_getElem (by omega)];rfl
 have e2:E.getD (p+1) 0=E[p+1]:=by rw [List.getD_eq_getElem?_getD,List.getElem?_eq_getElem h];rfl
 have f:E=E.take p ++ E.getD p 0 :: E.getD (p+1) 0 :: E.drop (p+2):=by
  rw [e1,e2]
  conv=>lhs;rw [← List.take_append_drop p E]
  rw [List.drop_eq_getElem_cons (by omega),List.drop_eq_getElem_cons h]
 refine ⟨f,?_⟩
 generalize E.getD p 0=a at f ⊢
 generalize E.getD (p+1) 0=b at f ⊢
 have lt:(E.take p).length=p:=by rw [List.length_take];omega
 conv=>lhs;rw [f]
 rw [List.set_append_right _ _ (by omega),lt,Nat.sub_self,List.set_cons_zero,List.set_append_right _ _ (by omega),lt,show p+1 - p=1 by omega]
 rfl
theorem pB {E:List Nat} {p:Nat} (h:p+1 < E.length):(aJ E p).Perm E:=by
 unfold aJ
 split
 ·obtain ⟨f1,f2⟩:=vH h
  rw [f2]
  conv=>rhs;rw [f1]
  exact (List.Perm.swap _ _ _).append_left _
 ·exact List.Perm.refl _
theorem oJ {ps:List Nat}:∀ {E:List Nat},(∀ p∈ps,p+1 < E.length)→(bz E ps).Perm E:=by
 induction ps with
 | nil=>intro E _;exact List.Perm.refl _
 | cons p ps ih=>
  intro E h
  have h1:=pB (h p (by simp))
  exact (ih (E:=aJ E p) fun q hq=>by rw [oH];exact h q (List.mem_cons_of_mem _ hq)).trans h1
def Jf (E:List Nat) (ps:List Nat) (i:Nat):List Nat:=(List.range i).filter fun j=>oW (bz E (ps.take j)) (ps.getD j 0)
theorem yQ (E ps:List Nat) (i:Nat):Jf E ps (i+1)=Jf E ps i ++ (if oW (bz E (ps.take i)) (ps.getD i 0)=true then [i] else []):=by
 unfold Jf
 rw [List.range_succ,List.filter_append]
 congr 1
 by_cases h:oW (bz E (ps.take i)) (ps.getD i 0)=true
 ·rw [if_pos h,List.filter_cons_of_pos (p:=fun j=>oW (bz E (ps.take j)) (ps.getD j 0)) h];rfl
 ·rw [if_neg h,List.filter_cons_of_neg (p:=fun j=>oW (bz E (ps.take j)) (ps.getD j 0)) h];rfl
theorem Nm (E ps:List Nat) (i:Nat):(Jf E ps i).length≤i:=Nat.le_trans (List.length_filter_le _ _) (by simp)
theorem qT {ps:List Nat} {i:Nat} (h:i < ps.length):ps.take (i+1)=ps.take i ++ [ps.getD i 0]:=by
 rw [List.take_add_one,List.getD_eq_getElem?_getD,List.getElem?_eq_getElem h];rfl
def pC (n:Nat):List (Nat×Nat):=(List.range n).flatMap fun x=>(List.range' (x+1) (n - (x+1))).map fun y=>(x,y)
def cr (t:List Nat):Nat:=(pC t.length).countP fun p=>decide (t.getD p.2 0 < t.getD p.1 0)
theorem pG {n:Nat} {p:Nat×Nat}:p∈pC n↔p.1 < p.2∧p.2 < n:=by
 unfold pC
 simp only [List.mem_flatMap,List.mem_map,List.mem_range,List.mem_range']
 constructor
 ·rintro ⟨x,hx,y,⟨i,hi,rfl⟩,rfl⟩
  exact ⟨by show x < x+1+1*i;omega,by show x+1+1*i < n;omega⟩
 ·rintro ⟨h1,h2⟩
  exact ⟨p.1,by omega,p.2,⟨p.2 - (p.1+1),by omega,by omega⟩,rfl⟩
theorem wR (n:Nat):(pC n).Nodup:=by
 unfold pC List.Nodup
 rw [List.pairwise_flatMap]
 refine ⟨fun x _=>?_,?_⟩
 ·rw [List.pairwise_map]
  exact (List.nodup_range' (s:=x+1) (n:=n - (x+1))).imp fun h e=>h (by injection e)
 ·refine List.nodup_range.imp fun {x y} h p hp q hq e=>?_
  obtain ⟨_,_,rfl⟩:=List.mem_map.mp hp
  obtain ⟨_,_,rfl⟩:=List.mem_map.mp hq
  injection e with e1 e2
  exact h e1
theorem vI {α:Type} {P Q:α→Bool} {a:α}:∀ {l:List α},l.Nodup→a∈l→(∀ b∈l,b≠a→P b=Q b)→P a=false→Q a=true→l.countP Q=l.countP P+1
 | [],_,h,_,_,_=>by cases h
 | b :: l,hn,h,he,hP,hQ=>by
  obtain ⟨hb,hn'⟩:=List.nodup_cons.mp hn
  by_cases hab:b=a
  ·subst hab
   rw [List.countP_cons_of_pos hQ,List.countP_cons_of_neg (by rw [hP];simp)]
   congr 1
   exact List.countP_congr fun c hc=>by rw [he c (List.mem_cons_of_mem _ hc) (fun z=>hb (z ▸ hc))]
  ·have ih:=vI hn' ((List.mem_cons.mp h).resolve_left fun z=>hab z.symm) (fun c hc=>he c (List.mem_cons_of_mem _ hc)) hP hQ
   have e:=he b (by simp) hab
   cases hq:Q b with
   | true=>rw [List.countP_cons_of_pos hq,List.countP_cons_of_pos (by rw [e,hq]),ih]
   | false=>rw [List.countP_cons_of_neg (by rw [hq];simp),List.countP_cons_of_neg (by rw [e,hq];simp),ih]
def inv (E:List Nat):List Nat:=(List.range E.length).map fun x=>E.idxOf x
theorem bJ (E:List Nat):(inv E).length=E.length:=by simp [inv]
theorem jD {E:List Nat} {x:Nat} (h:x < E.length):(inv E).getD x 0=E.idxOf x:=by
 unfold inv
 rw [List.getD_eq_getElem?_getD,List.getElem?_map,List.getElem?_range h];rfl
theorem gQ {E:List Nat} (hn:E.Nodup) {i x:Nat} (h:E[i]?=some x):E.idxOf x=i:=by
 obtain ⟨hi,rfl⟩:=List.getElem?_eq_some_iff.mp h
 exact hn.idxOf_getElem i hi
theorem Np {E:List Nat} {n p:Nat} (hE:E.Perm (List.range n)) (hp:p+1 < n) (hw:oW E p=true):cr (inv (aJ E p))=cr (inv E)+1:=by
 have hl:E.length=n:=by rw [hE.length_eq];simp
 have nd:E.Nodup:=hE.nodup_iff.mpr List.nodup_range
 have hlt:∀ x∈E,x < n:=fun x hx=>List.mem_range.mp (hE.mem_iff.mp hx)
 have hin:∀ x,x < n→x∈E:=fun x hx=>hE.mem_iff.mpr (List.mem_range.mpr hx)
 obtain ⟨a,ha⟩:∃ a,E[p]?=some a:=⟨_,List.getElem?_eq_getElem (by omega)⟩
 obtain ⟨b,hb⟩:∃ b,E[p+1]?=some b:=⟨_,List.getElem?_eq_getElem (by omega)⟩
 have da:E.getD p 0=a:=by rw [List.getD_eq_getElem?_getD,ha];rfl
 have db:E.getD (p+1) 0=b:=by rw [List.getD_eq_getElem?_getD,hb];rfl
 have hab:a < b:=by
  unfold oW at hw
  rw [da,db] at hw
  exact of_decide_eq_true hw
 have eF:aJ E p=(E.set p b).set (p+1) a:=by unfold aJ;rw [if_pos hw,da,db]
 have fp:=pB (E:=E) (p:=p) (by omega)
 have nF:(aJ E p).Nodup:=fp.nodup_iff.mpr nd
 have lF:(aJ E p).length=n:=by rw [oH];exact hl
 have gF:∀ i,(aJ E p)[i]?=if i=p+1 then some a else if i=p then some b else E[i]?:=fun i=>by
  rw [eF]
  by_cases h1:i=p+1
  ·subst h1
   rw [if_pos rfl,List.getElem?_set_self (by simp;omega)]
  ·rw [if_neg h1,List.getElem?_set_ne (fun z=>h1 z.symm)]
   by_cases h2:i=p
   ·subst h2
    rw [if_pos rfl,List.getElem?_set_self (by omega)]
   ·rw [if_neg h2,List.getElem?_set_ne (fun z=>h2 z.symm)]
 have ia:E.idxOf a=p:=gQ nd ha
 have ib:E.idxOf b=p+1:=gQ nd hb
 have ja:(aJ E p).idxOf a=p+1:=gQ nF (by rw [gF,if_pos rfl])
 have jb:(aJ E p).idxOf b=p:=gQ nF (by rw [gF,if_neg (by omega),if_pos rfl])
 have other:∀ x,x < n→x≠a→x≠b→(aJ E p).idxOf x=E.idxOf x∧E.idxOf x≠p∧E.idxOf x≠p+1:=fun x hx h1 h2=>by
  obtain ⟨i,hi,e⟩:=List.mem_iff_getElem.mp (hin x hx)
  have ei:E[i]?=some x:=by rw [List.getElem?_eq_getElem hi,e]
  have n1:i≠p:=fun z=>h1 (by subst z;rw [ha] at ei;exact (Option.some.inj ei).symm)
  have n2:i≠p+1:=fun z=>h2 (by subst z;rw [hb] at ei;exact (Option.some.inj ei).symm)
  rw [gQ nd ei]
  exact ⟨gQ nF (by rw [gF,if_neg n2,if_neg n1,ei]),n1,n2⟩
 have han:a < n:=hlt a (List.mem_of_getElem? ha)
 have hbn:b < n:=hlt b (List.mem_of_getElem? hb)
 unfold cr
 rw [bJ,bJ,lF,hl]
 refine vI (a:=(a,b)) (wR n) (pG.mpr ⟨hab,hbn⟩) ?_ ?_ ?_
 ·rintro ⟨x,y⟩ hxy hne
  obtain ⟨h1,h2⟩:=pG.mp hxy
  dsimp only at h1 h2 ⊢
  have hx:x < n:=by omega
  rw [jD (by omega),jD (by omega),jD (by omega),jD (by omega)]
  congr 1
  rw [eq_iff_iff]
  by_cases xa:x=a
  ·subst xa
   have yb:y≠b:=fun z=>hne (by rw [z])
   obtain ⟨o1,o2,o3⟩:=other y h2 (by omega) yb
   rw [o1,ia,ja];omega
  ·by_cases xb:x=b
   ·subst xb
    obtain ⟨o1,o2,o3⟩:=other y h2 (by omega) (by omega)
    rw [o1,ib,jb];omega
   ·obtain ⟨q1,q2,q3⟩:=other x hx xa xb
    by_cases ya:y=a
    ·subst ya
     rw [q1,ia,ja];omega
    ·by_cases yb:y=b
     ·subst yb
      rw [q1,ib,jb];omega
     ·obtain ⟨o1,_,_⟩:=other y h2 ya yb
      rw [q1,o1]
 ·dsimp only
  rw [jD (by omega),jD (by omega),ia,ib]
  exact decide_eq_false (by omega)
 ·dsimp only
  rw [jD (by omega),jD (by omega),ja,jb]
  exact decide_eq_true (by omega)
theorem Jg (n:Nat):cr (inv (List.range n))=0:=by
 unfold cr
 rw [List.countP_eq_zero]
 rintro ⟨x,y⟩ h
 rw [bJ,List.length_range] at h
 obtain ⟨h1,h2⟩:=pG.mp h
 dsimp only at h1 h2 ⊢
 have e:∀ z,z < n→(List.range n).idxOf z=z:=fun z hz=>gQ List.nodup_range (List.getElem?_range hz)
 rw [jD (by simpa using h2),jD (by simp;omega),e y h2,e x (by omega)]
 simp;omega
theorem Jh {n:Nat} {ps:List Nat} (hp:∀ p∈ps,p+1 < n):∀ i,i≤ps.length→cr (inv (bz (List.range n) (ps.take i)))=(Jf (List.range n) ps i).length
 | 0,_=>by rw [List.take_zero];exact Jg n
 | i+1,h=>by
  have ih:=Jh hp i (by omega)
  have hmem:ps.getD i 0∈ps:=by rw [List.getD_eq_getElem?_getD,List.getElem?_eq_getElem (by omega)];exact List.getElem_mem _
  have hpm:(bz (List.range n) (ps.take i)).Perm (List.range n):=oJ fun q hq=>by simpa using hp q (List.mem_of_mem_take hq)
  rw [qT (by omega),mj,yQ]
  by_cases hw:oW (bz (List.range n) (ps.take i)) (ps.getD i 0)=true
  ·rw [Np hpm (hp _ hmem) hw,ih,if_pos hw];simp
  ·rw [if_neg hw,List.append_nil,← ih]
   unfold aJ
   rw [if_neg hw]
structure Prm (t:List Nat):Prop where
 le:t.length≤96
 pm:t.Perm (List.range t.length)
theorem Prm.nd {t:List Nat} (h:Prm t):t.Nodup:=h.pm.nodup_iff.mpr List.nodup_range
theorem Prm.lt {t:List Nat} (h:Prm t) {x:Nat} (hx:x∈t):x < t.length:=List.mem_range.mp (h.pm.mem_iff.mp hx)
theorem Prm.mem {t:List Nat} (h:Prm t) {x:Nat} (hx:x < t.length):x∈t:=h.pm.mem_iff.mpr (List.mem_range.mpr hx)
theorem Fi {n:Nat} (h:n≤96):Prm (List.range n):=⟨by simpa using h,by simp⟩
theorem CQ {n:Nat} {ps:List Nat} (h:n≤96) (hp:∀ p∈ps,p+1 < n):Prm (bz (List.range n) ps):=by
 have hl:(bz (List.range n) ps).length=n:=by rw [jQ];simp
 refine ⟨by omega,?_⟩
 rw [hl]
 exact oJ fun p hp'=>by simpa using hp p hp'
theorem qU {t r:List Nat} (hP:Prm t) (hl:r.length=t.length) (h:∀ (i x:Nat),t[i]?=some x→r[x]?=some i):r=inv t:=by
 refine List.ext_getElem? fun x=>?_
 by_cases hx:x < t.length
 ·obtain ⟨i,hi,e⟩:=List.mem_iff_getElem.mp (hP.mem hx)
  have ei:t[i]?=some x:=by rw [List.getElem?_eq_getElem hi,e]
  rw [h i x ei]
  unfold inv
  rw [List.getElem?_map,List.getElem?_range hx]
  show some i=some (t.idxOf x)
  rw [gQ hP.nd ei]
 ·rw [List.getElem?_eq_none (by omega),List.getElem?_eq_none (by rw [bJ];omega)]
theorem lq {E:List Nat} (h:Prm E):Prm (inv E):=by
 have hl:=bJ E
 refine ⟨by rw [hl];exact h.le,?_⟩
 rw [hl]
 have nd:(inv E).Nodup:=by
  unfold inv
  unfold List.Nodup
  rw [List.pairwise_map]
  refine List.nodup_range.imp_of_mem fun {x y} hx hy ne e=>ne ?_
  have key:∀ z,z∈List.range E.length→E.getD (E.idxOf z) 0=z:=fun z hz=>by
   have hi:E.idxOf z < E.length:=List.idxOf_lt_length_iff.mpr (h.mem (List.mem_range.mp hz))
   rw [List.getD_eq_getElem?_getD,List.getElem?_eq_getElem hi]
   exact List.getElem_idxOf hi
  rw [← key x hx,← key y hy,e]
 refine (List.perm_ext_iff_of_nodup nd List.nodup_range).mpr fun x=>?_
 rw [List.mem_range]
 constructor
 ·intro hx
  unfold inv at hx
  obtain ⟨y,hy,rfl⟩:=List.mem_map.mp hx
  exact List.idxOf_lt_length_iff.mpr (h.mem (List.mem_range.mp hy))
 ·intro hx
  unfold inv
  refine List.mem_map.mpr ⟨E[x],List.mem_range.mpr (h.lt (List.getElem_mem hx)),?_⟩
  exact gQ h.nd (List.getElem?_eq_getElem hx)
theorem oK {t:List Nat} (h:Prm t):inv (inv t)=t:=by
 refine (qU (lq h) (by rw [bJ]) fun i x e=>?_).symm
 have hi:i < t.length:=by have:=(List.getElem?_eq_some_iff.mp e).1;rwa [bJ] at this
 have e2:(inv t)[i]?=some (t.idxOf i):=by unfold inv;rw [List.getElem?_map,List.getElem?_range hi];rfl
 rw [e] at e2
 cases e2
 have hx:t.idxOf i < t.length:=List.idxOf_lt_length_iff.mpr (h.mem hi)
 rw [List.getElem?_eq_getElem hx]
 exact congrArg some (List.getElem_idxOf hx)
def uC (B:List Nat) (p:Nat):List Nat:=(B.set p (B.getD (p+1) 0)).set (p+1) (B.getD p 0)
theorem mO (B:List Nat) (p:Nat):(uC B p).length=B.length:=by unfold uC;simp
theorem getD_some {B:List Nat} {i:Nat} (h:i < B.length):B[i]?=some (B.getD i 0):=by rw [List.getD_eq_getElem?_getD,List.getElem?_eq_getElem h];rfl
theorem iu {B:List Nat} {p:Nat} (h:p+1 < B.length) (i:Nat):(uC B p).getD i 0=if i=p+1 then B.getD p 0 else if i=p then B.getD (p+1) 0 else B.getD i 0:=by
 unfold uC
 rw [List.getD_eq_getElem?_getD]
 by_cases h1:i=p+1
 ·subst h1
  rw [if_pos rfl,List.getElem?_set_self (by simp;omega)];rfl
 ·rw [if_neg h1,List.getElem?_set_ne (fun z=>h1 z.symm)]
  by_cases h2:i=p
  ·subst h2
   rw [if_pos rfl,List.getElem?_set_self (by omega)];rfl
  ·rw [if_neg h2,List.getElem?_set_ne (fun z=>h2 z.symm),← List.getD_eq_getElem?_getD]
theorem um {A B:List Nat} (hl:A.length=B.length) (h:∀ i,i < A.length→A.getD i 0=B.getD i 0):A=B:=by
 refine List.ext_getElem? fun i=>?_
 by_cases hi:i < A.length
 ·rw [getD_some hi,getD_some (by omega),h i hi]
 ·rw [List.getElem?_eq_none (by omega),List.getElem?_eq_none (by omega)]
theorem Nq {B:List Nat} {p:Nat} (h:p+1 < B.length):uC (uC B p) p=B:=by
 refine um (by rw [mO,mO]) fun i _=>?_
 rw [iu (by rw [mO];exact h),iu h,iu h,iu h]
 by_cases h1:i=p+1
 ·subst h1;simp
 ·by_cases h2:i=p
  ·subst h2;simp
  ·simp [h1,h2]
theorem uo {B:List Nat} {p:Nat} (h:oW B p=true):aJ B p=uC B p:=by unfold aJ uC;rw [if_pos h]
def inn:Nat→List Nat→List Nat→List Nat×List Nat
 | 0,B,u=>(B,u)
 | p+1,B,u=>if B.getD (p+1) 0 < B.getD p 0 then inn p (uC B p) (u ++ [p]) else (B,u)
def qW (B:List Nat):Nat→List Nat×List Nat
 | 0=>(B,[])
 | k+1=>inn (k+1) (qW B k).1 (qW B k).2
def Wk:List Nat→List Nat→Prop
 | _,[]=>True
 | B,p :: us=>oW B p=true∧Wk (aJ B p) us
theorem Qo:∀ {us B:List Nat} {j:Nat},Wk B us→j < us.length→oW (bz B (us.take j)) (us.getD j 0)=true
 | p :: us,B,0,h,_=>h.1
 | p :: us,B,j+1,h,hj=>Qo (us:=us) (B:=aJ B p) (j:=j) h.2 (by simpa using hj)
theorem Tc {B us:List Nat} (h:Wk B us):Jf B us us.length=List.range us.length:=by
 unfold Jf
 rw [List.filter_eq_self]
 intro j hj
 exact Qo h (List.mem_range.mp hj)
structure Sx (B0:List Nat) (n:Nat) (B u:List Nat):Prop where
 len:B.length=n
 pm:B.Perm (List.range n)
 lt:∀ p∈u,p+1 < n
 back:bz B u.reverse=B0
 wk:Wk B u.reverse
 link:∀ i,i < n→B.getD i 0=B0.getD ((bz (List.range n) u).getD i 0) 0
theorem Qp {n:Nat} {u:List Nat} (h:∀ p∈u,p+1 < n):(bz (List.range n) u).Perm (List.range n):=oJ fun p hp=>by simpa using h p hp
theorem qX {G:List Nat} {n i j:Nat} (h:G.Perm (List.range n)) (hi:i < n) (hj:j < n) (e:G.getD i 0=G.getD j 0):i=j:=by
 have nd:G.Nodup:=h.nodup_iff.mpr List.nodup_range
 have hl:G.length=n:=by rw [h.length_eq];simp
 have h1:=gQ nd (getD_some (B:=G) (i:=i) (by omega))
 have h2:=gQ nd (getD_some (B:=G) (i:=j) (by omega))
 rw [e] at h1
 omega
theorem Ji {G:List Nat} {n i:Nat} (h:G.Perm (List.range n)) (hi:i < n):G.getD i 0 < n:=by
 have hl:G.length=n:=by rw [h.length_eq];simp
 exact List.mem_range.mp (h.mem_iff.mp (List.mem_of_getElem? (getD_some (by omega))))
theorem Jj {B0:List Nat} {n m:Nat} (hm:m < n):∀ (p:Nat) (B u:List Nat),p≤m→Sx B0 n B u→(∀ i j,i < j→j≤m→j≠p→B.getD i 0 < B.getD j 0)→
  (bz (List.range n) u).getD p 0=m→(∀ i,i≤m→(bz (List.range n) u).getD i 0≤m)→(∀ i,m < i→i < n→(bz (List.range n) u).getD i 0=i)→
  Sx B0 n (inn p B u).1 (inn p B u).2∧(∀ i j,i < j→j≤m→(inn p B u).1.getD i 0 < (inn p B u).1.getD j 0)∧(∀ i,i≤m→(bz (List.range n) (inn p B u).2).getD i 0≤m)∧(∀ i,m < i→i < n→(bz (List.range n) (inn p B u).2).getD i 0=i)
 | 0,B,u,_,S,srt,_,gle,gid=>⟨S,fun i j h1 h2=>srt i j h1 h2 (by omega),gle,gid⟩
 | p+1,B,u,hp,S,srt,gm,gle,gid=>by
  have hB:=S.len
  have hG:=Qp S.lt
  have lG:(bz (List.range n) u).length=n:=by rw [hG.length_eq];simp
  unfold inn
  by_cases hc:B.getD (p+1) 0 < B.getD p 0
  ·rw [if_pos hc]
   have hp1:p+1 < B.length:=by omega
   have w1:oW (uC B p) p=true:=by
    unfold oW
    rw [iu hp1,iu hp1,if_neg (by omega),if_pos rfl,if_pos rfl]
    exact decide_eq_true hc
   have w2:oW (bz (List.range n) u) p=true:=by
    unfold oW
    rw [gm]
    refine decide_eq_true ?_
    have h1:=gle p (by omega)
    have h2:(bz (List.range n) u).getD p 0≠m:=fun z=>by
     have:=qX hG (i:=p) (j:=p+1) (by omega) (by omega) (by rw [z,gm])
     omega
    omega
   have eG:bz (List.range n) (u ++ [p])=uC (bz (List.range n) u) p:=by rw [mj,uo w2]
   have bk:aJ (uC B p) p=B:=by rw [uo w1,Nq hp1]
   have S':Sx B0 n (uC B p) (u ++ [p]):=by
    refine ⟨by rw [mO];exact hB,?_,?_,?_,?_,?_⟩
    ·have:=pB (E:=uC B p) (p:=p) (by rw [mO];exact hp1)
     rw [bk] at this
     exact this.symm.trans S.pm
    ·intro q hq
     rcases List.mem_append.mp hq with h | h
     ·exact S.lt q h
     ·rw [List.mem_singleton.mp h];omega
    ·rw [List.reverse_append]
     show bz (aJ (uC B p) p) u.reverse=B0
     rw [bk];exact S.back
    ·rw [List.reverse_append]
     show oW (uC B p) p=true∧Wk (aJ (uC B p) p) u.reverse
     rw [bk];exact ⟨w1,S.wk⟩
    ·intro i hi
     rw [eG,iu hp1,iu (by omega)]
     by_cases h1:i=p+1
     ·rw [if_pos h1,if_pos h1];exact S.link p (by omega)
     ·rw [if_neg h1,if_neg h1]
      by_cases h2:i=p
      ·rw [if_pos h2,if_pos h2];exact S.link (p+1) (by omega)
      ·rw [if_neg h2,if_neg h2];exact S.link i hi
   refine Jj hm p (uC B p) (u ++ [p]) (by omega) S' (fun i j h1 h2 h3=>?_) ?_ (fun i hi=>?_) fun i h1 h2=>?_
   ·rw [iu hp1,iu hp1]
    by_cases j1:j=p+1
    ·subst j1
     rw [if_neg (show ¬ i=p+1 by omega),if_pos rfl]
     by_cases i2:i=p
     ·rw [if_pos i2];exact hc
     ·rw [if_neg i2];exact srt i p (by omega) (by omega) (by omega)
    ·rw [if_neg j1,if_neg h3]
     by_cases i1:i=p+1
     ·rw [if_pos i1];exact srt p j (by omega) h2 j1
     ·rw [if_neg i1]
      by_cases i2:i=p
      ·rw [if_pos i2];exact srt (p+1) j (by omega) h2 j1
      ·rw [if_neg i2];exact srt i j h1 h2 j1
   ·rw [eG,iu (by omega),if_neg (by omega),if_pos rfl];exact gm
   ·rw [eG,iu (by omega)]
    by_cases i1:i=p+1
    ·rw [if_pos i1];exact gle p (by omega)
    ·rw [if_neg i1]
     by_cases i2:i=p
     ·rw [if_pos i2];exact gle (p+1) hp
     ·rw [if_neg i2];exact gle i hi
   ·rw [eG,iu (by omega),if_neg (by omega),if_neg (by omega)];exact gid i h1 h2
  ·rw [if_neg hc]
   refine ⟨S,fun i j h1 h2=>?_,gle,gid⟩
   show B.getD i 0 < B.getD j 0
   by_cases hj:j=p+1
   ·subst hj
    have hne:B.getD p 0≠B.getD (p+1) 0:=fun z=>by
     have:=qX S.pm (i:=p) (j:=p+1) (by omega) (by omega) z
     omega
    by_cases hi:i=p
    ·subst hi;omega
    ·have:=srt i p (by omega) (by omega) (by omega)
     omega
   ·exact srt i j h1 h2 hj
theorem Jk {B0:List Nat} {n:Nat} (hB:B0.Perm (List.range n)):∀ k,k < n→Sx B0 n (qW B0 k).1 (qW B0 k).2∧(∀ i j,i < j→j≤k→(qW B0 k).1.getD i 0 < (qW B0 k).1.getD j 0)∧(∀ i,i≤k→(bz (List.range n) (qW B0 k).2).getD i 0≤k)∧(∀ i,k < i→i < n→(bz (List.range n) (qW B0 k).2).getD i 0=i)
 | 0,h=>by
  have hl:B0.length=n:=by rw [hB.length_eq];simp
  have hr:∀ i,i < n→(List.range n).getD i 0=i:=fun i hi=>by rw [List.getD_eq_getElem?_getD,List.getElem?_range hi];rfl
  refine ⟨⟨hl,hB,(fun p hp=>by cases hp),rfl,trivial,fun i hi=>?_⟩,(fun i j h1 h2=>by omega),fun i hi=>?_,fun i _ hi=>hr i hi⟩
  ·show B0.getD i 0=B0.getD ((List.range n).getD i 0) 0
   rw [hr i hi]
  ·have:i=0:=by omega
   subst this
   show (List.range n).getD 0 0≤0
   rw [hr 0 h]
   exact Nat.le_refl _
 | k+1,h=>by
  obtain ⟨S,srt,gle,gid⟩:=Jk hB k (by omega)
  show Sx B0 n (inn (k+1) (qW B0 k).1 (qW B0 k).2).1 (inn (k+1) (qW B0 k).1 (qW B0 k).2).2∧_
  refine Jj h (k+1) _ _ (Nat.le_refl _) S (fun i j h1 h2 h3=>srt i j h1 (by omega)) (gid (k+1) (by omega) h) (fun i hi=>?_) fun i h1 h2=>gid i (by omega) h2
  by_cases e:i=k+1
  ·subst e;rw [gid (k+1) (by omega) h];exact Nat.le_refl _
  ·have:=gle i (by omega);omega
theorem wU {B:List Nat} {n:Nat} (hl:B.length=n) (hlt:∀ i,i < n→B.getD i 0 < n) (h:∀ i j,i < j→j < n→B.getD i 0 < B.getD j 0):B=List.range n:=by
 have mono:∀ d i,i+d < n→B.getD i 0+d≤B.getD (i+d) 0:=fun d=>by
  induction d with
  | zero=>intro i _;exact Nat.le_refl _
  | succ d ih=>
   intro i hi
   have h1:=ih i (by omega)
   have h2:=h (i+d) (i+(d+1)) (by omega) hi
   omega
 refine um (by rw [hl];simp) fun i hi=>?_
 rw [hl] at hi
 rw [show (List.range n).getD i 0=i by rw [List.getD_eq_getElem?_getD,List.getElem?_range hi];rfl]
 have h1:=mono i 0 (by omega)
 have h2:=mono (n - 1 - i) i (by omega)
 have h3:=hlt (i+(n - 1 - i)) (by omega)
 rw [Nat.zero_add] at h1
 omega
def Fj (t:List Nat):List Nat:=(qW (inv t) (t.length - 1)).2
structure Und (t u:List Nat):Prop where
 lt:∀ p∈u,p+1 < t.length
 back:bz (List.range t.length) u.reverse=inv t
 wk:Jf (List.range t.length) u.reverse u.reverse.length=List.range u.reverse.length
 fw:bz (List.range t.length) u=t
theorem Ba {t:List Nat} (h:Prm t):Und t (Fj t):=by
 have hP:=lq h
 have hl:=bJ t
 by_cases h0:t.length=0
 ·have e:t=[]:=List.length_eq_zero_iff.mp h0
  subst e
  exact ⟨(fun p hp=>by cases hp),rfl,rfl,rfl⟩
 ·have pm:(inv t).Perm (List.range t.length):=by have:=hP.pm;rwa [hl] at this
  obtain ⟨S,srt,_,_⟩:=Jk pm (t.length - 1) (by omega)
  have e:(qW (inv t) (t.length - 1)).1=List.range t.length:=wU S.len (fun i hi=>Ji S.pm hi) fun i j h1 h2=>srt i j h1 (by omega)
  have bk:=S.back
  have wk:=S.wk
  have lk:=S.link
  rw [e] at bk wk lk
  refine ⟨S.lt,bk,Tc wk,?_⟩
  have hG:=Qp S.lt
  have lG:(bz (List.range t.length) (qW (inv t) (t.length - 1)).2).length=t.length:=by rw [hG.length_eq];simp
  refine (qU (t:=inv t) hP (by rw [hl];exact lG) fun i x ex=>?_).trans (oK h)
  have hi:i < t.length:=by have:=(List.getElem?_eq_some_iff.mp ex).1;omega
  have dx:(inv t).getD i 0=x:=by rw [List.getD_eq_getElem?_getD,ex];rfl
  have hx:x < t.length:=by rw [← dx];exact Ji pm hi
  have l1:=lk x hx
  rw [show (List.range t.length).getD x 0=x by rw [List.getD_eq_getElem?_getD,List.getElem?_range hx];rfl,← dx] at l1
  have gx:=Ji hG hx
  have:=qX pm hi gx (by rw [← dx];exact l1)
  exact (getD_some (B:=bz (List.range t.length) (qW (inv t) (t.length - 1)).2) (by rw [lG];exact hx)).trans (congrArg some this.symm)
theorem pairs_len {n:Nat} (h:n≤96):(pC n).length≤6000:=by
 have key:∀ n,n < 97→((List.range n).map fun x=>n - (x+1)).sum≤6000:=by decide+kernel
 unfold pC
 rw [List.length_flatMap]
 have:=key n (by omega)
 simpa using this
theorem Wi {t:List Nat} (h:t.length≤96):cr t≤6000:=Nat.le_trans List.countP_le_length (pairs_len h)
theorem Nr {t:List Nat} (h:Prm t):(Fj t).reverse.length=cr t:=by
 have U:=Ba h
 have hp:∀ p∈(Fj t).reverse,p+1 < t.length:=fun p hp=>U.lt p (List.mem_reverse.mp hp)
 have e:=Jh hp (Fj t).reverse.length (Nat.le_refl _)
 rw [List.take_length,U.back,oK h,U.wk,List.length_range] at e
 exact e.symm
def cN (p x:Nat):Nat:=if p≤x then 1 else 0
def N:List Nat→Nat→Nat→Nat
 | [],_,_=>0
 | _ :: _,_,0=>0
 | x :: B,p,q+1=>cN p x+N B p q
theorem nM (B:List Nat) (p:Nat):N B p 0=0:=by cases B <;> rfl
theorem yR:∀ (L M:List Nat) (p q:Nat),N (L ++ M) p q=N L p q+N M p (q - L.length)
 | [],M,p,q=>by simp [N]
 | x :: L,M,p,0=>by simp [N,nM]
 | x :: L,M,p,q+1=>by
  rw [List.cons_append]
  show cN p x+N (L ++ M) p q=cN p x+N L p q+N M p (q+1 - (L.length+1))
  rw [yR L M p q,show q+1 - (L.length+1)=q - L.length by omega];omega
theorem wV:∀ (L:List Nat) (p q:Nat),L.length≤q→N L p q=N L p L.length
 | [],p,q,_=>rfl
 | x :: L,p,0,h=>by simp at h
 | x :: L,p,q+1,h=>by
  show cN p x+N L p q=cN p x+N L p L.length
  rw [wV L p q (by simpa using h)]
theorem uq:∀ {B:List Nat} {p q:Nat},q < B.length→N B p (q+1)=N B p q+cN p (B.getD q 0)
 | x :: B,p,0,_=>by
  show cN p x+N B p 0=0+cN p x
  rw [nM];omega
 | x :: B,p,q+1,h=>by
  show cN p x+N B p (q+1)=cN p x+N B p q+cN p ((x :: B).getD (q+1) 0)
  rw [uq (B:=B) (q:=q) (by simpa using h)]
  simp;omega
theorem Wj {A B:List Nat} {n:Nat} (ha:A.length=n) (hb:B.length=n) (la:∀ x∈A,x < n) (lb:∀ x∈B,x < n) (h:∀ p q,p≤n→q≤n→N A p q=N B p q):A=B:=by
 refine um (by omega) fun i hi=>?_
 have key:∀ p,p≤n→cN p (A.getD i 0)=cN p (B.getD i 0):=fun p hp=>by
  have h1:=h p (i+1) hp (by omega)
  rw [uq (by omega),uq (by omega),h p i hp (by omega)] at h1
  omega
 have ma:=la _ (List.mem_of_getElem? (getD_some (B:=A) (i:=i) (by omega)))
 have mb:=lb _ (List.mem_of_getElem? (getD_some (B:=B) (i:=i) (by omega)))
 have k1:=key (A.getD i 0) (by omega)
 have k2:=key (B.getD i 0) (by omega)
 unfold cN at k1 k2
 rw [if_pos (Nat.le_refl _)] at k1
 rw [if_pos (Nat.le_refl (B.getD i 0))] at k2
 split at k1
 ·split at k2
  ·omega
  ·cases k2
 ·cases k1
theorem Jl {B:List Nat} {i:Nat} (h:i+1 < B.length) (p q:Nat):N (aJ B i) p q=if q=i+1 then min (N B p i+1) (N B p (i+2)) else N B p q:=by
 obtain ⟨f1,f2⟩:=vH h
 have e:aJ B i=B.take i ++ max (B.getD i 0) (B.getD (i+1) 0) :: min (B.getD i 0) (B.getD (i+1) 0) :: B.drop (i+2):=by
  unfold aJ
  split
  ·rename_i hw
   have hw':B.getD i 0 < B.getD (i+1) 0:=of_decide_eq_true hw
   rw [f2,Nat.max_eq_right (by omega),Nat.min_eq_left (by omega)]
  ·rename_i hw
   have hw':¬ B.getD i 0 < B.getD (i+1) 0:=fun z=>hw (decide_eq_true z)
   rw [Nat.max_eq_left (by omega),Nat.min_eq_right (by omega)]
   exact f1
 have lL:(B.take i).length=i:=by rw [List.length_take];omega
 generalize B.getD i 0=a at f1 e
 generalize B.getD (i+1) 0=b at f1 e
 generalize B.take i=L at f1 e lL
 generalize B.drop (i+2)=R at f1 e
 rw [e,f1,yR,yR,yR,yR,lL]
 have hc:cN p (max a b)+cN p (min a b)=cN p a+cN p b:=by unfold cN;split <;> split <;> split <;> split <;> omega
 have hm:cN p (max a b)=min 1 (cN p a+cN p b):=by unfold cN;split <;> split <;> split <;> omega
 by_cases h1:q=i+1
 ·subst h1
  rw [if_pos rfl,show i+1 - i=1 by omega,show i - i=0 by omega,show i+2 - i=2 by omega,wV L p (i+1) (by omega),wV L p i (by omega),wV L p (i+2) (by omega),nM]
  show N L p L.length+(cN p (max a b)+N (min a b :: R) p 0)=min (N L p L.length+0+1) (N L p L.length+(cN p a+(cN p b+N R p 0)))
  rw [nM,nM,hm];omega
 ·rw [if_neg h1]
  congr 1
  by_cases h2:q≤i
  ·rw [show q - i=0 by omega,nM,nM]
  ·obtain ⟨k,hk⟩:∃ k,q - i=k+2:=⟨q - i - 2,by omega⟩
   rw [hk]
   show cN p (max a b)+(cN p (min a b)+N R p k)=cN p a+(cN p b+N R p k)
   omega
theorem wW (n p:Nat):∀ q,q≤n→N (List.range n) p q=q - p
 | 0,_=>by rw [nM];omega
 | q+1,h=>by
  rw [uq (by simp;omega),wW n p q (by omega),show (List.range n).getD q 0=q by rw [List.getD_eq_getElem?_getD,List.getElem?_range (by omega)];rfl]
  unfold cN
  split <;> omega
theorem Bb {B:List Nat} {p:Nat} {m:Nat}:∀ d,m+d≤B.length→N B p m≤N B p (m+d)∧N B p (m+d)≤N B p m+d
 | 0,_=>⟨Nat.le_refl _,Nat.le_refl _⟩
 | d+1,h=>by
  have:=Bb (B:=B) (p:=p) (m:=m) d (by omega)
  have e:=uq (B:=B) (p:=p) (q:=m+d) (by omega)
  have:cN p (B.getD (m+d) 0)≤1:=by unfold cN;split <;> omega
  rw [show m+(d+1)=m+d+1 by omega,e]
  omega
theorem Td {B:List Nat} {p q m:Nat} (hq:q≤B.length) (hm:m≤B.length):N B p q≤N B p m+(q - m):=by
 by_cases h:m≤q
 ·have:=(Bb (B:=B) (p:=p) (m:=m) (q - m) (by omega)).2
  rw [show m+(q - m)=q by omega] at this
  exact this
 ·have:=(Bb (B:=B) (p:=p) (m:=q) (m - q) (by omega)).1
  rw [show q+(m - q)=m by omega] at this
  omega
def Mp (n:Nat) (A B C:List Nat):Prop:=∀ p q,p≤n→q≤n→(∀ m,m≤n→N A p q≤N B p m+N C m q)∧∃ m,m≤n∧N A p q=N B p m+N C m q
theorem Nt {E:List Nat} {n:Nat} (hl:E.length=n):Mp n E E (List.range n):=fun p q hp hq=>by
 refine ⟨fun m hm=>?_,q,hq,?_⟩
 ·rw [wW n m q hq]
  exact Td (by omega) (by omega)
 ·rw [wW n q q hq];omega
theorem Bc {E:List Nat} {n:Nat} {s:List Nat} (hl:E.length=n) (hs:∀ p∈s,p+1 < n):∀ k,k≤s.length→Mp n (bz E (s.take k)) E (bz (List.range n) (s.take k))
 | 0,_=>by rw [List.take_zero];exact Nt hl
 | k+1,hk=>by
  have ih:=Bc hl hs k (by omega)
  have hi:s.getD k 0+1 < n:=hs _ (List.mem_of_getElem? (getD_some (by omega)))
  rw [qT (by omega),mj,mj]
  have l1:(bz E (s.take k)).length=n:=by rw [jQ];exact hl
  have l2:(bz (List.range n) (s.take k)).length=n:=by rw [jQ];simp
  generalize bz E (s.take k)=F at ih l1
  generalize bz (List.range n) (s.take k)=D at ih l2
  generalize s.getD k 0=i at hi
  intro p q hp hq
  rw [Jl (by omega)]
  have st:∀ m,N (aJ D i) m q=if q=i+1 then min (N D m i+1) (N D m (i+2)) else N D m q:=fun m=>Jl (by omega) m q
  by_cases h1:q=i+1
  ·subst h1
   rw [if_pos rfl]
   obtain ⟨a1,m1,b1,c1⟩:=ih p i hp (by omega)
   obtain ⟨a2,m2,b2,c2⟩:=ih p (i+2) hp (by omega)
   refine ⟨fun m hm=>?_,?_⟩
   ·rw [st m,if_pos rfl]
    have:=a1 m hm
    have:=a2 m hm
    omega
   ·by_cases hc:N F p i+1≤N F p (i+2)
    ·refine ⟨m1,b1,?_⟩
     rw [st m1,if_pos rfl]
     have:=a2 m1 b1
     omega
    ·refine ⟨m2,b2,?_⟩
     rw [st m2,if_pos rfl]
     have:=a1 m2 b2
     omega
  ·rw [if_neg h1]
   obtain ⟨a1,m1,b1,c1⟩:=ih p q hp hq
   refine ⟨fun m hm=>?_,m1,b1,?_⟩
   ·rw [st m,if_neg h1];exact a1 m hm
   ·rw [st m1,if_neg h1];exact c1
theorem Qq {n:Nat} {A A' B C:List Nat} (h:Mp n A B C) (h':Mp n A' B C) {p q:Nat} (hp:p≤n) (hq:q≤n):N A p q≤N A' p q:=by
 obtain ⟨m,hm,e⟩:=(h' p q hp hq).2
 rw [e]
 exact (h p q hp hq).1 m hm
structure Pn (n:Nat) (A:List Nat):Prop where
 len:A.length=n
 lt:∀ x∈A,x < n
theorem Prm.pn {t:List Nat} {n:Nat} (h:Prm t) (hn:t.length=n):Pn n t:=⟨hn,fun x hx=>by rw [← hn];exact h.lt hx⟩
theorem Fl {n:Nat} {A A' B C:List Nat} (a:Pn n A) (a':Pn n A') (h:Mp n A B C) (h':Mp n A' B C):A=A':=
 Wj a.len a'.len a.lt a'.lt fun p q hp hq=>Nat.le_antisymm (Qq h h' hp hq) (Qq h' h hp hq)
def lay (x y:List Nat):List Nat:=inv (bz (inv x) (Fj y).reverse)
structure Two (n:Nat) (x y:List Nat):Prop where
 px:Prm x
 py:Prm y
 lx:x.length=n
 ly:y.length=n
theorem Two.lt {n:Nat} {x y:List Nat} (h:Two n x y):∀ p∈(Fj y).reverse,p+1 < n:=fun p hp=>by
 have:=(Ba h.py).lt p (List.mem_reverse.mp hp)
 rw [h.ly] at this
 exact this
theorem Jm {E ps:List Nat} (h:Prm E) (hp:∀ p∈ps,p+1 < E.length):Prm (bz E ps):=by
 have hl:=jQ E ps
 refine ⟨by rw [hl];exact h.le,?_⟩
 rw [hl]
 exact (oJ hp).trans h.pm
theorem Two.run {n:Nat} {x y:List Nat} (h:Two n x y):Prm (bz (inv x) (Fj y).reverse)∧(bz (inv x) (Fj y).reverse).length=n:=
 ⟨Jm (lq h.px) fun p hp=>by rw [bJ,h.lx];exact h.lt p hp,by rw [jQ,bJ,h.lx]⟩
theorem Two.lay {n:Nat} {x y:List Nat} (h:Two n x y):Prm (lay x y)∧(lay x y).length=n∧Mp n (inv (lay x y)) (inv x) (inv y):=by
 obtain ⟨hP,hl⟩:=h.run
 unfold My.lay
 refine ⟨lq hP,by rw [bJ];exact hl,?_⟩
 rw [oK hP]
 have:=Bc (E:=inv x) (n:=n) (s:=(Fj y).reverse) (by rw [bJ,h.lx]) h.lt (Fj y).reverse.length (Nat.le_refl _)
 rw [List.take_length] at this
 have e:=(Ba h.py).back
 rw [h.ly] at e
 rw [e] at this
 exact this
theorem Fo (n:Nat) (h:n≤96):inv (List.range n)=List.range n:=
 (qU (Fi h) rfl fun i x e=>by
  obtain ⟨hi,e⟩:=List.getElem?_eq_some_iff.mp e
  rw [List.getElem_range] at e
  rw [← e,List.getElem?_range (by simpa using hi)]).symm
def rs (m:Nat) (e:Nat→Nat→Bool) (far i:Nat):List Nat:=(List.range far).flatMap fun j=>if e i j=true then [] else [m - 1 - i+j]
def al (m far:Nat) (e:Nat→Nat→Bool) (n:Nat):List Nat:=(List.range n).flatMap fun i=>rs m e far i
def Dn (n:Nat) (ps:List Nat):List Nat:=bz (List.range n) ps
theorem jM (E a b:List Nat):bz E (a ++ b)=bz (bz E a) b:=by unfold bz;rw [List.foldl_append]
theorem nO {n:Nat} {ps:List Nat} (h:n≤96) (hp:∀ p∈ps,p+1 < n):Prm (Dn n ps):=CQ h hp
theorem mQ (n:Nat) (ps:List Nat):(Dn n ps).length=n:=by unfold Dn;rw [jQ];simp
theorem Wl {n:Nat} {a b:List Nat} (hb:∀ p∈b,p+1 < n):Mp n (Dn n (a ++ b)) (Dn n a) (Dn n b):=by
 have:=Bc (E:=Dn n a) (n:=n) (s:=b) (mQ n a) hb b.length (Nat.le_refl _)
 rw [List.take_length] at this
 unfold Dn at this ⊢
 rw [jM]
 exact this
theorem gk {α β:Type} {f g:α→List β}:∀ {l:List α},(∀ x∈l,f x=g x)→l.flatMap f=l.flatMap g
 | [],_=>rfl
 | x :: l,h=>by rw [List.flatMap_cons,List.flatMap_cons,h x (by simp),gk fun y hy=>h y (by simp [hy])]
theorem wX {m far n:Nat} {e:Nat→Nat→Bool} {p:Nat} (hp:p∈al m far e n):∃ i j,i < n∧j < far∧p=m - 1 - i+j:=by
 unfold al rs at hp
 obtain ⟨i,hi,h⟩:=List.mem_flatMap.mp hp
 obtain ⟨j,hj,h⟩:=List.mem_flatMap.mp h
 refine ⟨i,j,List.mem_range.mp hi,List.mem_range.mp hj,?_⟩
 split at h
 ·cases h
 ·exact List.mem_singleton.mp h
theorem mq {m far:Nat} {e:Nat→Nat→Bool}:∀ p∈al m far e m,p+1 < m+far:=fun p hp=>by
 obtain ⟨i,j,hi,hj,rfl⟩:=wX hp
 omega
theorem Jo {A E B:List Nat} {k p:Nat} (h:p+1 < E.length):aJ (A ++ (E.map (k+ ·) ++ B)) (A.length+p)=A ++ ((aJ E p).map (k+ ·) ++ B):=by
 have g:∀ i,i < E.length→(A ++ (E.map (k+ ·) ++ B)).getD (A.length+i) 0=k+E.getD i 0:=fun i hi=>by
  rw [List.getD_eq_getElem?_getD,List.getElem?_append_right (by omega),Nat.add_sub_cancel_left,List.getElem?_append_left (by simpa using hi),List.getElem?_map,getD_some hi];rfl
 have w:oW (A ++ (E.map (k+ ·) ++ B)) (A.length+p)=oW E p:=by
  unfold oW
  rw [g p (by omega),Nat.add_assoc,g (p+1) h]
  exact decide_eq_decide.mpr (by omega)
 unfold aJ
 rw [w]
 split
 ·rw [g p (by omega),Nat.add_assoc,g (p+1) h]
  have st:∀ (M:List Nat) (x i:Nat),i < M.length→(A ++ (M ++ B)).set (A.length+i) x=A ++ (M.set i x ++ B):=fun M x i hi=>by
   rw [List.set_append_right _ _ (by omega),Nat.add_sub_cancel_left,List.set_append_left _ _ hi]
  rw [st _ _ p (by rw [List.length_map];omega),st _ _ (p+1) (by rw [List.length_set,List.length_map];omega),List.map_set,List.map_set]
 ·rfl
theorem wY {A B:List Nat} {k:Nat}:∀ {ps E:List Nat},(∀ p∈ps,p+1 < E.length)→bz (A ++ (E.map (k+ ·) ++ B)) (ps.map (A.length+ ·))=A ++ ((bz E ps).map (k+ ·) ++ B)
 | [],_,_=>rfl
 | p :: ps,E,h=>by
  show bz (aJ _ (A.length+p)) (ps.map (A.length+ ·))=_
  rw [Jo (h p (by simp))]
  exact wY (ps:=ps) (E:=aJ E p) fun q hq=>by rw [oH];exact h q (by simp [hq])
theorem Jp {k n:Nat} {ps:List Nat} (h:∀ p∈ps,p+1 < n):Dn (k+n) (ps.map (k+ ·))=List.range k ++ (Dn n ps).map (k+ ·):=by
 have:=wY (A:=List.range k) (B:=[]) (k:=k) (ps:=ps) (E:=List.range n) (fun p hp=>by simpa using h p hp)
 rw [List.append_nil,List.append_nil,List.length_range,← List.range_add] at this
 exact this
theorem CT {n r:Nat} {ps:List Nat} (h:∀ p∈ps,p+1 < n):Dn (n+r) ps=Dn n ps ++ (List.range r).map (n+ ·):=by
 have:=wY (A:=[]) (B:=(List.range r).map (n+ ·)) (k:=0) (ps:=ps) (E:=List.range n) (fun p hp=>by simpa using h p hp)
 have z:∀ l:List Nat,l.map (0+ ·)=l:=fun l=>by simp
 simp only [List.nil_append,List.length_nil,z] at this
 unfold Dn
 rw [List.range_add]
 exact this
theorem CV {k:Nat} {G:List Nat} (hG:Prm G) (hk:k+G.length≤96):inv (List.range k ++ G.map (k+ ·))=List.range k ++ (inv G).map (k+ ·):=by
 have pm:Prm (List.range k ++ G.map (k+ ·)):=by
  have hl:(List.range k ++ G.map (k+ ·)).length=k+G.length:=by simp
  refine ⟨by omega,?_⟩
  rw [hl,List.range_add]
  exact List.Perm.append_left _ (hG.pm.map _)
 refine (qU pm (by simp [bJ]) fun i x e=>?_).symm
 by_cases hi:i < k
 ·rw [List.getElem?_append_left (by simpa using hi),List.getElem?_range hi] at e
  obtain rfl:i=x:=Option.some.inj e
  rw [List.getElem?_append_left (by simpa using hi),List.getElem?_range hi]
 ·rw [List.getElem?_append_right (by simp;omega),List.length_range,List.getElem?_map] at e
  obtain ⟨y,hy,rfl⟩:=Option.map_eq_some_iff.mp e
  have yl:y < G.length:=hG.lt (List.mem_of_getElem? hy)
  rw [List.getElem?_append_right (by simp),List.length_range,Nat.add_sub_cancel_left,List.getElem?_map,getD_some (by rw [bJ];exact yl),jD yl,gQ hG.nd hy]
  show some (k+(i - k))=some i
  rw [Nat.add_sub_cancel' (by omega)]
theorem yS {r:Nat} {G:List Nat} (hG:Prm G) (hk:G.length+r≤96):inv (G ++ (List.range r).map (G.length+ ·))=inv G ++ (List.range r).map (G.length+ ·):=by
 have pm:Prm (G ++ (List.range r).map (G.length+ ·)):=by
  have hl:(G ++ (List.range r).map (G.length+ ·)).length=G.length+r:=by simp
  refine ⟨by omega,?_⟩
  rw [hl,List.range_add]
  exact hG.pm.append_right _
 refine (qU pm (by simp [bJ]) fun i x e=>?_).symm
 by_cases hi:i < G.length
 ·rw [List.getElem?_append_left hi] at e
  have yl:x < G.length:=hG.lt (List.mem_of_getElem? e)
  rw [List.getElem?_append_left (by rw [bJ];exact yl),getD_some (by rw [bJ];exact yl),jD yl,gQ hG.nd e]
 ·rw [List.getElem?_append_right (by omega),List.getElem?_map] at e
  obtain ⟨y,hy,rfl⟩:=Option.map_eq_some_iff.mp e
  obtain ⟨h1,h2⟩:=List.getElem?_eq_some_iff.mp hy
  rw [List.getElem_range] at h2
  rw [List.length_range] at h1
  subst h2
  rw [List.getElem?_append_right (by rw [bJ];omega),bJ,Nat.add_sub_cancel_left,List.getElem?_map,List.getElem?_range h1]
  show some (G.length+(i - G.length))=some i
  rw [Nat.add_sub_cancel' (by omega)]
theorem step_get {E:List Nat} {q i:Nat} (h:i < q∨q+1 < i):(aJ E q).getD i 0=E.getD i 0:=by
 unfold aJ
 split
 ·rw [List.getD_eq_getElem?_getD,List.getElem?_set_ne (by omega),List.getElem?_set_ne (by omega),← List.getD_eq_getElem?_getD]
 ·rfl
theorem yU {E:List Nat} {q p:Nat} (h:p+2≤q∨q+2≤p):oW (aJ E q) p=oW E p:=by
 unfold oW
 rw [step_get (by omega),step_get (by omega)]
theorem Fp {E:List Nat} {p q:Nat} (h:q+2≤p):aJ (aJ E q) p=aJ (aJ E p) q:=by
 have a:=yU (E:=E) (q:=q) (p:=p) (.inr h)
 have b:=yU (E:=E) (q:=p) (p:=q) (.inl h)
 have g1:=step_get (E:=E) (q:=q) (i:=p) (by omega)
 have g2:=step_get (E:=E) (q:=q) (i:=p+1) (by omega)
 have g3:=step_get (E:=E) (q:=p) (i:=q) (by omega)
 have g4:=step_get (E:=E) (q:=p) (i:=q+1) (by omega)
 rw [show aJ (aJ E q) p=if oW (aJ E q) p=true then ((aJ E q).set p ((aJ E q).getD (p+1) 0)).set (p+1) ((aJ E q).getD p 0) else aJ E q from rfl,
  show aJ (aJ E p) q=if oW (aJ E p) q=true then ((aJ E p).set q ((aJ E p).getD (q+1) 0)).set (q+1) ((aJ E p).getD q 0) else aJ E p from rfl,a,b,g1,g2,g3,g4]
 unfold aJ
 by_cases h1:oW E p=true <;> by_cases h2:oW E q=true
 ·rw [if_pos h1,if_pos h2,if_pos h2,if_pos h1]
  rw [List.set_comm (E.getD q 0) (E.getD (p+1) 0) (by omega),List.set_comm (E.getD (q+1) 0) (E.getD (p+1) 0) (by omega),List.set_comm (E.getD q 0) (E.getD p 0) (by omega),List.set_comm (E.getD (q+1) 0) (E.getD p 0) (by omega)]
 ·rw [if_pos h1,if_neg h2,if_neg h2,if_pos h1]
 ·rw [if_neg h1,if_pos h2,if_pos h2,if_neg h1]
 ·rw [if_neg h1,if_neg h2,if_neg h2,if_neg h1]
theorem CW:∀ {R E:List Nat} {q:Nat},(∀ p∈R,q+2≤p)→bz (aJ E q) R=aJ (bz E R) q
 | [],_,_,_=>rfl
 | p :: R,E,q,h=>by
  show bz (aJ (aJ E q) p) R=aJ (bz (aJ E p) R) q
  rw [Fp (h p (by simp))]
  exact CW fun z hz=>h z (by simp [hz])
theorem yV:∀ {L R E:List Nat},(∀ p∈R,∀ q∈L,q+2≤p)→bz (bz E R) L=bz (bz E L) R
 | [],_,_,_=>rfl
 | q :: L,R,E,h=>by
  show bz (aJ (bz E R) q) L=bz (bz (aJ E q) L) R
  rw [← CW fun p hp=>h p hp q (by simp)]
  exact yV fun p hp z hz=>h p hp z (by simp [hz])
def LN (m far:Nat) (e:Nat→Nat→Bool):List Nat:=inv (Dn (m+far) (al m far e m))
theorem gR (m far:Nat) (e:Nat→Nat→Bool):(LN m far e).length=m+far:=by unfold LN;rw [bJ,mQ]
theorem wZ {m far:Nat} {e:Nat→Nat→Bool} (h:m+far≤96):Prm (LN m far e):=lq (nO h mq)
theorem Nu (mu ml far:Nat) (e:Nat→Nat→Bool):al (mu+ml) far e (mu+ml)=(al mu far e mu).map (ml+ ·) ++ al ml far (fun i j=>e (mu+i) j) ml:=by
 unfold al
 rw [List.range_add,List.flatMap_append,List.flatMap_map,List.map_flatMap]
 congr 1
 ·refine gk fun i hi=>?_
  have hi:=List.mem_range.mp hi
  unfold rs
  rw [List.map_flatMap]
  refine gk fun j hj=>?_
  split
  ·rfl
  ·show [mu+ml - 1 - i+j]=[ml+(mu - 1 - i+j)];congr 1;omega
 ·refine gk fun i hi=>?_
  have hi:=List.mem_range.mp hi
  unfold rs
  refine gk fun j hj=>?_
  show (if e (mu+i) j=true then [] else [mu+ml - 1 - (mu+i)+j])=_
  rw [show mu+ml - 1 - (mu+i)+j=ml - 1 - i+j by omega]
theorem vJ {n:Nat} {a b:List Nat} (h:n≤96) (ha:∀ p∈a,p+1 < n) (hb:∀ p∈b,p+1 < n):lay (inv (Dn n a)) (inv (Dn n b))=inv (Dn n (a ++ b)):=by
 have pa:=nO h ha
 have pb:=nO h hb
 have pab:Prm (Dn n (a ++ b)):=nO h fun p hp=>(List.mem_append.mp hp).elim (ha p) (hb p)
 have T:Two n (inv (Dn n a)) (inv (Dn n b)):=⟨lq pa,lq pb,by rw [bJ,mQ],by rw [bJ,mQ]⟩
 obtain ⟨p1,l1,m1⟩:=T.lay
 rw [oK pa,oK pb] at m1
 have e:=Fl ((lq p1).pn (by rw [bJ];exact l1)) (pab.pn (mQ _ _)) m1 (Wl hb)
 rw [← e,oK p1]
theorem Jq {mu ml far:Nat} {e:Nat→Nat→Bool} (h:mu+ml+far≤96):
  lay (List.range ml ++ (LN mu far e).map (ml+ ·)) (LN ml far (fun i j=>e (mu+i) j) ++ (List.range mu).map (ml+far+ ·))=LN (mu+ml) far e:=by
 have p1:=nO (n:=mu+far) (by omega) (mq (m:=mu) (far:=far) (e:=e))
 have p2:=nO (n:=ml+far) (by omega) (mq (m:=ml) (far:=far) (e:=fun i j=>e (mu+i) j))
 have l2:=mQ (ml+far) (al ml far (fun i j=>e (mu+i) j) ml)
 have e1:List.range ml ++ (LN mu far e).map (ml+ ·)=inv (Dn (mu+ml+far) ((al mu far e mu).map (ml+ ·))):=by
  rw [show mu+ml+far=ml+(mu+far) by omega,Jp mq,CV p1 (by rw [mQ];omega)];rfl
 have e2:LN ml far (fun i j=>e (mu+i) j) ++ (List.range mu).map (ml+far+ ·)=inv (Dn (mu+ml+far) (al ml far (fun i j=>e (mu+i) j) ml)):=by
  have:=yS (r:=mu) p2 (by rw [l2];omega)
  rw [l2] at this
  rw [show mu+ml+far=(ml+far)+mu by omega,CT mq,this];rfl
 rw [e1,e2,vJ h,← Nu]
 ·rfl
 ·intro p hp
  obtain ⟨q,hq,rfl⟩:=List.mem_map.mp hp
  have:=mq q hq
  omega
 ·intro p hp
  have:=mq p hp
  omega
theorem Fq (m fl fr:Nat) (e:Nat→Nat→Bool) (i:Nat):rs m e (fl+fr) i=rs m e fl i ++ (rs m (fun i j=>e i (fl+j)) fr i).map (fl+ ·):=by
 unfold rs
 rw [List.range_add,List.flatMap_append,List.flatMap_map,List.map_flatMap]
 congr 1
 refine gk fun j hj=>?_
 show (if e i (fl+j)=true then [] else [m - 1 - i+(fl+j)])=_
 split
 ·rfl
 ·show [m - 1 - i+(fl+j)]=[fl+(m - 1 - i+j)];congr 1;omega
theorem sW (m far:Nat) (e:Nat→Nat→Bool) (n:Nat):al m far e (n+1)=al m far e n ++ rs m e far n:=by
 unfold al
 rw [List.range_succ,List.flatMap_append]
 simp
theorem vK {m fl fr:Nat} {e:Nat→Nat→Bool} (E:List Nat):∀ n,n≤m→bz E (al m (fl+fr) e n)=bz E (al m fl e n ++ (al m fr (fun i j=>e i (fl+j)) n).map (fl+ ·))
 | 0,_=>rfl
 | n+1,h=>by
  rw [sW,sW,sW,Fq,jM,vK E n (by omega),List.map_append,jM,jM,jM,jM,jM]
  refine congrArg (fun z=>bz z _) (yV fun p hp q hq=>?_)
  obtain ⟨p',hp',rfl⟩:=List.mem_map.mp hp
  obtain ⟨i,j,hi,hj,rfl⟩:=wX hp'
  unfold rs at hq
  obtain ⟨j',hj',hq⟩:=List.mem_flatMap.mp hq
  have hj':=List.mem_range.mp hj'
  split at hq
  ·cases hq
  ·rw [List.mem_singleton.mp hq];omega
theorem Bd {m fl fr:Nat} {e:Nat→Nat→Bool} (h:m+(fl+fr)≤96):
  lay (LN m fl e ++ (List.range fr).map (m+fl+ ·)) (List.range fl ++ (LN m fr (fun i j=>e i (fl+j))).map (fl+ ·))=LN m (fl+fr) e:=by
 have p1:=nO (n:=m+fr) (by omega) (mq (m:=m) (far:=fr) (e:=fun i j=>e i (fl+j)))
 have p2:=nO (n:=m+fl) (by omega) (mq (m:=m) (far:=fl) (e:=e))
 have l2:=mQ (m+fl) (al m fl e m)
 have e1:List.range fl ++ (LN m fr (fun i j=>e i (fl+j))).map (fl+ ·)=inv (Dn (m+(fl+fr)) ((al m fr (fun i j=>e i (fl+j)) m).map (fl+ ·))):=by
  rw [show m+(fl+fr)=fl+(m+fr) by omega,Jp mq,CV p1 (by rw [mQ];omega)];rfl
 have e2:LN m fl e ++ (List.range fr).map (m+fl+ ·)=inv (Dn (m+(fl+fr)) (al m fl e m)):=by
  have:=yS (r:=fr) p2 (by rw [l2];omega)
  rw [l2] at this
  rw [show m+(fl+fr)=(m+fl)+fr by omega,CT mq,this];rfl
 rw [e1,e2,vJ h]
 ·unfold LN Dn
  rw [vK _ m (Nat.le_refl _)]
 ·intro p hp
  have:=mq p hp
  omega
 ·intro p hp
  obtain ⟨q,hq,rfl⟩:=List.mem_map.mp hp
  have:=mq q hq
  omega
def top (i:Nat):Stmt:=PySem.Challenge.pw_panethread_k53_whole_any_brackets.main.body.getD i (.Pass ⟨0,0,0,0⟩)
abbrev gn:Stmt:=top 14
abbrev gq:Stmt:=top 15
abbrev fB:Stmt:=top 16
abbrev j4:Stmt:=top 17
abbrev fK:Stmt:=top 18
abbrev jR:Stmt:=top 19
abbrev bQ:Stmt:=top 21
abbrev gr:Stmt:=top 22
abbrev gw:Stmt:=top 23
abbrev dw:Stmt:=top 24
abbrev cQ:Stmt:=top 26
abbrev bW:Stmt:=top 27
abbrev fM:Stmt:=top 28
abbrev lC:Stmt:=top 29
abbrev gZ:Stmt:=top 31
abbrev kE:Stmt:=top 32
abbrev je:Stmt:=top 33
abbrev cM:Stmt:=top 36
abbrev jT:Stmt:=top 37
abbrev gH:Stmt:=top 38
abbrev bh:Stmt:=top 39
abbrev aQ:Stmt:=top 40
abbrev ig:Stmt:=top 45
abbrev cW:Stmt:=top 46
abbrev gA:Stmt:=top 47
abbrev bY:Stmt:=top 48
abbrev jE:Stmt:=top 50
abbrev j5:Stmt:=top 51
abbrev cA:Stmt:=top 52
abbrev jF:Stmt:=top 53
abbrev kI:Stmt:=top 54
abbrev bL:Stmt:=top 55
abbrev bC:Stmt:=top 56
abbrev gB:Stmt:=top 57
abbrev fO:Stmt:=top 58
abbrev bf:Stmt:=top 59
abbrev fG:Stmt:=top 60
abbrev cX:Stmt:=top 61
abbrev aX:Stmt:=ql 0 (top 35)
abbrev jZ:Stmt:=ql 1 (top 35)
abbrev lr:Stmt:=ql 2 (top 35)
abbrev g8:Stmt:=ql 4 (top 35)
abbrev jx:Stmt:=ql 6 (top 35)
abbrev bw:Stmt:=ql 0 (top 41)
abbrev cB:Stmt:=ql 0 (top 42)
abbrev aR:Stmt:=ql 0 (top 43)
abbrev aK:Stmt:=ql 0 (top 44)
abbrev CZ:Stmt:=initOf (top 2)
abbrev ur:Stmt:=initOf (top 3)
abbrev vL:Stmt:=initOf (top 4)
abbrev rJ:Stmt:=initOf (top 5)
abbrev my:Stmt:=initOf (top 6)
abbrev yW:Stmt:=initOf (top 7)
abbrev vM:Stmt:=initOf (top 8)
local macro_rules | `(tactic| walk_at "sts") => `(tactic| (with_reducible repeat (first | refine lO ?_ | refine lw ?_ | refine kZ ?_ | refine iZ ?_ | refine jc ?_ | (refine' iM ?hz0 ?_; (case hz0 => with_unfolding_all rfl)) | refine vm ?_ | refine lV ?_ | refine dZ ?_ | refine dM ?_ | refine iQ ?_ | refine nj ?_ | refine iC ?_ | refine dF ?_ | refine iG ?_ | refine dD ?_ | refine lK ?_ | refine dH ?_ | refine lW ?_ | refine lQ ?_ | refine dN ?_ | refine lM ?_ | refine iH ?_ | refine iI ?_ | refine lN ?_ | refine dI ?_ | refine iJ ?_ | refine dJ ?_ | refine iK ?_ | refine iD ?_ | refine dG ?_ | refine vo ?_ | refine vp ?_ | refine lR ?_ | refine iR ?_ | refine lU ?_ | refine iT ?_ | refine dO ?_ | refine dR ?_ | refine dU ?_ | refine dW ?_ | refine dX ?_ | refine dY ?_ | refine iU ?_ | refine cC ?_ | refine d9 ?_ | (refine' cP (SqT.of ?hz0) ?hz1 ?_; (case hz0 => first | assumption | exact aj); (case hz1 => rfl)) | refine cG ?_ | refine eQ ?_ | refine eU ?_ | refine di ?_ | refine dj ?_ | refine dm ?_ | refine dq ?_ | refine lX ?_ | refine dg ?_ | refine dh ?_ | refine eN ?_ | refine eO ?_ | refine cF ?_ | refine iV ?_ | refine d8 ?_ | (refine' vq ?hz0 ?_; (case hz0 => with_unfolding_all first | assumption | omega | (dsimp only <;> omega) | exact ⟨by omega, by omega⟩ | exact .inl ⟨by omega, by omega⟩ | exact .inr ⟨by omega, by omega⟩ | exact ⟨by decide, by decide, by decide⟩)) | (refine' d7 ?hz0 ?_; (case hz0 => with_unfolding_all first | assumption | omega | (dsimp only <;> omega) | exact ⟨by omega, by omega⟩ | exact .inl ⟨by omega, by omega⟩ | exact .inr ⟨by omega, by omega⟩ | exact ⟨by decide, by decide, by decide⟩)) | (refine' cO (SqL.of ?hz0) ?hz1 ?_; (case hz0 => first | assumption | exact aj); (case hz1 => with_unfolding_all rfl)) | (refine' c7 ?hz0 ?hz1 ?_; (case hz0 => first | assumption | exact aj); (case hz1 => with_unfolding_all rfl)) | refine cI ?_ | refine jd ?_ | refine eV ?_ | refine cJ ?_ | refine eY ?_ | refine cL ?_ | refine fY ?_)))
local macro_rules | `(tactic| walk_at "stn") => `(tactic| (with_reducible repeat (first | refine lO ?_ | refine lw ?_ | refine kZ ?_ | refine iZ ?_ | refine jc ?_ | (refine' iM ?hz0 ?_; (case hz0 => with_unfolding_all rfl)) | refine vm ?_ | refine lV ?_ | refine dZ ?_ | refine dM ?_ | refine iQ ?_ | refine iC ?_ | refine dF ?_ | refine iG ?_ | refine dD ?_ | refine lK ?_ | refine dH ?_ | refine lW ?_ | refine lQ ?_ | refine dN ?_ | refine lM ?_ | refine iH ?_ | refine iI ?_ | refine lN ?_ | refine dI ?_ | refine iJ ?_ | refine dJ ?_ | refine iK ?_ | refine iD ?_ | refine dG ?_ | refine vo ?_ | refine vp ?_ | refine lR ?_ | refine iR ?_ | refine lU ?_ | refine iT ?_ | refine dO ?_ | refine dR ?_ | refine dU ?_ | refine dW ?_ | refine dX ?_ | refine dY ?_ | refine iU ?_ | refine cC ?_ | refine d9 ?_ | (refine' cP (SqT.of ?hz0) ?hz1 ?_; (case hz0 => first | assumption | exact aj); (case hz1 => rfl)) | refine cG ?_ | refine eQ ?_ | refine eU ?_ | refine di ?_ | refine dj ?_ | refine dm ?_ | refine dq ?_ | refine lX ?_ | refine dg ?_ | refine dh ?_ | refine eN ?_ | refine eO ?_ | refine cF ?_ | refine iV ?_ | refine d8 ?_ | (refine' vq ?hz0 ?_; (case hz0 => with_unfolding_all first | assumption | omega | (dsimp only <;> omega) | exact ⟨by omega, by omega⟩ | exact .inl ⟨by omega, by omega⟩ | exact .inr ⟨by omega, by omega⟩ | exact ⟨by decide, by decide, by decide⟩)) | (refine' d7 ?hz0 ?_; (case hz0 => with_unfolding_all first | assumption | omega | (dsimp only <;> omega) | exact ⟨by omega, by omega⟩ | exact .inl ⟨by omega, by omega⟩ | exact .inr ⟨by omega, by omega⟩ | exact ⟨by decide, by decide, by decide⟩)) | (refine' cO (SqL.of ?hz0) ?hz1 ?_; (case hz0 => first | assumption | exact aj); (case hz1 => with_unfolding_all rfl)) | (refine' c7 ?hz0 ?hz1 ?_; (case hz0 => first | assumption | exact aj); (case hz1 => with_unfolding_all rfl)) | refine cI ?_ | refine jd ?_ | refine eV ?_ | refine cJ ?_ | refine eY ?_ | refine cL ?_ | refine fY ?_)))
structure Txt (K:PySem.W.Frag) (mg:Str→Option Value):Prop where
 b_all:mg "all"=none
 b_bool:mg "bool"=none
 b_enumerate:mg "enumerate"=none
 b_int:mg "int"=none
 b_isinstance:mg "isinstance"=none
 b_len:mg "len"=none
 b_list:mg "list"=none
 b_max:mg "max"=none
 b_min:mg "min"=none
 b_range:mg "range"=none
 b_reversed:mg "reversed"=none
 b_str:mg "str"=none
 b_tuple:mg "tuple"=none
 c_LETTERS:∃ t,mg "LETTERS"=some (.str "abcdefghijklmnopqrstuvwxyz" t)
 c_MOST_LINES:∃ t,mg "MOST_LINES"=some (.int 96 t)
 c_MOST_SIGNS:∃ t,mg "MOST_SIGNS"=some (.int 48 t)
 c_POINT:∃ t,mg "POINT"=some (.str "." t)
 d_is_number:fu K mg "is_number" gn
 d_is_within:fu K mg "is_within" gq
 d_is_letter:fu K mg "is_letter" fB
 d_is_sign:fu K mg "is_sign" j4
 d_need_place:fu K mg "need_place" fK
 d_need_sign:fu K mg "need_sign" jR
 d_is_turning:fu K mg "is_turning" bQ
 d_need_turning:fu K mg "need_turning" gr
 d_straight:fu K mg "straight" gw
 d_opposite:fu K mg "opposite" dw
 d_do_steps:fu K mg "do_steps" cQ
 d_steps_of:fu K mg "steps_of" bW
 d_need_alike:fu K mg "need_alike" fM
 d_laid:fu K mg "laid" lC
 d_is_row:fu K mg "is_row" gZ
 d_need_row:fu K mg "need_row" kE
 d_need_rows:fu K mg "need_rows" je
 d_need_pieces:fu K mg "need_pieces" cM
 d_need_same:fu K mg "need_same" jT
 d_need_short:fu K mg "need_short" gH
 d_lines_over:fu K mg "lines_over" bh
 d_lines_beside:fu K mg "lines_beside" aQ
 d_strip:fu K mg "strip" ig
 d_all_beside:fu K mg "all_beside" cW
 d_all_over:fu K mg "all_over" gA
 d_balanced:fu K mg "balanced" bY
 d_law_cell:fu K mg "_law_cell" jE
 d_law_mix:fu K mg "_law_mix" j5
 d_law_takes:fu K mg "_law_takes" cA
 d_law_sign:fu K mg "_law_sign" jF
 d_law_base:fu K mg "_law_base" kI
 d_law_text:fu K mg "_law_text" bL
 d_law_lines:fu K mg "_law_lines" bC
 d_law_whole:fu K mg "_law_whole" gB
 d_law_list:fu K mg "_law_list" fO
 d_law_built:fu K mg "_law_built" bf
 d_law_edged:fu K mg "_law_edged" fG
 d_law:fu K mg "law" cX
 x_NoRow:oV K mg "NoRow" ["found"] "NoRow.__init__" CZ
 x_NoLetter:oV K mg "NoLetter" ["found"] "NoLetter.__init__" ur
 x_NoPlace:oV K mg "NoPlace" ["found"] "NoPlace.__init__" vL
 x_NoTurning:oV K mg "NoTurning" ["found"] "NoTurning.__init__" rJ
 x_NoPiece:oV K mg "NoPiece" ["found"] "NoPiece.__init__" my
 x_Unlike:oV K mg "Unlike" ["one","other"] "Unlike.__init__" yW
 x_TooLong:oV K mg "TooLong" ["found"] "TooLong.__init__" vM
 o_Piece:m6 K mg "Piece"
 n_Piece:∀ f∈(["held_side","held_top","held_kind","held_lines","held_parts","held_height"]:List Str),NoAttr K (aU mg "Piece") f
 o_Blank:m6 K mg "Blank"
 n_Blank:∀ f∈(["held_side","held_top","held_kind","held_lines","held_parts","held_height"]:List Str),NoAttr K (aU mg "Blank") f
 o_One:m6 K mg "One"
 n_One:∀ f∈(["held_side","held_top","held_kind","held_lines","held_parts","held_height"]:List Str),NoAttr K (aU mg "One") f
 o_Over:m6 K mg "Over"
 n_Over:∀ f∈(["held_side","held_top","held_kind","held_lines","held_parts","held_height"]:List Str),NoAttr K (aU mg "Over") f
 o_Beside:m6 K mg "Beside"
 n_Beside:∀ f∈(["held_side","held_top","held_kind","held_lines","held_parts","held_height"]:List Str),NoAttr K (aU mg "Beside") f
 os_Piece:Ys K mg ["Blank","One","Over","Beside"]
 t_Blank:ITxt K mg "Blank"
 t_One:ITxt K mg "One"
 t_Over:ITxt K mg "Over"
 t_Beside:ITxt K mg "Beside"
 u_Blank_Piece:Sub K mg "Blank" "Piece" true
 u_One_Piece:Sub K mg "One" "Piece" true
 u_Over_Piece:Sub K mg "Over" "Piece" true
 u_Beside_Piece:Sub K mg "Beside" "Piece" true
 w_Piece_str:PySem.W.kitOne K (.type "str") (.ref (aU mg "Piece"))=some false
 w_Piece_int:PySem.W.kitOne K (.type "int") (.ref (aU mg "Piece"))=some false
 w_Piece_list:PySem.W.kitOne K (.type "list") (.ref (aU mg "Piece"))=some false
 w_Piece_tuple:PySem.W.kitOne K (.type "tuple") (.ref (aU mg "Piece"))=some false
 w_Piece_NoneType:PySem.W.kitOne K (.type "NoneType") (.ref (aU mg "Piece"))=some false
 w_Piece_bool:PySem.W.kitOne K (.type "bool") (.ref (aU mg "Piece"))=some false
 w_Piece_dict:PySem.W.kitOne K (.type "dict") (.ref (aU mg "Piece"))=some false
 m_Piece___init__:CK K mg "Piece" "__init__" "Piece.__init__" aX
 m_Piece_side:o5 K mg ["Blank","One","Over","Beside"] "side" "Piece.side" jZ
 m_Piece_top:o5 K mg ["Blank","One","Over","Beside"] "top" "Piece.top" lr
 m_Piece_lines:o5 K mg ["Blank","One","Over","Beside"] "lines" "Piece.lines" g8
 m_Piece_height:o5 K mg ["Blank","One","Over","Beside"] "height" "Piece.height" jx
 m_Blank___init__:uH K mg "Blank" "__init__" "Blank.__init__" bw
 m_One___init__:uH K mg "One" "__init__" "One.__init__" cB
 m_Over___init__:uH K mg "Over" "__init__" "Over.__init__" aR
 m_Beside___init__:uH K mg "Beside" "__init__" "Beside.__init__" aK
def Kd (K:PySem.W.Frag) (H:Hp) (v:V):Prop:=(∃ n,v= .int n)∨(∃ b,v= .bl b)∨∃ T,TyOf K H v (.type T)∧PySem.W.kitOne K (.type T) (.type "int")=some false
theorem Kd.same {K:PySem.W.Frag} {H H':Hp} {v:V} (h:Kd K H v) (s:Same H H'):Kd K H' v:=by
 rcases h with h | h | ⟨T,a,c⟩
 ·exact .inl h
 ·exact .inr (.inl h)
 ·exact .inr (.inr ⟨T,a.mono fun b o e _=>s b o e,c⟩)
def Wm:V→Bool
 | .int _=>true
 | _=>false
def inB (v:V) (lo hi:Int):Bool:=match v with
 | .int n=>decide (lo≤n) && decide (n≤hi)
 | _=>false
section
variable {P:Program} {w:World} {K:PySem.W.Frag} {mg:Str→Option Value} {base:Heap}
theorem Wn:bK gn "isinstance":=by decide+kernel
theorem kz01:bK gn "bool":=by decide+kernel
theorem Wo:bD gn "thing":=by decide+kernel
theorem kz03:bK gn "int":=by decide+kernel
theorem kz04:bD gq "low":=by decide+kernel
theorem Wq:bD gq "thing":=by decide+kernel
theorem kz06:bD gq "high":=by decide+kernel
theorem kz07:bK gq "is_number":=by decide+kernel
theorem kz08:bK fK "is_within":=by decide+kernel
theorem kz09:bD fK "high":=by decide+kernel
theorem kz0a:bD fK "low":=by decide+kernel
theorem kz0b:bD fK "thing":=by decide+kernel
theorem sr:bD my "self":=by decide+kernel
theorem qY:bD my "found":=by decide+kernel
theorem Same.put {H H':Hp} {p:Addr} {o:HO} (s:Same H H') (hn:H p=none):Same H (upd H' p o):=fun b u e=>by
 rw [aB (fun z=>by rw [z,hn] at e;cases e)]
 exact s b u e
theorem Same.back {H H':Hp} {p:Addr} (s:Same H H') (h:H' p=none):H p=none:=by
 cases e:H p with
 | none=>rfl
 | some o=>rw [s _ _ e] at h;cases h
theorem Te {H:Hp} {v:V} {T:String} (h:TyOf K H v (.type T)) (k:PySem.W.kitOne K (.type T) (.type "int")=some false):Wm v=false∧∀ lo hi,inB v lo hi=false:=by
 cases v with
 | int z=>
  cases h
  have:PySem.W.kitOne K (.type "int") (.type "int")=some true:=rfl
  rw [this] at k;cases k
 | _=>exact ⟨rfl,fun _ _=>rfl⟩
theorem yX:aD ["self","found"] ["self","found"] (aq my):=⟨rfl,rfl,rfl,by decide+kernel,rfl,by decide+kernel,by decide+kernel⟩
theorem Be (T:Txt K mg):V6 P w K mg base 1 "NoPiece" (aU mg "NoPiece") ["found"]:=mkX T.x_NoPiece yX (fun _ _ _ _ _ _ us hl=>L2.oO (fun _ _=>rfl) us hl) rfl fun f cdv A outer s H vs Q E hr h=>⟨_,(aA (Mv (K:=K) rfl (ao 0 sr) (ao 1 qY))),rd1 T.x_NoPiece.c.cl.cls (T.x_NoPiece.na _ (by simp)) h⟩
def Jr (K:PySem.W.Frag):Sp:=fun vs H Q _=>∃ v:V,vs=[v]∧Kd K H v∧Q (.bl (Wm v)) H
theorem w5:aD ["thing"] ["thing"] (aq gn):=⟨rfl,rfl,rfl,by decide+kernel,rfl,by decide+kernel,by decide+kernel⟩
theorem nP (T:Txt K mg):Has P w K mg base 1 "is_number" ["thing"] (Jr K):=by
 refine fj T.d_is_number w5 (fun _ _ _ _ _ _ us hl=>L2.j6 (fun _=>rfl) us hl) ?_ fun f cdv A outer s H vs Q E hr h=>?_
 ·rintro vs H Q E ⟨v,rfl,_⟩;rfl
 obtain ⟨v,rfl,hT,q⟩:=h
 have hu:=hr.units0
 have hu64:=hr.units
 refine ⟨_,(aA (aN (yH (aH (jA (K:=K) rfl) (aV Wn) T.b_isinstance b7 (aa (ao 0 Wo) (aa (wA (aV kz03) T.b_int HF (by decide+kernel) (by decide+kernel)) ak)) (by decide+kernel) (by decide+kernel)) (yG (PX (aH (jA (K:=K) rfl) (aV Wn) T.b_isinstance b7 (aa (ao 0 Wo) (aa (wA (aV kz01) T.b_bool Cg (by decide+kernel) (by decide+kernel)) ak)) (by decide+kernel) (by decide+kernel))))))),?_⟩
 walk_at "sts"
 rcases hT with ⟨n,rfl⟩ | ⟨b,rfl⟩ | ⟨T',hty,hk⟩
 ·refine o4 (.int _) rfl ?_
  walk_at "sts"
  refine o4 (.int _) rfl ?_
  walk_at "sts"
  exact q
 ·refine o4 (.bl _) (b:=true) (by rfl) ?_
  walk_at "sts"
  refine o4 (.bl _) (b:=true) (by rfl) ?_
  walk_at "sts"
  exact q
 ·refine o4 hty hk ?_
  walk_at "sts"
  rw [(Te hty hk).1] at q
  exact q
def Js (K:PySem.W.Frag):Sp:=fun vs H Q _=>∃ (v:V) (lo hi:Int),vs=[v,.int lo,.int hi]∧Kd K H v∧Q (.bl (inB v lo hi)) H
theorem w6:aD ["thing","low","high"] ["thing","low","high"] (aq gq):=⟨rfl,rfl,rfl,by decide+kernel,rfl,by decide+kernel,by decide+kernel⟩
theorem jf (T:Txt K mg):Has P w K mg base 2 "is_within" ["thing","low","high"] (Js K):=by
 have nP:=nP (P:=P) (w:=w) (base:=base) T
 refine fj T.d_is_within w6 (fun _ _ _ _ _ _ us hl=>L2.tE (fun _ _ _=>rfl) us hl) ?_ fun f cdv A outer s H vs Q E hr h=>?_
 ·rintro vs H Q E ⟨v,lo,hi,rfl,_⟩;rfl
 obtain ⟨v,lo,hi,rfl,hT,q⟩:=h
 have hu:=hr.units0
 have hu64:=hr.units
 refine ⟨_,(aA (aN (yH (aF nP (hr.mono (by decide)) (aV kz07) (aa (ao 0 Wq) ak) (by decide+kernel)) (yG (Ml PL PL (ao 1 kz04) (ao 0 Wq) (ao 2 kz06)))))),?_⟩
 walk_at "sts"
 refine ⟨v,rfl,hT,?_⟩
 walk_at "sts"
 cases v with
 | int n=>
  show if true=true then _ else _
  walk_at "sts"
  show if decide (lo≤n)=true then _ else _
  unfold inB at q
  dsimp only at q
  by_cases h:lo≤n
  ·rw [decide_eq_true h] at q ⊢
   rw [Bool.true_and] at q
   walk_at "sts"
   exact q
  ·rw [decide_eq_false h] at q ⊢
   rw [Bool.false_and] at q
   walk_at "sts"
   exact q
 | _=>exact q
def Nv (K:PySem.W.Frag):Sp:=fun vs H Q _=>∃ (n lo hi:Int),vs=[.int n,.int lo,.int hi]∧lo≤n∧n≤hi∧Q .non H
theorem uI:aD ["thing","low","high"] ["thing","low","high"] (aq fK):=⟨rfl,rfl,rfl,by decide+kernel,rfl,by decide+kernel,by decide+kernel⟩
theorem mR (T:Txt K mg):Has P w K mg base 3 "need_place" ["thing","low","high"] (Nv K):=by
 have jf:=jf (P:=P) (w:=w) (base:=base) T
 refine fj T.d_need_place uI (fun _ _ _ _ _ _ us hl=>L2.tE (fun _ _ _=>rfl) us hl) ?_ fun f cdv A outer s H vs Q E hr h=>?_
 ·rintro vs H Q E ⟨n,lo,hi,rfl,_⟩;rfl
 obtain ⟨n,lo,hi,rfl,h1,h2,q⟩:=h
 have hu:=hr.units0
 have hu64:=hr.units
 refine ⟨_,(aA (cz (lA (j9 (aF jf (hr.mono (by decide)) (aV kz08) (aa (ao 0 kz0b) (aa (ao 1 kz0a) (aa (ao 2 kz09) ak))) (by decide+kernel)))) (aA jP) bI)),?_⟩
 walk_at "sts"
 refine ⟨.int n,lo,hi,rfl,.inl ⟨_,rfl⟩,?_⟩
 walk_at "sts"
 have hb:inB (.int n) lo hi=true:=by unfold inB;simp;omega
 rw [hb]
 walk_at "sts"
 exact q
theorem yZ (i j:Int):decide (V.int i=V.int j)=decide (i=j):=decide_eq_decide.mpr ⟨fun h=>V.int.inj h,fun h=>by rw [h]⟩
theorem bT (t:List Nat):((nI t).map V.int).length=t.length:=by unfold nI;rw [List.length_map,List.length_map]
theorem Wr {t:List Nat} {k i:Nat} (h:t[k]?=some i):((nI t).map V.int)[k]?=some (.int (i:Int)):=by unfold nI;rw [List.getElem?_map,List.getElem?_map,h];rfl
theorem za {t:List Nat} {k:Nat} {v:V} (h:((nI t).map V.int)[k]?=some v):∃ i,t[k]?=some i∧v= .int (i:Int):=by
 unfold nI at h
 rw [List.getElem?_map,List.getElem?_map] at h
 cases e:t[k]? with
 | none=>rw [e] at h;cases h
 | some y=>rw [e] at h;exact ⟨y,rfl,(Option.some.inj h).symm⟩
theorem rK {t:List Nat} {k:Nat} {j:Int} (hk:k < t.length) (hj:j=(k:Int)):zO ((nI t).map V.int) j=some (.int ((t.getD k 0:Nat):Int)):=by
 subst hj
 refine oF (Wr ?_)
 rw [List.getD_eq_getElem?_getD,List.getElem?_eq_getElem hk];rfl
theorem pH (t:List Nat) (k x:Nat):((nI t).map V.int).set k (.int (x:Int))=(nI (t.set k x)).map V.int:=by unfold nI;rw [List.map_set,List.map_set]
theorem xf (t:List Nat) (x:Nat):(nI t).map V.int ++ [.int (x:Int)]=(nI (t ++ [x])).map V.int:=by unfold nI;rw [List.map_append,List.map_append];rfl
theorem ut {n p:Nat} {j:Int} (hj:j=(p:Int)) (h:p < n):G7 n j=some p:=by
 subst hj
 unfold G7
 rw [if_pos (by omega),if_pos (by omega)]
 simp
end
section
variable {P:Program} {w:World} {K:PySem.W.Frag} {mg:Str→Option Value} {base:Heap}
theorem Ny:bD bQ "thing":=by decide+kernel
theorem Nz:bD bQ "end":=by decide+kernel
theorem Tf:bD bQ "seen":=by decide+kernel
theorem kz0f:bK bQ "is_within":=by decide+kernel
theorem Ws:bK bQ "len":=by decide+kernel
theorem kz0h:bK bQ "MOST_LINES":=by decide+kernel
theorem kz0i:bK bQ "isinstance":=by decide+kernel
theorem kz0j:bK bQ "tuple":=by decide+kernel
theorem kz0k:bK bQ "list":=by decide+kernel
theorem kz0l:bK gr "is_turning":=by decide+kernel
theorem kz0m:bD gr "thing":=by decide+kernel
theorem kz0n:bK gw "list":=by decide+kernel
theorem kz0o:bK gw "range":=by decide+kernel
theorem Wt:bD gw "many":=by decide+kernel
theorem kz0q:bK gw "need_place":=by decide+kernel
theorem kz0r:bK gw "MOST_LINES":=by decide+kernel
theorem Tg:bD dw "begins":=by decide+kernel
theorem kz0t:bK dw "enumerate":=by decide+kernel
theorem Th:bD dw "turning":=by decide+kernel
theorem Wu:bD dw "end":=by decide+kernel
theorem Wv:bD dw "begin":=by decide+kernel
theorem kz0x:bK dw "len":=by decide+kernel
theorem kz0y:bK dw "need_turning":=by decide+kernel
def Tn (H:Hp) (a:Addr) (t:List Nat):Prop:=H a=some (.lst ((nI t).map V.int))∨H a=some (.tup ((nI t).map V.int))
def NB (us:List V):Bool:=decide (us.length≤96) && (us.all fun u=>inB u 0 ((us.length:Int) - 1)) && decide us.Nodup
theorem Dc {us:List V} (h:96 < us.length):NB us=false:=by unfold NB;rw [decide_eq_false (by omega)];rfl
theorem Jt {us:List V} {u:V} (h:u∈us) (hb:inB u 0 ((us.length:Int) - 1)=false):NB us=false:=by
 unfold NB
 have:(us.all fun u=>inB u 0 ((us.length:Int) - 1))=false:=List.all_eq_false.mpr ⟨u,h,by rw [hb];simp⟩
 rw [this,Bool.and_false,Bool.false_and]
theorem Ju {us:List V} {k:Nat} {u:V} (h:us[k]?=some u) (hm:u∈us.take k):NB us=false:=by
 have:¬ us.Nodup:=fun nd=>by
  obtain ⟨i,hi,e⟩:=List.mem_iff_getElem.mp hm
  obtain ⟨hk,e2⟩:=List.getElem?_eq_some_iff.mp h
  rw [List.length_take] at hi
  rw [List.getElem_take] at e
  exact List.pairwise_iff_getElem.mp nd i k (by omega) hk (by omega) (e.trans e2.symm)
 unfold NB
 rw [decide_eq_false this,Bool.and_false]
theorem Jv {us:List V} (h:us.length≤96) (hin:∀ u∈us,inB u 0 ((us.length:Int) - 1)=true) (hnd:us.Nodup):NB us=true:=by
 unfold NB
 rw [decide_eq_true h,decide_eq_true hnd,List.all_eq_true.mpr hin];rfl
theorem uv {us:List V} {v:V} (h:us.Nodup) (hm:v ∉ us):(us ++ [v]).Nodup:=by
 refine List.nodup_append.mpr ⟨h,by simp,fun a ha b hb=>?_⟩
 rw [List.mem_singleton.mp hb]
 exact fun z=>hm (z ▸ ha)
theorem Dd {v:V} {h:Int} (hb:inB v 0 h=true):∃ i:Nat,v= .int (i:Int)∧(i:Int)≤h:=by
 cases v with
 | int n=>
  unfold inB at hb
  simp at hb
  exact ⟨n.toNat,by rw [Int.toNat_of_nonneg hb.1],by omega⟩
 | _=>cases hb
def TnK (K:PySem.W.Frag) (H:Hp) (v:V) (b:Bool):Prop:=(∃ a us,v= .ref a∧(H a=some (.lst us)∨H a=some (.tup us))∧us.length≤10000∧(∀ u∈us,Kd K H u)∧b=NB us)∨
 ∃ T,TyOf K H v (.type T)∧PySem.W.kitAny K (.type T) [.type "list",.type "tuple"]=some false∧b=false
theorem NK {H:Hp} {a:Addr} {t:List Nat} (h:Tn H a t) (hP:Prm t):TnK K H (.ref a) true:=by
 have hle:=hP.le
 refine .inl ⟨a,_,rfl,h,by rw [bT];omega,fun u hu=>?_,?_⟩
 ·obtain ⟨x,_,rfl⟩:=List.mem_map.mp hu
  exact .inl ⟨x,rfl⟩
 ·refine (Jv (by rw [bT];exact hle) (fun u hu=>?_) ?_).symm
  ·obtain ⟨x,hx,rfl⟩:=List.mem_map.mp hu
   unfold nI at hx
   obtain ⟨y,hy,rfl⟩:=List.mem_map.mp hx
   have:=hP.lt hy
   rw [bT]
   unfold inB
   simp;omega
  ·unfold nI List.Nodup
   rw [List.map_map,List.pairwise_map]
   exact hP.nd.imp fun {x y} h z=>h (by have e:((x:Nat):Int)=((y:Nat):Int):=V.int.inj z;omega)
def Ti (K:PySem.W.Frag):Sp:=fun vs H Q _=>∃ (v:V) (b:Bool),vs=[v]∧TnK K H v b∧∀ H',Same H H'→Q (.bl b) H'
theorem lD:aD ["thing","seen","end"] ["thing"] (aq bQ):=⟨rfl,rfl,rfl,by decide+kernel,rfl,by decide+kernel,by decide+kernel⟩
theorem mU (T:Txt K mg):Has P w K mg base 3 "is_turning" ["thing"] (Ti K):=by
 have jf:=jf (P:=P) (w:=w) (base:=base) T
 refine fj T.d_is_turning lD (fun _ _ _ _ _ _ us hl=>L2.j6 (fun _=>rfl) us hl) ?_ fun f cdv A outer s H vs Q E hr h=>?_
 ·rintro vs H Q E ⟨v,bb,rfl,_⟩;rfl
 obtain ⟨v,bb,rfl,h,q⟩:=h
 have hu:=hr.units0
 have hu64:=hr.units
 refine ⟨_,(az (cz (lY (p8 (lA (j9 (aH (vB (K:=K) rfl) (aV kz0i) T.b_isinstance b7 (aa (ao 0 Ny) (aa (HR (aa (wA (aV kz0k) T.b_list lg (by decide+kernel) (by decide+kernel)) (aa (wA (aV kz0j) T.b_tuple HD (by decide+kernel) (by decide+kernel)) ak))) ak)) (by decide+kernel) (by decide+kernel)))) (mG (bx rz (aH (aC (K:=K) rfl) (aV Ws) T.b_len bc (aa (ao 0 Ny) ak) (by decide+kernel) (by decide+kernel)) (wz (aV kz0h) T.c_MOST_LINES (by decide+kernel)) (by first | exact aW _ | with_unfolding_all rfl))))) (aA (aN yE)) bI) (az (aM (i:=1) lD.nd rfl (Or.inl Tf) wK rfl) (az (jt PassesOwn.never rfl (jr (K:=K) rfl (ao 0 Ny)) (b8 (i:=2) lD.nd rfl (Or.inl Nz) rfl) (az (cz (lY (p8 (lA (j9 (aF jf (hr.mono (by decide)) (aV kz0f) (aa (ao 2 Nz) (aa aG (aa (bj jU (aH (aC (K:=K) rfl) (aV Ws) T.b_len bc (aa (ao 0 Ny) ak) (by decide+kernel) (by decide+kernel)) aG) ak))) (by decide+kernel)))) (mG (bx (Sq (K:=K) rfl hu64) (ao 2 Nz) (ao 1 Tf) (by first | exact aW _ | with_unfolding_all rfl))))) (aA (aN yE)) bI) (aA (jK (ts:=mZ) yE (lB (ao 1 Tf) (ao 2 Nz) (jL hu64)))))) (aA (aN yE))))),?_⟩
 walk_at "sts"
 have hs:20000≤sizeLine:=by decide
 rcases h with ⟨a,us,rfl,ha,hlen,hkd,rfl⟩ | ⟨T',hty,hk,rfl⟩
 ·rcases ha with ha | ha
  ·skip
   refine ue rfl fun p np=>?_
   walk_at "sts"
   have ha1:upd H p (.tup [.ty "list",.ty "tuple"]) a=some (.lst us):=cV np ha
   refine wJ (.lst ha1) aj rfl (b:=true) (by rfl) ?_
   walk_at "sts"
   refine fX (SqL.of ha1) ?_
   walk_at "sts"
   by_cases h96:96 < us.length
   ·rw [decide_eq_true (show (96:Int) < (us.length:Int) by omega)]
    rw [Dc h96] at q
    walk_at "sts"
    exact q _ ((Same.refl H).upd np)
   rw [decide_eq_false (show ¬ (96:Int) < (us.length:Int) by omega)]
   walk_at "sts"
   intro d nd
   have S1:Same H (upd (upd H p (.tup [.ty "list",.ty "tuple"])) d (.dK [])):=((Same.refl H).upd np).upd nd
   have hd0:upd (upd H p (.tup [.ty "list",.ty "tuple"])) d (.dK []) d=some (.dK []):=aj
   have nd':H d=none:=Same.back ((Same.refl H).upd np) nd
   generalize upd (upd H p (.tup [.ty "list",.ty "tuple"])) d (.dK [])=H1 at S1 hd0 ⊢
   walk_at "sts"
   refine .inl ⟨a,rfl,⟨_,SqL.of (S1 _ _ ha)⟩,?_⟩
   refine tH (xs:=us) (fun k σ H'=>∃ (kvs:List (Key×V)) (x2:Option V),σ=[some (.ref a),some (.ref d),x2]∧Same H H'∧H' d=some (.dK kvs)∧kvs.length≤k∧(∀ n:Nat,jz kvs (Sum.inl (n:Int))=if V.int (n:Int)∈us.take k then some (.bl true) else none)∧(∀ u∈us.take k,inB u 0 ((us.length:Int) - 1)=true)∧(us.take k).Nodup)
    ⟨[],_,rfl,S1,hd0,by simp,fun n=>by simp [yf],by simp,by simp⟩ (fun i σ H' _ h=>?_) ?_ ?_
   ·obtain ⟨_,_,_,s,_⟩:=h
    exact SqL.of (s _ _ ha)
   ·rintro k v σ H' hk ⟨kvs,x2,rfl,s,hd,hkl,hv,hin,hnd⟩
    have hkt:k < us.length:=(List.getElem?_eq_some_iff.mp hk).1
    have hmem:=List.mem_of_getElem? hk
    walk_at "sts"
    refine fX (SqL.of (s _ _ ha)) ?_
    walk_at "sts"
    refine ⟨_,_,_,rfl,(hkd v hmem).same s,?_⟩
    walk_at "sts"
    cases hb:inB v 0 ((us.length:Int) - 1) with
    | false=>
     rw [Jt hmem hb] at q
     walk_at "sts"
     exact q _ s
    | true=>
     obtain ⟨i,rfl,hi⟩:=Dd hb
     walk_at "sts"
     refine .inr ⟨d,_,rfl,DGet.k (k:=Sum.inl (i:Int)) hd,?_⟩
     rw [hv i]
     by_cases hm:V.int (i:Int)∈us.take k
     ·rw [if_pos hm,show (some (V.bl true)).isSome=true from rfl]
      rw [Ju hk hm] at q
      walk_at "sts"
      exact q _ s
     ·rw [if_neg hm,show (none:Option V).isSome=false from rfl]
      walk_at "sts"
      refine .inr ⟨d,_,rfl,DPut.k (k:=Sum.inl (i:Int)) hd (by omega),?_⟩
      have tk:us.take (k+1)=us.take k ++ [V.int (i:Int)]:=by rw [List.take_add_one,hk];rfl
      refine ⟨_,_,rfl,Same.put s nd',aj,Nat.le_trans (gj _ _ _) (by omega),fun n=>?_,fun u hu=>?_,?_⟩
      ·rw [lJ,hv n,tk]
       by_cases hn:n=i
       ·subst hn;simp
       ·rw [if_neg (fun z=>hn (by have:=Sum.inl.inj z;omega))]
        have hne:¬ V.int (n:Int)=V.int (i:Int):=fun z=>hn (by have:=V.int.inj z;omega)
        simp [hne]
      ·rw [tk] at hu
       rcases List.mem_append.mp hu with h | h
       ·exact hin u h
       ·rw [List.mem_singleton.mp h];exact hb
      ·rw [tk]
       exact uv hnd hm
   ·rintro σ H' ⟨kvs,x2,rfl,s,hd,_,_,hin,hnd⟩
    rw [List.take_length] at hin hnd
    rw [Jv (by omega) hin hnd] at q
    walk_at "sts"
    exact q _ s
  ·skip
   refine ue rfl fun p np=>?_
   walk_at "sts"
   have ha1:upd H p (.tup [.ty "list",.ty "tuple"]) a=some (.tup us):=cV np ha
   refine wJ (.tup ha1) aj rfl (b:=true) (by rfl) ?_
   walk_at "sts"
   refine HN (SqT.of ha1) ?_
   walk_at "sts"
   by_cases h96:96 < us.length
   ·rw [decide_eq_true (show (96:Int) < (us.length:Int) by omega)]
    rw [Dc h96] at q
    walk_at "sts"
    exact q _ ((Same.refl H).upd np)
   rw [decide_eq_false (show ¬ (96:Int) < (us.length:Int) by omega)]
   walk_at "sts"
   intro d nd
   have S1:Same H (upd (upd H p (.tup [.ty "list",.ty "tuple"])) d (.dK [])):=((Same.refl H).upd np).upd nd
   have hd0:upd (upd H p (.tup [.ty "list",.ty "tuple"])) d (.dK []) d=some (.dK []):=aj
   have nd':H d=none:=Same.back ((Same.refl H).upd np) nd
   generalize upd (upd H p (.tup [.ty "list",.ty "tuple"])) d (.dK [])=H1 at S1 hd0 ⊢
   walk_at "sts"
   refine .inr (.inl ⟨a,rfl,⟨_,SqT.of (S1 _ _ ha)⟩,?_⟩)
   refine By (xs:=us) (fun k σ H'=>∃ (kvs:List (Key×V)) (x2:Option V),σ=[some (.ref a),some (.ref d),x2]∧Same H H'∧H' d=some (.dK kvs)∧kvs.length≤k∧(∀ n:Nat,jz kvs (Sum.inl (n:Int))=if V.int (n:Int)∈us.take k then some (.bl true) else none)∧(∀ u∈us.take k,inB u 0 ((us.length:Int) - 1)=true)∧(us.take k).Nodup)
    ⟨[],_,rfl,S1,hd0,by simp,fun n=>by simp [yf],by simp,by simp⟩ (fun i σ H' _ h=>?_) ?_ ?_
   ·obtain ⟨_,_,_,s,_⟩:=h
    exact SqT.of (s _ _ ha)
   ·rintro k v σ H' hk ⟨kvs,x2,rfl,s,hd,hkl,hv,hin,hnd⟩
    have hkt:k < us.length:=(List.getElem?_eq_some_iff.mp hk).1
    have hmem:=List.mem_of_getElem? hk
    walk_at "sts"
    refine HN (SqT.of (s _ _ ha)) ?_
    walk_at "sts"
    refine ⟨_,_,_,rfl,(hkd v hmem).same s,?_⟩
    walk_at "sts"
    cases hb:inB v 0 ((us.length:Int) - 1) with
    | false=>
     rw [Jt hmem hb] at q
     walk_at "sts"
     exact q _ s
    | true=>
     obtain ⟨i,rfl,hi⟩:=Dd hb
     walk_at "sts"
     refine .inr ⟨d,_,rfl,DGet.k (k:=Sum.inl (i:Int)) hd,?_⟩
     rw [hv i]
     by_cases hm:V.int (i:Int)∈us.take k
     ·rw [if_pos hm,show (some (V.bl true)).isSome=true from rfl]
      rw [Ju hk hm] at q
      walk_at "sts"
      exact q _ s
     ·rw [if_neg hm,show (none:Option V).isSome=false from rfl]
      walk_at "sts"
      refine .inr ⟨d,_,rfl,DPut.k (k:=Sum.inl (i:Int)) hd (by omega),?_⟩
      have tk:us.take (k+1)=us.take k ++ [V.int (i:Int)]:=by rw [List.take_add_one,hk];rfl
      refine ⟨_,_,rfl,Same.put s nd',aj,Nat.le_trans (gj _ _ _) (by omega),fun n=>?_,fun u hu=>?_,?_⟩
      ·rw [lJ,hv n,tk]
       by_cases hn:n=i
       ·subst hn;simp
       ·rw [if_neg (fun z=>hn (by have:=Sum.inl.inj z;omega))]
        have hne:¬ V.int (n:Int)=V.int (i:Int):=fun z=>hn (by have:=V.int.inj z;omega)
        simp [hne]
      ·rw [tk] at hu
       rcases List.mem_append.mp hu with h | h
       ·exact hin u h
       ·rw [List.mem_singleton.mp h];exact hb
      ·rw [tk]
       exact uv hnd hm
   ·rintro σ H' ⟨kvs,x2,rfl,s,hd,_,_,hin,hnd⟩
    rw [List.take_length] at hin hnd
    rw [Jv (by omega) hin hnd] at q
    walk_at "sts"
    exact q _ s
 ·refine ue rfl fun p np=>?_
  walk_at "sts"
  refine wJ (hty.mono fun b o e _=>cV np e) aj rfl hk ?_
  walk_at "sts"
  exact q _ ((Same.refl H).upd np)
def NP (K:PySem.W.Frag):Sp:=fun vs H Q _=>∃ (a:Addr) (t:List Nat),vs=[.ref a]∧Tn H a t∧Prm t∧∀ H',Same H H'→Q .non H'
theorem sy:aD ["thing"] ["thing"] (aq gr):=⟨rfl,rfl,rfl,by decide+kernel,rfl,by decide+kernel,by decide+kernel⟩
theorem cR (T:Txt K mg):Has P w K mg base 4 "need_turning" ["thing"] (NP K):=by
 have mU:=mU (P:=P) (w:=w) (base:=base) T
 refine fj T.d_need_turning sy (fun _ _ _ _ _ _ us hl=>L2.j6 (fun _=>rfl) us hl) ?_ fun f cdv A outer s H vs Q E hr h=>?_
 ·rintro vs H Q E ⟨a,t,rfl,_⟩;rfl
 obtain ⟨a,t,rfl,ha,hP,q⟩:=h
 have hu:=hr.units0
 have hu64:=hr.units
 refine ⟨_,(aA (cz (lA (j9 (aF mU (hr.mono (by decide)) (aV kz0l) (aa (ao 0 kz0m) ak) (by decide+kernel)))) (aA jP) bI)),?_⟩
 walk_at "sts"
 refine ⟨.ref a,true,rfl,NK ha hP,fun H1 S1=>?_⟩
 walk_at "sts"
 walk_at "sts"
 exact q H1 S1
theorem Tj (n:Nat):((List.range n).map fun i:Nat=>V.int (0+(i:Int)*1))=(nI (List.range n)).map V.int:=by
 unfold nI
 rw [List.map_map]
 refine List.map_congr_left fun x _=>?_
 show V.int (0+(x:Int)*1)=V.int (x:Int)
 congr 1;omega
def Bf:Sp:=fun vs H Q _=>∃ n:Nat,vs=[.int n]∧n≤96∧∀ q H',H q=none→Same H H'→H' q=some (.lst ((nI (List.range n)).map V.int))→Q (.ref q) H'
theorem zb:aD ["many"] ["many"] (aq gw):=⟨rfl,rfl,rfl,by decide+kernel,rfl,by decide+kernel,by decide+kernel⟩
theorem fP (T:Txt K mg):Has P w K mg base 4 "straight" ["many"] Bf:=by
 have mR:=mR (P:=P) (w:=w) (base:=base) T
 refine fj T.d_straight zb (fun _ _ _ _ _ _ us hl=>L2.j6 (fun _=>rfl) us hl) ?_ fun f cdv A outer s H vs Q E hr h=>?_
 ·rintro vs H Q E ⟨n,rfl,_⟩;rfl
 obtain ⟨n,rfl,hn,q⟩:=h
 have hu:=hr.units0
 have hu64:=hr.units
 refine ⟨_,(az (bF (aF mR (hr.mono (by decide)) (aV kz0q) (aa (ao 0 Wt) (aa aG (aa (wz (aV kz0r) T.c_MOST_LINES (by decide+kernel)) ak))) (by decide+kernel))) (aA (aN (Ax rfl (aV kz0n) T.b_list (aV kz0o) T.b_range (aa (ao 0 Wt) ak))))),?_⟩
 walk_at "sts"
 refine ⟨_,_,_,rfl,by omega,by omega,?_⟩
 walk_at "sts"
 refine MN (n:=n) (by omega) ?_
 walk_at "sts"
 intro p np
 rw [Tj]
 exact q p _ np ((Same.refl H).upd np) aj
def Ww:Sp:=fun vs H Q _=>∃ (a:Addr) (t:List Nat),vs=[.ref a]∧H a=some (.lst ((nI t).map V.int))∧Prm t∧∀ q H',H q=none→Same H H'→H' q=some (.lst ((nI (inv t)).map V.int))→Q (.ref q) H'
theorem lu:aD ["turning","begins","begin","end"] ["turning"] (aq dw):=⟨rfl,rfl,rfl,by decide+kernel,rfl,by decide+kernel,by decide+kernel⟩
theorem iw (T:Txt K mg):Has P w K mg base 5 "opposite" ["turning"] Ww:=by
 have cR:=cR (P:=P) (w:=w) (base:=base) T
 refine fj T.d_opposite lu (fun _ _ _ _ _ _ us hl=>L2.j6 (fun _=>rfl) us hl) ?_ fun f cdv A outer s H vs Q E hr h=>?_
 ·rintro vs H Q E ⟨a,t,rfl,_⟩;rfl
 obtain ⟨a,t,rfl,ha,hP,q⟩:=h
 have hu:=hr.units0
 have hu64:=hr.units
 refine ⟨_,(az (bF (aF cR (hr.mono (by decide)) (aV kz0y) (aa (ao 0 Th) ak) (by decide+kernel))) (az (aM (i:=1) lu.nd rfl (Or.inl Tg) (bj jW (iY (aa aG ak)) (aH (aC (K:=K) rfl) (aV kz0x) T.b_len bc (aa (ao 0 Th) ak) (by decide+kernel) (by decide+kernel))) rfl) (az (jt PassesOwn.never rfl (wC (K:=K) rfl rfl (aV kz0t) T.b_enumerate (aa (ao 0 Th) ak)) (Am (K:=K) rfl rfl (gW (b8 (i:=2) lu.nd rfl (Or.inl Wv) rfl) (gW (b8 (i:=3) lu.nd rfl (Or.inl Wu) rfl) sV))) (aA (jK (ts:=mZ) (ao 2 Wv) (lB (ao 1 Tg) (ao 3 Wu) (jL hu64))))) (aA (aN (ao 1 Tg)))))),?_⟩
 walk_at "sts"
 have hs:20000≤sizeLine:=by decide
 have hle:=hP.le
 refine ⟨_,t,rfl,.inl ha,hP,fun H1 S1=>?_⟩
 walk_at "sts"
 ·skip
  refine ue rfl fun p np=>?_
  walk_at "sts"
  refine fX (SqL.of (cV np (S1 _ _ ha))) ?_
  walk_at "sts"
  rw [bT]
  refine An (k:=(t.length:Int)) aj (by omega) (by omega) (by simp;omega) fun b nb=>?_
  walk_at "sts"
  have S2:Same H (upd (upd H1 p (.lst [.int 0])) b (.lst (List.replicate ((t.length:Int)).toNat [V.int 0]).flatten)):=(S1.upd np).upd nb
  have nb0:H b=none:=Same.back (S1.upd np) nb
  have hb0:upd (upd H1 p (.lst [.int 0])) b (.lst (List.replicate ((t.length:Int)).toNat [V.int 0]).flatten) b=some (.lst ((nI (List.replicate t.length 0)).map V.int)):=by
   rw [aj]
   congr 2
   unfold nI
   rw [List.map_replicate,List.map_replicate,show ((t.length:Int)).toNat=t.length by omega]
   generalize t.length=n
   induction n with
   | zero=>rfl
   | succ n ih=>rw [List.replicate_succ,List.flatten_cons,ih,List.replicate_succ];rfl
  generalize upd (upd H1 p (.lst [.int 0])) b (.lst (List.replicate ((t.length:Int)).toNat [V.int 0]).flatten)=H2 at S2 hb0 ⊢
  refine .inr ⟨a,_,rfl,SqL.of (S2 _ _ ha),?_⟩
  refine qP (K:=K) (xs:=(nI t).map V.int) (fun k σ H'=>∃ (r:List Nat) (x2 x3:Option V),σ=[some (.ref a),some (.ref b),x2,x3]∧Same H H'∧H' b=some (.lst ((nI r).map V.int))∧r.length=t.length∧∀ (i x:Nat),i < k→t[i]?=some x→r[x]?=some i)
   ⟨List.replicate t.length 0,_,_,rfl,S2,hb0,by simp,fun i x h=>by omega⟩ (fun i σ H' _ h=>?_) ?_ ?_
  ·obtain ⟨_,_,_,_,s,_⟩:=h
   exact SqL.of (s _ _ ha)
  ·rintro k σ H' T v hk ⟨r,x2,x3,rfl,s,hb,hrl,hr⟩ nT
   obtain ⟨i,hi,rfl⟩:=za hk
   have hit:=hP.lt (List.mem_of_getElem? hi)
   refine cP (SqT.of aj) rfl ?_
   walk_at "sts"
   refine mK (cV nT hb) (ut (p:=i) rfl (by rw [bT];omega)) ?_
   walk_at "sts"
   rw [pH]
   refine ⟨r.set i k,_,_,rfl,Same.put (s.upd nT) nb0,aj,by simp;omega,fun j x hj e=>?_⟩
   by_cases hjk:j=k
   ·subst hjk
    rw [hi] at e
    cases e
    rw [List.getElem?_set_self (by omega)]
   ·have hx:x≠i:=fun z=>hjk (by
     subst z
     have h1:=gQ hP.nd e
     have h2:=gQ hP.nd hi
     omega)
    rw [List.getElem?_set_ne (fun z=>hx z.symm)]
    exact hr j x (by omega) e
  ·rintro σ H' ⟨r,x2,x3,rfl,s,hb,hrl,hr⟩
   walk_at "sts"
   rw [bT] at hr
   have e:=qU hP hrl fun i x h=>hr i x (List.getElem?_eq_some_iff.mp h).1 h
   rw [e] at hb
   exact q b _ nb0 s hb
end
local macro_rules | `(tactic| walk_at "sts") => `(tactic| (with_reducible repeat (first | refine lO ?_ | refine lw ?_ | refine kZ ?_ | refine iZ ?_ | refine jc ?_ | (refine' iM ?hz0 ?_; (case hz0 => with_unfolding_all rfl)) | refine vm ?_ | refine lV ?_ | refine dZ ?_ | refine dM ?_ | refine iQ ?_ | refine nj ?_ | refine iC ?_ | refine dF ?_ | refine iG ?_ | refine dD ?_ | refine lK ?_ | refine dH ?_ | refine lW ?_ | refine lQ ?_ | refine dN ?_ | refine lM ?_ | refine iH ?_ | refine iI ?_ | refine lN ?_ | refine dI ?_ | refine iJ ?_ | refine dJ ?_ | refine iK ?_ | refine iD ?_ | refine dG ?_ | refine vo ?_ | refine vp ?_ | refine lR ?_ | refine iR ?_ | refine lU ?_ | refine iT ?_ | refine dO ?_ | refine dR ?_ | refine dU ?_ | refine dW ?_ | refine dX ?_ | refine dY ?_ | refine iU ?_ | refine cC ?_ | refine d9 ?_ | (refine' cP (SqT.of ?hz0) ?hz1 ?_; (case hz0 => first | assumption | exact aj); (case hz1 => rfl)) | refine cG ?_ | refine eQ ?_ | refine eU ?_ | refine di ?_ | refine dj ?_ | refine dm ?_ | refine dq ?_ | refine lX ?_ | refine dg ?_ | refine dh ?_ | refine eN ?_ | refine eO ?_ | refine cF ?_ | refine iV ?_ | refine d8 ?_ | (refine' vq ?hz0 ?_; (case hz0 => with_unfolding_all first | assumption | omega | (dsimp only <;> omega) | exact ⟨by omega, by omega⟩ | exact .inl ⟨by omega, by omega⟩ | exact .inr ⟨by omega, by omega⟩ | exact ⟨by decide, by decide, by decide⟩)) | (refine' d7 ?hz0 ?_; (case hz0 => with_unfolding_all first | assumption | omega | (dsimp only <;> omega) | exact ⟨by omega, by omega⟩ | exact .inl ⟨by omega, by omega⟩ | exact .inr ⟨by omega, by omega⟩ | exact ⟨by decide, by decide, by decide⟩)) | (refine' cO (SqL.of ?hz0) ?hz1 ?_; (case hz0 => first | assumption | exact aj); (case hz1 => with_unfolding_all rfl)) | (refine' c7 ?hz0 ?hz1 ?_; (case hz0 => first | assumption | exact aj); (case hz1 => with_unfolding_all rfl)) | refine cI ?_ | refine jd ?_ | refine eV ?_ | refine cJ ?_ | refine eY ?_ | refine cL ?_ | (refine' Qi ?hz0 ?_; (case hz0 => with_unfolding_all rfl)) | refine fY ?_)))
local macro_rules | `(tactic| walk_at "stn") => `(tactic| (with_reducible repeat (first | refine lO ?_ | refine lw ?_ | refine kZ ?_ | refine iZ ?_ | refine jc ?_ | (refine' iM ?hz0 ?_; (case hz0 => with_unfolding_all rfl)) | refine vm ?_ | refine lV ?_ | refine dZ ?_ | refine dM ?_ | refine iQ ?_ | refine iC ?_ | refine dF ?_ | refine iG ?_ | refine dD ?_ | refine lK ?_ | refine dH ?_ | refine lW ?_ | refine lQ ?_ | refine dN ?_ | refine lM ?_ | refine iH ?_ | refine iI ?_ | refine lN ?_ | refine dI ?_ | refine iJ ?_ | refine dJ ?_ | refine iK ?_ | refine iD ?_ | refine dG ?_ | refine vo ?_ | refine vp ?_ | refine lR ?_ | refine iR ?_ | refine lU ?_ | refine iT ?_ | refine dO ?_ | refine dR ?_ | refine dU ?_ | refine dW ?_ | refine dX ?_ | refine dY ?_ | refine iU ?_ | refine cC ?_ | refine d9 ?_ | (refine' cP (SqT.of ?hz0) ?hz1 ?_; (case hz0 => first | assumption | exact aj); (case hz1 => rfl)) | refine cG ?_ | refine eQ ?_ | refine eU ?_ | refine di ?_ | refine dj ?_ | refine dm ?_ | refine dq ?_ | refine lX ?_ | refine dg ?_ | refine dh ?_ | refine eN ?_ | refine eO ?_ | refine cF ?_ | refine iV ?_ | refine d8 ?_ | (refine' vq ?hz0 ?_; (case hz0 => with_unfolding_all first | assumption | omega | (dsimp only <;> omega) | exact ⟨by omega, by omega⟩ | exact .inl ⟨by omega, by omega⟩ | exact .inr ⟨by omega, by omega⟩ | exact ⟨by decide, by decide, by decide⟩)) | (refine' d7 ?hz0 ?_; (case hz0 => with_unfolding_all first | assumption | omega | (dsimp only <;> omega) | exact ⟨by omega, by omega⟩ | exact .inl ⟨by omega, by omega⟩ | exact .inr ⟨by omega, by omega⟩ | exact ⟨by decide, by decide, by decide⟩)) | (refine' cO (SqL.of ?hz0) ?hz1 ?_; (case hz0 => first | assumption | exact aj); (case hz1 => with_unfolding_all rfl)) | (refine' c7 ?hz0 ?hz1 ?_; (case hz0 => first | assumption | exact aj); (case hz1 => with_unfolding_all rfl)) | refine cI ?_ | refine jd ?_ | refine eV ?_ | refine cJ ?_ | refine eY ?_ | refine cL ?_ | (refine' Qi ?hz0 ?_; (case hz0 => with_unfolding_all rfl)) | refine fY ?_)))
section
variable {P:Program} {w:World} {K:PySem.W.Frag} {mg:Str→Option Value} {base:Heap}
theorem Tp:bD cQ "working":=by decide+kernel
theorem kz10:bK cQ "enumerate":=by decide+kernel
theorem kz11:bD cQ "steps":=by decide+kernel
theorem Jw:bD cQ "step":=by decide+kernel
theorem Wx:bD cQ "place":=by decide+kernel
theorem Tq:bD cQ "lesser":=by decide+kernel
theorem Tr:bD cQ "greater":=by decide+kernel
theorem NQ:bD cQ "begins":=by decide+kernel
theorem kz17:bK bW "list":=by decide+kernel
theorem kz18:bK bW "reversed":=by decide+kernel
theorem Tt:bD bW "undone":=by decide+kernel
theorem kz1a:bK bW "range":=by decide+kernel
theorem kz1b:bK bW "len":=by decide+kernel
theorem zc:bD bW "begins":=by decide+kernel
theorem Wy:bD bW "place":=by decide+kernel
theorem uJ:bD bW "step":=by decide+kernel
theorem Wz:bD bW "greater":=by decide+kernel
theorem kz1g:bK bW "opposite":=by decide+kernel
theorem kz1h:bD bW "turning":=by decide+kernel
theorem WD:bK fM "len":=by decide+kernel
theorem WF:bD fM "one":=by decide+kernel
theorem WK:bD fM "other":=by decide+kernel
theorem WL:bK fM "need_turning":=by decide+kernel
theorem WM:bK lC "opposite":=by decide+kernel
theorem Tu:bD lC "begins":=by decide+kernel
theorem kz1o:bK lC "do_steps":=by decide+kernel
theorem kz1p:bK lC "steps_of":=by decide+kernel
theorem WN:bD lC "other":=by decide+kernel
theorem WP:bD lC "one":=by decide+kernel
theorem kz1s:bK lC "need_alike":=by decide+kernel
def spDo (K:PySem.W.Frag):Sp:=fun vs H Q _=>∃ (bg st:Addr) (E ps:List Nat),vs=[.ref bg,.ref st]∧H bg=some (.lst ((nI E).map V.int))∧H st=some (.lst ((nI ps).map V.int))∧bg≠st∧(∀ p∈ps,p+1 < E.length)∧ps.length≤6000∧
 ∀ q H',H q=none→Chg bg H H'→H' bg=some (.lst ((nI (bz E ps)).map V.int))→H' q=some (.lst ((nI (Jf E ps ps.length)).map V.int))→Q (.ref q) H'
theorem jg:aD ["begins","steps","working","place","step","lesser","greater"] ["begins","steps"] (aq cQ):=⟨rfl,rfl,rfl,by decide+kernel,rfl,by decide+kernel,by decide+kernel⟩
theorem pI (T:Txt K mg):Has P w K mg base 1 "do_steps" ["begins","steps"] (spDo K):=by
 refine fj T.d_do_steps jg (fun _ _ _ _ _ _ us hl=>L2.oO (fun _ _=>rfl) us hl) ?_ fun f cdv A outer s H vs Q E hr h=>?_
 ·rintro vs H Q E ⟨bg,st,E,ps,rfl,_⟩;rfl
 obtain ⟨bg,st,E,ps,rfl,hb,hst,hne,hp,hpl,q⟩:=h
 have hu:=hr.units0
 have hu64:=hr.units
 refine ⟨_,(az (aM (i:=2) jg.nd rfl (Or.inl Tp) (iY ak) rfl) (az (jt PassesOwn.never rfl (wC (K:=K) rfl rfl (aV kz10) T.b_enumerate (aa (ao 1 kz11) ak)) (Am (K:=K) rfl rfl (gW (b8 (i:=3) jg.nd rfl (Or.inl Wx) rfl) (gW (b8 (i:=4) jg.nd rfl (Or.inl Jw) rfl) sV))) (az (aM (i:=5) jg.nd rfl (Or.inl Tq) (m5 (K:=K) rfl (ao 0 NQ) (ao 4 Jw)) rfl) (az (aM (i:=6) jg.nd rfl (Or.inl Tr) (m5 (K:=K) rfl (ao 0 NQ) (bj aP (ao 4 Jw) aG)) rfl) (aA (cz (bx GK (ao 5 Tq) (ao 6 Tr) (by first | exact aW _ | with_unfolding_all rfl)) (az (jK (ts:=mZ) (ao 6 Tr) (lB (ao 0 NQ) (ao 4 Jw) (jL hu64))) (az (jK (ts:=mZ) (ao 5 Tq) (lB (ao 0 NQ) (bj aP (ao 4 Jw) aG) (jL hu64))) (aA (bF (ph (K:=K) rfl PySem.F.plainAttrs_list PySem.F.slot_list_append PySem.F.type_list_append lH (ao 2 Tp) (aa (ao 3 Wx) ak)))))) bI))))) (aA (aN (ao 2 Tp))))),?_⟩
 walk_at "sts"
 have hs:20000≤sizeLine:=by decide
 refine ue rfl fun wk nwk=>?_
 walk_at "sts"
 have wb:wk≠bg:=fun z=>by rw [z,hb] at nwk;cases nwk
 have ws:wk≠st:=fun z=>by rw [z,hst] at nwk;cases nwk
 refine .inr ⟨st,_,rfl,SqL.of (cV nwk hst),?_⟩
 refine qP (K:=K) (xs:=(nI ps).map V.int) (fun k σ H'=>∃ (x3 x4 x5 x6:Option V),σ=[some (.ref bg),some (.ref st),some (.ref wk),x3,x4,x5,x6]∧Chg bg H H'∧H' st=some (.lst ((nI ps).map V.int))∧H' bg=some (.lst ((nI (bz E (ps.take k))).map V.int))∧H' wk=some (.lst ((nI (Jf E ps k)).map V.int)))
  ⟨_,_,_,_,rfl,(Chg.refl bg H).new nwk,cV nwk hst,cV nwk hb,aj⟩ (fun i σ H' _ h=>?_) ?_ ?_
 ·obtain ⟨_,_,_,_,_,_,h,_⟩:=h
  exact SqL.of h
 ·rintro k σ H' T v hk ⟨x3,x4,x5,x6,rfl,c,hst',hb',hw'⟩ nT
  obtain ⟨p,hpk,rfl⟩:=za hk
  have hkl:k < ps.length:=(List.getElem?_eq_some_iff.mp hpk).1
  have hpd:ps.getD k 0=p:=by rw [List.getD_eq_getElem?_getD,hpk];rfl
  have hpE:p+1 < (bz E (ps.take k)).length:=by rw [jQ];exact hp p (List.mem_of_getElem? hpk)
  have tk:ps.take (k+1)=ps.take k ++ [p]:=by rw [qT hkl,hpd]
  have wsu:=yQ E ps k
  rw [hpd] at wsu
  have wl:=Nm E ps k
  have c1:Chg bg H (upd H' T (.tup [.int k,.int p])):=c.new nT
  have hT:upd H' T (.tup [.int k,.int p]) T=some (.tup [.int k,.int p]):=aj
  have hst1:=cV nT (o:=.tup [.int k,.int p]) hst'
  have hb1:=cV nT (o:=.tup [.int k,.int p]) hb'
  have hw1:=cV nT (o:=.tup [.int k,.int p]) hw'
  generalize upd H' T (.tup [.int k,.int p])=H1 at c1 hT hst1 hb1 hw1 ⊢
  have eR:bz E (ps.take (k+1))=aJ (bz E (ps.take k)) p:=by rw [tk,mj]
  generalize bz E (ps.take k)=F at hpE hb1 eR wsu
  refine cP (SqT.of hT) rfl ?_
  walk_at "sts"
  refine cO (SqL.of hb1) (rK (k:=p) (by omega) rfl) ?_
  walk_at "sts"
  refine cO (SqL.of hb1) (rK (k:=p+1) (by omega) (by omega)) ?_
  walk_at "sts"
  have ew:oW F p=decide (((F.getD p 0:Nat):Int) < ((F.getD (p+1) 0:Nat):Int)):=by unfold oW;exact decide_eq_decide.mpr (by omega)
  rw [← ew]
  refine iteB (fun hw=>?_) (fun hw=>?_)
  ·rw [if_pos hw] at wsu
   walk_at "sts"
   refine mK hb1 (ut (p:=p) rfl (by rw [bT];omega)) ?_
   walk_at "sts"
   rw [pH]
   refine mK aj (ut (p:=p+1) (by omega) (by rw [bT];simp;omega)) ?_
   walk_at "sts"
   rw [pH,Ku]
   have hw2:upd H1 bg (.lst ((nI ((F.set p (F.getD (p+1) 0)).set (p+1) (F.getD p 0))).map V.int)) wk=some (.lst ((nI (Jf E ps k)).map V.int)):=by rw [aB wb];exact hw1
   refine ⟨.inl ⟨rfl,_,SqL.of hw2⟩,?_⟩
   walk_at "sts"
   refine nH hw2 (by rw [bT];omega) ?_
   walk_at "sts"
   rw [xf]
   refine ⟨_,_,_,_,rfl,?_,?_,?_,?_⟩
   ·intro b o nb e
    have nw:b≠wk:=fun z=>by rw [z,nwk] at e;cases e
    rw [aB nw,aB nb]
    exact c1 b o nb e
   ·rw [aB (Ne.symm ws),aB (Ne.symm hne)];exact hst1
   ·rw [aB (Ne.symm wb),aj,eR]
    unfold aJ
    rw [if_pos hw]
   ·rw [aj,wsu]
  ·rw [if_neg (by rw [hw];simp),List.append_nil] at wsu
   walk_at "sts"
   refine ⟨_,_,_,_,rfl,c1,hst1,?_,?_⟩
   ·rw [hb1,eR]
    unfold aJ
    rw [if_neg (by rw [hw];simp)]
   ·rw [hw1,wsu]
 ·rintro σ H' ⟨x3,x4,x5,x6,rfl,c,hst',hb',hw'⟩
  rw [bT] at hb' hw'
  rw [List.take_length] at hb'
  walk_at "sts"
  exact q wk H' nwk c hb' hw'
def MR (r:R2):Prop:=∀ x y H Q Q',(∀ v H1,Q v H1→Q' v H1)→r x y H Q→r x y H Q'
def ME (te:TE):Prop:=∀ σ H Q Q',(∀ v H1,Q v H1→Q' v H1)→te σ H Q→te σ H Q'
def MT (te:TT):Prop:=∀ σ H Q Q',(∀ v H1,Q v H1→Q' v H1)→te σ H Q→te σ H Q'
theorem Qs (g:Int→Int→V):MR (GF g):=by
 rintro x y H Q Q' h ⟨i,j,e1,e2,q⟩
 exact ⟨i,j,e1,e2,h _ _ q⟩
theorem Qt:MR (Rp K):=by
 rintro x y H Q Q' h (⟨p,xs,i,v,a,b,c,d,q⟩ | ⟨p,xs,i,v,a,b,c,d,q⟩ | ⟨z,i,c,a,b,d,e,q⟩)
 ·exact .inl ⟨p,xs,i,v,a,b,c,d,h _ _ q⟩
 ·exact .inr (.inl ⟨p,xs,i,v,a,b,c,d,h _ _ q⟩)
 ·exact .inr (.inr ⟨z,i,c,a,b,d,e,h _ _ q⟩)
theorem NT:MR yt:=by
 rintro x y H Q Q' h (⟨i,j,a,b,q⟩ | ⟨i,j,a,b,c,q⟩ | ⟨p,q',xs,ys,a,b,c,d,e,q⟩)
 ·exact .inl ⟨i,j,a,b,h _ _ q⟩
 ·exact .inr (.inl ⟨i,j,a,b,c,h _ _ q⟩)
 ·exact .inr (.inr ⟨p,q',xs,ys,a,b,c,d,e,fun r hr=>h _ _ (q r hr)⟩)
theorem uw (i:Nat):ME (qI i):=by
 rintro σ H Q Q' h ⟨v,e,q⟩
 exact ⟨v,e,h _ _ q⟩
theorem WQ (v:V):ME (tC v):=fun σ H Q Q' h q=>h _ _ q
theorem zf {r:R2} {ta tb:TE} (hr:MR r) (ha:ME ta) (hb:ME tb):ME (GD r ta tb):=fun σ H Q Q' h q=>ha σ H _ _ (fun x H1 q1=>hb σ H1 _ _ (fun y H2 q2=>hr _ _ _ _ _ h q2) q1) q
theorem De {te:TE} (h:ME te):MT (BP te):=fun σ H Q Q' hq q=>h σ H _ _ (fun x H1 ⟨k,e,q1⟩=>⟨k,e,hq _ _ q1⟩) q
theorem Tv {t u:TT} (h:MT t) (h2:MT u):MT (Ky t u):=fun σ H Q Q' hq q=>h σ H _ _ (fun c H1 q1=>by
 cases c with
 | true=>rw [if_pos rfl] at q1 ⊢;exact h2 _ _ _ _ hq q1
 | false=>rw [if_neg Bool.false_ne_true] at q1 ⊢;exact hq _ _ q1) q
def mu4 (σ:St) (_:Hp):Nat:=match σ[4]? with
 | some (some (V.int z))=>(z+1).toNat
 | _=>0
theorem rM:∀ (p:Nat) (B u:List Nat),(inn p B u).1.length=B.length
 | 0,_,_=>rfl
 | p+1,B,u=>by
  unfold inn
  split
  ·rw [rM p,mO]
  ·rfl
theorem rN:∀ (p:Nat) (B u:List Nat),(inn p B u).2.length≤u.length+p
 | 0,_,_=>Nat.le_refl _
 | p+1,B,u=>by
  unfold inn
  split
  ·have:=rN p (uC B p) (u ++ [p])
   rw [List.length_append,List.length_singleton] at this
   omega
  ·exact Nat.le_add_right _ _
theorem rO (B:List Nat):∀ k,(qW B k).1.length=B.length
 | 0=>rfl
 | k+1=>(rM _ _ _).trans (rO B k)
theorem rP (B:List Nat):∀ k,k≤96→(qW B k).2.length≤96*k
 | 0,_=>Nat.le_refl _
 | k+1,h=>by
  have h1:=rN (k+1) (qW B k).1 (qW B k).2
  have h2:=rP B k (by omega)
  show (inn (k+1) (qW B k).1 (qW B k).2).2.length≤_
  omega
def Ft:Sp:=fun vs H Q _=>∃ (a:Addr) (t:List Nat),vs=[.ref a]∧H a=some (.lst ((nI t).map V.int))∧Prm t∧∀ q H',H q=none→Same H H'→H' q=some (.lst ((nI (Fj t).reverse).map V.int))→Q (.ref q) H'
theorem gC:aD ["turning","begins","undone","place","step","greater"] ["turning"] (aq bW):=⟨rfl,rfl,rfl,by decide+kernel,rfl,by decide+kernel,by decide+kernel⟩
theorem pJ (T:Txt K mg):Has P w K mg base 6 "steps_of" ["turning"] Ft:=by
 have iw:=iw (P:=P) (w:=w) (base:=base) T
 refine fj T.d_steps_of gC (fun _ _ _ _ _ _ us hl=>L2.j6 (fun _=>rfl) us hl) ?_ fun f cdv A outer s H vs Q E hr h=>?_
 ·rintro vs H Q E ⟨a,t,rfl,_⟩;rfl
 obtain ⟨a,t,rfl,hT,hP,q⟩:=h
 have hu:=hr.units0
 have hu64:=hr.units
 refine ⟨_,(az (aM (i:=1) gC.nd rfl (Or.inl zc) (aF iw (hr.mono (by decide)) (aV kz1g) (aa (ao 0 kz1h) ak) (by decide+kernel)) rfl) (az (aM (i:=2) gC.nd rfl (Or.inl Tt) (iY ak) rfl) (az (jt PassesOwn.never rfl (Ej (aV kz1a) T.b_range (aa aG (aa (aH (aC (K:=K) rfl) (aV kz1b) T.b_len bc (aa (ao 1 zc) ak) (by decide+kernel) (by decide+kernel)) ak))) (b8 (i:=3) gC.nd rfl (Or.inl Wy) rfl) (az (aM (i:=4) gC.nd rfl (Or.inl uJ) (bj jU (ao 3 Wy) aG) rfl) (aA (HS PassesOwn.never (lY (wB (bx Ve (ao 4 uJ) aG (by first | exact aW _ | with_unfolding_all rfl)) (sU (bx rz (m5 (K:=K) rfl (ao 1 zc) (ao 4 uJ)) (m5 (K:=K) rfl (ao 1 zc) (bj aP (ao 4 uJ) aG)) (by first | exact aW _ | with_unfolding_all rfl))))) (az (aM (i:=5) gC.nd rfl (Or.inl Wz) (m5 (K:=K) rfl (ao 1 zc) (ao 4 uJ)) rfl) (az (jK (ts:=mZ) (m5 (K:=K) rfl (ao 1 zc) (bj aP (ao 4 uJ) aG)) (lB (ao 1 zc) (ao 4 uJ) (jL hu64))) (az (jK (ts:=mZ) (ao 5 Wz) (lB (ao 1 zc) (bj aP (ao 4 uJ) aG) (jL hu64))) (az (bF (ph (K:=K) rfl PySem.F.plainAttrs_list PySem.F.slot_list_append PySem.F.type_list_append lH (ao 2 Tt) (aa (ao 4 uJ) ak))) (aA (Sh (i:=4) gC.nd rfl (Or.inl uJ) aG K1 rfl)))))))))) (aA (aN (Em (K:=K) rfl rfl (aV kz17) T.b_list (aV kz18) T.b_reversed (ao 2 Tt))))))),?_⟩
 walk_at "sts"
 have hs:20000≤sizeLine:=by decide
 have hle:=hP.le
 have il:=bJ t
 refine ⟨a,t,rfl,hT,hP,fun b H1 nb S1 hb=>?_⟩
 walk_at "sts"
 refine ue rfl fun ud nud=>?_
 walk_at "sts"
 have nud0:=Same.back S1 nud
 have bu:b≠ud:=fun z=>by rw [z,nud] at hb;cases hb
 refine fX (SqL.of (cV nud hb)) ?_
 walk_at "sts"
 rw [bT]
 refine ⟨⟨by omega,by omega,by omega,by omega⟩,?_⟩
 rw [show (((inv t).length:Int) - 1).toNat=t.length - 1 by omega]
 refine oE (n:=t.length - 1) (fun k σ H'=>∃ (x3 x4 x5:Option V),σ=[some (.ref a),some (.ref b),some (.ref ud),x3,x4,x5]∧Same H H'∧H' b=some (.lst ((nI (qW (inv t) k).1).map V.int))∧H' ud=some (.lst ((nI (qW (inv t) k).2).map V.int)))
  ⟨_,_,_,rfl,S1.upd nud,cV nud hb,aj⟩ ?_ ?_
 ·rintro k σ H' hk ⟨x3,x4,x5,rfl,s,hb1,hu1⟩
  walk_at "sts"
  have ol:=rO (inv t) k
  have ul:=rP (inv t) k (by omega)
  refine GC (fun σ H'=>∃ (p:Nat) (B u:List Nat) (x5:Option V),σ=[some (.ref a),some (.ref b),some (.ref ud),some (.int (1+(k:Int))),some (.int ((p:Int) - 1)),x5]∧Same H H'∧H' b=some (.lst ((nI B).map V.int))∧H' ud=some (.lst ((nI u).map V.int))∧p≤k+1∧B.length=t.length∧u.length+p≤96*k+k+1∧inn p B u=qW (inv t) (k+1)) mu4
   ⟨k+1,_,_,x5,by rw [show (((k+1:Nat):Int) - 1)=1+(k:Int) - 1 by omega];rfl,s,hb1,hu1,Nat.le_refl _,by omega,by omega,rfl⟩ ?_ ?_
  ·rintro σ H' ⟨p,B,u,x5,rfl,s,hb2,hu2,hp,hB,hul,hin⟩
   walk_at "sts"
   cases p with
   | zero=>
    rw [decide_eq_false (by omega)]
    walk_at "sts"
    exact ⟨_,_,_,rfl,s,by rw [← hin];exact hb2,by rw [← hin];exact hu2⟩
   | succ p=>
    rw [show (((p+1:Nat):Int) - 1)=(p:Int) by omega,decide_eq_true (show (0:Int)≤(p:Int) by omega)]
    walk_at "sts"
    refine cO (SqL.of hb2) (rK (k:=p) (by omega) rfl) ?_
    walk_at "sts"
    refine cO (SqL.of hb2) (rK (k:=p+1) (by omega) (by omega)) ?_
    walk_at "sts"
    refine uF (fun hc=>?_) (fun hc=>?_)
    ·have hin2:inn p (uC B p) (u ++ [p])=qW (inv t) (k+1):=by
      rw [← hin]
      conv=>rhs;unfold inn
      rw [if_pos (by omega)]
     walk_at "sts"
     refine cO (SqL.of hb2) (rK (k:=p) (by omega) rfl) ?_
     walk_at "sts"
     refine cO (SqL.of hb2) (rK (k:=p+1) (by omega) (by omega)) ?_
     walk_at "sts"
     refine mK hb2 (ut (p:=p) rfl (by rw [bT];omega)) ?_
     walk_at "sts"
     rw [pH]
     refine mK aj (ut (p:=p+1) (by omega) (by rw [bT];simp;omega)) ?_
     walk_at "sts"
     rw [pH]
     have s3:Same H (upd (upd H' b (.lst ((nI (B.set p (B.getD (p+1) 0))).map V.int))) b (.lst ((nI ((B.set p (B.getD (p+1) 0)).set (p+1) (B.getD p 0))).map V.int))):=Same.put (Same.put s nb) nb
     have hb3:upd (upd H' b (.lst ((nI (B.set p (B.getD (p+1) 0))).map V.int))) b (.lst ((nI ((B.set p (B.getD (p+1) 0)).set (p+1) (B.getD p 0))).map V.int)) b=some (.lst ((nI (uC B p)).map V.int)):=aj
     have hu3:upd (upd H' b (.lst ((nI (B.set p (B.getD (p+1) 0))).map V.int))) b (.lst ((nI ((B.set p (B.getD (p+1) 0)).set (p+1) (B.getD p 0))).map V.int)) ud=some (.lst ((nI u).map V.int)):=by rw [aB (Ne.symm bu),aB (Ne.symm bu)];exact hu2
     generalize upd (upd H' b (.lst ((nI (B.set p (B.getD (p+1) 0))).map V.int))) b (.lst ((nI ((B.set p (B.getD (p+1) 0)).set (p+1) (B.getD p 0))).map V.int))=H3 at s3 hb3 hu3 ⊢
     refine ⟨.inl ⟨rfl,_,SqL.of hu3⟩,?_⟩
     walk_at "sts"
     refine nH hu3 (by rw [bT];omega) ?_
     walk_at "sts"
     rw [xf]
     refine ⟨⟨p,uC B p,u ++ [p],_,rfl,Same.put s3 nud0,by rw [aB bu];exact hb3,aj,by omega,by rw [mO];exact hB,by simp;omega,hin2⟩,?_⟩
     show ((p:Int) - 1+1).toNat < ((p:Int)+1).toNat
     omega
    ·have hin2:(B,u)=qW (inv t) (k+1):=by
      rw [← hin]
      conv=>rhs;unfold inn
      rw [if_neg (by omega)]
     walk_at "sts"
     exact ⟨_,_,_,rfl,s,by rw [← hin2];exact hb2,by rw [← hin2];exact hu2⟩
  ·exact Tv (De (zf (Qs _) (uw _) (WQ _))) (De (zf (Qs _) (zf Qt (uw _) (uw _)) (zf Qt (uw _) (zf NT (uw _) (WQ _)))))
 ·rintro σ H' ⟨x3,x4,x5,rfl,s,hb1,hu1⟩
  walk_at "sts"
  refine ⟨_,rfl,_,_,rfl,SqL.of hu1,fun r nr=>?_⟩
  refine q r _ (Same.back s nr) (s.upd nr) ?_
  rw [aj]
  unfold nI Fj
  rw [List.map_reverse,List.map_reverse]
def NZ (K:PySem.W.Frag):Sp:=fun vs H Q _=>∃ a b x y,vs=[.ref a,.ref b]∧H a=some (.lst ((nI x).map V.int))∧H b=some (.lst ((nI y).map V.int))∧Prm x∧Prm y∧x.length=y.length∧∀ H',Same H H'→Q .non H'
theorem uK:aD ["one","other"] ["one","other"] (aq fM):=⟨rfl,rfl,rfl,by decide+kernel,rfl,by decide+kernel,by decide+kernel⟩
theorem mV (T:Txt K mg):Has P w K mg base 5 "need_alike" ["one","other"] (NZ K):=by
 have cR:=cR (P:=P) (w:=w) (base:=base) T
 refine fj T.d_need_alike uK (fun _ _ _ _ _ _ us hl=>L2.oO (fun _ _=>rfl) us hl) ?_ fun f cdv A outer s H vs Q E hr h=>?_
 ·rintro vs H Q E ⟨a,b,x,y,rfl,_⟩;rfl
 obtain ⟨a,b,x,y,rfl,ha,hb,px,py,he,q⟩:=h
 have hu:=hr.units0
 have hu64:=hr.units
 refine ⟨_,(az (bF (aF cR (hr.mono (by decide)) (aV WL) (aa (ao 0 WF) ak) (by decide+kernel))) (az (bF (aF cR (hr.mono (by decide)) (aV WL) (aa (ao 1 WK) ak) (by decide+kernel))) (aA (cz (bx (wD (K:=K) rfl hu64) (aH (aC (K:=K) rfl) (aV WD) T.b_len bc (aa (ao 0 WF) ak) (by decide+kernel) (by decide+kernel)) (aH (aC (K:=K) rfl) (aV WD) T.b_len bc (aa (ao 1 WK) ak) (by decide+kernel) (by decide+kernel)) (by first | exact aW _ | with_unfolding_all rfl)) (aA jP) bI)))),?_⟩
 walk_at "sts"
 refine ⟨a,x,rfl,.inl ha,px,fun H1 S1=>?_⟩
 walk_at "sts"
 refine ⟨b,y,rfl,.inl (S1 _ _ hb),py,fun H2 S2=>?_⟩
 walk_at "sts"
 have U2:=S1.trans S2
 refine fX (SqL.of (U2 _ _ ha)) ?_
 walk_at "sts"
 refine fX (SqL.of (U2 _ _ hb)) ?_
 walk_at "sts"
 rw [bT,bT,yZ,decide_eq_true (show (x.length:Int)=(y.length:Int) by omega)]
 walk_at "sts"
 exact q _ U2
def Tw (K:PySem.W.Frag):Sp:=fun vs H Q _=>∃ a b x y n,vs=[.ref a,.ref b]∧H a=some (.lst ((nI x).map V.int))∧H b=some (.lst ((nI y).map V.int))∧Two n x y∧∀ q H',H q=none→Same H H'→H' q=some (.lst ((nI (lay x y)).map V.int))→Q (.ref q) H'
theorem Df:aD ["one","other","begins"] ["one","other"] (aq lC):=⟨rfl,rfl,rfl,by decide+kernel,rfl,by decide+kernel,by decide+kernel⟩
theorem qZ (T:Txt K mg):Has P w K mg base 7 "laid" ["one","other"] (Tw K):=by
 have mV:=mV (P:=P) (w:=w) (base:=base) T
 have iw:=iw (P:=P) (w:=w) (base:=base) T
 have pI:=pI (P:=P) (w:=w) (base:=base) T
 have pJ:=pJ (P:=P) (w:=w) (base:=base) T
 refine fj T.d_laid Df (fun _ _ _ _ _ _ us hl=>L2.oO (fun _ _=>rfl) us hl) ?_ fun f cdv A outer s H vs Q E hr h=>?_
 ·rintro vs H Q E ⟨a,b,x,y,n,rfl,_⟩;rfl
 obtain ⟨a,b,x,y,n,rfl,ha,hb,h2,q⟩:=h
 have hu:=hr.units0
 have hu64:=hr.units
 refine ⟨_,(az (bF (aF mV (hr.mono (by decide)) (aV kz1s) (aa (ao 0 WP) (aa (ao 1 WN) ak)) (by decide+kernel))) (az (aM (i:=2) Df.nd rfl (Or.inl Tu) (aF iw (hr.mono (by decide)) (aV WM) (aa (ao 0 WP) ak) (by decide+kernel)) rfl) (az (bF (aF pI (hr.mono (by decide)) (aV kz1o) (aa (ao 2 Tu) (aa (aF pJ (hr.mono (by decide)) (aV kz1p) (aa (ao 1 WN) ak) (by decide+kernel)) ak)) (by decide+kernel))) (aA (aN (aF iw (hr.mono (by decide)) (aV WM) (aa (ao 2 Tu) ak) (by decide+kernel))))))),?_⟩
 walk_at "sts"
 have cl:=Wi h2.py.le
 refine ⟨a,b,x,y,rfl,ha,hb,h2.px,h2.py,by rw [h2.lx,h2.ly],fun H1 S1=>?_⟩
 walk_at "sts"
 refine ⟨a,x,rfl,S1 _ _ ha,h2.px,fun bg H2 nb S2 hb2=>?_⟩
 walk_at "sts"
 refine ⟨b,y,rfl,(S1.trans S2) _ _ hb,h2.py,fun st H3 nst S3 hst=>?_⟩
 walk_at "sts"
 have nb0:=Same.back S1 nb
 have hne:bg≠st:=fun z=>by rw [z] at hb2;rw [hb2] at nst;cases nst
 refine ⟨bg,st,inv x,(Fj y).reverse,rfl,S3 _ _ hb2,hst,hne,(fun p hp=>by rw [bJ,h2.lx];exact h2.lt p hp),(by rw [Nr h2.py];exact cl),fun wk H4 nwk C4 hb4 hw4=>?_⟩
 walk_at "sts"
 have S4:Same H H4:=fun c o e=>C4 c o (fun z=>by rw [z,nb0] at e;cases e) (S3 _ _ (S2 _ _ (S1 _ _ e)))
 refine ⟨bg,_,rfl,hb4,h2.run.1,fun r H5 nr S5 hr=>?_⟩
 exact q r H5 (Same.back S4 nr) (S4.trans S5) hr
end
local macro_rules | `(tactic| walk_at "sts") => `(tactic| (with_reducible repeat (first | refine lO ?_ | refine lw ?_ | refine kZ ?_ | refine iZ ?_ | refine jc ?_ | (refine' iM ?hz0 ?_; (case hz0 => with_unfolding_all rfl)) | refine vm ?_ | refine lV ?_ | refine dZ ?_ | refine dM ?_ | refine iQ ?_ | refine nj ?_ | refine iC ?_ | refine dF ?_ | refine iG ?_ | refine dD ?_ | refine lK ?_ | refine dH ?_ | refine lW ?_ | refine lQ ?_ | refine dN ?_ | refine lM ?_ | refine iH ?_ | refine iI ?_ | refine lN ?_ | refine dI ?_ | refine iJ ?_ | refine dJ ?_ | refine iK ?_ | refine iD ?_ | refine dG ?_ | refine vo ?_ | refine vp ?_ | refine lR ?_ | refine iR ?_ | refine lU ?_ | refine iT ?_ | refine dO ?_ | refine dR ?_ | refine dU ?_ | refine dW ?_ | refine dX ?_ | refine dY ?_ | refine iU ?_ | refine cC ?_ | refine d9 ?_ | (refine' cP (SqT.of ?hz0) ?hz1 ?_; (case hz0 => first | assumption | exact aj); (case hz1 => rfl)) | refine cG ?_ | refine eQ ?_ | refine eU ?_ | refine di ?_ | refine dj ?_ | refine dm ?_ | refine dq ?_ | refine lX ?_ | refine dg ?_ | refine dh ?_ | refine eN ?_ | refine eO ?_ | refine cF ?_ | refine iV ?_ | refine d8 ?_ | (refine' vq ?hz0 ?_; (case hz0 => with_unfolding_all first | assumption | omega | (dsimp only <;> omega) | exact ⟨by omega, by omega⟩ | exact .inl ⟨by omega, by omega⟩ | exact .inr ⟨by omega, by omega⟩ | exact ⟨by decide, by decide, by decide⟩)) | (refine' d7 ?hz0 ?_; (case hz0 => with_unfolding_all first | assumption | omega | (dsimp only <;> omega) | exact ⟨by omega, by omega⟩ | exact .inl ⟨by omega, by omega⟩ | exact .inr ⟨by omega, by omega⟩ | exact ⟨by decide, by decide, by decide⟩)) | (refine' cO (SqL.of ?hz0) ?hz1 ?_; (case hz0 => first | assumption | exact aj); (case hz1 => with_unfolding_all rfl)) | (refine' c7 ?hz0 ?hz1 ?_; (case hz0 => first | assumption | exact aj); (case hz1 => with_unfolding_all rfl)) | refine cI ?_ | refine jd ?_ | refine eV ?_ | refine cJ ?_ | refine eY ?_ | refine cL ?_)))
local macro_rules | `(tactic| walk_at "stn") => `(tactic| (with_reducible repeat (first | refine lO ?_ | refine lw ?_ | refine kZ ?_ | refine iZ ?_ | refine jc ?_ | (refine' iM ?hz0 ?_; (case hz0 => with_unfolding_all rfl)) | refine vm ?_ | refine lV ?_ | refine dZ ?_ | refine dM ?_ | refine iQ ?_ | refine iC ?_ | refine dF ?_ | refine iG ?_ | refine dD ?_ | refine lK ?_ | refine dH ?_ | refine lW ?_ | refine lQ ?_ | refine dN ?_ | refine lM ?_ | refine iH ?_ | refine iI ?_ | refine lN ?_ | refine dI ?_ | refine iJ ?_ | refine dJ ?_ | refine iK ?_ | refine iD ?_ | refine dG ?_ | refine vo ?_ | refine vp ?_ | refine lR ?_ | refine iR ?_ | refine lU ?_ | refine iT ?_ | refine dO ?_ | refine dR ?_ | refine dU ?_ | refine dW ?_ | refine dX ?_ | refine dY ?_ | refine iU ?_ | refine cC ?_ | refine d9 ?_ | (refine' cP (SqT.of ?hz0) ?hz1 ?_; (case hz0 => first | assumption | exact aj); (case hz1 => rfl)) | refine cG ?_ | refine eQ ?_ | refine eU ?_ | refine di ?_ | refine dj ?_ | refine dm ?_ | refine dq ?_ | refine lX ?_ | refine dg ?_ | refine dh ?_ | refine eN ?_ | refine eO ?_ | refine cF ?_ | refine iV ?_ | refine d8 ?_ | (refine' vq ?hz0 ?_; (case hz0 => with_unfolding_all first | assumption | omega | (dsimp only <;> omega) | exact ⟨by omega, by omega⟩ | exact .inl ⟨by omega, by omega⟩ | exact .inr ⟨by omega, by omega⟩ | exact ⟨by decide, by decide, by decide⟩)) | (refine' d7 ?hz0 ?_; (case hz0 => with_unfolding_all first | assumption | omega | (dsimp only <;> omega) | exact ⟨by omega, by omega⟩ | exact .inl ⟨by omega, by omega⟩ | exact .inr ⟨by omega, by omega⟩ | exact ⟨by decide, by decide, by decide⟩)) | (refine' cO (SqL.of ?hz0) ?hz1 ?_; (case hz0 => first | assumption | exact aj); (case hz1 => with_unfolding_all rfl)) | (refine' c7 ?hz0 ?hz1 ?_; (case hz0 => first | assumption | exact aj); (case hz1 => with_unfolding_all rfl)) | refine cI ?_ | refine jd ?_ | refine eV ?_ | refine cJ ?_ | refine eY ?_ | refine cL ?_)))
section
variable {P:Program} {w:World} {K:PySem.W.Frag} {mg:Str→Option Value} {base:Heap}
theorem zj:(["sign"]:List Str).Nodup:=by decide+kernel
theorem Tz:bD fB "thing":=by decide+kernel
theorem kz1u:bK fB "LETTERS":=by decide+kernel
theorem kz1v:bK fB "len":=by decide+kernel
theorem kz1w:bK fB "isinstance":=by decide+kernel
theorem kz1x:bK fB "str":=by decide+kernel
theorem WR:bD j4 "thing":=by decide+kernel
theorem kz1z:bK j4 "POINT":=by decide+kernel
theorem kz20:bK j4 "is_letter":=by decide+kernel
theorem kz21:bK jR "is_sign":=by decide+kernel
theorem kz22:bD jR "thing":=by decide+kernel
theorem kz23:bK gZ "all":=by decide+kernel
theorem TF:bD gZ "thing":=by decide+kernel
theorem kz25:bK gZ "len":=by decide+kernel
theorem kz26:bK gZ "MOST_SIGNS":=by decide+kernel
theorem kz27:bK gZ "isinstance":=by decide+kernel
theorem kz28:bK gZ "str":=by decide+kernel
theorem kz29:bK kE "is_row":=by decide+kernel
theorem kz2a:bD kE "thing":=by decide+kernel
theorem WT:bK je "need_row":=by decide+kernel
theorem kz2c:bD je "top":=by decide+kernel
theorem kz2d:bD je "side":=by decide+kernel
def zm:Str:=Str.ofString "abcdefghijklmnopqrstuvwxyz"
def GOOD:List Nat:=(zm ++ Str.ofString ".").cps.toList
def Row (z:Str):Prop:=z.length≤48∧∀ c∈z.cps.toList,c∈GOOD
def Bg (l:Str) (c:Nat):Bool:=(Builtin.Str.occurrences l ⟨#[c]⟩ 0 l.length 1).isEmpty
theorem N5:∀ c∈GOOD,Bg (zm ++ Str.ofString ".") c=false:=by decide+kernel
def N7:Sp:=fun vs H Q _=>∃ z:Str,vs=[.str z]∧Row z∧∀ H',Same H H'→Q (.bl true) H'
def TJ:Sp:=fun vs H Q _=>∃ z:Str,vs=[.str z]∧Row z∧∀ H',Same H H'→Q .non H'
def N8:Sp:=fun vs H Q _=>∃ z y:Str,vs=[.str z,.str y]∧Row z∧Row y∧∀ H',Same H H'→Q .non H'
theorem Fv:aD ["thing"] ["thing"] (aq gZ):=⟨rfl,rfl,rfl,by decide+kernel,rfl,by decide+kernel,by decide+kernel⟩
theorem ux (T:Txt K mg):Has P w K mg base 1 "is_row" ["thing"] N7:=by
 refine fj T.d_is_row Fv (fun _ _ _ _ _ _ us hl=>L2.j6 (fun _=>rfl) us hl) ?_ fun f cdv A outer s H vs Q E hr h=>?_
 ·rintro vs H Q E ⟨p,rfl,_⟩;rfl
 obtain ⟨z,rfl,⟨hz,hg⟩,q⟩:=h
 have hu:=hr.units0
 have hu64:=hr.units
 refine ⟨_,(az (cz (lY (p8 (lA (j9 (aH (jA (K:=K) rfl) (aV kz27) T.b_isinstance b7 (aa (ao 0 TF) (aa (wA (aV kz28) T.b_str HH (by decide+kernel) (by decide+kernel)) ak)) (by decide+kernel) (by decide+kernel)))) (mG (bx rz (aH (aC (K:=K) rfl) (aV kz25) T.b_len bc (aa (ao 0 TF) ak) (by decide+kernel) (by decide+kernel)) (wz (aV kz26) T.c_MOST_SIGNS (by decide+kernel)) (by first | exact aW _ | with_unfolding_all rfl))))) (aA (aN yE)) bI) (aA (aN (aH (Ho rfl) (aV kz23) T.b_all RT (aa (mH (sub:=[none]) (gU (N:=["thing"]) (sc:=aq gZ) (N':=["sign"]) (by decide+kernel)) rfl rfl rfl (jr (K:=K) rfl (ao 0 TF)) (fun C s₀ H₀ ex=>(uG 0 (by decide+kernel) zj)) (fun C s₀ H₀ ex=>jY) (fun C s₀ H₀ ex=>(yF (Aj (K:=K) rfl) (nG 0 (by decide+kernel)) (bj aP (ww (Vy (by decide+kernel)) T.c_LETTERS (by decide+kernel)) (ww (Vy (by decide+kernel)) T.c_POINT (by decide+kernel))) (by first | exact aW _ | with_unfolding_all rfl)))) ak) (by decide+kernel) (by decide+kernel))))),?_⟩
 walk_at "sts"
 have hz1:z.length≤sizeLine:=Nat.le_trans hz (by decide)
 refine o4 (.str z) rfl ?_
 walk_at "sts"
 try with_reducible refine kZ ?_
 walk_at "sts"
 refine cu hz1 ?_
 walk_at "sts"
 refine uF (fun h1=>?_) (fun h1=>?_)
 ·omega
 walk_at "sts"
 refine .inr (.inr ⟨z,rfl,?_⟩)
 refine yD (fun i us H'=>H'=H∧us=((z.cps.toList.take i).map fun c=>!Bg (zm ++ Str.ofString ".") c).map V.bl) hz1 ⟨rfl,rfl⟩ ?_ ?_ ?_
 ·rintro i us H' ⟨rfl,rfl⟩
  simp;omega
 ·rintro i us H' c hc ⟨rfl,rfl⟩
  walk_at "sts"
  refine ⟨KeepSt.set rfl,?_⟩
  walk_at "sts"
  try with_reducible refine lw ?_
  walk_at "sts"
  refine Ak (Nat.le_trans (show (Str.ofString "abcdefghijklmnopqrstuvwxyz").length+(Str.ofString ".").length≤1000 by decide+kernel) (by decide)) ?_
  walk_at "sts"
  refine ⟨rfl,?_⟩
  rw [List.take_add_one,hc]
  simp [zm,Bg]
 ·rintro us H' ⟨rfl,rfl⟩ D hD
  walk_at "sts"
  refine ⟨D,_,rfl,aj,?_⟩
  have e2:(List.map (fun c=>!Bg (zm ++ Str.ofString ".") c) (z.cps.toList.take z.cps.size)).all id=true:=by
   rw [List.all_map,List.all_eq_true]
   intro c hc
   have:=N5 c (hg c (List.mem_of_mem_take hc))
   simp [this]
  rw [e2]
  exact q _ ((Same.refl H').upd hD)
theorem zp:aD ["thing"] ["thing"] (aq kE):=⟨rfl,rfl,rfl,by decide+kernel,rfl,by decide+kernel,by decide+kernel⟩
theorem iy (T:Txt K mg):Has P w K mg base 2 "need_row" ["thing"] TJ:=by
 have ux:=ux (P:=P) (w:=w) (base:=base) T
 refine fj T.d_need_row zp (fun _ _ _ _ _ _ us hl=>L2.j6 (fun _=>rfl) us hl) ?_ fun f cdv A outer s H vs Q E hr h=>?_
 ·rintro vs H Q E ⟨p,rfl,_⟩;rfl
 obtain ⟨z,rfl,hz,q⟩:=h
 refine ⟨_,(aA (cz (lA (j9 (aF ux (hr.mono (by decide)) (aV kz29) (aa (ao 0 kz2a) ak) (by decide+kernel)))) (aA jP) bI)),?_⟩
 walk_at "sts"
 refine ⟨z,rfl,hz,fun H1 S1=>?_⟩
 walk_at "sts"
 try with_reducible refine kZ ?_
 walk_at "sts"
 exact q _ S1
theorem xg:aD ["side","top"] ["side","top"] (aq je):=⟨rfl,rfl,rfl,by decide+kernel,rfl,by decide+kernel,by decide+kernel⟩
theorem jh (T:Txt K mg):Has P w K mg base 3 "need_rows" ["side","top"] N8:=by
 have iy:=iy (P:=P) (w:=w) (base:=base) T
 refine fj T.d_need_rows xg (fun _ _ _ _ _ _ us hl=>L2.oO (fun _ _=>rfl) us hl) ?_ fun f cdv A outer s H vs Q E hr h=>?_
 ·rintro vs H Q E ⟨p,y,rfl,_⟩;rfl
 obtain ⟨z,y,rfl,hz,hy,q⟩:=h
 refine ⟨_,(az (bF (aF iy (hr.mono (by decide)) (aV WT) (aa (ao 0 kz2d) ak) (by decide+kernel))) (aA (bF (aF iy (hr.mono (by decide)) (aV WT) (aa (ao 1 kz2c) ak) (by decide+kernel))))),?_⟩
 walk_at "sts"
 refine ⟨z,rfl,hz,fun H1 S1=>?_⟩
 walk_at "sts"
 refine ⟨y,rfl,hy,fun H2 S2=>?_⟩
 exact q _ (S1.trans S2)
def Fw:Sp:=fun vs H Q _=>∃ c:Nat,vs=[.str ⟨#[c]⟩]∧Q (.bl (!Bg zm c)) H
theorem Jx:∀ c∈GOOD,Bg zm c=true→c=46:=by decide+kernel
theorem xj:aD ["thing"] ["thing"] (aq fB):=⟨rfl,rfl,rfl,by decide+kernel,rfl,by decide+kernel,by decide+kernel⟩
theorem nQ (T:Txt K mg):Has P w K mg base 1 "is_letter" ["thing"] Fw:=by
 refine fj T.d_is_letter xj (fun _ _ _ _ _ _ us hl=>L2.j6 (fun _=>rfl) us hl) ?_ fun f cdv A outer s H vs Q E hr h=>?_
 ·rintro vs H Q E ⟨c,rfl,_⟩;rfl
 obtain ⟨c,rfl,q⟩:=h
 have hu:=hr.units0
 have hu64:=hr.units
 refine ⟨_,(aA (aN (yH (aH (jA (K:=K) rfl) (aV kz1w) T.b_isinstance b7 (aa (ao 0 Tz) (aa (wA (aV kz1x) T.b_str HH (by decide+kernel) (by decide+kernel)) ak)) (by decide+kernel) (by decide+kernel)) (yH (yF (jB (K:=K) rfl hu64) (aH (aC (K:=K) rfl) (aV kz1v) T.b_len bc (aa (ao 0 Tz) ak) (by decide+kernel) (by decide+kernel)) aG (by first | exact aW _ | with_unfolding_all rfl)) (yG (yF (Aj (K:=K) rfl) (ao 0 Tz) (ww (aV kz1u) T.c_LETTERS (by decide+kernel)) (by first | exact aW _ | with_unfolding_all rfl))))))),?_⟩
 walk_at "sts"
 refine o4 (.str _) rfl ?_
 walk_at "sts"
 refine cu (by rw [Ei];decide) ?_
 walk_at "sts"
 rw [Ei,show decide (V.int ((1:Nat):Int)=V.int 1)=true from rfl]
 walk_at "sts"
 exact q
def Oa:Sp:=fun vs H Q _=>∃ c:Nat,vs=[.str ⟨#[c]⟩]∧c∈GOOD∧Q (.bl true) H
theorem Bh:aD ["thing"] ["thing"] (aq j4):=⟨rfl,rfl,rfl,by decide+kernel,rfl,by decide+kernel,by decide+kernel⟩
theorem q9 (T:Txt K mg):Has P w K mg base 2 "is_sign" ["thing"] Oa:=by
 have nQ:=nQ (P:=P) (w:=w) (base:=base) T
 refine fj T.d_is_sign Bh (fun _ _ _ _ _ _ us hl=>L2.j6 (fun _=>rfl) us hl) ?_ fun f cdv A outer s H vs Q E hr h=>?_
 ·rintro vs H Q E ⟨c,rfl,_⟩;rfl
 obtain ⟨c,rfl,hc,q⟩:=h
 have hu:=hr.units0
 have hu64:=hr.units
 refine ⟨_,(aA (aN (j_or (aF nQ (hr.mono (by decide)) (aV kz20) (aa (ao 0 WR) ak) (by decide+kernel)) (yG (yF (jB (K:=K) rfl hu64) (ao 0 WR) (ww (aV kz1z) T.c_POINT (by decide+kernel)) (by first | exact aW _ | with_unfolding_all rfl)))))),?_⟩
 walk_at "sts"
 refine ⟨c,rfl,?_⟩
 walk_at "sts"
 cases hb:Bg zm c with
 | false=>
  show if true=true then _ else _
  walk_at "sts"
  exact q
 | true=>
  obtain rfl:=Jx c hc hb
  show if false=true then _ else _
  walk_at "sts"
  rw [show decide (V.str ⟨#[46]⟩=V.str (Str.ofString "."))=true by decide+kernel]
  exact q
def Bj:Sp:=fun vs H Q _=>∃ c:Nat,vs=[.str ⟨#[c]⟩]∧c∈GOOD∧Q .non H
theorem xm:aD ["thing"] ["thing"] (aq jR):=⟨rfl,rfl,rfl,by decide+kernel,rfl,by decide+kernel,by decide+kernel⟩
theorem gD (T:Txt K mg):Has P w K mg base 3 "need_sign" ["thing"] Bj:=by
 have q9:=q9 (P:=P) (w:=w) (base:=base) T
 refine fj T.d_need_sign xm (fun _ _ _ _ _ _ us hl=>L2.j6 (fun _=>rfl) us hl) ?_ fun f cdv A outer s H vs Q E hr h=>?_
 ·rintro vs H Q E ⟨c,rfl,_⟩;rfl
 obtain ⟨c,rfl,hc,q⟩:=h
 have hu:=hr.units0
 have hu64:=hr.units
 refine ⟨_,(aA (cz (lA (j9 (aF q9 (hr.mono (by decide)) (aV kz21) (aa (ao 0 kz22) ak) (by decide+kernel)))) (aA jP) bI)),?_⟩
 walk_at "sts"
 refine ⟨c,rfl,hc,?_⟩
 walk_at "sts"
 walk_at "sts"
 exact q
end
local macro_rules | `(tactic| walk_at "sts") => `(tactic| (with_reducible repeat (first | refine lO ?_ | refine lw ?_ | refine kZ ?_ | refine iZ ?_ | refine jc ?_ | (refine' iM ?hz0 ?_; (case hz0 => with_unfolding_all rfl)) | refine vm ?_ | refine lV ?_ | refine dZ ?_ | refine dM ?_ | refine iQ ?_ | refine nj ?_ | refine iC ?_ | refine dF ?_ | refine iG ?_ | refine dD ?_ | refine lK ?_ | refine dH ?_ | refine lW ?_ | refine lQ ?_ | refine dN ?_ | refine lM ?_ | refine iH ?_ | refine iI ?_ | refine lN ?_ | refine dI ?_ | refine iJ ?_ | refine dJ ?_ | refine iK ?_ | refine iD ?_ | refine dG ?_ | refine jw ?_ | refine ju ?_ | refine lR ?_ | refine iR ?_ | refine lU ?_ | refine iT ?_ | refine dO ?_ | refine dR ?_ | refine dU ?_ | refine dW ?_ | refine dX ?_ | refine dY ?_ | refine iU ?_ | refine cC ?_ | refine d9 ?_ | (refine' cP (SqT.of ?hz0) ?hz1 ?_; (case hz0 => first | assumption | exact aj); (case hz1 => rfl)) | refine cG ?_ | refine eQ ?_ | refine eU ?_ | refine di ?_ | refine dj ?_ | refine dm ?_ | refine dq ?_ | refine lX ?_ | refine dg ?_ | refine dh ?_ | refine eN ?_ | refine eO ?_ | refine cF ?_ | refine iV ?_ | refine d8 ?_ | (refine' vq ?hz0 ?_; (case hz0 => with_unfolding_all first | assumption | omega | (dsimp only <;> omega) | exact ⟨by omega, by omega⟩ | exact .inl ⟨by omega, by omega⟩ | exact .inr ⟨by omega, by omega⟩ | exact ⟨by decide, by decide, by decide⟩)) | (refine' d7 ?hz0 ?_; (case hz0 => with_unfolding_all first | assumption | omega | (dsimp only <;> omega) | exact ⟨by omega, by omega⟩ | exact .inl ⟨by omega, by omega⟩ | exact .inr ⟨by omega, by omega⟩ | exact ⟨by decide, by decide, by decide⟩)) | (refine' cO (SqL.of ?hz0) ?hz1 ?_; (case hz0 => first | assumption | exact aj); (case hz1 => with_unfolding_all rfl)) | (refine' c7 ?hz0 ?hz1 ?_; (case hz0 => first | assumption | exact aj); (case hz1 => with_unfolding_all rfl)) | refine cI ?_ | refine jd ?_ | refine eV ?_ | refine cJ ?_ | refine eY ?_ | refine cL ?_ | refine fY ?_)))
local macro_rules | `(tactic| walk_at "stn") => `(tactic| (with_reducible repeat (first | refine lO ?_ | refine lw ?_ | refine kZ ?_ | refine iZ ?_ | refine jc ?_ | (refine' iM ?hz0 ?_; (case hz0 => with_unfolding_all rfl)) | refine vm ?_ | refine lV ?_ | refine dZ ?_ | refine dM ?_ | refine iQ ?_ | refine iC ?_ | refine dF ?_ | refine iG ?_ | refine dD ?_ | refine lK ?_ | refine dH ?_ | refine lW ?_ | refine lQ ?_ | refine dN ?_ | refine lM ?_ | refine iH ?_ | refine iI ?_ | refine lN ?_ | refine dI ?_ | refine iJ ?_ | refine dJ ?_ | refine iK ?_ | refine iD ?_ | refine dG ?_ | refine jw ?_ | refine ju ?_ | refine lR ?_ | refine iR ?_ | refine lU ?_ | refine iT ?_ | refine dO ?_ | refine dR ?_ | refine dU ?_ | refine dW ?_ | refine dX ?_ | refine dY ?_ | refine iU ?_ | refine cC ?_ | refine d9 ?_ | (refine' cP (SqT.of ?hz0) ?hz1 ?_; (case hz0 => first | assumption | exact aj); (case hz1 => rfl)) | refine cG ?_ | refine eQ ?_ | refine eU ?_ | refine di ?_ | refine dj ?_ | refine dm ?_ | refine dq ?_ | refine lX ?_ | refine dg ?_ | refine dh ?_ | refine eN ?_ | refine eO ?_ | refine cF ?_ | refine iV ?_ | refine d8 ?_ | (refine' vq ?hz0 ?_; (case hz0 => with_unfolding_all first | assumption | omega | (dsimp only <;> omega) | exact ⟨by omega, by omega⟩ | exact .inl ⟨by omega, by omega⟩ | exact .inr ⟨by omega, by omega⟩ | exact ⟨by decide, by decide, by decide⟩)) | (refine' d7 ?hz0 ?_; (case hz0 => with_unfolding_all first | assumption | omega | (dsimp only <;> omega) | exact ⟨by omega, by omega⟩ | exact .inl ⟨by omega, by omega⟩ | exact .inr ⟨by omega, by omega⟩ | exact ⟨by decide, by decide, by decide⟩)) | (refine' cO (SqL.of ?hz0) ?hz1 ?_; (case hz0 => first | assumption | exact aj); (case hz1 => with_unfolding_all rfl)) | (refine' c7 ?hz0 ?hz1 ?_; (case hz0 => first | assumption | exact aj); (case hz1 => with_unfolding_all rfl)) | refine cI ?_ | refine jd ?_ | refine eV ?_ | refine cJ ?_ | refine eY ?_ | refine cL ?_ | refine fY ?_)))
section
variable {P:Program} {w:World} {K:PySem.W.Frag} {mg:Str→Option Value} {base:Heap}
theorem kz2e:bD jZ "self":=by decide+kernel
theorem kz2f:bD lr "self":=by decide+kernel
theorem kz2g:bD jx "self":=by decide+kernel
theorem kz2h:bK g8 "list":=by decide+kernel
theorem kz2i:bD g8 "self":=by decide+kernel
def Hx (p:Addr) (H:Hp):Hp:=fun b=>if b=p then none else H b
theorem Dg (p:Addr) (H:Hp):Same (Hx p H) H:=fun b o e=>by
 unfold Hx at e
 split at e
 ·cases e
 ·exact e
theorem vN {p b:Addr} {H:Hp} {o:HO} (h:H b=some o) (n:b≠p):Hx p H b=some o:=by unfold Hx;rw [if_neg n];exact h
theorem TQ {p:Addr} {H:Hp} {o:HO}:Hx p (upd H p o)=Hx p H:=by
 funext b
 unfold Hx
 by_cases h:b=p
 ·rw [if_pos h,if_pos h]
 ·rw [if_neg h,if_neg h,aB h]
def Ks:List Str:=["Blank","One","Over","Beside"]
def pcF (side top kind:Str) (al ap:Addr) (h:Nat):List (Str×V):=[("held_side",.str side),("held_top",.str top),("held_kind",.str kind),("held_lines",.ref al),("held_parts",.ref ap),("held_height",.int (h:Int))]
def Pc (mg:Str→Option Value) (H:Hp) (x:Addr) (y side top kind:Str) (L:List Nat) (ps:List V) (h:Nat):Prop:=y∈Ks∧∃ dx al ap,H x=some (.ins (aU mg y) dx (pcF side top kind al ap h))∧H al=some (.lst ((nI L).map V.int))∧H ap=some (.lst ps)
theorem Pc.same {H H':Hp} {x:Addr} {y side top kind:Str} {L:List Nat} {ps:List V} {h:Nat} (p:Pc mg H x y side top kind L ps h) (s:Same H H'):Pc mg H' x y side top kind L ps h:=by
 obtain ⟨hy,dx,al,ap,a,b,c⟩:=p
 exact ⟨hy,dx,al,ap,s _ _ a,s _ _ b,s _ _ c⟩
theorem WW (T:Txt K mg) {y:Str} (hy:y∈Ks):∀ f∈(["held_side","held_top","held_kind","held_lines","held_parts","held_height"]:List Str),NoAttr K (aU mg y) f:=by
 unfold Ks at hy
 simp only [List.mem_cons,List.mem_nil_iff,or_false] at hy
 rcases hy with rfl | rfl | rfl | rfl
 ·exact T.n_Blank
 ·exact T.n_One
 ·exact T.n_Over
 ·exact T.n_Beside
def Ob (mg:Str→Option Value):Sp:=fun vs H Q _=>∃ x y side top kind L ps h,vs=[.ref x]∧Pc mg H x y side top kind L ps h∧Q (.str side) H
theorem uL:aD ["self"] ["self"] (aq jZ):=⟨rfl,rfl,rfl,by decide+kernel,rfl,by decide+kernel,by decide+kernel⟩
theorem aZ (T:Txt K mg):Fe P w K mg base 1 ["Blank","One","Over","Beside"] "side" ["self"] (Ob mg):=by
 refine Nb T.m_Piece_side uL (fun _ _ _ _ _ _ us hl=>L2.j6 (fun _=>rfl) us hl) ?_ fun f cdv A outer s H vs Q E hr h=>?_
 ·rintro vs H Q E ⟨x,y,side,top,kind,L,ps,h,rfl,_⟩;rfl
 obtain ⟨x,y,side,top,kind,L,ps,h,rfl,⟨hy,dx,al,ap,hx,_,_⟩,q⟩:=h
 have hu:=hr.units0
 have hu64:=hr.units
 refine ⟨_,(aA (aN (CG (K:=K) rfl (ao 0 kz2e)))),?_⟩
 walk_at "sts"
 refine ⟨x,_,dx,_,_,rfl,hx,T.os_Piece y hy,WW T hy _ (by simp),rfl,?_⟩
 walk_at "sts"
 exact q
def TV (mg:Str→Option Value):Sp:=fun vs H Q _=>∃ x y side top kind L ps h,vs=[.ref x]∧Pc mg H x y side top kind L ps h∧Q (.str top) H
theorem xn:aD ["self"] ["self"] (aq lr):=⟨rfl,rfl,rfl,by decide+kernel,rfl,by decide+kernel,by decide+kernel⟩
theorem bA (T:Txt K mg):Fe P w K mg base 1 ["Blank","One","Over","Beside"] "top" ["self"] (TV mg):=by
 refine Nb T.m_Piece_top xn (fun _ _ _ _ _ _ us hl=>L2.j6 (fun _=>rfl) us hl) ?_ fun f cdv A outer s H vs Q E hr h=>?_
 ·rintro vs H Q E ⟨x,y,side,top,kind,L,ps,h,rfl,_⟩;rfl
 obtain ⟨x,y,side,top,kind,L,ps,h,rfl,⟨hy,dx,al,ap,hx,_,_⟩,q⟩:=h
 have hu:=hr.units0
 have hu64:=hr.units
 refine ⟨_,(aA (aN (CG (K:=K) rfl (ao 0 kz2f)))),?_⟩
 walk_at "sts"
 refine ⟨x,_,dx,_,_,rfl,hx,T.os_Piece y hy,WW T hy _ (by simp),rfl,?_⟩
 walk_at "sts"
 exact q
def Fx (mg:Str→Option Value):Sp:=fun vs H Q _=>∃ x y side top kind L ps h,vs=[.ref x]∧Pc mg H x y side top kind L ps h∧Q (.int (h:Int)) H
theorem sE:aD ["self"] ["self"] (aq jx):=⟨rfl,rfl,rfl,by decide+kernel,rfl,by decide+kernel,by decide+kernel⟩
theorem kJ (T:Txt K mg):Fe P w K mg base 1 ["Blank","One","Over","Beside"] "height" ["self"] (Fx mg):=by
 refine Nb T.m_Piece_height sE (fun _ _ _ _ _ _ us hl=>L2.j6 (fun _=>rfl) us hl) ?_ fun f cdv A outer s H vs Q E hr h=>?_
 ·rintro vs H Q E ⟨x,y,side,top,kind,L,ps,h,rfl,_⟩;rfl
 obtain ⟨x,y,side,top,kind,L,ps,h,rfl,⟨hy,dx,al,ap,hx,_,_⟩,q⟩:=h
 have hu:=hr.units0
 have hu64:=hr.units
 refine ⟨_,(aA (aN (CG (K:=K) rfl (ao 0 kz2g)))),?_⟩
 walk_at "sts"
 refine ⟨x,_,dx,_,_,rfl,hx,T.os_Piece y hy,WW T hy _ (by simp),rfl,?_⟩
 walk_at "sts"
 exact q
def Jy (mg:Str→Option Value):Sp:=fun vs H Q _=>∃ x y side top kind L ps h,vs=[.ref x]∧Pc mg H x y side top kind L ps h∧∀ q H',H q=none→Same H H'→H' q=some (.lst ((nI L).map V.int))→Q (.ref q) H'
theorem uy:aD ["self"] ["self"] (aq g8):=⟨rfl,rfl,rfl,by decide+kernel,rfl,by decide+kernel,by decide+kernel⟩
theorem bN (T:Txt K mg):Fe P w K mg base 1 ["Blank","One","Over","Beside"] "lines" ["self"] (Jy mg):=by
 refine Nb T.m_Piece_lines uy (fun _ _ _ _ _ _ us hl=>L2.j6 (fun _=>rfl) us hl) ?_ fun f cdv A outer s H vs Q E hr h=>?_
 ·rintro vs H Q E ⟨x,y,side,top,kind,L,ps,h,rfl,_⟩;rfl
 obtain ⟨x,y,side,top,kind,L,ps,h,rfl,⟨hy,dx,al,ap,hx,hal,_⟩,q⟩:=h
 have hu:=hr.units0
 have hu64:=hr.units
 refine ⟨_,(aA (aN (tZ (o9 (K:=K) rfl rfl) (aV kz2h) T.b_list lg (aa (CG (K:=K) rfl (ao 0 kz2i)) ak) (by decide+kernel) (by decide+kernel)))),?_⟩
 walk_at "sts"
 refine ⟨x,_,dx,_,_,rfl,hx,T.os_Piece y hy,WW T hy _ (by simp),rfl,?_⟩
 walk_at "sts"
 refine wu (SqL.of hal) fun l nl=>?_
 walk_at "sts"
 exact q l _ nl ((Same.refl H).upd nl) aj
end
section
variable {P:Program} {w:World} {K:PySem.W.Frag} {mg:Str→Option Value} {base:Heap}
theorem oX:(["part"]:List Str).Nodup:=by decide+kernel
theorem Fy:bD aX "self":=by decide+kernel
theorem kz2k:bK aX "max":=by decide+kernel
theorem WX:bD aX "parts":=by decide+kernel
theorem WY:bK aX "list":=by decide+kernel
theorem kz2n:bD aX "lines":=by decide+kernel
theorem kz2o:bD aX "kind":=by decide+kernel
theorem kz2p:bD aX "top":=by decide+kernel
theorem kz2q:bD aX "side":=by decide+kernel
theorem Chg.same {x:Addr} {H H1 H2:Hp} (c:Chg x H H1) (s:Same H1 H2):Chg x H H2:=fun b o n e=>s _ _ (c b o n e)
theorem Chg.put {x:Addr} {H H1:Hp} {o:HO} (c:Chg x H H1):Chg x H (upd H1 x o):=fun b u n e=>by rw [aB n];exact c b u n e
theorem zq {f:Str} {y:V}:∀ {fs:List (Str×V)},(fs.map (·.1)).contains f=false→j8 f y fs=fs ++ [(f,y)]
 | [],_=>rfl
 | (g,z) :: fs,h=>by
  simp only [List.map_cons,List.contains_cons,Bool.or_eq_false_iff] at h
  have hne:¬ g=f:=fun e=>by rw [e] at h;simp at h
  have ih:=zq (y:=y) (fs:=fs) h.2
  unfold j8
  simp [hne,ih]
theorem mz {H:Hp} {x C dx:Addr} {fs:List (Str×V)} {f:Str} {y:V} (hf:(fs.map (·.1)).contains f=false):∃ H',upd H x (.ins C dx (j8 f y fs))=H'∧H' x=some (.ins C dx (fs ++ [(f,y)]))∧Chg x H H':=
 ⟨_,rfl,by rw [aj,zq hf],Chg.put (Chg.refl x H)⟩
def PsH (mg:Str→Option Value) (H:Hp) (ps:List V) (hs:List Nat):Prop:=ps.length=hs.length∧∀ (i:Nat) (v:V) (h:Nat),ps[i]?=some v→hs[i]?=some h→∃ q y s t k L qs,v= .ref q∧Pc mg H q y s t k L qs h
theorem PsH.chg {H H':Hp} {x C dx:Addr} {ps:List V} {hs:List Nat} (p:PsH mg H ps hs) (hx:H x=some (.ins C dx [])) (c:Chg x H H'):PsH mg H' ps hs:=⟨p.1,fun i v h e1 e2=>by
 obtain ⟨q,y,s,t,k,L,qs,rfl,hy,ex,al,ap,h1,h2,h3⟩:=p.2 i v h e1 e2
 refine ⟨q,y,s,t,k,L,qs,rfl,hy,ex,al,ap,c _ _ ?_ h1,c _ _ ?_ h2,c _ _ ?_ h3⟩
 ·intro z;rw [z,hx] at h1;cases h1
 ·intro z;rw [z,hx] at h2;cases h2
 ·intro z;rw [z,hx] at h3;cases h3⟩
def uz (hs:List Nat) (h:Nat):Prop:=(hs=[]∧h=0)∨((∃ a∈hs,h=a+1)∧∀ a∈hs,a+1≤h)
def xq (mg:Str→Option Value):Sp:=fun vs H Q _=>∃ (x dx l p:Addr) (y side top kind:Str) (L:List Nat) (ps:List V) (hs:List Nat),vs=[.ref x,.str side,.str top,.str kind,.ref l,.ref p]∧y∈Ks∧H x=some (.ins (aU mg y) dx [])∧H l=some (.lst ((nI L).map V.int))∧H p=some (.lst ps)∧ps.length≤1000∧PsH mg H ps hs∧
 ∀ h H',uz hs h→Chg x H H'→Pc mg H' x y side top kind L ps h→(∀ m o,H m=some o→m≠x→Pc mg (Hx m H') x y side top kind L ps h)→Q .non H'
theorem qm:aD ["self","side","top","kind","lines","parts"] ["self","side","top","kind","lines","parts"] (aq aX):=⟨rfl,rfl,rfl,by decide+kernel,rfl,by decide+kernel,by decide+kernel⟩
theorem aY (T:Txt K mg):Sw P w K mg base 2 "Piece" "__init__" ["self","side","top","kind","lines","parts"] (xq mg):=by
 have kJ:=kJ (P:=P) (w:=w) (base:=base) T
 refine hasC T.m_Piece___init__ qm (fun _ _ _ _ _ _ us hl=>L2.usN6 (fun _ _ _ _ _ _=>rfl) us hl) ?_ fun f cdv A outer s H vs Q E hr h=>?_
 ·rintro vs H Q E ⟨x,dx,l,p,y,side,top,kind,L,ps,hs,rfl,_⟩;rfl
 obtain ⟨x,dx,l,p,y,side,top,kind,L,ps,hs,rfl,hy,hx,hl,hp,hpl,hH,q⟩:=h
 have hu:=hr.units0
 have hu64:=hr.units
 refine ⟨_,(az (qR (K:=K) rfl (ao 0 Fy) (ao 1 kz2q)) (az (qR (K:=K) rfl (ao 0 Fy) (ao 2 kz2p)) (az (qR (K:=K) rfl (ao 0 Fy) (ao 3 kz2o)) (az (qR (K:=K) rfl (ao 0 Fy) (tZ (o9 (K:=K) rfl rfl) (aV WY) T.b_list lg (aa (ao 4 kz2n) ak) (by decide+kernel) (by decide+kernel))) (az (qR (K:=K) rfl (ao 0 Fy) (tZ (o9 (K:=K) rfl rfl) (aV WY) T.b_list lg (aa (ao 5 WX) ak) (by decide+kernel) (by decide+kernel))) (aA (qR (K:=K) rfl (ao 0 Fy) (Sy rfl (aV kz2k) T.b_max (mH (sub:=[none]) (gU (N:=["self","side","top","kind","lines","parts"]) (sc:=aq aX) (N':=["part"]) (by decide+kernel)) rfl rfl rfl (jr (K:=K) rfl (ao 5 WX)) (fun C s₀ H₀ ex=>(uG 0 (by decide+kernel) oX)) (fun C s₀ H₀ ex=>jY) (fun C s₀ H₀ ex=>(bj aP (bG (mg:=mg) rfl (nG 0 (by decide+kernel)) T.os_Piece kJ (hr.mono (by decide)) (dz fun _ _=>rfl)) aG))) aG)))))))),?_⟩
 walk_at "sts"
 have hz:20000≤sizeLine:=by decide
 have cl:=T.os_Piece y hy
 have na:=WW T hy
 have lx:∀ {G:Hp} {C ex:Addr} {fs:List (Str×V)} {a:Addr} {us:List V},G x=some (.ins C ex fs)→G a=some (.lst us)→a≠x:=fun h1 h2 z=>by rw [z,h1] at h2;cases h2
 refine ⟨x,_,dx,_,rfl,hx,cl,na _ (by simp),by simp,?_⟩
 walk_at "sts"
 obtain ⟨H1,e1,hx1,M1⟩:=mz (H:=H) (x:=x) (C:=aU mg y) (dx:=dx) (fs:=[]) (f:="held_side") (y:=.str side) rfl
 rw [e1]
 walk_at "sts"
 refine ⟨x,_,dx,_,rfl,hx1,cl,na _ (by simp),by simp,?_⟩
 walk_at "sts"
 obtain ⟨H2,e2,hx2,M2⟩:=mz (H:=H1) (x:=x) (C:=aU mg y) (dx:=dx) (fs:=[] ++ [(Str.ofString "held_side",V.str side)]) (f:="held_top") (y:=.str top) (by show (["held_side"]:List Str).contains "held_top"=false;decide+kernel)
 rw [e2]
 walk_at "sts"
 refine ⟨x,_,dx,_,rfl,hx2,cl,na _ (by simp),by simp,?_⟩
 walk_at "sts"
 obtain ⟨H3,e3,hx3,M3⟩:=mz (H:=H2) (x:=x) (C:=aU mg y) (dx:=dx) (fs:=[] ++ [(Str.ofString "held_side",V.str side)] ++ [(Str.ofString "held_top",V.str top)]) (f:="held_kind") (y:=.str kind) (by show (["held_side","held_top"]:List Str).contains "held_kind"=false;decide+kernel)
 rw [e3]
 have C3:=(M1.trans M2).trans M3
 have hl3:=C3 l _ (lx hx hl) hl
 walk_at "sts"
 refine wu (SqL.of hl3) fun al nal=>?_
 walk_at "sts"
 have S4:=(Same.refl H3).upd nal (o:=.lst ((nI L).map V.int))
 have hal:=aj (H:=H3) (a:=al) (o:=.lst ((nI L).map V.int))
 generalize upd H3 al (.lst ((nI L).map V.int))=H4 at S4 hal ⊢
 walk_at "sts"
 refine ⟨x,_,dx,_,rfl,S4 _ _ hx3,cl,na _ (by simp),by simp,?_⟩
 walk_at "sts"
 obtain ⟨H5,e5,hx5,M5⟩:=mz (H:=H4) (x:=x) (C:=aU mg y) (dx:=dx) (fs:=[] ++ [(Str.ofString "held_side",V.str side)] ++ [(Str.ofString "held_top",V.str top)] ++ [(Str.ofString "held_kind",V.str kind)]) (f:="held_lines") (y:=.ref al) (by show (["held_side","held_top","held_kind"]:List Str).contains "held_lines"=false;decide+kernel)
 rw [e5]
 have C5:=(Chg.same C3 S4).trans M5
 have hp5:=C5 p _ (lx hx hp) hp
 have hal5:=M5 al _ (lx (S4 _ _ hx3) hal) hal
 walk_at "sts"
 refine wu (SqL.of hp5) fun ap nap=>?_
 walk_at "sts"
 have S6:=(Same.refl H5).upd nap (o:=.lst ps)
 have hap:=aj (H:=H5) (a:=ap) (o:=.lst ps)
 generalize upd H5 ap (.lst ps)=H6 at S6 hap ⊢
 walk_at "sts"
 refine ⟨x,_,dx,_,rfl,S6 _ _ hx5,cl,na _ (by simp),by simp,?_⟩
 walk_at "sts"
 obtain ⟨H7,e7,hx7,M7⟩:=mz (H:=H6) (x:=x) (C:=aU mg y) (dx:=dx) (fs:=[] ++ [(Str.ofString "held_side",V.str side)] ++ [(Str.ofString "held_top",V.str top)] ++ [(Str.ofString "held_kind",V.str kind)] ++ [(Str.ofString "held_lines",V.ref al)]) (f:="held_parts") (y:=.ref ap) (by show (["held_side","held_top","held_kind","held_lines"]:List Str).contains "held_parts"=false;decide+kernel)
 rw [e7]
 have C7:=(Chg.same C5 S6).trans M7
 have hp7:=C7 p _ (lx hx hp) hp
 have hal7:=M7 al _ (lx (S6 _ _ hx5) (S6 _ _ hal5)) (S6 _ _ hal5)
 have hap7:=M7 ap _ (lx (S6 _ _ hx5) hap) hap
 have hH7:=hH.chg hx C7
 walk_at "sts"
 refine .inl ⟨p,rfl,⟨_,SqL.of hp7⟩,?_⟩
 have hul:=hH.1
 refine mL (xs:=ps) (fun i zs G=>G=H7∧zs=(nI ((hs.take i).map (· +1))).map V.int) (by omega) ⟨rfl,rfl⟩ ?_ ?_ ?_ ?_
 ·rintro i zs G ⟨_,rfl⟩
  rw [bT];simp;omega
 ·rintro i zs G ⟨rfl,_⟩
  exact SqL.of hp7
 ·rintro i zs G v hv ⟨rfl,rfl⟩
  have hi:i < hs.length:=by rw [← hul];exact (List.getElem?_eq_some_iff.mp hv).1
  obtain ⟨hh,eh⟩:∃ hh,hs[i]?=some hh:=⟨_,List.getElem?_eq_getElem hi⟩
  obtain ⟨r,y',s',t',k',L',qs,rfl,hP⟩:=hH7.2 i v hh hv eh
  obtain ⟨hy',ex,al',ap',h1,_,_⟩:=id hP
  walk_at "sts"
  refine ⟨KeepSt.set rfl,?_⟩
  walk_at "sts"
  refine ⟨r,y',ex,_,rfl,hy',h1,rfl,?_⟩
  walk_at "sts"
  refine ⟨r,y',s',t',k',L',qs,hh,rfl,hP,?_⟩
  walk_at "sts"
  refine ⟨rfl,?_⟩
  rw [List.take_add_one,eh,List.map_append,show ((hh:Int)+1)=((hh+1:Nat):Int) by omega,xf]
  rfl
 ·rintro zs G D H8 ⟨rfl,rfl⟩ nD S8 hD
  rw [hul,List.take_length] at hD
  try walk_at "sts"
  have C8:=Chg.same C7 S8
  have hx8:=S8 _ _ hx7
  have key:∀ h:Nat,uz hs h→Q .non (upd H8 x (.ins (aU mg y) dx (j8 (Str.ofString "held_height") (.int (h:Int)) ([] ++ [(Str.ofString "held_side",V.str side)] ++ [(Str.ofString "held_top",V.str top)] ++ [(Str.ofString "held_kind",V.str kind)] ++ [(Str.ofString "held_lines",V.ref al)] ++ [(Str.ofString "held_parts",V.ref ap)])))):=fun h hh=>by
   obtain ⟨H9,e9,hx9,M9⟩:=mz (H:=H8) (x:=x) (C:=aU mg y) (dx:=dx) (fs:=([] ++ [(Str.ofString "held_side",V.str side)] ++ [(Str.ofString "held_top",V.str top)] ++ [(Str.ofString "held_kind",V.str kind)] ++ [(Str.ofString "held_lines",V.ref al)] ++ [(Str.ofString "held_parts",V.ref ap)])) (f:=Str.ofString "held_height") (y:=.int (h:Int)) (by show (["held_side","held_top","held_kind","held_lines","held_parts"]:List Str).contains "held_height"=false;decide+kernel)
   rw [e9]
   have hal9:=M9 al _ (lx hx8 (S8 _ _ hal7)) (S8 _ _ hal7)
   have hap9:=M9 ap _ (lx hx8 (S8 _ _ hap7)) (S8 _ _ hap7)
   refine q h H9 hh (C8.trans M9) ⟨hy,dx,al,ap,hx9,hal9,hap9⟩ fun m o hm nm=>⟨hy,dx,al,ap,vN hx9 (Ne.symm nm),vN hal9 ?_,vN hap9 ?_⟩
   ·intro z;rw [z,C3 m o nm hm] at nal;cases nal
   ·intro z;rw [z,C5 m o nm hm] at nap;cases nap
  refine ⟨D,_,rfl,hD,fun e=>?_,fun M hM hmx=>?_⟩
  ·have e0:hs=[]:=by
    cases hs with
    | nil=>rfl
    | cons a b=>cases e
   walk_at "sts"
   exact ⟨x,_,dx,_,rfl,hx8,cl,na _ (by simp),by simp,key 0 (.inl ⟨e0,rfl⟩)⟩
  ·unfold nI at hM hmx
   obtain ⟨a',ha',rfl⟩:=List.mem_map.mp hM
   obtain ⟨a,ha,rfl⟩:=List.mem_map.mp ha'
   walk_at "sts"
   refine ⟨x,_,dx,_,rfl,hx8,cl,na _ (by simp),by simp,key (a+1) (.inr ⟨⟨a,ha,rfl⟩,fun b hb=>?_⟩)⟩
   have:=hmx ((b+1:Nat):Int) (List.mem_map.mpr ⟨b+1,List.mem_map.mpr ⟨b,hb,rfl⟩,rfl⟩)
   omega
end
section
variable {P:Program} {w:World} {K:PySem.W.Frag} {mg:Str→Option Value} {base:Heap}
theorem sH:(["end","low"]:List Str).Nodup:=by decide+kernel
theorem kz2r:bD cM "other":=by decide+kernel
theorem kz2s:bD cM "one":=by decide+kernel
theorem W0:bD cM "thing":=by decide+kernel
theorem kz2u:bK cM "isinstance":=by decide+kernel
theorem kz2v:bK cM "Piece":=by decide+kernel
theorem kz2w:bD jT "one":=by decide+kernel
theorem kz2x:bD jT "other":=by decide+kernel
theorem kz2y:bK gH "len":=by decide+kernel
theorem kz2z:bD gH "row":=by decide+kernel
theorem kz30:bK gH "MOST_SIGNS":=by decide+kernel
theorem kz31:bK bh "laid":=by decide+kernel
theorem W2:bD bh "other":=by decide+kernel
theorem W4:bD bh "one":=by decide+kernel
theorem W5:bD bh "lower":=by decide+kernel
theorem kz35:bK bh "list":=by decide+kernel
theorem kz36:bK bh "range":=by decide+kernel
theorem Oc:SX bh "low":=by decide+kernel
theorem Od:bD bh "far":=by decide+kernel
theorem W6:bD bh "high":=by decide+kernel
theorem kz3a:bK bh "straight":=by decide+kernel
theorem W7:bD bh "upper":=by decide+kernel
theorem W8:bK bh "len":=by decide+kernel
theorem pcT (T:Txt K mg) {y:Str} (hy:y∈Ks):ITxt K mg y∧Sub K mg y "Piece" true:=by
 unfold Ks at hy
 simp only [List.mem_cons,List.mem_nil_iff,or_false] at hy
 rcases hy with rfl | rfl | rfl | rfl
 ·exact ⟨T.t_Blank,T.u_Blank_Piece⟩
 ·exact ⟨T.t_One,T.u_One_Piece⟩
 ·exact ⟨T.t_Over,T.u_Over_Piece⟩
 ·exact ⟨T.t_Beside,T.u_Beside_Piece⟩
def IsP (mg:Str→Option Value) (H:Hp) (v:V):Prop:=∃ x y s t k L ps h,v= .ref x∧Pc mg H x y s t k L ps h
theorem Oe (T:Txt K mg) {H:Hp} {v:V} {Q:VK} (h:IsP mg H v) (q:Q (.bl true) H):Cv K [v,.ref (aU mg "Piece")] H Q:=by
 obtain ⟨x,y,s,t,k,L,ps,n,rfl,hy,dx,al,ap,hx,_,_⟩:=h
 exact R7 ((pcT T hy).1.ty (T.os_Piece y hy) hx) rfl (pcT T hy).2.one q
def Fz (mg:Str→Option Value):Sp:=fun vs H Q _=>∃ u v,vs=[u,v]∧IsP mg H u∧IsP mg H v∧∀ H',Same H H'→Q .non H'
theorem IsP.same {H H':Hp} {v:V} (h:IsP mg H v) (s:Same H H'):IsP mg H' v:=by
 obtain ⟨x,y,a,b,c,L,ps,n,rfl,h⟩:=h
 exact ⟨x,y,a,b,c,L,ps,n,rfl,h.same s⟩
theorem nR:aD ["one","other","thing"] ["one","other"] (aq cM):=⟨rfl,rfl,rfl,by decide+kernel,rfl,by decide+kernel,by decide+kernel⟩
theorem fV (T:Txt K mg):Has P w K mg base 3 "need_pieces" ["one","other"] (Fz mg):=by
 refine fj T.d_need_pieces nR (fun _ _ _ _ _ _ us hl=>L2.oO (fun _ _=>rfl) us hl) ?_ fun f cdv A outer s H vs Q E hr h=>?_
 ·rintro vs H Q E ⟨u,v,rfl,_⟩;rfl
 obtain ⟨u,v,rfl,hu1,hv1,q⟩:=h
 have hu:=hr.units0
 have hu64:=hr.units
 refine ⟨_,(aA (jt PassesOwn.never rfl (jr (K:=K) rfl (HR (aa (ao 0 kz2s) (aa (ao 1 kz2r) ak)))) (b8 (i:=2) nR.nd rfl (Or.inl W0) rfl) (aA (cz (lA (j9 (aH (vB (K:=K) rfl) (aV kz2u) T.b_isinstance b7 (aa (ao 2 W0) (aa (V8 (aV kz2v) T.o_Piece.at_ (by decide+kernel)) ak)) (by decide+kernel) (by decide+kernel)))) (aA jP) bI)))),?_⟩
 walk_at "sts"
 refine fJ rfl fun t H1 nt S1 ht=>?_
 walk_at "sts"
 refine .inr (.inl ⟨t,rfl,⟨_,SqT.of ht⟩,?_⟩)
 refine By (xs:=[u,v]) (fun i σ G=>Same H1 G∧∃ x2,σ=[some u,some v,x2]) ⟨Same.refl H1,_,rfl⟩ (fun i σ G _ h=>SqT.of (h.1 _ _ ht)) ?_ ?_
 ·rintro i w σ G hw ⟨s,x2,rfl⟩
  have hP:IsP mg G w:=by
   have:=List.mem_of_getElem? hw
   simp only [List.mem_cons,List.mem_nil_iff,or_false] at this
   rcases this with rfl | rfl
   ·exact hu1.same (S1.trans s)
   ·exact hv1.same (S1.trans s)
  walk_at "sts"
  refine Oe T hP ?_
  walk_at "sts"
  exact ⟨s,_,rfl⟩
 ·rintro σ G ⟨s,x2,rfl⟩
  exact q G (S1.trans s)
def Bk:Sp:=fun vs H Q _=>∃ z:Str,vs=[.str z,.str z]∧Q .non H
theorem xr:aD ["one","other"] ["one","other"] (aq jT):=⟨rfl,rfl,rfl,by decide+kernel,rfl,by decide+kernel,by decide+kernel⟩
theorem ji (T:Txt K mg):Has P w K mg base 3 "need_same" ["one","other"] Bk:=by
 refine fj T.d_need_same xr (fun _ _ _ _ _ _ us hl=>L2.oO (fun _ _=>rfl) us hl) ?_ fun f cdv A outer s H vs Q E hr h=>?_
 ·rintro vs H Q E ⟨z,rfl,_⟩;rfl
 obtain ⟨z,rfl,q⟩:=h
 have hu:=hr.units0
 have hu64:=hr.units
 refine ⟨_,(aA (cz (bx (wD (K:=K) rfl hu64) (ao 0 kz2w) (ao 1 kz2x) (by first | exact aW _ | with_unfolding_all rfl)) (aA jP) bI)),?_⟩
 walk_at "sts"
 rw [decide_eq_true (rfl:V.str z=V.str z)]
 walk_at "sts"
 exact q
def zr:Sp:=fun vs H Q _=>∃ z:Str,vs=[.str z]∧z.length≤48∧Q .non H
theorem uM:aD ["row"] ["row"] (aq gH):=⟨rfl,rfl,rfl,by decide+kernel,rfl,by decide+kernel,by decide+kernel⟩
theorem gJ (T:Txt K mg):Has P w K mg base 3 "need_short" ["row"] zr:=by
 refine fj T.d_need_short uM (fun _ _ _ _ _ _ us hl=>L2.j6 (fun _=>rfl) us hl) ?_ fun f cdv A outer s H vs Q E hr h=>?_
 ·rintro vs H Q E ⟨z,rfl,_⟩;rfl
 obtain ⟨z,rfl,hz,q⟩:=h
 have hu:=hr.units0
 have hu64:=hr.units
 refine ⟨_,(aA (cz (bx rz (aH (aC (K:=K) rfl) (aV kz2y) T.b_len bc (aa (ao 0 kz2z) ak) (by decide+kernel) (by decide+kernel)) (wz (aV kz30) T.c_MOST_SIGNS (by decide+kernel)) (by first | exact aW _ | with_unfolding_all rfl)) (aA jP) bI)),?_⟩
 walk_at "sts"
 refine cu (Nat.le_trans hz (by decide)) ?_
 walk_at "sts"
 rw [decide_eq_false (show ¬ (48:Int) < (z.length:Int) by omega)]
 walk_at "sts"
 exact q
theorem xx (a b:List Nat):(nI a).map V.int ++ (nI b).map V.int=(nI (a ++ b)).map V.int:=by unfold nI;rw [List.map_append,List.map_append]
theorem jj {m far:Nat} {e:Nat→Nat→Bool}:((nI (LN m far e)).map V.int).length=m+far:=by rw [bT,gR]
theorem Dh {k:Nat} {G:List Nat} (hG:Prm G) (hk:k+G.length≤96):Prm (List.range k ++ G.map (k+ ·)):=by
 have hl:(List.range k ++ G.map (k+ ·)).length=k+G.length:=by simp
 refine ⟨by omega,?_⟩
 rw [hl,List.range_add]
 exact List.Perm.append_left _ (hG.pm.map _)
theorem zu {r n:Nat} {G:List Nat} (hG:Prm G) (hn:G.length=n) (hk:n+r≤96):Prm (G ++ (List.range r).map (n+ ·)):=by
 subst hn
 have hl:(G ++ (List.range r).map (G.length+ ·)).length=G.length+r:=by simp
 refine ⟨by omega,?_⟩
 rw [hl,List.range_add]
 exact hG.pm.append_right _
theorem zx (lo:Int) (k n:Nat) (e:lo=(k:Int)):((List.range n).map fun i:Nat=>V.int (lo+(i:Int)*1))=(nI ((List.range n).map (k+ ·))).map V.int:=by
 subst e
 unfold nI
 rw [List.map_map,List.map_map]
 refine List.map_congr_left fun x _=>?_
 show V.int ((k:Int)+(x:Int)*1)=V.int ((k+x:Nat):Int)
 congr 1;omega
def Og (K:PySem.W.Frag):Sp:=fun vs H Q _=>∃ (u l:Addr) (mu ml far:Nat) (e:Nat→Nat→Bool),vs=[.ref u,.ref l,.int far]∧mu+ml+far≤96∧H u=some (.lst ((nI (LN mu far e)).map V.int))∧H l=some (.lst ((nI (LN ml far fun i j=>e (mu+i) j)).map V.int))∧
 ∀ q H',H q=none→Same H H'→H' q=some (.lst ((nI (LN (mu+ml) far e)).map V.int))→Q (.ref q) H'
theorem ie:aD ["upper","lower","far","high","low","one","other"] ["upper","lower","far"] (aq bh):=⟨rfl,rfl,rfl,by decide+kernel,rfl,by decide+kernel,by decide+kernel⟩
theorem mW (T:Txt K mg):Has P w K mg base 8 "lines_over" ["upper","lower","far"] (Og K):=by
 have fP:=fP (P:=P) (w:=w) (base:=base) T
 have qZ:=qZ (P:=P) (w:=w) (base:=base) T
 refine fj T.d_lines_over ie (fun _ _ _ _ _ _ us hl=>L2.tE (fun _ _ _=>rfl) us hl) ?_ fun f cdv A outer s H vs Q E hr h=>?_
 ·rintro vs H Q E ⟨u,l,mu,ml,far,e,rfl,_⟩;rfl
 obtain ⟨u,l,mu,ml,far,e,rfl,hn,hu1,hl,q⟩:=h
 have hu:=hr.units0
 have hu64:=hr.units
 refine ⟨_,(az (aM (i:=3) ie.nd rfl (Or.inl W6) (bj jU (aH (aC (K:=K) rfl) (aV W8) T.b_len bc (aa (ao 0 W7) ak) (by decide+kernel) (by decide+kernel)) (ao 2 Od)) rfl) (az (aM (i:=4) ie.nd rfl (Or.inr Oc) (bj jU (aH (aC (K:=K) rfl) (aV W8) T.b_len bc (aa (ao 1 W5) ak) (by decide+kernel) (by decide+kernel)) (ao 2 Od)) rfl) (az (aM (i:=5) ie.nd rfl (Or.inl W4) (bj aP (aF fP (hr.mono (by decide)) (aV kz3a) (aa (nq 4 Oc) ak) (by decide+kernel)) (mH (sub:=[none,some 4]) (gU (N:=["upper","lower","far","high","low","one","other"]) (sc:=aq bh) (N':=["end","low"]) (by decide+kernel)) rfl rfl rfl (jr (K:=K) rfl (ao 0 W7)) (fun C s₀ H₀ ex=>(uG 0 (by decide+kernel) sH)) (fun C s₀ H₀ ex=>jY) (fun C s₀ H₀ ex=>(bj aP (rF 1 (by decide+kernel)) (nG 0 (by decide+kernel)))))) rfl) (az (aM (i:=6) ie.nd rfl (Or.inl W2) (bj aP (ao 1 W5) (uh rfl (aV kz35) T.b_list (aV kz36) T.b_range (aa (bj aP (nq 4 Oc) (ao 2 Od)) (aa (bj aP (bj aP (nq 4 Oc) (ao 2 Od)) (ao 3 W6)) ak)))) rfl) (aA (aN (aF qZ (hr.mono (by decide)) (aV kz31) (aa (ao 5 W4) (aa (ao 6 W2) ak)) (by decide+kernel)))))))),?_⟩
 walk_at "sts"
 have hz:20000≤sizeLine:=by decide
 refine fX (SqL.of hu1) ?_
 walk_at "sts"
 rw [jj]
 walk_at "sts"
 refine fX (SqL.of hl) ?_
 walk_at "sts"
 rw [jj,show ((mu+far:Nat):Int) - (far:Int)=(mu:Int) by omega,show ((ml+far:Nat):Int) - (far:Int)=(ml:Int) by omega]
 walk_at "sts"
 refine ⟨ml,rfl,by omega,fun a H1 na S1 ha=>?_⟩
 walk_at "sts"
 refine .inl ⟨u,rfl,⟨_,SqL.of (S1 _ _ hu1)⟩,?_⟩
 refine mL (xs:=(nI (LN mu far e)).map V.int) (fun i zs G=>G=H1∧zs=(nI (((LN mu far e).take i).map (ml+ ·))).map V.int) (by rw [jj];omega) ⟨rfl,rfl⟩ ?_ ?_ ?_ ?_
 ·rintro i zs G ⟨_,rfl⟩
  rw [bT];simp;omega
 ·rintro i zs G ⟨rfl,_⟩
  exact SqL.of (S1 _ _ hu1)
 ·rintro i zs G v hv ⟨rfl,rfl⟩
  obtain ⟨a',ea,rfl⟩:=za hv
  walk_at "sts"
  refine ⟨KeepSt.set rfl,?_⟩
  walk_at "sts"
  refine ⟨rfl,?_⟩
  rw [List.take_add_one,ea,List.map_append,show ((ml:Int)+(a':Int))=((ml+a':Nat):Int) by omega]
  unfold nI
  rw [List.map_append,List.map_append]
  rfl
 rintro zs G D H2 ⟨rfl,rfl⟩ nD S2 hD
 rw [jj,← gR mu far e,List.take_length] at hD
 try walk_at "sts"
 refine wj (S2 _ _ ha) hD (by rw [bT,bT];simp [gR];omega) fun o1 no1=>?_
 walk_at "sts"
 rw [xx]
 have S3:=(Same.refl H2).upd no1 (o:=.lst ((nI (List.range ml ++ (LN mu far e).map (ml+ ·))).map V.int))
 have ho1:=aj (H:=H2) (a:=o1) (o:=.lst ((nI (List.range ml ++ (LN mu far e).map (ml+ ·))).map V.int))
 generalize upd H2 o1 (.lst ((nI (List.range ml ++ (LN mu far e).map (ml+ ·))).map V.int))=H3 at S3 ho1 ⊢
 have U3:=S1.trans (S2.trans S3)
 walk_at "sts"
 refine CP (n:=mu) (by omega) (by omega) (by omega) (by omega) fun r nr=>?_
 walk_at "sts"
 rw [zx _ (ml+far) mu (by omega)] at ⊢
 have S4:=(Same.refl H3).upd nr (o:=.lst ((nI ((List.range mu).map (ml+far+ ·))).map V.int))
 have hr4:=aj (H:=H3) (a:=r) (o:=.lst ((nI ((List.range mu).map (ml+far+ ·))).map V.int))
 generalize upd H3 r (.lst ((nI ((List.range mu).map (ml+far+ ·))).map V.int))=H4 at S4 hr4 ⊢
 walk_at "sts"
 refine wj (S4 _ _ (U3 _ _ hl)) hr4 (by rw [bT,bT];simp [gR];omega) fun o2 no2=>?_
 walk_at "sts"
 rw [xx]
 have S5:=(Same.refl H4).upd no2 (o:=.lst ((nI (LN ml far (fun i j=>e (mu+i) j) ++ (List.range mu).map (ml+far+ ·))).map V.int))
 have ho2:=aj (H:=H4) (a:=o2) (o:=.lst ((nI (LN ml far (fun i j=>e (mu+i) j) ++ (List.range mu).map (ml+far+ ·))).map V.int))
 generalize upd H4 o2 (.lst ((nI (LN ml far (fun i j=>e (mu+i) j) ++ (List.range mu).map (ml+far+ ·))).map V.int))=H5 at S5 ho2 ⊢
 have U5:=U3.trans (S4.trans S5)
 walk_at "sts"
 refine ⟨o1,o2,_,_,mu+ml+far,rfl,(S4.trans S5) _ _ ho1,ho2,⟨Dh (wZ (by omega)) (by rw [gR];omega),zu (wZ (by omega)) (gR _ _ _) (by omega),by simp [gR];omega,by simp [gR];omega⟩,fun r' H6 nr' S6 hr'=>?_⟩
 rw [Jq hn] at hr'
 exact q r' H6 (Same.back U5 nr') (U5.trans S6) hr'
end
section
variable {P:Program} {w:World} {K:PySem.W.Frag} {mg:Str→Option Value} {base:Heap}
theorem qp:(["end","near"]:List Str).Nodup:=by decide+kernel
theorem kz3d:bK aQ "laid":=by decide+kernel
theorem W9:bD aQ "other":=by decide+kernel
theorem Xa:bD aQ "one":=by decide+kernel
theorem kz3g:bK aQ "straight":=by decide+kernel
theorem Oh:SX aQ "near":=by decide+kernel
theorem Xb:bD aQ "right":=by decide+kernel
theorem Xc:bD aQ "left":=by decide+kernel
theorem kz3k:bK aQ "list":=by decide+kernel
theorem kz3l:bK aQ "range":=by decide+kernel
theorem Oi:bD aQ "many":=by decide+kernel
theorem Xd:bD aQ "far":=by decide+kernel
theorem Xe:bK aQ "len":=by decide+kernel
def FJ (K:PySem.W.Frag):Sp:=fun vs H Q _=>∃ (l r:Addr) (m fl fr:Nat) (e:Nat→Nat→Bool),vs=[.ref l,.ref r,.int m]∧m+(fl+fr)≤96∧H l=some (.lst ((nI (LN m fl e)).map V.int))∧H r=some (.lst ((nI (LN m fr fun i j=>e i (fl+j))).map V.int))∧
 ∀ q H',H q=none→Same H H'→H' q=some (.lst ((nI (LN m (fl+fr) e)).map V.int))→Q (.ref q) H'
theorem fU:aD ["left","right","many","near","far","one","other"] ["left","right","many"] (aq aQ):=⟨rfl,rfl,rfl,by decide+kernel,rfl,by decide+kernel,by decide+kernel⟩
theorem kO (T:Txt K mg):Has P w K mg base 8 "lines_beside" ["left","right","many"] (FJ K):=by
 have fP:=fP (P:=P) (w:=w) (base:=base) T
 have qZ:=qZ (P:=P) (w:=w) (base:=base) T
 refine fj T.d_lines_beside fU (fun _ _ _ _ _ _ us hl=>L2.tE (fun _ _ _=>rfl) us hl) ?_ fun f cdv A outer s H vs Q E hr h=>?_
 ·rintro vs H Q E ⟨l,r,m,fl,fr,e,rfl,_⟩;rfl
 obtain ⟨l,r,m,fl,fr,e,rfl,hn,hl,hr1,q⟩:=h
 have hu:=hr.units0
 have hu64:=hr.units
 refine ⟨_,(az (aM (i:=3) fU.nd rfl (Or.inr Oh) (bj jU (aH (aC (K:=K) rfl) (aV Xe) T.b_len bc (aa (ao 0 Xc) ak) (by decide+kernel) (by decide+kernel)) (ao 2 Oi)) rfl) (az (aM (i:=4) fU.nd rfl (Or.inl Xd) (bj jU (aH (aC (K:=K) rfl) (aV Xe) T.b_len bc (aa (ao 1 Xb) ak) (by decide+kernel) (by decide+kernel)) (ao 2 Oi)) rfl) (az (aM (i:=5) fU.nd rfl (Or.inl Xa) (bj aP (ao 0 Xc) (uh rfl (aV kz3k) T.b_list (aV kz3l) T.b_range (aa (bj aP (ao 2 Oi) (nq 3 Oh)) (aa (bj aP (bj aP (ao 2 Oi) (nq 3 Oh)) (ao 4 Xd)) ak)))) rfl) (az (aM (i:=6) fU.nd rfl (Or.inl W9) (bj aP (aF fP (hr.mono (by decide)) (aV kz3g) (aa (nq 3 Oh) ak) (by decide+kernel)) (mH (sub:=[none,some 3]) (gU (N:=["left","right","many","near","far","one","other"]) (sc:=aq aQ) (N':=["end","near"]) (by decide+kernel)) rfl rfl rfl (jr (K:=K) rfl (ao 1 Xb)) (fun C s₀ H₀ ex=>(uG 0 (by decide+kernel) qp)) (fun C s₀ H₀ ex=>jY) (fun C s₀ H₀ ex=>(bj aP (rF 1 (by decide+kernel)) (nG 0 (by decide+kernel)))))) rfl) (aA (aN (aF qZ (hr.mono (by decide)) (aV kz3d) (aa (ao 5 Xa) (aa (ao 6 W9) ak)) (by decide+kernel)))))))),?_⟩
 walk_at "sts"
 have hz:20000≤sizeLine:=by decide
 refine fX (SqL.of hl) ?_
 walk_at "sts"
 rw [jj]
 walk_at "sts"
 refine fX (SqL.of hr1) ?_
 walk_at "sts"
 rw [jj,show ((m+fl:Nat):Int) - (m:Int)=(fl:Int) by omega,show ((m+fr:Nat):Int) - (m:Int)=(fr:Int) by omega]
 walk_at "sts"
 refine CP (n:=fr) (by omega) (by omega) (by omega) (by omega) fun p np=>?_
 walk_at "sts"
 rw [zx _ (m+fl) fr (by omega)]
 have S1:=(Same.refl H).upd np (o:=.lst ((nI ((List.range fr).map (m+fl+ ·))).map V.int))
 have hp1:=aj (H:=H) (a:=p) (o:=.lst ((nI ((List.range fr).map (m+fl+ ·))).map V.int))
 generalize upd H p (.lst ((nI ((List.range fr).map (m+fl+ ·))).map V.int))=H1 at S1 hp1 ⊢
 walk_at "sts"
 refine wj (S1 _ _ hl) hp1 (by rw [bT,bT];simp [gR];omega) fun o1 no1=>?_
 walk_at "sts"
 rw [xx]
 have S2:=(Same.refl H1).upd no1 (o:=.lst ((nI (LN m fl e ++ (List.range fr).map (m+fl+ ·))).map V.int))
 have ho1:=aj (H:=H1) (a:=o1) (o:=.lst ((nI (LN m fl e ++ (List.range fr).map (m+fl+ ·))).map V.int))
 generalize upd H1 o1 (.lst ((nI (LN m fl e ++ (List.range fr).map (m+fl+ ·))).map V.int))=H2 at S2 ho1 ⊢
 walk_at "sts"
 refine ⟨fl,rfl,by omega,fun a H3 na S3 ha=>?_⟩
 walk_at "sts"
 have U3:=S1.trans (S2.trans S3)
 refine .inl ⟨r,rfl,⟨_,SqL.of (U3 _ _ hr1)⟩,?_⟩
 refine mL (xs:=(nI (LN m fr fun i j=>e i (fl+j))).map V.int) (fun i zs G=>G=H3∧zs=(nI (((LN m fr fun i j=>e i (fl+j)).take i).map (fl+ ·))).map V.int) (by rw [jj];omega) ⟨rfl,rfl⟩ ?_ ?_ ?_ ?_
 ·rintro i zs G ⟨_,rfl⟩
  rw [bT];simp;omega
 ·rintro i zs G ⟨rfl,_⟩
  exact SqL.of (U3 _ _ hr1)
 ·rintro i zs G v hv ⟨rfl,rfl⟩
  obtain ⟨a',ea,rfl⟩:=za hv
  walk_at "sts"
  refine ⟨KeepSt.set rfl,?_⟩
  walk_at "sts"
  refine ⟨rfl,?_⟩
  rw [List.take_add_one,ea,List.map_append,show ((fl:Int)+(a':Int))=((fl+a':Nat):Int) by omega]
  unfold nI
  rw [List.map_append,List.map_append]
  rfl
 rintro zs G D H4 ⟨rfl,rfl⟩ nD S4 hD
 rw [jj,← gR m fr (fun i j=>e i (fl+j)),List.take_length] at hD
 try walk_at "sts"
 refine wj (S4 _ _ ha) hD (by rw [bT,bT];simp [gR];omega) fun o2 no2=>?_
 walk_at "sts"
 rw [xx]
 have S5:=(Same.refl H4).upd no2 (o:=.lst ((nI (List.range fl ++ (LN m fr fun i j=>e i (fl+j)).map (fl+ ·))).map V.int))
 have ho2:=aj (H:=H4) (a:=o2) (o:=.lst ((nI (List.range fl ++ (LN m fr fun i j=>e i (fl+j)).map (fl+ ·))).map V.int))
 generalize upd H4 o2 (.lst ((nI (List.range fl ++ (LN m fr fun i j=>e i (fl+j)).map (fl+ ·))).map V.int))=H5 at S5 ho2 ⊢
 have U5:=U3.trans (S4.trans S5)
 walk_at "sts"
 refine ⟨o1,o2,_,_,m+(fl+fr),rfl,(S3.trans (S4.trans S5)) _ _ ho1,ho2,⟨zu (wZ (by omega)) (gR _ _ _) (by omega),Dh (wZ (by omega)) (by rw [gR];omega),by simp [gR];omega,by simp [gR];omega⟩,fun r' H6 nr' S6 hr'=>?_⟩
 rw [Bd hn] at hr'
 exact q r' H6 (Same.back U5 nr') (U5.trans S6) hr'
end
section
variable {P:Program} {w:World} {K:PySem.W.Frag} {mg:Str→Option Value} {base:Heap}
theorem kz3p:bK bw "Piece":=by decide+kernel
theorem kz3q:bK bw "straight":=by decide+kernel
theorem Oj:bK bw "len":=by decide+kernel
theorem Jz:bD bw "side":=by decide+kernel
theorem JC:bD bw "top":=by decide+kernel
theorem kz3u:bD bw "self":=by decide+kernel
theorem kz3v:bK bw "NoPiece":=by decide+kernel
theorem kz3w:bK bw "need_rows":=by decide+kernel
theorem kz3x:bK cB "Piece":=by decide+kernel
theorem TX:bD cB "letter":=by decide+kernel
theorem TY:bD cB "sign":=by decide+kernel
theorem kz40:bD cB "self":=by decide+kernel
theorem Xf:bK cB "need_sign":=by decide+kernel
def zP (side top:Str) (i j:Nat):Bool:=decide (side.cps.getD i 0=top.cps.getD j 0)
theorem JD {m far:Nat} {e e':Nat→Nat→Bool} (h:∀ i j,i < m→j < far→e i j=e' i j):al m far e m=al m far e' m:=by
 unfold al rs
 refine gk fun i hi=>gk fun j hj=>?_
 rw [h i j (List.mem_range.mp hi) (List.mem_range.mp hj)]
theorem qt {m far:Nat} {e e':Nat→Nat→Bool} (h:∀ i j,i < m→j < far→e i j=e' i j):LN m far e=LN m far e':=by unfold LN;rw [JD h]
theorem JF {m far:Nat} {e:Nat→Nat→Bool} (h:m=0∨far=0) (hn:m+far≤96):LN m far e=List.range (m+far):=by
 have:al m far e m=[]:=by
  unfold al rs
  rcases h with rfl | rfl
  ·rfl
  ·simp
 unfold LN
 rw [this]
 exact Fo _ hn
theorem JK (e:Nat→Nat→Bool):LN 1 1 e=if e 0 0=true then [0,1] else [1,0]:=by
 have:al 1 1 e 1=if e 0 0=true then [] else [0]:=by
  unfold al rs
  simp
 unfold LN
 rw [this]
 cases e 0 0 <;> decide+kernel
structure PG (mg:Str→Option Value) (H:Hp) (x:Addr) (y side top kind:Str) (ps:List V) (h:Nat):Prop where
 pc:Pc mg H x y side top kind (LN side.cps.size top.cps.size (zP side top)) ps h
 rs:Row side
 rt:Row top
theorem PG.same {H H':Hp} {x:Addr} {y side top kind:Str} {ps:List V} {h:Nat} (p:PG mg H x y side top kind ps h) (s:Same H H'):PG mg H' x y side top kind ps h:=⟨p.pc.same s,p.rs,p.rt⟩
theorem sX {H:Hp}:PsH mg H [] []:=⟨rfl,fun i v h e=>by cases e⟩
theorem JL {h:Nat} (k:uz [] h):h=0:=by
 rcases k with ⟨_,e⟩ | ⟨⟨a,ha,_⟩,_⟩
 ·exact e
 ·cases ha
def Di (mg:Str→Option Value):Sp:=fun vs H Q _=>∃ (x dx:Addr) (side top:Str),vs=[.ref x,.str side,.str top]∧H x=some (.ins (aU mg "Blank") dx [])∧Row side∧Row top∧(side.cps.size=0∨top.cps.size=0)∧
 ∀ H',Chg x H H'→PG mg H' x "Blank" side top (Str.ofString "blank") [] 0→(∀ m o,H m=some o→m≠x→PG mg (Hx m H') x "Blank" side top (Str.ofString "blank") [] 0)→Q .non H'
theorem qu:aD ["self","side","top"] ["self","side","top"] (aq bw):=⟨rfl,rfl,rfl,by decide+kernel,rfl,by decide+kernel,by decide+kernel⟩
theorem aL (T:Txt K mg):yP P w K mg base 5 "Blank" "__init__" ["self","side","top"] (Di mg):=by
 have jh:=jh (P:=P) (w:=w) (base:=base) T
 have aY:=aY (P:=P) (w:=w) (base:=base) T
 have fP:=fP (P:=P) (w:=w) (base:=base) T
 refine M6 T.m_Blank___init__ qu (fun _ _ _ _ _ _ us hl=>L2.tE (fun _ _ _=>rfl) us hl) ?_ fun f cdv A outer s H vs Q E hr h=>?_
 ·rintro vs H Q E ⟨x,dx,side,top,rfl,_⟩;rfl
 obtain ⟨x,dx,side,top,rfl,hx,rs,rt,he,q⟩:=h
 have hu:=hr.units0
 have hu64:=hr.units
 refine ⟨_,(az (bF (aF jh (hr.mono (by decide)) (aV kz3w) (aa (ao 1 Jz) (aa (ao 2 JC) ak)) (by decide+kernel))) (az (cz (lY (wB (bx rz (aH (aC (K:=K) rfl) (aV Oj) T.b_len bc (aa (ao 1 Jz) ak) (by decide+kernel) (by decide+kernel)) aG (by first | exact aW _ | with_unfolding_all rfl)) (sU (bx rz (aH (aC (K:=K) rfl) (aV Oj) T.b_len bc (aa (ao 2 JC) ak) (by decide+kernel) (by decide+kernel)) aG (by first | exact aW _ | with_unfolding_all rfl))))) (aA (Iw (Be (P:=P) (w:=w) (base:=base) T) (hr.mono (by decide)) rfl (aV kz3v) bM (aa (HR (aa (ao 1 Jz) (aa (ao 2 JC) ak))) ak) (by decide+kernel))) bI) (aA (bF (wN aY (hr.mono (by decide)) (aV kz3p) bM (aa (ao 0 kz3u) (aa (ao 1 Jz) (aa (ao 2 JC) (aa iW (aa (aF fP (hr.mono (by decide)) (aV kz3q) (aa (bj aP (aH (aC (K:=K) rfl) (aV Oj) T.b_len bc (aa (ao 1 Jz) ak) (by decide+kernel) (by decide+kernel)) (aH (aC (K:=K) rfl) (aV Oj) T.b_len bc (aa (ao 2 JC) ak) (by decide+kernel) (by decide+kernel))) ak) (by decide+kernel)) (aa (iY ak) ak)))))) (by decide+kernel)))))),?_⟩
 walk_at "sts"
 have lz:side.length≤sizeLine:=Nat.le_trans rs.1 (by decide)
 have ly:top.length≤sizeLine:=Nat.le_trans rt.1 (by decide)
 have es:side.length=side.cps.size:=rfl
 have et:top.length=top.cps.size:=rfl
 have h1:=rs.1
 have h2:=rt.1
 refine ⟨side,top,rfl,rs,rt,fun H1 S1=>?_⟩
 walk_at "sts"
 refine cu lz ?_
 walk_at "sts"
 have fin:∀ (l p:Addr) (H2:Hp) (Q':VK),(∀ G,Q .non G→Q' .non G)→Same H1 H2→H2 l=some (.lst ((nI (List.range (side.cps.size+top.cps.size))).map V.int))→H2 p=some (.lst [])→xq mg [.ref x,.str side,.str top,.str (Str.ofString "blank"),.ref l,.ref p] H2 Q' E:=fun l p H2 Q' hQ S2 hl hp=>by
  have U:=S1.trans S2
  refine ⟨x,dx,l,p,"Blank",side,top,_,_,[],[],rfl,by unfold Ks;simp,U _ _ hx,hl,hp,by simp,sX,fun h H3 hh C3 P3 N3=>?_⟩
  obtain rfl:=JL hh
  rw [← JF (e:=zP side top) he (by omega)] at P3 N3
  exact hQ _ (q H3 (fun b o n e=>C3 b o n (U _ _ e)) ⟨P3,rs,rt⟩ fun m o hm nm=>⟨N3 m o (U _ _ hm) nm,rs,rt⟩)
 by_cases h0:side.cps.size=0
 ·rw [decide_eq_false (show ¬ (0:Int) < (side.length:Int) by omega)]
  walk_at "sts"
  refine cu lz ?_
  walk_at "sts"
  refine cu ly ?_
  walk_at "sts"
  refine ⟨side.cps.size+top.cps.size,by rw [es,et];congr 2,by omega,fun l H2 nl S2 hl=>?_⟩
  walk_at "sts"
  refine fJ rfl fun p H3 np S3 hp=>?_
  walk_at "sts"
  exact fin l p H3 _ (fun G z=>z) (S2.trans S3) (S3 _ _ hl) hp
 ·rw [decide_eq_true (show (0:Int) < (side.length:Int) by omega)]
  walk_at "sts"
  refine cu ly ?_
  walk_at "sts"
  rw [decide_eq_false (show ¬ (0:Int) < (top.length:Int) by omega)]
  walk_at "sts"
  refine cu lz ?_
  walk_at "sts"
  refine cu ly ?_
  walk_at "sts"
  refine ⟨side.cps.size+top.cps.size,by rw [es,et];congr 2,by omega,fun l H2 nl S2 hl=>?_⟩
  walk_at "sts"
  refine fJ rfl fun p H3 np S3 hp=>?_
  walk_at "sts"
  exact fin l p H3 _ (fun G z=>z) (S2.trans S3) (S3 _ _ hl) hp
def Qu (mg:Str→Option Value):Sp:=fun vs H Q _=>∃ (x dx:Addr) (c d:Nat),vs=[.ref x,.str ⟨#[c]⟩,.str ⟨#[d]⟩]∧H x=some (.ins (aU mg "One") dx [])∧c∈GOOD∧d∈GOOD∧
 ∀ H',Chg x H H'→PG mg H' x "One" ⟨#[c]⟩ ⟨#[d]⟩ (Str.ofString "one") [] 0→(∀ m o,H m=some o→m≠x→PG mg (Hx m H') x "One" ⟨#[c]⟩ ⟨#[d]⟩ (Str.ofString "one") [] 0)→Q .non H'
theorem qw {c:Nat} (h:c∈GOOD):Row ⟨#[c]⟩:=⟨by rw [Ei];decide,fun d hd=>by simp at hd;rw [hd];exact h⟩
theorem JM (a b:Nat):decide (V.str ⟨#[a]⟩=V.str ⟨#[b]⟩)=decide (a=b):=by
 refine decide_eq_decide.mpr ⟨fun h=>?_,fun h=>by rw [h]⟩
 have:=Str.mk.inj (V.str.inj h)
 simpa using this
theorem sI:aD ["self","letter","sign"] ["self","letter","sign"] (aq cB):=⟨rfl,rfl,rfl,by decide+kernel,rfl,by decide+kernel,by decide+kernel⟩
theorem bO (T:Txt K mg):yP P w K mg base 4 "One" "__init__" ["self","letter","sign"] (Qu mg):=by
 have gD:=gD (P:=P) (w:=w) (base:=base) T
 have aY:=aY (P:=P) (w:=w) (base:=base) T
 refine M6 T.m_One___init__ sI (fun _ _ _ _ _ _ us hl=>L2.tE (fun _ _ _=>rfl) us hl) ?_ fun f cdv A outer s H vs Q E hr h=>?_
 ·rintro vs H Q E ⟨x,dx,c,d,rfl,_⟩;rfl
 obtain ⟨x,dx,c,d,rfl,hx,hc,hd,q⟩:=h
 have hu:=hr.units0
 have hu64:=hr.units
 refine ⟨_,(az (bF (aF gD (hr.mono (by decide)) (aV Xf) (aa (ao 1 TX) ak) (by decide+kernel))) (az (bF (aF gD (hr.mono (by decide)) (aV Xf) (aa (ao 2 TY) ak) (by decide+kernel))) (aA (bF (wN aY (hr.mono (by decide)) (aV kz3x) bM (aa (ao 0 kz40) (aa (ao 1 TX) (aa (ao 2 TY) (aa iW (aa (j_if (bx (jB (K:=K) rfl hu64) (ao 1 TX) (ao 2 TY) (by first | exact aW _ | with_unfolding_all rfl)) (iY (aa aG (aa aG ak))) (iY (aa aG (aa aG ak)))) (aa (iY ak) ak)))))) (by decide+kernel)))))),?_⟩
 walk_at "sts"
 refine ⟨c,rfl,hc,?_⟩
 walk_at "sts"
 refine ⟨d,rfl,hd,?_⟩
 walk_at "sts"
 have fin:∀ (l p:Addr) (H2:Hp) (Q':VK),(∀ G,Q .non G→Q' .non G)→Same H H2→H2 l=some (.lst ((nI (LN 1 1 (zP ⟨#[c]⟩ ⟨#[d]⟩))).map V.int))→H2 p=some (.lst [])→xq mg [.ref x,.str ⟨#[c]⟩,.str ⟨#[d]⟩,.str (Str.ofString "one"),.ref l,.ref p] H2 Q' E:=fun l p H2 Q' hQ U hl hp=>by
  refine ⟨x,dx,l,p,"One",_,_,_,_,[],[],rfl,by unfold Ks;simp,U _ _ hx,hl,hp,by simp,sX,fun h H3 hh C3 P3 N3=>?_⟩
  obtain rfl:=JL hh
  exact hQ _ (q H3 (fun b o n e=>C3 b o n (U _ _ e)) ⟨P3,qw hc,qw hd⟩ fun m o hm nm=>⟨N3 m o (U _ _ hm) nm,qw hc,qw hd⟩)
 rw [JM]
 have eE:zP ⟨#[c]⟩ ⟨#[d]⟩ 0 0=decide (c=d):=rfl
 by_cases h:c=d
 ·rw [decide_eq_true h]
  walk_at "sts"
  refine fJ rfl fun l H2 nl S2 hl=>?_
  walk_at "sts"
  refine fJ rfl fun p H3 np S3 hp=>?_
  walk_at "sts"
  refine fin l p H3 _ (fun G z=>z) (S2.trans S3) ?_ hp
  rw [JK,eE,decide_eq_true h,if_pos rfl]
  exact S3 _ _ hl
 ·rw [decide_eq_false h]
  walk_at "sts"
  refine fJ rfl fun l H2 nl S2 hl=>?_
  walk_at "sts"
  refine fJ rfl fun p H3 np S3 hp=>?_
  walk_at "sts"
  refine fin l p H3 _ (fun G z=>z) (S2.trans S3) ?_ hp
  rw [JK,eE,decide_eq_false h,if_neg (by decide)]
  exact S3 _ _ hl
end
section
variable {P:Program} {w:World} {K:PySem.W.Frag} {mg:Str→Option Value} {base:Heap}
theorem kz42:bK aR "Piece":=by decide+kernel
theorem JN:bD aR "lower":=by decide+kernel
theorem Bl:bD aR "upper":=by decide+kernel
theorem Xg:bD aR "lines":=by decide+kernel
theorem T5:bD aR "side":=by decide+kernel
theorem kz47:bD aR "self":=by decide+kernel
theorem kz48:bK aR "lines_over":=by decide+kernel
theorem kz49:bK aR "len":=by decide+kernel
theorem kz4a:bK aR "need_short":=by decide+kernel
theorem kz4b:bK aR "need_same":=by decide+kernel
theorem kz4c:bK aR "need_pieces":=by decide+kernel
theorem gK (a b:Str):(a ++ b).cps.toList=a.cps.toList ++ b.cps.toList:=by
 show (a.cps ++ b.cps).toList=_
 simp
theorem nU (a b:Str):(a ++ b).cps.size=a.cps.size+b.cps.size:=by
 rw [← Array.length_toList,gK,List.length_append,Array.length_toList,Array.length_toList]
theorem getD_list (z:Str) (i:Nat):z.cps.getD i 0=z.cps.toList.getD i 0:=by
 rw [List.getD_eq_getElem?_getD,Array.getElem?_toList,Array.getD_eq_getD_getElem?]
theorem JP {a b:Str} {i:Nat} (h:i < a.cps.size):(a ++ b).cps.getD i 0=a.cps.getD i 0:=by
 rw [getD_list,getD_list,gK,List.getD_eq_getElem?_getD,List.getElem?_append_left (by simpa using h),List.getD_eq_getElem?_getD]
theorem JQ {a b:Str} {i:Nat}:(a ++ b).cps.getD (a.cps.size+i) 0=b.cps.getD i 0:=by
 rw [getD_list,getD_list,gK,List.getD_eq_getElem?_getD,List.getElem?_append_right (by simp),Array.length_toList,Nat.add_sub_cancel_left,List.getD_eq_getElem?_getD]
theorem sY {a b:Str} (ha:Row a) (hb:Row b) (h:(a ++ b).length≤48):Row (a ++ b):=⟨h,fun c hc=>by
 rw [gK] at hc
 exact (List.mem_append.mp hc).elim (ha.2 c) (hb.2 c)⟩
theorem PG.isP {H:Hp} {x:Addr} {y side top kind:Str} {ps:List V} {h:Nat} (p:PG mg H x y side top kind ps h):IsP mg H (.ref x):=⟨x,y,side,top,kind,_,ps,h,rfl,p.pc⟩
theorem xF {H:Hp} {u l:Addr} {y s t k y' s' t' k':Str} {ps ps':List V} {h h':Nat} (p:PG mg H u y s t k ps h) (p':PG mg H l y' s' t' k' ps' h'):PsH mg H [.ref u,.ref l] [h,h']:=⟨rfl,fun i v n e1 e2=>by
 match i,e1,e2 with
 | 0,e1,e2=>cases e1;cases e2;exact ⟨u,y,s,t,k,_,ps,rfl,p.pc⟩
 | 1,e1,e2=>cases e1;cases e2;exact ⟨l,y',s',t',k',_,ps',rfl,p'.pc⟩
 | i+2,e1,e2=>cases e1⟩
def Dj (mg:Str→Option Value):Sp:=fun vs H Q _=>∃ (x dx u l:Addr) (yu yl su sl top ku kl:Str) (pu pl:List V) (hu hl:Nat),vs=[.ref x,.ref u,.ref l]∧H x=some (.ins (aU mg "Over") dx [])∧PG mg H u yu su top ku pu hu∧PG mg H l yl sl top kl pl hl∧(su ++ sl).length≤48∧
 ∀ h H',uz [hu,hl] h→Chg x H H'→PG mg H' x "Over" (su ++ sl) top (Str.ofString "over") [.ref u,.ref l] h→(∀ m o,H m=some o→m≠x→PG mg (Hx m H') x "Over" (su ++ sl) top (Str.ofString "over") [.ref u,.ref l] h)→Q .non H'
theorem jG:aD ["self","upper","lower","side","lines"] ["self","upper","lower"] (aq aR):=⟨rfl,rfl,rfl,by decide+kernel,rfl,by decide+kernel,by decide+kernel⟩
theorem bH (T:Txt K mg):yP P w K mg base 9 "Over" "__init__" ["self","upper","lower"] (Dj mg):=by
 have fV:=fV (P:=P) (w:=w) (base:=base) T
 have ji:=ji (P:=P) (w:=w) (base:=base) T
 have bA:=bA (P:=P) (w:=w) (base:=base) T
 have aZ:=aZ (P:=P) (w:=w) (base:=base) T
 have gJ:=gJ (P:=P) (w:=w) (base:=base) T
 have mW:=mW (P:=P) (w:=w) (base:=base) T
 have bN:=bN (P:=P) (w:=w) (base:=base) T
 have aY:=aY (P:=P) (w:=w) (base:=base) T
 refine M6 T.m_Over___init__ jG (fun _ _ _ _ _ _ us hl=>L2.tE (fun _ _ _=>rfl) us hl) ?_ fun f cdv A outer s H vs Q E hr h=>?_
 ·rintro vs H Q E ⟨x,dx,u,l,yu,yl,su,sl,top,ku,kl,pu,pl,nu,nl,rfl,_⟩;rfl
 obtain ⟨x,dx,u,l,yu,yl,su,sl,top,ku,kl,pu,pl,nu,nl,rfl,hx,gu,gl,hlen,q⟩:=h
 have hu:=hr.units0
 have hu64:=hr.units
 refine ⟨_,(az (bF (aF fV (hr.mono (by decide)) (aV kz4c) (aa (ao 1 Bl) (aa (ao 2 JN) ak)) (by decide+kernel))) (az (bF (aF ji (hr.mono (by decide)) (aV kz4b) (aa (bG (mg:=mg) rfl (ao 1 Bl) T.os_Piece bA (hr.mono (by decide)) bM) (aa (bG (mg:=mg) rfl (ao 2 JN) T.os_Piece bA (hr.mono (by decide)) bM) ak)) (by decide+kernel))) (az (aM (i:=3) jG.nd rfl (Or.inl T5) (bj aP (bG (mg:=mg) rfl (ao 1 Bl) T.os_Piece aZ (hr.mono (by decide)) bM) (bG (mg:=mg) rfl (ao 2 JN) T.os_Piece aZ (hr.mono (by decide)) bM)) rfl) (az (bF (aF gJ (hr.mono (by decide)) (aV kz4a) (aa (ao 3 T5) ak) (by decide+kernel))) (az (aM (i:=4) jG.nd rfl (Or.inl Xg) (aF mW (hr.mono (by decide)) (aV kz48) (aa (bG (mg:=mg) rfl (ao 1 Bl) T.os_Piece bN (hr.mono (by decide)) bM) (aa (bG (mg:=mg) rfl (ao 2 JN) T.os_Piece bN (hr.mono (by decide)) bM) (aa (aH (aC (K:=K) rfl) (aV kz49) T.b_len bc (aa (bG (mg:=mg) rfl (ao 1 Bl) T.os_Piece bA (hr.mono (by decide)) bM) ak) (by decide+kernel) (by decide+kernel)) ak))) (by decide+kernel)) rfl) (aA (bF (wN aY (hr.mono (by decide)) (aV kz42) bM (aa (ao 0 kz47) (aa (ao 3 T5) (aa (bG (mg:=mg) rfl (ao 1 Bl) T.os_Piece bA (hr.mono (by decide)) bM) (aa iW (aa (ao 4 Xg) (aa (iY (aa (ao 1 Bl) (aa (ao 2 JN) ak))) ak)))))) (by decide+kernel))))))))),?_⟩
 walk_at "sts"
 have hz:20000≤sizeLine:=by decide
 have h2:top.length≤48:=gu.rt.1
 have ly:top.length≤sizeLine:=by omega
 have et:top.length=top.cps.size:=rfl
 have es:(su ++ sl).length=(su ++ sl).cps.size:=rfl
 have ec:=nU su sl
 have el:(su ++ sl).length=su.length+sl.length:=nU su sl
 refine ⟨_,_,rfl,gu.isP,gl.isP,fun H1 S1=>?_⟩
 walk_at "sts"
 have gu1:=gu.same S1
 have gl1:=gl.same S1
 obtain ⟨hyu,du,au,bu,xu,_,_⟩:=id gu1.pc
 obtain ⟨hyl,dl,al',bl,xl,_,_⟩:=id gl1.pc
 refine ⟨u,yu,du,_,rfl,hyu,xu,rfl,?_⟩
 walk_at "sts"
 refine ⟨u,yu,_,_,_,_,_,_,rfl,gu1.pc,?_⟩
 walk_at "sts"
 refine ⟨l,yl,dl,_,rfl,hyl,xl,rfl,?_⟩
 walk_at "sts"
 refine ⟨l,yl,_,_,_,_,_,_,rfl,gl1.pc,?_⟩
 walk_at "sts"
 refine ⟨top,rfl,?_⟩
 walk_at "sts"
 refine ⟨u,yu,du,_,rfl,hyu,xu,rfl,?_⟩
 walk_at "sts"
 refine ⟨u,yu,_,_,_,_,_,_,rfl,gu1.pc,?_⟩
 walk_at "sts"
 refine ⟨l,yl,dl,_,rfl,hyl,xl,rfl,?_⟩
 walk_at "sts"
 refine ⟨l,yl,_,_,_,_,_,_,rfl,gl1.pc,?_⟩
 walk_at "sts"
 refine Ak (by omega) ?_
 walk_at "sts"
 refine ⟨su ++ sl,rfl,hlen,?_⟩
 walk_at "sts"
 refine ⟨u,yu,du,_,rfl,hyu,xu,rfl,?_⟩
 walk_at "sts"
 refine ⟨u,yu,_,_,_,_,_,_,rfl,gu1.pc,fun ru H2 nru S2 hru=>?_⟩
 walk_at "sts"
 refine ⟨l,yl,dl,_,rfl,hyl,S2 _ _ xl,rfl,?_⟩
 walk_at "sts"
 refine ⟨l,yl,_,_,_,_,_,_,rfl,gl1.pc.same S2,fun rl H3 nrl S3 hrl=>?_⟩
 walk_at "sts"
 have U3:=S2.trans S3
 refine ⟨u,yu,du,_,rfl,hyu,U3 _ _ xu,rfl,?_⟩
 walk_at "sts"
 refine ⟨u,yu,_,_,_,_,_,_,rfl,gu1.pc.same U3,?_⟩
 walk_at "sts"
 refine cu ly ?_
 walk_at "sts"
 refine ⟨ru,rl,su.cps.size,sl.cps.size,top.cps.size,zP (su ++ sl) top,rfl,by omega,?_,?_,fun rr H4 nrr S4 hrr=>?_⟩
 walk_at "sts"
 ·rw [qt (e':=zP su top) fun i j hi hj=>by unfold zP;rw [JP hi]]
  exact S3 _ _ hru
 ·rw [qt (e':=zP sl top) fun i j hi hj=>by unfold zP;rw [JQ]]
  exact hrl
 have U4:=U3.trans S4
 walk_at "sts"
 refine ⟨u,yu,du,_,rfl,hyu,U4 _ _ xu,rfl,?_⟩
 walk_at "sts"
 refine ⟨u,yu,_,_,_,_,_,_,rfl,gu1.pc.same U4,?_⟩
 walk_at "sts"
 refine fJ rfl fun pp H5 npp S5 hpp=>?_
 walk_at "sts"
 have U5:=S1.trans (U4.trans S5)
 refine ⟨x,dx,rr,pp,"Over",su ++ sl,top,_,_,_,[nu,nl],rfl,by unfold Ks;simp,U5 _ _ hx,S5 _ _ hrr,hpp,by simp,xF (gu.same U5) (gl.same U5),fun h H6 hh C6 P6 N6=>?_⟩
 rw [← ec] at P6 N6
 exact q h H6 hh (fun b o n e=>C6 b o n (U5 _ _ e)) ⟨P6,sY gu.rs gl.rs hlen,gu.rt⟩ fun m o hm nm=>⟨N6 m o (U5 _ _ hm) nm,sY gu.rs gl.rs hlen,gu.rt⟩
end
section
variable {P:Program} {w:World} {K:PySem.W.Frag} {mg:Str→Option Value} {base:Heap}
theorem kz4d:bK aK "Piece":=by decide+kernel
theorem JR:bD aK "right":=by decide+kernel
theorem Bm:bD aK "left":=by decide+kernel
theorem Xh:bD aK "lines":=by decide+kernel
theorem T6:bD aK "top":=by decide+kernel
theorem kz4i:bD aK "self":=by decide+kernel
theorem kz4j:bK aK "lines_beside":=by decide+kernel
theorem kz4k:bK aK "len":=by decide+kernel
theorem kz4l:bK aK "need_short":=by decide+kernel
theorem kz4m:bK aK "need_same":=by decide+kernel
theorem kz4n:bK aK "need_pieces":=by decide+kernel
def vO (mg:Str→Option Value):Sp:=fun vs H Q _=>∃ (x dx u l:Addr) (yu yl side tu tl ku kl:Str) (pu pl:List V) (hu hl:Nat),vs=[.ref x,.ref u,.ref l]∧H x=some (.ins (aU mg "Beside") dx [])∧PG mg H u yu side tu ku pu hu∧PG mg H l yl side tl kl pl hl∧(tu ++ tl).length≤48∧
 ∀ h H',uz [hu,hl] h→Chg x H H'→PG mg H' x "Beside" side (tu ++ tl) (Str.ofString "beside") [.ref u,.ref l] h→(∀ m o,H m=some o→m≠x→PG mg (Hx m H') x "Beside" side (tu ++ tl) (Str.ofString "beside") [.ref u,.ref l] h)→Q .non H'
theorem iz:aD ["self","left","right","top","lines"] ["self","left","right"] (aq aK):=⟨rfl,rfl,rfl,by decide+kernel,rfl,by decide+kernel,by decide+kernel⟩
theorem aO (T:Txt K mg):yP P w K mg base 9 "Beside" "__init__" ["self","left","right"] (vO mg):=by
 have fV:=fV (P:=P) (w:=w) (base:=base) T
 have ji:=ji (P:=P) (w:=w) (base:=base) T
 have aZ:=aZ (P:=P) (w:=w) (base:=base) T
 have bA:=bA (P:=P) (w:=w) (base:=base) T
 have gJ:=gJ (P:=P) (w:=w) (base:=base) T
 have kO:=kO (P:=P) (w:=w) (base:=base) T
 have bN:=bN (P:=P) (w:=w) (base:=base) T
 have aY:=aY (P:=P) (w:=w) (base:=base) T
 refine M6 T.m_Beside___init__ iz (fun _ _ _ _ _ _ us hl=>L2.tE (fun _ _ _=>rfl) us hl) ?_ fun f cdv A outer s H vs Q E hr h=>?_
 ·rintro vs H Q E ⟨x,dx,u,l,yu,yl,side,tu,tl,ku,kl,pu,pl,nu,nl,rfl,_⟩;rfl
 obtain ⟨x,dx,u,l,yu,yl,side,tu,tl,ku,kl,pu,pl,nu,nl,rfl,hx,gu,gl,hlen,q⟩:=h
 have hu:=hr.units0
 have hu64:=hr.units
 refine ⟨_,(az (bF (aF fV (hr.mono (by decide)) (aV kz4n) (aa (ao 1 Bm) (aa (ao 2 JR) ak)) (by decide+kernel))) (az (bF (aF ji (hr.mono (by decide)) (aV kz4m) (aa (bG (mg:=mg) rfl (ao 1 Bm) T.os_Piece aZ (hr.mono (by decide)) bM) (aa (bG (mg:=mg) rfl (ao 2 JR) T.os_Piece aZ (hr.mono (by decide)) bM) ak)) (by decide+kernel))) (az (aM (i:=3) iz.nd rfl (Or.inl T6) (bj aP (bG (mg:=mg) rfl (ao 1 Bm) T.os_Piece bA (hr.mono (by decide)) bM) (bG (mg:=mg) rfl (ao 2 JR) T.os_Piece bA (hr.mono (by decide)) bM)) rfl) (az (bF (aF gJ (hr.mono (by decide)) (aV kz4l) (aa (ao 3 T6) ak) (by decide+kernel))) (az (aM (i:=4) iz.nd rfl (Or.inl Xh) (aF kO (hr.mono (by decide)) (aV kz4j) (aa (bG (mg:=mg) rfl (ao 1 Bm) T.os_Piece bN (hr.mono (by decide)) bM) (aa (bG (mg:=mg) rfl (ao 2 JR) T.os_Piece bN (hr.mono (by decide)) bM) (aa (aH (aC (K:=K) rfl) (aV kz4k) T.b_len bc (aa (bG (mg:=mg) rfl (ao 1 Bm) T.os_Piece aZ (hr.mono (by decide)) bM) ak) (by decide+kernel) (by decide+kernel)) ak))) (by decide+kernel)) rfl) (aA (bF (wN aY (hr.mono (by decide)) (aV kz4d) bM (aa (ao 0 kz4i) (aa (bG (mg:=mg) rfl (ao 1 Bm) T.os_Piece aZ (hr.mono (by decide)) bM) (aa (ao 3 T6) (aa iW (aa (ao 4 Xh) (aa (iY (aa (ao 1 Bm) (aa (ao 2 JR) ak))) ak)))))) (by decide+kernel))))))))),?_⟩
 walk_at "sts"
 have hz:20000≤sizeLine:=by decide
 have h2:side.length≤48:=gu.rs.1
 have ly:side.length≤sizeLine:=by omega
 have et:side.length=side.cps.size:=rfl
 have es:(tu ++ tl).length=(tu ++ tl).cps.size:=rfl
 have ec:=nU tu tl
 have el:(tu ++ tl).length=tu.length+tl.length:=nU tu tl
 refine ⟨_,_,rfl,gu.isP,gl.isP,fun H1 S1=>?_⟩
 walk_at "sts"
 have gu1:=gu.same S1
 have gl1:=gl.same S1
 obtain ⟨hyu,du,au,bu,xu,_,_⟩:=id gu1.pc
 obtain ⟨hyl,dl,al',bl,xl,_,_⟩:=id gl1.pc
 refine ⟨u,yu,du,_,rfl,hyu,xu,rfl,?_⟩
 walk_at "sts"
 refine ⟨u,yu,_,_,_,_,_,_,rfl,gu1.pc,?_⟩
 walk_at "sts"
 refine ⟨l,yl,dl,_,rfl,hyl,xl,rfl,?_⟩
 walk_at "sts"
 refine ⟨l,yl,_,_,_,_,_,_,rfl,gl1.pc,?_⟩
 walk_at "sts"
 refine ⟨side,rfl,?_⟩
 walk_at "sts"
 refine ⟨u,yu,du,_,rfl,hyu,xu,rfl,?_⟩
 walk_at "sts"
 refine ⟨u,yu,_,_,_,_,_,_,rfl,gu1.pc,?_⟩
 walk_at "sts"
 refine ⟨l,yl,dl,_,rfl,hyl,xl,rfl,?_⟩
 walk_at "sts"
 refine ⟨l,yl,_,_,_,_,_,_,rfl,gl1.pc,?_⟩
 walk_at "sts"
 refine Ak (by omega) ?_
 walk_at "sts"
 refine ⟨tu ++ tl,rfl,hlen,?_⟩
 walk_at "sts"
 refine ⟨u,yu,du,_,rfl,hyu,xu,rfl,?_⟩
 walk_at "sts"
 refine ⟨u,yu,_,_,_,_,_,_,rfl,gu1.pc,fun ru H2 nru S2 hru=>?_⟩
 walk_at "sts"
 refine ⟨l,yl,dl,_,rfl,hyl,S2 _ _ xl,rfl,?_⟩
 walk_at "sts"
 refine ⟨l,yl,_,_,_,_,_,_,rfl,gl1.pc.same S2,fun rl H3 nrl S3 hrl=>?_⟩
 walk_at "sts"
 have U3:=S2.trans S3
 refine ⟨u,yu,du,_,rfl,hyu,U3 _ _ xu,rfl,?_⟩
 walk_at "sts"
 refine ⟨u,yu,_,_,_,_,_,_,rfl,gu1.pc.same U3,?_⟩
 walk_at "sts"
 refine cu ly ?_
 walk_at "sts"
 refine ⟨ru,rl,side.cps.size,tu.cps.size,tl.cps.size,zP side (tu ++ tl),rfl,by omega,?_,?_,fun rr H4 nrr S4 hrr=>?_⟩
 walk_at "sts"
 ·rw [qt (e':=zP side tu) fun i j hi hj=>by unfold zP;rw [JP hj]]
  exact S3 _ _ hru
 ·rw [qt (e':=zP side tl) fun i j hi hj=>by unfold zP;rw [JQ]]
  exact hrl
 have U4:=U3.trans S4
 walk_at "sts"
 refine ⟨u,yu,du,_,rfl,hyu,U4 _ _ xu,rfl,?_⟩
 walk_at "sts"
 refine ⟨u,yu,_,_,_,_,_,_,rfl,gu1.pc.same U4,?_⟩
 walk_at "sts"
 refine fJ rfl fun pp H5 npp S5 hpp=>?_
 walk_at "sts"
 have U5:=S1.trans (U4.trans S5)
 refine ⟨x,dx,rr,pp,"Beside",side,tu ++ tl,_,_,_,[nu,nl],rfl,by unfold Ks;simp,U5 _ _ hx,S5 _ _ hrr,hpp,by simp,xF (gu.same U5) (gl.same U5),fun h H6 hh C6 P6 N6=>?_⟩
 rw [← ec] at P6 N6
 exact q h H6 hh (fun b o n e=>C6 b o n (U5 _ _ e)) ⟨P6,gu.rs,sY gu.rt gl.rt hlen⟩ fun m o hm nm=>⟨N6 m o (U5 _ _ hm) nm,gu.rs,sY gu.rt gl.rt hlen⟩
end
section
variable {P:Program} {w:World} {K:PySem.W.Frag} {mg:Str→Option Value} {base:Heap}
theorem uN:(["_law_number"]:List Str).Nodup:=by decide+kernel
theorem T7:bD jE "_law_k":=by decide+kernel
theorem kz4p:bK jE "len":=by decide+kernel
theorem Xi:bD jE "_law_script":=by decide+kernel
theorem FN:bD j5 "_law_number":=by decide+kernel
theorem Xj:bD j5 "_law_k":=by decide+kernel
theorem kz4t:bD j5 "_law_cell_here":=by decide+kernel
theorem Xk:bK gB "isinstance":=by decide+kernel
theorem kz4v:bK gB "bool":=by decide+kernel
theorem Xl:bD gB "_law_thing":=by decide+kernel
theorem kz4x:bK gB "int":=by decide+kernel
theorem Ol:bD cA "_law_found":=by decide+kernel
theorem kz4z:bK cA "enumerate":=by decide+kernel
theorem kz50:bD cA "_law_bases":=by decide+kernel
theorem Om:bD cA "_law_base_here":=by decide+kernel
theorem Xm:bD cA "_law_k":=by decide+kernel
theorem T8:bD cA "_law_cell_here":=by decide+kernel
theorem kz54:bK cA "_law_mix":=by decide+kernel
theorem Oo:bD cA "_law_left":=by decide+kernel
theorem Xn:bK fO "len":=by decide+kernel
theorem T9:bD fO "_law_found":=by decide+kernel
theorem Xo:bD fO "_law_due":=by decide+kernel
theorem kz59:bK fO "isinstance":=by decide+kernel
theorem kz5a:bK fO "list":=by decide+kernel
theorem sZ {H H':Hp} {a:Addr} {xs:List V} (h:SqL K H a xs) (s:Same H H'):SqL K H' a xs:=by
 rcases h with (h | ⟨o,h⟩) | h
 ·exact .inl (.inl (s _ _ h))
 ·exact .inl (.inr ⟨o,s _ _ h⟩)
 ·exact .inr h
def Ua (K:PySem.W.Frag):Sp:=fun vs H Q _=>∃ (a:Addr) (ns:List Int) (k:Int),vs=[.ref a,.int k]∧SqL K H a (ns.map V.int)∧0≤k∧∀ n,Q (.int n) H
theorem zy:aD ["_law_script","_law_k"] ["_law_script","_law_k"] (aq jE):=⟨rfl,rfl,rfl,by decide+kernel,rfl,by decide+kernel,by decide+kernel⟩
theorem jH (T:Txt K mg):Has P w K mg base 1 "_law_cell" ["_law_script","_law_k"] (Ua K):=by
 refine fj T.d_law_cell zy (fun _ _ _ _ _ _ us hl=>L2.oO (fun _ _=>rfl) us hl) ?_ fun f cdv A outer s H vs Q E hr h=>?_
 ·rintro vs H Q E ⟨a,ns,k,rfl,_⟩;rfl
 obtain ⟨a,ns,k,rfl,hS,h0,q⟩:=h
 have hu:=hr.units0
 have hu64:=hr.units
 refine ⟨_,(az (cz (bx GK (ao 1 T7) (aH (aC (K:=K) rfl) (aV kz4p) T.b_len bc (aa (ao 0 Xi) ak) (by decide+kernel) (by decide+kernel)) (by first | exact aW _ | with_unfolding_all rfl)) (aA (aN (m5 (K:=K) rfl (ao 0 Xi) (ao 1 T7)))) bI) (aA (aN (bj aP (bj jW aG (ao 1 T7)) aG)))),?_⟩
 walk_at "sts"
 refine ⟨_,_,rfl,.inl ⟨_,hS,rfl⟩,?_⟩
 walk_at "sts"
 refine uF (fun hk=>?_) (fun hk=>?_)
 ·rw [List.length_map] at hk
  walk_at "sts"
  refine cO hS (sS (v:=.int (ns.getD k.toNat 0)) h0 ?_) (q _)
  rw [List.getElem?_map,List.getD_eq_getElem?_getD,List.getElem?_eq_getElem (by omega)];rfl
 ·walk_at "sts"
  exact q _
def Xp:Sp:=fun vs H Q _=>∃ n k:Int,vs=[.int n,.int k]∧∀ r,0≤r→r < 2147483587→Q (.int r) H
theorem pK:aD ["_law_cell_here","_law_k","_law_number"] ["_law_cell_here","_law_k"] (aq j5):=⟨rfl,rfl,rfl,by decide+kernel,rfl,by decide+kernel,by decide+kernel⟩
theorem fW (T:Txt K mg):Has P w K mg base 1 "_law_mix" ["_law_cell_here","_law_k"] Xp:=by
 refine fj T.d_law_mix pK (fun _ _ _ _ _ _ us hl=>L2.oO (fun _ _=>rfl) us hl) ?_ fun f cdv A outer s H vs Q E hr h=>?_
 ·rintro vs H Q E ⟨n,k,rfl,_⟩;rfl
 obtain ⟨n,k,rfl,q⟩:=h
 have hu:=hr.units0
 have hu64:=hr.units
 refine ⟨_,(az (aM (i:=2) pK.nd rfl (Or.inl FN) (bj ik (bj aP (bj aP (bj jW (bj ik (ao 0 kz4t) aG) aG) (bj jW aG (ao 1 Xj))) aG) aG) rfl) (az (aM (i:=2) pK.nd rfl (Or.inl FN) (bj ik (bj aP (bj aP (bj jW (ao 2 FN) (ao 2 FN)) (bj jW aG (ao 1 Xj))) aG) aG) rfl) (aA (aN (bj ik (bj jW (ao 2 FN) (bj aP (ao 2 FN) aG)) aG))))),?_⟩
 walk_at "sts"
 exact q _ (by omega) (by omega)
def Oq:Sp:=fun vs H Q _=>∃ n:Int,vs=[.int n]∧Q (.bl true) H
theorem xG:aD ["_law_thing"] ["_law_thing"] (aq gB):=⟨rfl,rfl,rfl,by decide+kernel,rfl,by decide+kernel,by decide+kernel⟩
theorem nY (T:Txt K mg):Has P w K mg base 1 "_law_whole" ["_law_thing"] Oq:=by
 refine fj T.d_law_whole xG (fun _ _ _ _ _ _ us hl=>L2.j6 (fun _=>rfl) us hl) ?_ fun f cdv A outer s H vs Q E hr h=>?_
 ·rintro vs H Q E ⟨n,rfl,_⟩;rfl
 obtain ⟨n,rfl,q⟩:=h
 have hu:=hr.units0
 have hu64:=hr.units
 refine ⟨_,(aA (aN (yH (aH (jA (K:=K) rfl) (aV Xk) T.b_isinstance b7 (aa (ao 0 Xl) (aa (wA (aV kz4x) T.b_int HF (by decide+kernel) (by decide+kernel)) ak)) (by decide+kernel) (by decide+kernel)) (yG (PX (aH (jA (K:=K) rfl) (aV Xk) T.b_isinstance b7 (aa (ao 0 Xl) (aa (wA (aV kz4v) T.b_bool Cg (by decide+kernel) (by decide+kernel)) ak)) (by decide+kernel) (by decide+kernel))))))),?_⟩
 walk_at "sts"
 refine o4 (.int _) rfl ?_
 walk_at "sts"
 refine o4 (.int _) rfl ?_
 walk_at "sts"
 exact q
def Fits (ms bs:List Int):Prop:=ms.length=bs.length∧∀ (i:Nat) (m b:Int),ms[i]?=some m→bs[i]?=some b→0≤m∧m < b
theorem Fits.push {ms bs:List Int} {k:Nat} {m b:Int} (h:Fits ms (bs.take k)) (hb:bs[k]?=some b) (h0:0≤m) (h1:m < b):Fits (ms ++ [m]) (bs.take (k+1)):=by
 have hk:k < bs.length:=(List.getElem?_eq_some_iff.mp hb).1
 have hl:ms.length=k:=by rw [h.1,List.length_take];omega
 refine ⟨by simp;omega,fun i m' b' e1 e2=>?_⟩
 by_cases hi:i < k
 ·rw [List.getElem?_append_left (by omega)] at e1
  rw [List.getElem?_take_of_lt (by omega)] at e2
  exact h.2 i m' b' e1 (by rw [List.getElem?_take_of_lt hi];exact e2)
 ·have hi2:i < k+1:=by have:=(List.getElem?_eq_some_iff.mp e1).1;simp at this;omega
  obtain rfl:i=k:=by omega
  rw [List.getElem?_append_right (by omega),hl,Nat.sub_self] at e1
  rw [List.getElem?_take_of_lt (by omega),hb] at e2
  cases e1;cases e2
  exact ⟨h0,h1⟩
def Ot (K:PySem.W.Frag):Sp:=fun vs H Q _=>∃ (n:Int) (b:Addr) (bs:List Int),vs=[.int n,.ref b]∧H b=some (.lst (bs.map V.int))∧bs.length≤200∧(∀ x∈bs,0 < x∧x < 1606938044258990275541962092341162602522202993782792835301376)∧
 ∀ (q:Addr) (ms:List Int) (H':Hp),H q=none→Same H H'→H' q=some (.lst (ms.map V.int))→Fits ms bs→Q (.ref q) H'
theorem gM:aD ["_law_cell_here","_law_bases","_law_found","_law_left","_law_k","_law_base_here"] ["_law_cell_here","_law_bases"] (aq cA):=⟨rfl,rfl,rfl,by decide+kernel,rfl,by decide+kernel,by decide+kernel⟩
theorem gG (T:Txt K mg):Has P w K mg base 2 "_law_takes" ["_law_cell_here","_law_bases"] (Ot K):=by
 have fW:=fW (P:=P) (w:=w) (base:=base) T
 refine fj T.d_law_takes gM (fun _ _ _ _ _ _ us hl=>L2.oO (fun _ _=>rfl) us hl) ?_ fun f cdv A outer s H vs Q E hr h=>?_
 ·rintro vs H Q E ⟨n,b,bs,rfl,_⟩;rfl
 obtain ⟨n,b,bs,rfl,hb,hlen,hbs,q⟩:=h
 have hu:=hr.units0
 have hu64:=hr.units
 refine ⟨_,(az (aM (i:=2) gM.nd rfl (Or.inl Ol) (iY ak) rfl) (az (aM (i:=3) gM.nd rfl (Or.inl Oo) (ao 0 T8) rfl) (az (jt PassesOwn.never rfl (wC (K:=K) rfl rfl (aV kz4z) T.b_enumerate (aa (ao 1 kz50) ak)) (Am (K:=K) rfl rfl (gW (b8 (i:=4) gM.nd rfl (Or.inl Xm) rfl) (gW (b8 (i:=5) gM.nd rfl (Or.inl Om) rfl) sV))) (aA (cz (bx GK (ao 0 T8) (bj Q9 aG aG) (by first | exact aW _ | with_unfolding_all rfl)) (aA (bF (ph (K:=K) rfl PySem.F.plainAttrs_list PySem.F.slot_list_append PySem.F.type_list_append lH (ao 2 Ol) (aa (bj ik (aF fW (hr.mono (by decide)) (aV kz54) (aa (ao 0 T8) (aa (ao 4 Xm) ak)) (by decide+kernel)) (ao 5 Om)) ak)))) (az (bF (ph (K:=K) rfl PySem.F.plainAttrs_list PySem.F.slot_list_append PySem.F.type_list_append lH (ao 2 Ol) (aa (bj ik (ao 3 Oo) (ao 5 Om)) ak))) (aA (aM (i:=3) gM.nd rfl (Or.inl Oo) (bj yM (ao 3 Oo) (ao 5 Om)) rfl)))))) (aA (aN (ao 2 Ol)))))),?_⟩
 walk_at "sts"
 have hs:1000≤sizeLine:=by decide
 refine ue rfl fun f nf=>?_
 walk_at "sts"
 refine .inr ⟨b,_,rfl,SqL.of (cV nf hb),?_⟩
 refine qP (K:=K) (xs:=bs.map V.int) (fun k σ H'=>∃ (l:Int) (ms:List Int) (x4 x5:Option V),σ=[some (.int n),some (.ref b),some (.ref f),some (.int l),x4,x5]∧Same H H'∧H' f=some (.lst (ms.map V.int))∧Fits ms (bs.take k))
  ⟨n,[],_,_,rfl,(Same.refl H).upd nf,aj,rfl,fun i m b e=>by simp at e⟩ (fun i σ H' _ h=>?_) ?_ ?_
 ·obtain ⟨_,_,_,_,_,s,_⟩:=h
  exact SqL.of (s _ _ hb)
 ·rintro k σ H' T v hk ⟨l,ms,x4,x5,rfl,s,hf,hF⟩ nT
  rw [List.getElem?_map] at hk
  obtain ⟨bb,hbb,rfl⟩:∃ y,bs[k]?=some y∧v=V.int y:=by
   cases e:bs[k]? with
   | none=>rw [e] at hk;cases hk
   | some y=>rw [e] at hk;exact ⟨y,rfl,(Option.some.inj hk).symm⟩
  obtain ⟨p0,p1⟩:=hbs bb (List.mem_of_getElem? hbb)
  have hml:ms.length≤200:=by rw [hF.1,List.length_take];omega
  have hf1:=cV nT (o:=.tup [.int k,.int bb]) hf
  have s1:=s.upd nT (o:=.tup [.int k,.int bb])
  refine cP (SqT.of aj) rfl ?_
  walk_at "sts"
  refine uF (fun hg=>?_) (fun hg=>?_)
  ·walk_at "sts"
   refine ⟨.inl ⟨rfl,_,SqL.of hf1⟩,?_⟩
   walk_at "sts"
   refine ⟨_,_,rfl,fun r r0 r1=>?_⟩
   walk_at "sts"
   refine nH hf1 (by simp;omega) ?_
   walk_at "sts"
   refine ⟨_,ms ++ [r % bb],_,_,rfl,Same.put s1 nf,?_,hF.push hbb (Int.emod_nonneg _ (by omega)) (Int.emod_lt_of_pos _ p0)⟩
   rw [List.map_append];exact aj
  ·walk_at "sts"
   refine ⟨.inl ⟨rfl,_,SqL.of hf1⟩,?_⟩
   walk_at "sts"
   refine nH hf1 (by simp;omega) ?_
   walk_at "sts"
   refine ⟨_,ms ++ [l % bb],_,_,rfl,Same.put s1 nf,?_,hF.push hbb (Int.emod_nonneg _ (by omega)) (Int.emod_lt_of_pos _ p0)⟩
   rw [List.map_append];exact aj
 ·rintro σ H' ⟨l,ms,x4,x5,rfl,s,hf,hF⟩
  walk_at "sts"
  refine q f ms H' nf s hf ?_
  rw [List.length_map,List.take_length] at hF
  exact hF
def Ub (K:PySem.W.Frag):Sp:=fun vs H Q _=>∃ (a b:Addr) (t:List Nat),vs=[.ref a,.ref b]∧H a=some (.lst ((nI t).map V.int))∧H b=some (.lst ((nI t).map V.int))∧t.length≤10000∧∀ H',Same H H'→Q (.bl true) H'
theorem zA:aD ["_law_found","_law_due"] ["_law_found","_law_due"] (aq fO):=⟨rfl,rfl,rfl,by decide+kernel,rfl,by decide+kernel,by decide+kernel⟩
theorem pL (T:Txt K mg):Has P w K mg base 2 "_law_list" ["_law_found","_law_due"] (Ub K):=by
 have nY:=nY (P:=P) (w:=w) (base:=base) T
 refine fj T.d_law_list zA (fun _ _ _ _ _ _ us hl=>L2.oO (fun _ _=>rfl) us hl) ?_ fun f cdv A outer s H vs Q E hr h=>?_
 ·rintro vs H Q E ⟨a,b,t,rfl,_⟩;rfl
 obtain ⟨a,b,t,rfl,ha,hb,hl,q⟩:=h
 have hu:=hr.units0
 have hu64:=hr.units
 refine ⟨_,(az (cz (lY (p8 (lA (j9 (aH (jA (K:=K) rfl) (aV kz59) T.b_isinstance b7 (aa (ao 0 T9) (aa (wA (aV kz5a) T.b_list lg (by decide+kernel) (by decide+kernel)) ak)) (by decide+kernel) (by decide+kernel)))) (mG (bx (wD (K:=K) rfl hu64) (ao 0 T9) (ao 1 Xo) (by first | exact aW _ | with_unfolding_all rfl))))) (aA (aN yE)) bI) (aA (aN (yF (jB (K:=K) rfl hu64) (aH (aC (K:=K) rfl) (aV Xn) T.b_len bc (aa (mH (sub:=[none]) (gU (N:=["_law_found","_law_due"]) (sc:=aq fO) (N':=["_law_number"]) (by decide+kernel)) rfl rfl rfl (jr (K:=K) rfl (ao 0 T9)) (fun C s₀ H₀ ex=>(uG 0 (by decide+kernel) uN)) (fun C s₀ H₀ ex=>(LR (j9 (aF nY (hr.mono (by decide)) (Vy (by decide+kernel)) (aa (nG 0 (by decide+kernel)) ak) (by decide+kernel))))) (fun C s₀ H₀ ex=>(nG 0 (by decide+kernel)))) ak) (by decide+kernel) (by decide+kernel)) (aH (aC (K:=K) rfl) (aV Xn) T.b_len bc (aa (ao 1 Xo) ak) (by decide+kernel) (by decide+kernel)) (by first | exact aW _ | with_unfolding_all rfl))))),?_⟩
 walk_at "sts"
 have hs:20000≤sizeLine:=by decide
 refine o4 (.lst ha) rfl ?_
 walk_at "sts"
 refine .inl (.inr ⟨a,b,nI t,nI t,rfl,rfl,SqL.of ha,SqL.of hb,?_⟩)
 rw [decide_eq_true rfl]
 walk_at "sts"
 refine .inl ⟨a,rfl,⟨_,SqL.of ha⟩,?_⟩
 refine vz (xs:=(nI t).map V.int) (fun i ys H'=>H'=H∧ys.length=i) (by rw [bT];omega) ⟨rfl,rfl⟩ ?_ ?_ ?_ ?_
 ·rintro i ys H' ⟨_,h⟩
  omega
 ·rintro i ys H' ⟨rfl,_⟩
  exact SqL.of ha
 ·rintro i ys H' x hx ⟨rfl,hy⟩
  obtain ⟨n,_,rfl⟩:=za hx
  walk_at "sts"
  refine ⟨KeepSt.set rfl,?_⟩
  walk_at "sts"
  refine ⟨_,rfl,?_⟩
  walk_at "sts"
  exact ⟨rfl,by simp;omega⟩
 ·rintro ys H' ⟨rfl,hy⟩ D hD
  walk_at "sts"
  refine fX (SqL.of aj) ?_
  walk_at "sts"
  refine fX (SqL.of (cV hD hb)) ?_
  walk_at "sts"
  rw [hy,yZ,decide_eq_true rfl]
  exact q _ ((Same.refl H').upd hD)
end
section
variable {P:Program} {w:World} {K:PySem.W.Frag} {mg:Str→Option Value} {base:Heap}
def Uc (m:Nat) (e:Nat→Nat→Bool) (i j:Nat):List Nat:=(List.range j).flatMap fun j=>if e i j=true then [] else [m - 1 - i+j]
def stE (m far:Nat) (e:Nat→Nat→Bool) (i j:Nat):List Nat:=bz (List.range (m+far)) (al m far e i ++ Uc m e i j)
theorem zB (m far:Nat) (e:Nat→Nat→Bool) (i j:Nat):stE m far e i (j+1)=if e i j=true then stE m far e i j else aJ (stE m far e i j) (m - 1 - i+j):=by
 unfold stE Uc
 rw [List.range_succ,List.flatMap_append,← List.append_assoc,jM]
 simp only [List.flatMap_cons,List.flatMap_nil,List.append_nil]
 split
 ·rfl
 ·rfl
theorem Dk (m far:Nat) (e:Nat→Nat→Bool) (i:Nat):stE m far e (i+1) 0=stE m far e i far:=by
 unfold stE Uc
 rw [sW]
 simp only [List.range_zero,List.flatMap_nil,List.append_nil]
 rfl
theorem Ou (m far:Nat) (e:Nat→Nat→Bool):stE m far e m 0=Dn (m+far) (al m far e m):=by
 unfold stE Uc Dn
 simp
theorem JV (m far:Nat) (e:Nat→Nat→Bool):stE m far e 0 0=List.range (m+far):=rfl
theorem xH {m i j p:Nat} {e:Nat→Nat→Bool} (h:p∈Uc m e i j):∃ k,k < j∧p=m - 1 - i+k:=by
 unfold Uc at h
 obtain ⟨k,hk,h⟩:=List.mem_flatMap.mp h
 refine ⟨k,List.mem_range.mp hk,?_⟩
 split at h
 ·cases h
 ·exact List.mem_singleton.mp h
theorem xJ {m far i j:Nat} {e:Nat→Nat→Bool} (hn:m+far≤96) (hi:i < m∧j≤far∨i≤m∧j=0):Prm (stE m far e i j):=by
 refine CQ hn fun p hp=>?_
 rcases List.mem_append.mp hp with h | h
 ·obtain ⟨a,b,ha,hb,rfl⟩:=wX h
  omega
 ·obtain ⟨k,hk,rfl⟩:=xH h
  omega
theorem xK (m far:Nat) (e:Nat→Nat→Bool) (i j:Nat):(stE m far e i j).length=m+far:=by unfold stE;rw [jQ];simp
theorem run_get {E ps:List Nat} {q:Nat} (h:∀ p∈ps,q < p):(bz E ps).getD q 0=E.getD q 0:=by
 induction ps generalizing E with
 | nil=>rfl
 | cons p ps ih=>
  show (bz (aJ E p) ps).getD q 0=_
  rw [ih fun x hx=>h x (by simp [hx]),step_get (.inl (h p (by simp)))]
theorem Ov {m far i j q:Nat} {e:Nat→Nat→Bool} (hi:i < m) (hq:q < m - 1 - i∨(q=m - 1 - i∧j=0)):(stE m far e i j).getD q 0=q:=by
 have hr:(List.range (m+far)).getD q 0=q:=by
  rw [List.getD_eq_getElem?_getD,List.getElem?_range (by omega)];rfl
 unfold stE
 rw [run_get,hr]
 intro p hp
 rcases List.mem_append.mp hp with h | h
 ·obtain ⟨a,b,ha,hb,rfl⟩:=wX h
  omega
 ·obtain ⟨k,hk,rfl⟩:=xH h
  omega
structure Ud (m far:Nat) (e:Nat→Nat→Bool) (i j:Nat) (x:Nat) (F:List Nat):Prop where
 len:F.length=far
 ln:x=(stE m far e i j).getD (m - 1 - i+j) 0
 lo:∀ k,k < j→F.getD k 0=(stE m far e i j).getD (m - 1 - i+k) 0
 hi:∀ k,j≤k→k < far→F.getD k 0=(stE m far e i j).getD (m - i+k) 0
theorem FP {m far:Nat} {e:Nat→Nat→Bool} {F:List Nat} {i:Nat} (hi:i < m) (hl:F.length=far) (hF:∀ k,k < far→F.getD k 0=(stE m far e i 0).getD (m - i+k) 0):Ud m far e i 0 (m - 1 - i) F:=
 ⟨hl,by rw [Nat.add_zero,Ov hi (.inr ⟨rfl,rfl⟩)],fun k hk=>absurd hk (Nat.not_lt_zero _),fun k _ hk=>hF k hk⟩
theorem Ow {E:List Nat} {p:Nat} (h:p+1 < E.length) (hw:oW E p=true):(aJ E p).getD p 0=E.getD (p+1) 0∧(aJ E p).getD (p+1) 0=E.getD p 0:=by
 rw [uo hw]
 refine ⟨?_,?_⟩
 ·rw [iu h,if_neg (by omega),if_pos rfl]
 ·rw [iu h,if_pos rfl]
theorem JX {m far:Nat} {e:Nat→Nat→Bool} {i j x:Nat} {F:List Nat} (hn:m+far≤96) (hi:i < m) (hj:j < far) (w:Ud m far e i j x F) (h:e i j=true∨F.getD j 0 < x):Ud m far e i (j+1) (F.getD j 0) (F.set j x):=by
 have eE:stE m far e i (j+1)=stE m far e i j:=by
  rw [zB]
  split
  ·rfl
  ·rename_i hne
   have hlt:F.getD j 0 < x:=h.resolve_left hne
   unfold aJ
   rw [if_neg]
   unfold oW
   have h1:=w.ln
   have h2:=w.hi j (Nat.le_refl _) hj
   rw [show m - 1 - i+j+1=m - i+j by omega]
   simp only [decide_eq_true_eq]
   omega
 refine ⟨by rw [List.length_set];exact w.len,?_,fun k hk=>?_,fun k hk hk2=>?_⟩
 ·rw [eE,w.hi j (Nat.le_refl _) hj,show m - 1 - i+(j+1)=m - i+j by omega]
 ·rw [eE]
  by_cases e1:k=j
  ·subst e1
   rw [List.getD_eq_getElem?_getD,List.getElem?_set_self (by rw [w.len];exact hj)]
   exact w.ln
  ·rw [List.getD_eq_getElem?_getD,List.getElem?_set_ne (fun z=>e1 z.symm),← List.getD_eq_getElem?_getD]
   exact w.lo k (by omega)
 ·rw [eE,List.getD_eq_getElem?_getD,List.getElem?_set_ne (by omega),← List.getD_eq_getElem?_getD]
  exact w.hi k (by omega) hk2
theorem JZ {m far:Nat} {e:Nat→Nat→Bool} {i j x:Nat} {F:List Nat} (hn:m+far≤96) (hi:i < m) (hj:j < far) (w:Ud m far e i j x F) (h:e i j=false) (h2:¬ F.getD j 0 < x):Ud m far e i (j+1) x F:=by
 have hP:=xJ (e:=e) hn (.inl ⟨hi,Nat.le_of_lt hj⟩)
 have hl:=xK m far e i j
 have h3:=w.ln
 have h4:=w.hi j (Nat.le_refl _) hj
 have hne:x≠F.getD j 0:=fun z=>by
  rw [h3,h4] at z
  have:=qX (n:=m+far) (by have:=hP.pm;rw [hl] at this;exact this) (by omega) (by omega) z
  omega
 have hw:oW (stE m far e i j) (m - 1 - i+j)=true:=by
  unfold oW
  rw [show m - 1 - i+j+1=m - i+j by omega]
  simp only [decide_eq_true_eq]
  omega
 have eE:stE m far e i (j+1)=aJ (stE m far e i j) (m - 1 - i+j):=by rw [zB,h];rfl
 obtain ⟨s1,s2⟩:=Ow (by rw [hl];omega) hw
 refine ⟨w.len,?_,fun k hk=>?_,fun k hk hk2=>?_⟩
 ·rw [eE,show m - 1 - i+(j+1)=m - 1 - i+j+1 by omega,s2];exact h3
 ·rw [eE]
  by_cases e1:k=j
  ·subst e1
   rw [s1,show m - 1 - i+k+1=m - i+k by omega];exact h4
  ·rw [step_get (.inl (by omega))]
   exact w.lo k (by omega)
 ·rw [eE,step_get (.inr (by omega))]
  exact w.hi k (by omega) hk2
end
local macro_rules | `(tactic| walk_at "sts") => `(tactic| (with_reducible repeat (first | refine lO ?_ | refine lw ?_ | refine kZ ?_ | refine iZ ?_ | refine jc ?_ | (refine' iM ?hz0 ?_; (case hz0 => with_unfolding_all rfl)) | refine vm ?_ | refine lV ?_ | refine dZ ?_ | refine dM ?_ | refine iQ ?_ | refine nj ?_ | refine iC ?_ | refine dF ?_ | refine iG ?_ | refine dD ?_ | refine lK ?_ | refine dH ?_ | refine lW ?_ | refine lQ ?_ | refine dN ?_ | refine lM ?_ | refine iH ?_ | refine iI ?_ | refine lN ?_ | refine dI ?_ | refine iJ ?_ | refine dJ ?_ | refine iK ?_ | refine iD ?_ | refine dG ?_ | refine jw ?_ | refine ju ?_ | refine lR ?_ | refine iR ?_ | refine lU ?_ | refine iT ?_ | refine dO ?_ | refine dR ?_ | refine dU ?_ | refine dW ?_ | refine dX ?_ | refine dY ?_ | refine iU ?_ | refine cC ?_ | refine d9 ?_ | (refine' cP (SqT.of ?hz0) ?hz1 ?_; (case hz0 => first | assumption | exact aj); (case hz1 => rfl)) | refine cG ?_ | refine eQ ?_ | refine eU ?_ | refine di ?_ | refine dj ?_ | refine dm ?_ | refine dq ?_ | refine lX ?_ | refine dg ?_ | refine dh ?_ | refine eN ?_ | refine eO ?_ | refine cF ?_ | refine iV ?_ | refine d8 ?_ | (refine' vq ?hz0 ?_; (case hz0 => with_unfolding_all first | assumption | omega | (dsimp only <;> omega) | exact ⟨by omega, by omega⟩ | exact .inl ⟨by omega, by omega⟩ | exact .inr ⟨by omega, by omega⟩ | exact ⟨by decide, by decide, by decide⟩)) | (refine' d7 ?hz0 ?_; (case hz0 => with_unfolding_all first | assumption | omega | (dsimp only <;> omega) | exact ⟨by omega, by omega⟩ | exact .inl ⟨by omega, by omega⟩ | exact .inr ⟨by omega, by omega⟩ | exact ⟨by decide, by decide, by decide⟩)) | (refine' cO (SqL.of ?hz0) ?hz1 ?_; (case hz0 => first | assumption | exact aj); (case hz1 => with_unfolding_all rfl)) | (refine' c7 ?hz0 ?hz1 ?_; (case hz0 => first | assumption | exact aj); (case hz1 => with_unfolding_all rfl)) | refine cI ?_ | refine jd ?_ | refine eV ?_ | refine wL ?_ | refine cJ ?_ | refine eY ?_ | refine cL ?_ | refine fY ?_)))
local macro_rules | `(tactic| walk_at "stn") => `(tactic| (with_reducible repeat (first | refine lO ?_ | refine lw ?_ | refine kZ ?_ | refine iZ ?_ | refine jc ?_ | (refine' iM ?hz0 ?_; (case hz0 => with_unfolding_all rfl)) | refine vm ?_ | refine lV ?_ | refine dZ ?_ | refine dM ?_ | refine iQ ?_ | refine iC ?_ | refine dF ?_ | refine iG ?_ | refine dD ?_ | refine lK ?_ | refine dH ?_ | refine lW ?_ | refine lQ ?_ | refine dN ?_ | refine lM ?_ | refine iH ?_ | refine iI ?_ | refine lN ?_ | refine dI ?_ | refine iJ ?_ | refine dJ ?_ | refine iK ?_ | refine iD ?_ | refine dG ?_ | refine jw ?_ | refine ju ?_ | refine lR ?_ | refine iR ?_ | refine lU ?_ | refine iT ?_ | refine dO ?_ | refine dR ?_ | refine dU ?_ | refine dW ?_ | refine dX ?_ | refine dY ?_ | refine iU ?_ | refine cC ?_ | refine d9 ?_ | (refine' cP (SqT.of ?hz0) ?hz1 ?_; (case hz0 => first | assumption | exact aj); (case hz1 => rfl)) | refine cG ?_ | refine eQ ?_ | refine eU ?_ | refine di ?_ | refine dj ?_ | refine dm ?_ | refine dq ?_ | refine lX ?_ | refine dg ?_ | refine dh ?_ | refine eN ?_ | refine eO ?_ | refine cF ?_ | refine iV ?_ | refine d8 ?_ | (refine' vq ?hz0 ?_; (case hz0 => with_unfolding_all first | assumption | omega | (dsimp only <;> omega) | exact ⟨by omega, by omega⟩ | exact .inl ⟨by omega, by omega⟩ | exact .inr ⟨by omega, by omega⟩ | exact ⟨by decide, by decide, by decide⟩)) | (refine' d7 ?hz0 ?_; (case hz0 => with_unfolding_all first | assumption | omega | (dsimp only <;> omega) | exact ⟨by omega, by omega⟩ | exact .inl ⟨by omega, by omega⟩ | exact .inr ⟨by omega, by omega⟩ | exact ⟨by decide, by decide, by decide⟩)) | (refine' cO (SqL.of ?hz0) ?hz1 ?_; (case hz0 => first | assumption | exact aj); (case hz1 => with_unfolding_all rfl)) | (refine' c7 ?hz0 ?hz1 ?_; (case hz0 => first | assumption | exact aj); (case hz1 => with_unfolding_all rfl)) | refine cI ?_ | refine jd ?_ | refine eV ?_ | refine wL ?_ | refine cJ ?_ | refine eY ?_ | refine cL ?_ | refine fY ?_)))
section
variable {P:Program} {w:World} {K:PySem.W.Frag} {mg:Str→Option Value} {base:Heap}
theorem uA:(["_law_line","_law_goals"]:List Str).Nodup:=by decide+kernel
theorem uB:(["_law_column","_law_many"]:List Str).Nodup:=by decide+kernel
theorem J5:bK bC "range":=by decide+kernel
theorem J6:SX bC "_law_many":=by decide+kernel
theorem FQ:bK bC "len":=by decide+kernel
theorem FT:bD bC "_law_top":=by decide+kernel
theorem Bo:bD bC "_law_column":=by decide+kernel
theorem Ue:SX bC "_law_goals":=by decide+kernel
theorem Ox:bD bC "_law_falling":=by decide+kernel
theorem Oz:bD bC "_law_row":=by decide+kernel
theorem J7:bD bC "_law_line":=by decide+kernel
theorem Ug:bD bC "_law_above":=by decide+kernel
theorem Xq:bD bC "_law_side":=by decide+kernel
theorem Uh {E ps:List Nat} {q:Nat} (h:∀ p∈ps,p+1 < q):(bz E ps).getD q 0=E.getD q 0:=by
 induction ps generalizing E with
 | nil=>rfl
 | cons p ps ih=>
  show (bz (aJ E p) ps).getD q 0=_
  rw [ih fun x hx=>h x (by simp [hx]),step_get (.inr (h p (by simp)))]
theorem J8 {m far i j q:Nat} {e:Nat→Nat→Bool} (hi:i < m) (hj:j≤far) (hq:m - 1 - i+far < q):(stE m far e i j).getD q 0=(stE m far e i 0).getD q 0:=by
 have:stE m far e i j=bz (stE m far e i 0) (Uc m e i j):=by
  unfold stE
  rw [jM,jM]
  rfl
 rw [this,Uh]
 intro p hp
 obtain ⟨k,hk,rfl⟩:=xH hp
 omega
def J9 (K:PySem.W.Frag):Sp:=fun vs H Q _=>∃ (side top:Str),vs=[.str side,.str top]∧side.length≤48∧top.length≤48∧∀ q H',H q=none→Same H H'→H' q=some (.lst ((nI (LN side.cps.size top.cps.size (zP side top))).map V.int))→Q (.ref q) H'
theorem cj:aD ["_law_side","_law_top","_law_many","_law_falling","_law_goals","_law_row","_law_line","_law_column","_law_above"] ["_law_side","_law_top"] (aq bC):=⟨rfl,rfl,rfl,by decide+kernel,rfl,by decide+kernel,by decide+kernel⟩
theorem nZ (T:Txt K mg):Has P w K mg base 1 "_law_lines" ["_law_side","_law_top"] (J9 K):=by
 refine fj T.d_law_lines cj (fun _ _ _ _ _ _ us hl=>L2.oO (fun _ _=>rfl) us hl) ?_ fun f cdv A outer s H vs Q E hr h=>?_
 ·rintro vs H Q E ⟨side,top,rfl,_⟩;rfl
 obtain ⟨side,top,rfl,hs,ht,q⟩:=h
 have hu:=hr.units0
 have hu64:=hr.units
 refine ⟨_,(az (aM (i:=2) cj.nd rfl (Or.inr J6) (aH (aC (K:=K) rfl) (aV FQ) T.b_len bc (aa (ao 0 Xq) ak) (by decide+kernel) (by decide+kernel)) rfl) (az (Mh (i:=3) cj.nd rfl (Or.inl Ox) (sub:=[none,some 2]) (gU (N:=["_law_side","_law_top","_law_many","_law_falling","_law_goals","_law_row","_law_line","_law_column","_law_above"]) (sc:=aq bC) (N':=["_law_column","_law_many"]) (by decide+kernel)) rfl rfl rfl (lZ (aV J5) T.b_range (aa (aH (aC (K:=K) rfl) (aV FQ) T.b_len bc (aa (ao 1 FT) ak) (by decide+kernel) (by decide+kernel)) ak)) (fun C s₀ H₀ ex=>(uG 0 (by decide+kernel) uB)) (fun C s₀ H₀ ex=>jY) (fun C s₀ H₀ ex=>(bj aP (rF 1 (by decide+kernel)) (nG 0 (by decide+kernel)))) rfl) (az (aM (i:=4) cj.nd rfl (Or.inr Ue) wK rfl) (az (jt PassesOwn.never rfl (lZ (aV J5) T.b_range (aa (nq 2 J6) ak)) (b8 (i:=5) cj.nd rfl (Or.inl Oz) rfl) (az (aM (i:=6) cj.nd rfl (Or.inl J7) (bj jU (bj jU (nq 2 J6) aG) (ao 5 Oz)) rfl) (az (jt PassesOwn.never rfl (lZ (aV J5) T.b_range (aa (aH (aC (K:=K) rfl) (aV FQ) T.b_len bc (aa (ao 1 FT) ak) (by decide+kernel) (by decide+kernel)) ak)) (b8 (i:=7) cj.nd rfl (Or.inl Bo) rfl) (az (aM (i:=8) cj.nd rfl (Or.inl Ug) (m5 (K:=K) rfl (ao 3 Ox) (ao 7 Bo)) rfl) (aA (cz (lY (p8 (bx (jB (K:=K) rfl hu64) (m5 (K:=K) rfl (ao 0 Xq) (ao 5 Oz)) (m5 (K:=K) rfl (ao 1 FT) (ao 7 Bo)) (by first | exact aW _ | with_unfolding_all rfl)) (mG (bx rz (ao 6 J7) (ao 8 Ug) (by first | exact aW _ | with_unfolding_all rfl))))) (az (jK (ts:=mZ) (ao 6 J7) (lB (ao 3 Ox) (ao 7 Bo) (jL hu64))) (aA (aM (i:=6) cj.nd rfl (Or.inl J7) (ao 8 Ug) rfl))) bI)))) (aA (jK (ts:=mZ) (bj jU (bj jU (bj aP (aH (aC (K:=K) rfl) (aV FQ) T.b_len bc (aa (ao 1 FT) ak) (by decide+kernel) (by decide+kernel)) (nq 2 J6)) aG) (ao 5 Oz)) (lB (nq 4 Ue) (ao 6 J7) (jL hu64))))))) (az (jt PassesOwn.never rfl (lZ (aV J5) T.b_range (aa (aH (aC (K:=K) rfl) (aV FQ) T.b_len bc (aa (ao 1 FT) ak) (by decide+kernel) (by decide+kernel)) ak)) (b8 (i:=7) cj.nd rfl (Or.inl Bo) rfl) (aA (jK (ts:=mZ) (ao 7 Bo) (lB (nq 4 Ue) (m5 (K:=K) rfl (ao 3 Ox) (ao 7 Bo)) (jL hu64))))) (aA (aN (mH (sub:=[none,some 4]) (gU (N:=["_law_side","_law_top","_law_many","_law_falling","_law_goals","_law_row","_law_line","_law_column","_law_above"]) (sc:=aq bC) (N':=["_law_line","_law_goals"]) (by decide+kernel)) rfl rfl rfl (lZ (aV J5) T.b_range (aa (bj aP (nq 2 J6) (aH (aC (K:=K) rfl) (aV FQ) T.b_len bc (aa (ao 1 FT) ak) (by decide+kernel) (by decide+kernel))) ak)) (fun C s₀ H₀ ex=>(uG 0 (by decide+kernel) uA)) (fun C s₀ H₀ ex=>jY) (fun C s₀ H₀ ex=>(Ja hu64 (rF 1 (by decide+kernel)) (nG 0 (by decide+kernel)))))))))))),?_⟩
 walk_at "sts"
 have hz:20000≤sizeLine:=by decide
 have lz:side.length≤sizeLine:=by omega
 have ly:top.length≤sizeLine:=by omega
 refine cu lz ?_
 walk_at "sts"
 refine cu ly ?_
 walk_at "sts"
 have em:side.length=side.cps.size:=rfl
 have ef:top.length=top.cps.size:=rfl
 rw [em,ef]
 rw [em] at hs
 rw [ef] at ht
 generalize hm:side.cps.size=m at hs ⊢
 generalize hf:top.cps.size=far at ht ⊢
 refine ⟨_,rfl,by omega,by omega,?_⟩
 rw [show ((far:Nat):Int).toNat=far by omega]
 refine vG (fun k=>V.int ((m+k:Nat):Int)) (by omega) (fun i hi=>?_) fun f0 H1 nf S1 hf1=>?_
 ·walk_at "sts"
  refine ⟨KeepSt.set rfl,?_⟩
  walk_at "sts"
  exact ⟨rfl,CJ (by congr 1;omega)⟩
 have hf2:H1 f0=some (.lst ((nI ((List.range far).map (m+ ·))).map V.int)):=by
  rw [hf1]
  unfold nI
  rw [List.map_map,List.map_map]
  rfl
 try walk_at "sts"
 intro d nd
 have S2:=S1.trans ((Same.refl H1).upd nd (o:=.dK []))
 have hf3:=cV nd hf2 (o:=.dK [])
 have hd3:=aj (H:=H1) (a:=d) (o:=.dK [])
 have df:d≠f0:=fun z=>by rw [z,hf2] at nd;cases nd
 have nd0:=Same.back S1 nd
 generalize upd H1 d (.dK [])=H2 at S2 hf3 hd3 ⊢
 generalize hee:zP side top=e
 walk_at "sts"
 refine ⟨_,rfl,by omega,by omega,?_⟩
 rw [show ((m:Nat):Int).toNat=m by omega]
 refine oE (n:=m) (fun i σ G=>Same H G∧(∃ F kvs,G f0=some (.lst ((nI F).map V.int))∧F.length=far∧(∀ k,k < far→F.getD k 0=(stE m far e i 0).getD (m - i+k) 0)∧G d=some (.dK kvs)∧kvs.length≤i∧∀ i',i' < i→jz kvs (Sum.inl (((stE m far e i 0).getD (m - 1 - i'+far) 0:Nat):Int))=some (.int (((m - 1 - i'+far:Nat)):Int)))∧∃ x5 x6 x7 x8,σ=[some (.str side),some (.str top),some (.int (m:Int)),some (.ref f0),some (.ref d),x5,x6,x7,x8])
  ⟨S2,⟨_,_,hf3,by simp,fun k hk=>?_,hd3,Nat.le_refl _,fun i' h=>absurd h (Nat.not_lt_zero _)⟩,_,_,_,_,rfl⟩ ?_ ?_
 ·rw [JV,List.getD_eq_getElem?_getD,List.getElem?_map,List.getElem?_range hk,List.getD_eq_getElem?_getD,List.getElem?_range (by omega)]
  show m+k=m - 0+k
  omega
 ·rintro i σ G hi ⟨s,⟨F,kvs,hF,hFl,hFk,hD,hkl,hkv⟩,x5,x6,x7,x8,rfl⟩
  rw [Int.zero_add]
  walk_at "sts"
  refine cu ly ?_
  walk_at "sts"
  rw [show top.length=far from hf,show (m:Int) - 1 - (i:Int)=((m - 1 - i:Nat):Int) by omega]
  refine ⟨_,rfl,by omega,by omega,?_⟩
  rw [show ((far:Nat):Int).toNat=far by omega]
  refine oE (n:=far) (fun j σ G=>Same H G∧G d=some (.dK kvs)∧∃ F x x7 x8,G f0=some (.lst ((nI F).map V.int))∧Ud m far e i j x F∧σ=[some (.str side),some (.str top),some (.int (m:Int)),some (.ref f0),some (.ref d),some (.int (i:Int)),some (.int (x:Int)),x7,x8])
   ⟨s,hD,F,m - 1 - i,_,_,hF,FP hi hFl hFk,rfl⟩ ?_ ?_
  ·rintro j σ G2 hj ⟨s2,hD2,F2,x,y7,y8,hF2,w,rfl⟩
   rw [Int.zero_add]
   have hsi:zO side.cps.toList (i:Int)=some (side.cps.getD i 0):=oF (by
    have:i < side.cps.size:=by omega
    simp [Array.getD,this])
   have htj:zO top.cps.toList (j:Int)=some (top.cps.getD j 0):=oF (by
    have:j < top.cps.size:=by omega
    simp [Array.getD,this])
   have wl:=w.len
   walk_at "sts"
   refine cO (SqL.of hF2) (rK (k:=j) (by omega) rfl) ?_
   walk_at "sts"
   refine yx lz hsi ?_
   walk_at "sts"
   refine yx ly htj ?_
   walk_at "sts"
   have eE:decide (V.str ⟨#[side.cps.getD i 0]⟩=V.str ⟨#[top.cps.getD j 0]⟩)=e i j:=by rw [JM,← hee];rfl
   rw [eE]
   have stay:(e i j=true∨F2.getD j 0 < x)→Same H (upd G2 f0 (.lst ((nI (F2.set j x)).map V.int)))∧upd G2 f0 (.lst ((nI (F2.set j x)).map V.int)) d=some (.dK kvs)∧Ud m far e i (j+1) (F2.getD j 0) (F2.set j x):=fun h=>⟨Same.put s2 nf,by rw [aB df];exact hD2,JX (by omega) hi hj w h⟩
   cases ee:e i j with
   | true=>
    obtain ⟨a1,a2,a3⟩:=stay (.inl ee)
    show if true=true then _ else _
    walk_at "sts"
    refine mK hF2 (ut (p:=j) rfl (by rw [bT];omega)) ?_
    walk_at "sts"
    rw [pH]
    walk_at "sts"
    exact ⟨a1,a2,_,_,_,_,aj,a3,rfl⟩
   | false=>
    show if false=true then _ else _
    walk_at "sts"
    by_cases hlt:F2.getD j 0 < x
    ·obtain ⟨a1,a2,a3⟩:=stay (.inr hlt)
     rw [decide_eq_true (show ((F2.getD j 0:Nat):Int) < (x:Int) by omega)]
     walk_at "sts"
     refine mK hF2 (ut (p:=j) rfl (by rw [bT];omega)) ?_
     walk_at "sts"
     rw [pH]
     walk_at "sts"
     exact ⟨a1,a2,_,_,_,_,aj,a3,rfl⟩
    ·rw [decide_eq_false (show ¬ ((F2.getD j 0:Nat):Int) < (x:Int) by omega)]
     walk_at "sts"
     exact ⟨s2,hD2,_,_,_,_,hF2,JZ (by omega) hi hj w ee hlt,rfl⟩
  ·rintro σ G2 ⟨s2,hD2,F2,x,y7,y8,hF2,w,rfl⟩
   walk_at "sts"
   refine cu ly ?_
   walk_at "sts"
   rw [show top.length=far from hf,show (far:Int)+(m:Int) - 1 - (i:Int)=((m - 1 - i+far:Nat):Int) by omega]
   refine .inr ⟨d,_,rfl,DPut.k (k:=Sum.inl (x:Int)) hD2 (by omega),?_⟩
   try walk_at "sts"
   have lk:=gj kvs (Sum.inl (x:Int)) (V.int ((m - 1 - i+far:Nat):Int))
   refine ⟨Same.put s2 nd0,⟨F2,_,by rw [aB (Ne.symm df)];exact hF2,w.len,fun k hk=>?_,aj,by omega,fun i' hi'=>?_⟩,_,_,_,_,rfl⟩
   ·rw [Dk,w.lo k hk,show m - (i+1)+k=m - 1 - i+k by omega]
   ·rw [Dk,lJ]
    by_cases e1:i'=i
    ·subst e1
     rw [← w.ln,if_pos rfl]
    ·have hP:=xJ (e:=e) (m:=m) (far:=far) (by omega) (.inl ⟨hi,Nat.le_refl far⟩)
     have hl:=xK m far e i far
     rw [if_neg,J8 hi (Nat.le_refl _) (by omega)]
     ·exact hkv i' (by omega)
     ·intro z
      have z1:(stE m far e i far).getD (m - 1 - i'+far) 0=(stE m far e i far).getD (m - 1 - i+far) 0:=by
       rw [← w.ln]
       have:=Sum.inl.inj z
       omega
      have:=qX (n:=m+far) (by have:=hP.pm;rw [hl] at this;exact this) (by omega) (by omega) z1
      omega
 ·rintro σ G ⟨s,⟨F,kvs,hF,hFl,hFk,hD,hkl,hkv⟩,x5,x6,x7,x8,rfl⟩
  walk_at "sts"
  refine cu ly ?_
  walk_at "sts"
  rw [show top.length=far from hf]
  refine ⟨_,rfl,by omega,by omega,?_⟩
  rw [show ((far:Nat):Int).toNat=far by omega]
  have hP:=xJ (e:=e) (m:=m) (far:=far) (i:=m) (j:=0) (by omega) (.inr ⟨Nat.le_refl m,rfl⟩)
  have hl:=xK m far e m 0
  have hE:LN m far e=inv (stE m far e m 0):=by unfold LN;rw [Ou]
  generalize stE m far e m 0=W at hFk hkv hP hl hE
  have hpm:W.Perm (List.range (m+far)):=by have:=hP.pm;rw [hl] at this;exact this
  refine oE (n:=far) (fun j σ G=>Same H G∧G f0=some (.lst ((nI F).map V.int))∧(∃ kvs,G d=some (.dK kvs)∧kvs.length≤m+j∧∀ p,p < j∨far≤p∧p < m+far→jz kvs (Sum.inl ((W.getD p 0:Nat):Int))=some (.int (p:Int)))∧∃ x7,σ=[some (.str side),some (.str top),some (.int (m:Int)),some (.ref f0),some (.ref d),x5,x6,x7,x8])
   ⟨s,hF,⟨kvs,hD,by omega,fun p hp=>?_⟩,_,rfl⟩ ?_ ?_
  ·have:=hkv (m - 1+far - p) (by omega)
   rw [show m - 1 - (m - 1+far - p)+far=p by omega] at this
   exact this
  ·rintro j σ G2 hj ⟨s2,hF2,⟨kv2,hD2,hl2,hv2⟩,y7,rfl⟩
   rw [Int.zero_add]
   walk_at "sts"
   refine cO (SqL.of hF2) (rK (k:=j) (by omega) rfl) ?_
   walk_at "sts"
   refine .inr ⟨d,_,rfl,DPut.k (k:=Sum.inl ((F.getD j 0:Nat):Int)) hD2 (by omega),?_⟩
   try walk_at "sts"
   have lk:=gj kv2 (Sum.inl ((F.getD j 0:Nat):Int)) (V.int (j:Int))
   refine ⟨Same.put s2 nd0,by rw [aB (Ne.symm df)];exact hF2,⟨_,aj,by omega,fun p hp=>?_⟩,_,rfl⟩
   have ej:F.getD j 0=W.getD j 0:=by rw [hFk j hj,Nat.sub_self,Nat.zero_add]
   rw [lJ,ej]
   by_cases e1:p=j
   ·subst e1;rw [if_pos rfl]
   ·rw [if_neg]
    ·exact hv2 p (by omega)
    ·intro z
     have z1:W.getD p 0=W.getD j 0:=by have:=Sum.inl.inj z;omega
     exact e1 (qX hpm (by omega) (by omega) z1)
  ·rintro σ G2 ⟨s2,hF2,⟨kv2,hD2,hl2,hv2⟩,y7,rfl⟩
   walk_at "sts"
   refine cu ly ?_
   walk_at "sts"
   rw [show top.length=far from hf,show (m:Int)+(far:Int)=((m+far:Nat):Int) by omega]
   refine ⟨_,rfl,by omega,by omega,?_⟩
   rw [show ((m+far:Nat):Int).toNat=m+far by omega]
   refine vG (fun k=>V.int (((inv W).getD k 0:Nat):Int)) (by omega) (fun i hi=>?_) fun r H5 nr S5 hr5=>?_
   ·have hmem:i∈W:=hP.mem (by omega)
    obtain ⟨p,hp,ep⟩:=List.mem_iff_getElem.mp hmem
    have ep2:W[p]?=some i:=by rw [List.getElem?_eq_getElem hp,ep]
    have ep3:W.getD p 0=i:=by rw [List.getD_eq_getElem?_getD,ep2];rfl
    have hv:=hv2 p (by omega)
    rw [ep3] at hv
    have hg:=DGet.k (k:=Sum.inl (i:Int)) hD2
    rw [hv] at hg
    walk_at "sts"
    refine ⟨KeepSt.set rfl,?_⟩
    walk_at "sts"
    rw [Int.zero_add]
    refine ⟨d,_,rfl,hg,?_⟩
    refine ⟨rfl,CJ ?_⟩
    rw [jD (by omega),gQ hP.nd ep2]
   try walk_at "sts"
   refine q r H5 (Same.back s2 nr) (s2.trans S5) ?_
   rw [hee,hm,hf,hE,hr5]
   congr 2
   unfold nI
   rw [List.map_map]
   refine List.ext_getElem? fun k=>?_
   by_cases hk:k < m+far
   ·rw [List.getElem?_map,List.getElem?_range hk,List.getElem?_map,getD_some (by rw [bJ];omega)]
    rfl
   ·rw [List.getElem?_eq_none (by simp;omega),List.getElem?_eq_none (by simp [bJ];omega)]
end
local macro_rules | `(tactic| walk_at "sts") => `(tactic| (with_reducible repeat (first | refine lO ?_ | refine lw ?_ | refine kZ ?_ | refine iZ ?_ | refine jc ?_ | (refine' iM ?hz0 ?_; (case hz0 => with_unfolding_all rfl)) | refine vm ?_ | refine lV ?_ | refine dZ ?_ | refine dM ?_ | refine iQ ?_ | refine nj ?_ | refine iC ?_ | refine dF ?_ | refine iG ?_ | refine dD ?_ | refine lK ?_ | refine dH ?_ | refine lW ?_ | refine lQ ?_ | refine dN ?_ | refine lM ?_ | refine iH ?_ | refine iI ?_ | refine lN ?_ | refine dI ?_ | refine iJ ?_ | refine dJ ?_ | refine iK ?_ | refine iD ?_ | refine dG ?_ | refine jw ?_ | refine ju ?_ | refine lR ?_ | refine iR ?_ | refine lU ?_ | refine iT ?_ | refine dO ?_ | refine dR ?_ | refine dU ?_ | refine dW ?_ | refine dX ?_ | refine dY ?_ | refine iU ?_ | refine cC ?_ | refine d9 ?_ | (refine' cP (SqT.of ?hz0) ?hz1 ?_; (case hz0 => first | assumption | exact aj); (case hz1 => rfl)) | refine cG ?_ | refine eQ ?_ | refine eU ?_ | refine di ?_ | refine dj ?_ | refine dm ?_ | refine dq ?_ | refine lX ?_ | refine dg ?_ | refine dh ?_ | refine eN ?_ | refine eO ?_ | refine cF ?_ | refine iV ?_ | refine d8 ?_ | (refine' vq ?hz0 ?_; (case hz0 => with_unfolding_all first | assumption | omega | (dsimp only <;> omega) | exact ⟨by omega, by omega⟩ | exact .inl ⟨by omega, by omega⟩ | exact .inr ⟨by omega, by omega⟩ | exact ⟨by decide, by decide, by decide⟩)) | (refine' d7 ?hz0 ?_; (case hz0 => with_unfolding_all first | assumption | omega | (dsimp only <;> omega) | exact ⟨by omega, by omega⟩ | exact .inl ⟨by omega, by omega⟩ | exact .inr ⟨by omega, by omega⟩ | exact ⟨by decide, by decide, by decide⟩)) | (refine' cO (SqL.of ?hz0) ?hz1 ?_; (case hz0 => first | assumption | exact aj); (case hz1 => with_unfolding_all rfl)) | (refine' c7 ?hz0 ?hz1 ?_; (case hz0 => first | assumption | exact aj); (case hz1 => with_unfolding_all rfl)) | refine cI ?_ | refine jd ?_ | refine eV ?_ | refine cJ ?_ | refine eY ?_ | refine cL ?_ | refine fY ?_)))
local macro_rules | `(tactic| walk_at "stn") => `(tactic| (with_reducible repeat (first | refine lO ?_ | refine lw ?_ | refine kZ ?_ | refine iZ ?_ | refine jc ?_ | (refine' iM ?hz0 ?_; (case hz0 => with_unfolding_all rfl)) | refine vm ?_ | refine lV ?_ | refine dZ ?_ | refine dM ?_ | refine iQ ?_ | refine iC ?_ | refine dF ?_ | refine iG ?_ | refine dD ?_ | refine lK ?_ | refine dH ?_ | refine lW ?_ | refine lQ ?_ | refine dN ?_ | refine lM ?_ | refine iH ?_ | refine iI ?_ | refine lN ?_ | refine dI ?_ | refine iJ ?_ | refine dJ ?_ | refine iK ?_ | refine iD ?_ | refine dG ?_ | refine jw ?_ | refine ju ?_ | refine lR ?_ | refine iR ?_ | refine lU ?_ | refine iT ?_ | refine dO ?_ | refine dR ?_ | refine dU ?_ | refine dW ?_ | refine dX ?_ | refine dY ?_ | refine iU ?_ | refine cC ?_ | refine d9 ?_ | (refine' cP (SqT.of ?hz0) ?hz1 ?_; (case hz0 => first | assumption | exact aj); (case hz1 => rfl)) | refine cG ?_ | refine eQ ?_ | refine eU ?_ | refine di ?_ | refine dj ?_ | refine dm ?_ | refine dq ?_ | refine lX ?_ | refine dg ?_ | refine dh ?_ | refine eN ?_ | refine eO ?_ | refine cF ?_ | refine iV ?_ | refine d8 ?_ | (refine' vq ?hz0 ?_; (case hz0 => with_unfolding_all first | assumption | omega | (dsimp only <;> omega) | exact ⟨by omega, by omega⟩ | exact .inl ⟨by omega, by omega⟩ | exact .inr ⟨by omega, by omega⟩ | exact ⟨by decide, by decide, by decide⟩)) | (refine' d7 ?hz0 ?_; (case hz0 => with_unfolding_all first | assumption | omega | (dsimp only <;> omega) | exact ⟨by omega, by omega⟩ | exact .inl ⟨by omega, by omega⟩ | exact .inr ⟨by omega, by omega⟩ | exact ⟨by decide, by decide, by decide⟩)) | (refine' cO (SqL.of ?hz0) ?hz1 ?_; (case hz0 => first | assumption | exact aj); (case hz1 => with_unfolding_all rfl)) | (refine' c7 ?hz0 ?hz1 ?_; (case hz0 => first | assumption | exact aj); (case hz1 => with_unfolding_all rfl)) | refine cI ?_ | refine jd ?_ | refine eV ?_ | refine cJ ?_ | refine eY ?_ | refine cL ?_ | refine fY ?_)))
section
variable {P:Program} {w:World} {K:PySem.W.Frag} {mg:Str→Option Value} {base:Heap}
theorem Ui:bD jF "_law_letters":=by decide+kernel
theorem Uj:bD jF "_law_sign_here":=by decide+kernel
theorem kz5o:bD jF "_law_base_here":=by decide+kernel
theorem Xr:bK kI "_law_mix":=by decide+kernel
theorem Xu:bD kI "_law_cell_here":=by decide+kernel
theorem Bp:∀ c∈GOOD,c=46∨(97≤c∧c < 123):=by decide+kernel
theorem OD:∀ k∈List.range 26,97+k∈GOOD:=by decide+kernel
theorem OJ:∀ k∈List.range 26,Builtin.Str.occurrences (Str.ofString "abcdefghijklmnopqrstuvwxyz") ⟨#[97+k]⟩ 0 (Str.ofString "abcdefghijklmnopqrstuvwxyz").length 1=[k]:=by decide+kernel
theorem O1:∀ k∈List.range 26,(Str.ofString "abcdefghijklmnopqrstuvwxyz").cps.toList[k]?=some (97+k):=by decide+kernel
def O2:Sp:=fun vs H Q _=>∃ (c:Nat) (b:Int),vs=[.str ⟨#[c]⟩,.int b]∧c∈GOOD∧∀ d,d∈GOOD→Q (.str ⟨#[d]⟩) H
theorem rQ:aD ["_law_sign_here","_law_base_here","_law_letters"] ["_law_sign_here","_law_base_here"] (aq jF):=⟨rfl,rfl,rfl,by decide+kernel,rfl,by decide+kernel,by decide+kernel⟩
theorem pM (T:Txt K mg):Has P w K mg base 1 "_law_sign" ["_law_sign_here","_law_base_here"] O2:=by
 refine fj T.d_law_sign rQ (fun _ _ _ _ _ _ us hl=>L2.oO (fun _ _=>rfl) us hl) ?_ fun f cdv A outer s H vs Q E hr h=>?_
 ·rintro vs H Q E ⟨c,b,rfl,_⟩;rfl
 obtain ⟨c,b,rfl,hcg,q⟩:=h
 have hu:=hr.units0
 have hu64:=hr.units
 refine ⟨_,(az (aM (i:=2) rQ.nd rfl (Or.inl Ui) iW rfl) (az (cz (bx (jB (K:=K) rfl hu64) (ao 0 Uj) iW (by first | exact aW _ | with_unfolding_all rfl)) (aA (aN (ao 0 Uj))) bI) (aA (aN (m5 (K:=K) rfl (ao 2 Ui) (bj ik (bj aP (ph (K:=K) rfl PySem.F.plainAttrs_str PySem.F.slot_str_index PySem.F.type_str_index Fb (ao 2 Ui) (aa (ao 0 Uj) ak)) (ao 1 kz5o)) aG)))))),?_⟩
 walk_at "sts"
 have hsl:(Str.ofString "abcdefghijklmnopqrstuvwxyz").length≤sizeLine:=Nat.le_trans (show _≤100 by decide+kernel) (by decide)
 refine uF (fun h=>?_) (fun h=>?_)
 ·walk_at "sts"
  exact q c hcg
 ·have hc46:c≠46:=fun z=>h (by rw [z];decide+kernel)
  obtain ⟨h1,h2⟩:=(Bp c hcg).resolve_left hc46
  have hk:c - 97∈List.range 26:=List.mem_range.mpr (by omega)
  have hix:=OJ _ hk
  rw [show 97+(c - 97)=c by omega] at hix
  walk_at "sts"
  refine ⟨rfl,?_⟩
  walk_at "sts"
  refine ⟨_,_,_,_,rfl,rfl,hix,?_⟩
  walk_at "sts"
  have hd:((((c - 97:Nat):Int)+b) % 26).toNat∈List.range 26:=List.mem_range.mpr (by omega)
  refine yx hsl (sS (by omega) (O1 _ hd)) ?_
  walk_at "sts"
  exact q _ (OD _ hd)
def O3:Sp:=fun vs H Q _=>∃ n:Int,vs=[.int n]∧∀ (b:Int) H',Same H H'→Q (.int b) H'
theorem zE:aD ["_law_cell_here"] ["_law_cell_here"] (aq kI):=⟨rfl,rfl,rfl,by decide+kernel,rfl,by decide+kernel,by decide+kernel⟩
theorem pN (T:Txt K mg):Has P w K mg base 2 "_law_base" ["_law_cell_here"] O3:=by
 have fW:=fW (P:=P) (w:=w) (base:=base) T
 refine fj T.d_law_base zE (fun _ _ _ _ _ _ us hl=>L2.j6 (fun _=>rfl) us hl) ?_ fun f cdv A outer s H vs Q E hr h=>?_
 ·rintro vs H Q E ⟨n,rfl,_⟩;rfl
 obtain ⟨n,rfl,q⟩:=h
 have hu:=hr.units0
 have hu64:=hr.units
 refine ⟨_,(aA (aN (m5 (K:=K) rfl (iY (aa aG (aa (bj ik (aF fW (hr.mono (by decide)) (aV Xr) (aa (ao 0 Xu) (aa aG ak)) (by decide+kernel)) aG) ak))) (bj ik (aF fW (hr.mono (by decide)) (aV Xr) (aa (ao 0 Xu) (aa aG ak)) (by decide+kernel)) aG)))),?_⟩
 walk_at "sts"
 refine ⟨_,_,rfl,fun r r0 r1=>?_⟩
 walk_at "sts"
 refine fJ rfl fun p H1 np S1 hp=>?_
 walk_at "sts"
 refine ⟨_,_,rfl,fun r' r0' r1'=>?_⟩
 walk_at "sts"
 obtain ⟨v,hv,ev⟩:=VJ (vs:=[V.int 0,.int (r % 26)]) (d:=r' % 2) (by omega) (by show r' % 2 < 2;omega)
 refine cO (SqL.of hp) ev ?_
 walk_at "sts"
 simp only [List.mem_cons,List.mem_nil_iff,or_false] at hv
 rcases hv with rfl | rfl
 ·exact q _ _ S1
 ·exact q _ _ S1
end
section
variable {P:Program} {w:World} {K:PySem.W.Frag} {mg:Str→Option Value} {base:Heap}
theorem kz5r:bK cW "Beside":=by decide+kernel
theorem Xv:bK cW "all_beside":=by decide+kernel
theorem Uk:bD cW "cut":=by decide+kernel
theorem Ka:bD cW "pieces":=by decide+kernel
theorem Xw:bK cW "len":=by decide+kernel
theorem kz5w:bK gA "Over":=by decide+kernel
theorem Xx:bK gA "all_over":=by decide+kernel
theorem Ul:bD gA "cut":=by decide+kernel
theorem Kc:bD gA "pieces":=by decide+kernel
theorem Xy:bK gA "len":=by decide+kernel
def TK (y kind:Str):Prop:=(y="Blank"∧kind=Str.ofString "blank")∨(y="One"∧kind=Str.ofString "one")∨(y="Over"∧kind=Str.ofString "over")∨(y="Beside"∧kind=Str.ofString "beside")
theorem xM {H H2:Hp} {x dx:Addr} {o1 o2:HO} (nx:H x=none) (nd:H dx=none) (c:Chg x (upd (upd H dx o1) x o2) H2):Same H H2:=fun b o e=>by
 have h1:b≠x:=fun z=>by rw [z,nx] at e;cases e
 have h2:b≠dx:=fun z=>by rw [z,nd] at e;cases e
 exact c b o h1 (by rw [aB h1,aB h2];exact e)
theorem zF {H:Hp} {x dx m:Addr} {o o1 o2:HO} (nx:H x=none) (nd:H dx=none) (hm:H m=some o):upd (upd H dx o1) x o2 m=some o∧m≠x:=by
 have h1:m≠x:=fun z=>by rw [z,nx] at hm;cases hm
 have h2:m≠dx:=fun z=>by rw [z,nd] at hm;cases hm
 exact ⟨by rw [aB h1,aB h2];exact hm,h1⟩
theorem O4 {H:Hp} {x dx:Addr} {o1 o2:HO} (nx:H x=none) (nd:H dx=none):Same H (upd (upd H dx o1) x o2):=fun b o e=>(zF nx nd e).1
theorem PsH.same {H H':Hp} {ps:List V} {hs:List Nat} (p:PsH mg H ps hs) (c:Same H H'):PsH mg H' ps hs:=⟨p.1,fun i v h e1 e2=>by
 obtain ⟨q,y,s,t,k,L,qs,rfl,z⟩:=p.2 i v h e1 e2
 exact ⟨q,y,s,t,k,L,qs,rfl,z.same c⟩⟩
def GP1 (mg:Str→Option Value) (H:Hp) (x:Addr) (side top:Str) (h:Nat):Prop:=∃ (y kind:Str) (ps:List V) (hs:List Nat),PG mg H x y side top kind ps h∧TK y kind∧PsH mg H ps hs∧uz hs h∧((ps=[]∧(kind=Str.ofString "blank"∨kind=Str.ofString "one"))∨ps.length=2)
theorem GP1.same {H H':Hp} {x:Addr} {side top:Str} {h:Nat} (p:GP1 mg H x side top h) (c:Same H H'):GP1 mg H' x side top h:=by
 obtain ⟨y,k,ps,hs,a,b,d,e,f⟩:=p
 exact ⟨y,k,ps,hs,a.same c,b,d.same c,e,f⟩
theorem GP1.blank {H:Hp} {x:Addr} {side top:Str} (p:PG mg H x "Blank" side top (Str.ofString "blank") [] 0):GP1 mg H x side top 0:=⟨_,_,_,[],p,.inl ⟨rfl,rfl⟩,sX,.inl ⟨rfl,rfl⟩,.inl ⟨rfl,.inl rfl⟩⟩
theorem GP1.one {H:Hp} {x:Addr} {side top:Str} (p:PG mg H x "One" side top (Str.ofString "one") [] 0):GP1 mg H x side top 0:=⟨_,_,_,[],p,.inr (.inl ⟨rfl,rfl⟩),sX,.inl ⟨rfl,rfl⟩,.inl ⟨rfl,.inr rfl⟩⟩
theorem GP1.two {H:Hp} {x u l:Addr} {y kind side top s1 t1 s2 t2:Str} {h hu hl:Nat} (tk:TK y kind) (p:PG mg H x y side top kind [.ref u,.ref l] h) (hh:uz [hu,hl] h) (gu:GP1 mg H u s1 t1 hu) (gl:GP1 mg H l s2 t2 hl):GP1 mg H x side top h:=by
 obtain ⟨_,_,_,_,a,_⟩:=gu
 obtain ⟨_,_,_,_,b,_⟩:=gl
 exact ⟨y,kind,_,[hu,hl],p,tk,xF a b,hh,.inr rfl⟩
def Hm (H0 H:Hp):Hp:=fun b=>match H0 b with
 | some _=>none
 | none=>H b
theorem rR {H0 H:Hp} {b:Addr} {o:HO} (h:Hm H0 H b=some o):H0 b=none∧H b=some o:=by
 unfold Hm at h
 split at h
 ·cases h
 ·exact ⟨by assumption,h⟩
theorem rT {H0 H:Hp} {b:Addr} {o:HO} (h:H b=some o) (n:H0 b=none):Hm H0 H b=some o:=by unfold Hm;rw [n];exact h
theorem O5 {H0 H:Hp}:Same (Hm H0 H) H:=fun b o e=>(rR e).2
theorem Xz {H0 H H':Hp} (c:Same H H'):Same (Hm H0 H) (Hm H0 H'):=fun b o e=>rT (c _ _ (rR e).2) (rR e).1
theorem Um {H0 H H':Hp} {n:Addr} {o:HO} (hn:H0 n=some o) (c:Chg n H H'):Same (Hm H0 H) (Hm H0 H'):=fun b u e=>rT (c b u (fun z=>by have:=(rR e).1;rw [z,hn] at this;cases this) (rR e).2) (rR e).1
def Dm (H0 H:Hp):Prop:=∀ m o,H0 m=some o→∃ o',H m=some o'
theorem Dm.of {H0 H:Hp} (s:Same H0 H):Dm H0 H:=fun m o e=>⟨o,s _ _ e⟩
theorem Dm.same {H0 H H':Hp} (d:Dm H0 H) (s:Same H H'):Dm H0 H':=fun m o e=>let ⟨o',e'⟩:=d m o e;⟨o',s _ _ e'⟩
theorem Dm.put {H0 H:Hp} {n:Addr} {o:HO} (d:Dm H0 H):Dm H0 (upd H n o):=fun m u e=>by
 by_cases h:m=n
 ·rw [h,aj];exact ⟨_,rfl⟩
 ·rw [aB h];exact d m u e
theorem Dm.chg {H0 H H':Hp} {n:Addr} {o:HO} (d:Dm H0 H) (c:Chg n H H') (hn:H' n=some o):Dm H0 H':=fun m u e=>by
 by_cases h:m=n
 ·rw [h];exact ⟨_,hn⟩
 ·obtain ⟨o',e'⟩:=d m u e
  exact ⟨o',c m o' h e'⟩
theorem O6 {H0 H H':Hp} (d:Dm H0 H):Same (Hm H H') (Hm H0 H'):=fun b o e=>rT (rR e).2 (by
 cases h:H0 b with
 | none=>rfl
 | some u=>obtain ⟨o',e'⟩:=d b u h;have:=(rR e).1;rw [e'] at this;cases this)
theorem PG.hm {H0 H:Hp} {x:Addr} {y side top kind:Str} {ps:List V} {h:Nat} (p:PG mg H x y side top kind ps h) (N:∀ m o,H0 m=some o→PG mg (Hx m H) x y side top kind ps h):PG mg (Hm H0 H) x y side top kind ps h:=by
 obtain ⟨⟨hy,dx,al,ap,a,b,c⟩,rs,rt⟩:=p
 have key:∀ m o,H0 m=some o→x≠m∧al≠m∧ap≠m:=fun m o hm=>by
  obtain ⟨⟨_,dx',al',ap',a',b',c'⟩,_,_⟩:=N m o hm
  have e:=Dg m H _ _ a'
  rw [a] at e
  simp only [Option.some.injEq,HO.ins.injEq,pcF,List.cons.injEq,Prod.mk.injEq,V.ref.injEq,true_and,and_true] at e
  obtain ⟨_,rfl,rfl⟩:=e
  have nn:∀ {b:Addr} {o:HO},Hx m H b=some o→b≠m:=fun {b o} hb z=>by rw [z] at hb;unfold Hx at hb;rw [if_pos rfl] at hb;cases hb
  exact ⟨nn a',nn b',nn c'⟩
 have out:∀ b,(∀ m o,H0 m=some o→b≠m)→H0 b=none:=fun b hb=>by
  cases h:H0 b with
  | none=>rfl
  | some o=>exact absurd rfl (hb b o h)
 exact ⟨⟨hy,dx,al,ap,rT a (out x fun m o hm=>(key m o hm).1),rT b (out al fun m o hm=>(key m o hm).2.1),rT c (out ap fun m o hm=>(key m o hm).2.2)⟩,rs,rt⟩
def GP (mg:Str→Option Value) (H0 H:Hp) (x:Addr) (side top:Str) (h:Nat):Prop:=GP1 mg (Hm H0 H) x side top h
theorem GP.g {H0 H:Hp} {x:Addr} {side top:Str} {h:Nat} (p:GP mg H0 H x side top h):GP1 mg H x side top h:=GP1.same p O5
theorem GP.same {H0 H H':Hp} {x:Addr} {side top:Str} {h:Nat} (p:GP mg H0 H x side top h) (c:Same H H'):GP mg H0 H' x side top h:=GP1.same p (Xz c)
theorem GP.chg {H0 H H':Hp} {n x:Addr} {o:HO} {side top:Str} {h:Nat} (p:GP mg H0 H x side top h) (hn:H0 n=some o) (c:Chg n H H'):GP mg H0 H' x side top h:=GP1.same p (Um hn c)
theorem GP.less {H0 H H':Hp} {x:Addr} {side top:Str} {h:Nat} (p:GP mg H H' x side top h) (d:Dm H0 H):GP mg H0 H' x side top h:=GP1.same p (O6 d)
theorem rm {H:Hp} {a m:Addr} {o:HO} (hm:H m=some o) (n:H a=none):a≠m:=fun z=>by rw [z,hm] at n;cases n
theorem jy {H0 H:Hp} {side top:Str} {R:Addr→Hp→Prop} {E:XK} (S0:Dm H0 H) (rs:Row side) (rt:Row top) (he:side.cps.size=0∨top.cps.size=0) (q:∀ x H',Same H H'→PG mg H' x "Blank" side top (Str.ofString "blank") [] 0→GP mg H0 H' x side top 0→R x H') (x dx:Addr) (nx:H x=none) (nd:H dx=none) (_:dx≠x):
  Di mg [.ref x,.str side,.str top] (upd (upd H dx (.own x)) x (.ins (aU mg "Blank") dx [])) (fun v H2=>v= .non∧R x H2) E:=
 ⟨x,dx,side,top,rfl,aj,rs,rt,he,fun H2 C P2 N2=>⟨rfl,q x H2 (xM nx nd C) P2 (GP1.blank (P2.hm fun m o hm=>let ⟨o',e⟩:=S0 m o hm;N2 m o' (zF nx nd e).1 (rm e nx).symm))⟩⟩
theorem xN {H0 H:Hp} {c d:Nat} {R:Addr→Hp→Prop} {E:XK} (S0:Dm H0 H) (hc:c∈GOOD) (hd:d∈GOOD) (q:∀ x H',Same H H'→PG mg H' x "One" ⟨#[c]⟩ ⟨#[d]⟩ (Str.ofString "one") [] 0→GP mg H0 H' x ⟨#[c]⟩ ⟨#[d]⟩ 0→R x H') (x dx:Addr) (nx:H x=none) (nd:H dx=none) (_:dx≠x):
  Qu mg [.ref x,.str ⟨#[c]⟩,.str ⟨#[d]⟩] (upd (upd H dx (.own x)) x (.ins (aU mg "One") dx [])) (fun v H2=>v= .non∧R x H2) E:=
 ⟨x,dx,c,d,rfl,aj,hc,hd,fun H2 C P2 N2=>⟨rfl,q x H2 (xM nx nd C) P2 (GP1.one (P2.hm fun m o hm=>let ⟨o',e⟩:=S0 m o hm;N2 m o' (zF nx nd e).1 (rm e nx).symm))⟩⟩
theorem qx {H0 H:Hp} {u l:Addr} {su sl top:Str} {hu hl:Nat} {R:Addr→Hp→Prop} {E:XK} (S0:Dm H0 H) (gu:GP mg H0 H u su top hu) (gl:GP mg H0 H l sl top hl) (hlen:(su ++ sl).length≤48) (q:∀ x h H',Same H H'→uz [hu,hl] h→PG mg H' x "Over" (su ++ sl) top (Str.ofString "over") [.ref u,.ref l] h→GP mg H0 H' x (su ++ sl) top h→R x H') (x dx:Addr) (nx:H x=none) (nd:H dx=none) (_:dx≠x):
  Dj mg [.ref x,.ref u,.ref l] (upd (upd H dx (.own x)) x (.ins (aU mg "Over") dx [])) (fun v H2=>v= .non∧R x H2) E:=by
 obtain ⟨_,_,_,_,a,_⟩:=id gu.g
 obtain ⟨_,_,_,_,b,_⟩:=id gl.g
 refine ⟨x,dx,u,l,_,_,su,sl,top,_,_,_,_,hu,hl,rfl,aj,a.same (O4 nx nd),b.same (O4 nx nd),hlen,fun h H2 hh C P2 N2=>⟨rfl,?_⟩⟩
 have S:=xM nx nd C
 have tk:TK "Over" (Str.ofString "over"):=.inr (.inr (.inl ⟨rfl,rfl⟩))
 exact q x h H2 S hh P2 (GP1.two tk (P2.hm fun m o hm=>let ⟨o',e⟩:=S0 m o hm;N2 m o' (zF nx nd e).1 (rm e nx).symm) hh (gu.same S) (gl.same S))
theorem mC {H0 H:Hp} {u l:Addr} {side tu tl:Str} {hu hl:Nat} {R:Addr→Hp→Prop} {E:XK} (S0:Dm H0 H) (gu:GP mg H0 H u side tu hu) (gl:GP mg H0 H l side tl hl) (hlen:(tu ++ tl).length≤48) (q:∀ x h H',Same H H'→uz [hu,hl] h→PG mg H' x "Beside" side (tu ++ tl) (Str.ofString "beside") [.ref u,.ref l] h→GP mg H0 H' x side (tu ++ tl) h→R x H') (x dx:Addr) (nx:H x=none) (nd:H dx=none) (_:dx≠x):
  vO mg [.ref x,.ref u,.ref l] (upd (upd H dx (.own x)) x (.ins (aU mg "Beside") dx [])) (fun v H2=>v= .non∧R x H2) E:=by
 obtain ⟨_,_,_,_,a,_⟩:=id gu.g
 obtain ⟨_,_,_,_,b,_⟩:=id gl.g
 refine ⟨x,dx,u,l,_,_,side,tu,tl,_,_,_,_,hu,hl,rfl,aj,a.same (O4 nx nd),b.same (O4 nx nd),hlen,fun h H2 hh C P2 N2=>⟨rfl,?_⟩⟩
 have S:=xM nx nd C
 have tk:TK "Beside" (Str.ofString "beside"):=.inr (.inr (.inr ⟨rfl,rfl⟩))
 exact q x h H2 S hh P2 (GP1.two tk (P2.hm fun m o hm=>let ⟨o',e⟩:=S0 m o hm;N2 m o' (zF nx nd e).1 (rm e nx).symm) hh (gu.same S) (gl.same S))
theorem Qv {a b h n:Nat} (k:uz [a,b] h) (ha:a≤n) (hb:b≤n):h≤n+1:=by
 rcases k with ⟨e,_⟩ | ⟨⟨c,hc,e⟩,_⟩
 ·cases e
 ·simp only [List.mem_cons,List.mem_nil_iff,or_false] at hc
  rcases hc with rfl | rfl <;> omega
theorem jN {a b:Str} (h:a.cps.toList=b.cps.toList):a=b:=by
 cases a;cases b;congr;exact Array.ext' h
def j0:List Str→Str
 | []=>Str.ofString ""
 | s :: ss=>s ++ j0 ss
theorem qy:(Str.ofString "").cps.toList=[]:=by decide+kernel
theorem oM (s:Str):s ++ Str.ofString ""=s:=jN (by rw [gK,qy,List.append_nil])
theorem qz (s:Str):Str.ofString "" ++ s=s:=jN (by rw [gK,qy,List.nil_append])
theorem FW (a b c:Str):a ++ b ++ c=a ++ (b ++ c):=jN (by rw [gK,gK,gK,gK,List.append_assoc])
theorem zG:∀ (a b:List Str),j0 (a ++ b)=j0 a ++ j0 b
 | [],b=>(qz _).symm
 | s :: a,b=>by show s ++ j0 (a ++ b)=s ++ j0 a ++ j0 b;rw [zG a b,FW]
def o6 (z:Str):List Str:=z.cps.toList.map fun c=>⟨#[c]⟩
theorem oN (z:Str):j0 (o6 z)=z:=by
 refine jN ?_
 unfold o6
 induction z.cps.toList with
 | nil=>exact qy
 | cons c l ih=>show (⟨#[c]⟩ ++ j0 _:Str).cps.toList=_;rw [gK,ih];rfl
theorem len_cat (a b:Str):(a ++ b).length=a.length+b.length:=nU a b
def Ke (K:PySem.W.Frag) (mg:Str→Option Value) (d:Nat):Sp:=fun vs H Q _=>∃ (p:Addr) (xs:List Addr) (side:Str) (ts:List Str) (h0:Nat) (H0:Hp),vs=[.ref p]∧Dm H0 H∧H p=some (.lst (xs.map V.ref))∧xs.length=ts.length∧0 < xs.length∧xs.length≤2 ^ d∧(j0 ts).length≤48∧(∀ (i:Nat) (x:Addr) (t:Str),xs[i]?=some x→ts[i]?=some t→∃ h,h≤h0∧GP mg H0 H x side t h)∧
 ∀ x h H',Same H H'→h≤h0+d→GP mg H0 H' x side (j0 ts) h→Q (.ref x) H'
def XD (K:PySem.W.Frag) (mg:Str→Option Value):Nat→Sp
 | 0=>fun _ _ _ _=>False
 | d+1=>Ke K mg d
def Kf (K:PySem.W.Frag) (mg:Str→Option Value) (d:Nat):Sp:=fun vs H Q _=>∃ (p:Addr) (xs:List Addr) (top:Str) (ts:List Str) (h0:Nat) (H0:Hp),vs=[.ref p]∧Dm H0 H∧H p=some (.lst (xs.map V.ref))∧xs.length=ts.length∧0 < xs.length∧xs.length≤2 ^ d∧(j0 ts).length≤48∧(∀ (i:Nat) (x:Addr) (t:Str),xs[i]?=some x→ts[i]?=some t→∃ h,h≤h0∧GP mg H0 H x t top h)∧
 ∀ x h H',Same H H'→h≤h0+d→GP mg H0 H' x (j0 ts) top h→Q (.ref x) H'
def XF (K:PySem.W.Frag) (mg:Str→Option Value):Nat→Sp
 | 0=>fun _ _ _ _=>False
 | d+1=>Kf K mg d
theorem vP {ts:List Str} {c:Nat} (h:(j0 ts).length≤48):j0 ts=j0 (ts.take c) ++ j0 (ts.drop c)∧(j0 (ts.take c)).length+(j0 (ts.drop c)).length≤48:=by
 have e:j0 ts=j0 (ts.take c) ++ j0 (ts.drop c):=by rw [← zG,List.take_append_drop]
 refine ⟨e,?_⟩
 rw [e,len_cat] at h
 exact h
theorem half {n d:Nat} (h:n≤2 ^ (d+1)):n / 2≤2 ^ d∧n - n / 2≤2 ^ d:=by
 rw [Nat.pow_succ] at h
 omega
theorem lE:aD ["pieces","cut"] ["pieces"] (aq cW):=⟨rfl,rfl,rfl,by decide+kernel,rfl,by decide+kernel,by decide+kernel⟩
theorem uO (T:Txt K mg):Has P w K mg base 1 "all_beside" ["pieces"] (fun _ _ _ _=>False):=fj (k:=0) T.d_all_beside lE (fun _ _ _ _ _ _ us hl=>L2.j6 (fun _=>rfl) us hl) (fun _ _ _ _ h=>h.elim) (fun _ _ _ _ _ _ _ _ _ _ h=>h.elim)
theorem o7 (T:Txt K mg) (d:Nat) (gO:Has P w K mg base (10+d) "all_beside" ["pieces"] (XD K mg d)):Has P w K mg base (10+d+1) "all_beside" ["pieces"] (Ke K mg d):=by
 have aO:=aO (P:=P) (w:=w) (base:=base) T
 refine fj T.d_all_beside lE (fun _ _ _ _ _ _ us hl=>L2.j6 (fun _=>rfl) us hl) ?_ fun f cdv A outer s H vs Q E hr h=>?_
 ·rintro vs H Q E ⟨p,xs,side,ts,h0,H0,rfl,_⟩;rfl
 obtain ⟨p,xs,side,ts,h0,H0,rfl,hS0,hp,hl,h1,h2,hlen,hG,q⟩:=h
 have hu:=hr.units0
 have hu64:=hr.units
 refine ⟨_,(az (cz (bx (jB (K:=K) rfl hu64) (aH (aC (K:=K) rfl) (aV Xw) T.b_len bc (aa (ao 0 Ka) ak) (by decide+kernel) (by decide+kernel)) aG (by first | exact aW _ | with_unfolding_all rfl)) (aA (aN (m5 (K:=K) rfl (ao 0 Ka) aG))) bI) (az (aM (i:=1) lE.nd rfl (Or.inl Uk) (bj sO (aH (aC (K:=K) rfl) (aV Xw) T.b_len bc (aa (ao 0 Ka) ak) (by decide+kernel) (by decide+kernel)) aG) rfl) (aA (aN (cH T.o_Beside aO (hr.mono (by omega)) (aV kz5r) (dz fun _ _=>rfl) (aa (aF gO (hr.mono (by omega)) (aV Xv) (aa (jq (jm (K:=K) rfl) (ao 0 Ka) jn (jo (ao 1 Uk))) ak) (by decide+kernel)) (aa (aF gO (hr.mono (by omega)) (aV Xv) (aa (jq (jm (K:=K) rfl) (ao 0 Ka) (jo (ao 1 Uk)) jn) ak) (by decide+kernel)) ak)) (by decide+kernel)))))),?_⟩
 walk_at "sts"
 have hz:20000≤sizeLine:=by decide
 refine fX (SqL.of hp) ?_
 walk_at "sts"
 rw [List.length_map]
 by_cases e1:xs.length=1
 ·rw [decide_eq_true (show V.int (xs.length:Int)=V.int 1 by rw [e1];rfl)]
  obtain ⟨x,rfl⟩:=List.length_eq_one_iff.mp e1
  obtain ⟨t,rfl⟩:=List.length_eq_one_iff.mp (hl.symm.trans e1)
  obtain ⟨h,hh,g⟩:=hG 0 x t rfl rfl
  have hp':H p=some (.lst [.ref x]):=hp
  walk_at "sts"
  refine q x h H (Same.refl H) (by omega) ?_
  rw [show j0 [t]=t from oM t]
  exact g
 ·rw [decide_eq_false (show ¬ V.int (xs.length:Int)=V.int 1 from fun z=>e1 (by have:=V.int.inj z;omega))]
  obtain ⟨e,rfl⟩:∃ e,d=e+1:=by
   cases d with
   | zero=>simp at h2;omega
   | succ e=>exact ⟨e,rfl⟩
  obtain ⟨k1,k2⟩:=half h2
  walk_at "sts"
  refine fX (SqL.of hp) ?_
  walk_at "sts"
  rw [List.length_map,show ((xs.length:Nat):Int) / 2=((xs.length / 2:Nat):Int) by omega]
  generalize hc:xs.length / 2=c at k1 k2 ⊢
  obtain ⟨c1,c2⟩:=vP (c:=c) hlen
  walk_at "sts"
  refine vy (SqL.of hp) fun p1 np1=>?_
  walk_at "sts"
  rw [ug,← List.map_take]
  have S1:=(Same.refl H).upd np1 (o:=.lst ((xs.take c).map V.ref))
  have hp1:=aj (H:=H) (a:=p1) (o:=.lst ((xs.take c).map V.ref))
  generalize upd H p1 (.lst ((xs.take c).map V.ref))=H1 at S1 hp1 ⊢
  walk_at "sts"
  refine ⟨p1,xs.take c,side,ts.take c,h0,H0,rfl,hS0.same S1,hp1,by simp;omega,by simp;omega,by simp;omega,by omega,(fun i x t ex et=>?_),fun x1 g1 H2 S2 l1 G1=>?_⟩
  walk_at "sts"
  ·obtain ⟨ei,ex'⟩:i < c∧xs[i]?=some x:=by
    rw [List.getElem?_take] at ex
    split at ex
    ·exact ⟨by assumption,ex⟩
    ·cases ex
   rw [List.getElem?_take_of_lt ei] at et
   obtain ⟨h,hh,g⟩:=hG i x t ex' et
   exact ⟨h,hh,g.same S1⟩
  have U2:=S1.trans S2
  try walk_at "sts"
  refine vy (SqL.of (U2 _ _ hp)) fun p2 np2=>?_
  walk_at "sts"
  rw [pA,← List.map_drop]
  have S3:=(Same.refl H2).upd np2 (o:=.lst ((xs.drop c).map V.ref))
  have hp3:=aj (H:=H2) (a:=p2) (o:=.lst ((xs.drop c).map V.ref))
  generalize upd H2 p2 (.lst ((xs.drop c).map V.ref))=H3 at S3 hp3 ⊢
  walk_at "sts"
  refine ⟨p2,xs.drop c,side,ts.drop c,h0,H0,rfl,hS0.same (U2.trans S3),hp3,by simp;omega,by simp;omega,by simp;omega,by omega,(fun i x t ex et=>?_),fun x2 g2 H4 S4 l2 G2=>?_⟩
  walk_at "sts"
  ·rw [List.getElem?_drop] at ex et
   obtain ⟨h,hh,g⟩:=hG _ x t ex et
   exact ⟨h,hh,g.same (U2.trans S3)⟩
  try walk_at "sts"
  refine mC (hS0.same (U2.trans (S3.trans S4))) (G1.same (S3.trans S4)) G2 (by rw [len_cat];omega) fun x h H5 S5 hh _ g=>?_
  refine q x h H5 (U2.trans (S3.trans (S4.trans S5))) (by have:=Qv hh l1 l2;omega) ?_
  rw [c1]
  exact g
theorem oh:aD ["pieces","cut"] ["pieces"] (aq gA):=⟨rfl,rfl,rfl,by decide+kernel,rfl,by decide+kernel,by decide+kernel⟩
theorem zH (T:Txt K mg):Has P w K mg base 1 "all_over" ["pieces"] (fun _ _ _ _=>False):=fj (k:=0) T.d_all_over oh (fun _ _ _ _ _ _ us hl=>L2.j6 (fun _=>rfl) us hl) (fun _ _ _ _ h=>h.elim) (fun _ _ _ _ _ _ _ _ _ _ h=>h.elim)
theorem rU (T:Txt K mg) (d:Nat) (jJ:Has P w K mg base (10+d) "all_over" ["pieces"] (XF K mg d)):Has P w K mg base (10+d+1) "all_over" ["pieces"] (Kf K mg d):=by
 have bH:=bH (P:=P) (w:=w) (base:=base) T
 refine fj T.d_all_over oh (fun _ _ _ _ _ _ us hl=>L2.j6 (fun _=>rfl) us hl) ?_ fun f cdv A outer s H vs Q E hr h=>?_
 ·rintro vs H Q E ⟨p,xs,top,ts,h0,H0,rfl,_⟩;rfl
 obtain ⟨p,xs,top,ts,h0,H0,rfl,hS0,hp,hl,h1,h2,hlen,hG,q⟩:=h
 have hu:=hr.units0
 have hu64:=hr.units
 refine ⟨_,(az (cz (bx (jB (K:=K) rfl hu64) (aH (aC (K:=K) rfl) (aV Xy) T.b_len bc (aa (ao 0 Kc) ak) (by decide+kernel) (by decide+kernel)) aG (by first | exact aW _ | with_unfolding_all rfl)) (aA (aN (m5 (K:=K) rfl (ao 0 Kc) aG))) bI) (az (aM (i:=1) oh.nd rfl (Or.inl Ul) (bj sO (aH (aC (K:=K) rfl) (aV Xy) T.b_len bc (aa (ao 0 Kc) ak) (by decide+kernel) (by decide+kernel)) aG) rfl) (aA (aN (cH T.o_Over bH (hr.mono (by omega)) (aV kz5w) (dz fun _ _=>rfl) (aa (aF jJ (hr.mono (by omega)) (aV Xx) (aa (jq (jm (K:=K) rfl) (ao 0 Kc) jn (jo (ao 1 Ul))) ak) (by decide+kernel)) (aa (aF jJ (hr.mono (by omega)) (aV Xx) (aa (jq (jm (K:=K) rfl) (ao 0 Kc) (jo (ao 1 Ul)) jn) ak) (by decide+kernel)) ak)) (by decide+kernel)))))),?_⟩
 walk_at "sts"
 have hz:20000≤sizeLine:=by decide
 refine fX (SqL.of hp) ?_
 walk_at "sts"
 rw [List.length_map]
 by_cases e1:xs.length=1
 ·rw [decide_eq_true (show V.int (xs.length:Int)=V.int 1 by rw [e1];rfl)]
  obtain ⟨x,rfl⟩:=List.length_eq_one_iff.mp e1
  obtain ⟨t,rfl⟩:=List.length_eq_one_iff.mp (hl.symm.trans e1)
  obtain ⟨h,hh,g⟩:=hG 0 x t rfl rfl
  have hp':H p=some (.lst [.ref x]):=hp
  walk_at "sts"
  refine q x h H (Same.refl H) (by omega) ?_
  rw [show j0 [t]=t from oM t]
  exact g
 ·rw [decide_eq_false (show ¬ V.int (xs.length:Int)=V.int 1 from fun z=>e1 (by have:=V.int.inj z;omega))]
  obtain ⟨e,rfl⟩:∃ e,d=e+1:=by
   cases d with
   | zero=>simp at h2;omega
   | succ e=>exact ⟨e,rfl⟩
  obtain ⟨k1,k2⟩:=half h2
  walk_at "sts"
  refine fX (SqL.of hp) ?_
  walk_at "sts"
  rw [List.length_map,show ((xs.length:Nat):Int) / 2=((xs.length / 2:Nat):Int) by omega]
  generalize hc:xs.length / 2=c at k1 k2 ⊢
  obtain ⟨c1,c2⟩:=vP (c:=c) hlen
  walk_at "sts"
  refine vy (SqL.of hp) fun p1 np1=>?_
  walk_at "sts"
  rw [ug,← List.map_take]
  have S1:=(Same.refl H).upd np1 (o:=.lst ((xs.take c).map V.ref))
  have hp1:=aj (H:=H) (a:=p1) (o:=.lst ((xs.take c).map V.ref))
  generalize upd H p1 (.lst ((xs.take c).map V.ref))=H1 at S1 hp1 ⊢
  walk_at "sts"
  refine ⟨p1,xs.take c,top,ts.take c,h0,H0,rfl,hS0.same S1,hp1,by simp;omega,by simp;omega,by simp;omega,by omega,(fun i x t ex et=>?_),fun x1 g1 H2 S2 l1 G1=>?_⟩
  walk_at "sts"
  ·obtain ⟨ei,ex'⟩:i < c∧xs[i]?=some x:=by
    rw [List.getElem?_take] at ex
    split at ex
    ·exact ⟨by assumption,ex⟩
    ·cases ex
   rw [List.getElem?_take_of_lt ei] at et
   obtain ⟨h,hh,g⟩:=hG i x t ex' et
   exact ⟨h,hh,g.same S1⟩
  have U2:=S1.trans S2
  try walk_at "sts"
  refine vy (SqL.of (U2 _ _ hp)) fun p2 np2=>?_
  walk_at "sts"
  rw [pA,← List.map_drop]
  have S3:=(Same.refl H2).upd np2 (o:=.lst ((xs.drop c).map V.ref))
  have hp3:=aj (H:=H2) (a:=p2) (o:=.lst ((xs.drop c).map V.ref))
  generalize upd H2 p2 (.lst ((xs.drop c).map V.ref))=H3 at S3 hp3 ⊢
  walk_at "sts"
  refine ⟨p2,xs.drop c,top,ts.drop c,h0,H0,rfl,hS0.same (U2.trans S3),hp3,by simp;omega,by simp;omega,by simp;omega,by omega,(fun i x t ex et=>?_),fun x2 g2 H4 S4 l2 G2=>?_⟩
  walk_at "sts"
  ·rw [List.getElem?_drop] at ex et
   obtain ⟨h,hh,g⟩:=hG _ x t ex et
   exact ⟨h,hh,g.same (U2.trans S3)⟩
  try walk_at "sts"
  refine qx (hS0.same (U2.trans (S3.trans S4))) (G1.same (S3.trans S4)) G2 (by rw [len_cat];omega) fun x h H5 S5 hh _ g=>?_
  refine q x h H5 (U2.trans (S3.trans (S4.trans S5))) (by have:=Qv hh l1 l2;omega) ?_
  rw [c1]
  exact g
theorem FZ (T:Txt K mg):∀ d:Nat,Has P w K mg base (11+d) "all_beside" ["pieces"] (Ke K mg d):=fun d=>by
 have key:∀ d:Nat,Has P w K mg base (11 - 1+d+1) "all_beside" ["pieces"] (Ke K mg d):=fun d=>by
  induction d with
  | zero=>exact o7 T 0 ((uO T).mono (by decide))
  | succ d ih=>exact o7 T (d+1) (ih.mono (by omega))
 exact (key d).mono (by omega)
theorem O7 (T:Txt K mg):∀ d:Nat,Has P w K mg base (11+d) "all_over" ["pieces"] (Kf K mg d):=fun d=>by
 have key:∀ d:Nat,Has P w K mg base (11 - 1+d+1) "all_over" ["pieces"] (Kf K mg d):=fun d=>by
  induction d with
  | zero=>exact rU T 0 ((zH T).mono (by decide))
  | succ d ih=>exact rU T (d+1) (ih.mono (by omega))
 exact (key d).mono (by omega)
theorem gO (T:Txt K mg):Has P w K mg base (11+6) "all_beside" ["pieces"] (Ke K mg 6):=FZ T 6
theorem jJ (T:Txt K mg):Has P w K mg base (11+6) "all_over" ["pieces"] (Kf K mg 6):=O7 T 6
end
section
variable {P:Program} {w:World} {K:PySem.W.Frag} {mg:Str→Option Value} {base:Heap}
theorem O8:bD ig "piece":=by decide+kernel
theorem Kg:bD ig "row":=by decide+kernel
theorem XH:bD ig "sign":=by decide+kernel
theorem kz64:bK ig "Beside":=by decide+kernel
theorem XJ:bK ig "One":=by decide+kernel
theorem O9:bD ig "letter":=by decide+kernel
theorem kz67:bK ig "Blank":=by decide+kernel
theorem kz68:bK ig "need_row":=by decide+kernel
theorem kz69:bK ig "need_sign":=by decide+kernel
def Gg (row:Str) (n:Nat):Str:=⟨(row.cps.toList.take n).toArray⟩
theorem qC (row:Str) (n:Nat):(Gg row n).cps.toList=row.cps.toList.take n:=by unfold Gg;simp
def Chn (mg:Str→Option Value) (H:Hp) (c row:Str):Nat→Addr→Prop
 | 0,_=>False
 | 1,x=>PG mg H x "One" c (Gg row 1) (Str.ofString "one") [] 0
 | n+2,x=>∃ x' o d,PG mg H x "Beside" c (Gg row (n+2)) (Str.ofString "beside") [.ref x',.ref o] (n+1)∧Chn mg H c row (n+1) x'∧row.cps.toList[n+1]?=some d∧PG mg H o "One" c ⟨#[d]⟩ (Str.ofString "one") [] 0
theorem Chn.same {H H':Hp} {c row:Str} (s:Same H H'):∀ {n:Nat} {x:Addr},Chn mg H c row n x→Chn mg H' c row n x
 | 0,_,h=>h.elim
 | 1,_,h=>PG.same h s
 | n+2,_,⟨x',o,d,a,b,e,f⟩=>⟨x',o,d,a.same s,Chn.same s b,e,f.same s⟩
theorem Pa {n h:Nat} (k:uz [n,0] h):h=n+1:=by
 rcases k with ⟨e,_⟩ | ⟨⟨c,hc,e⟩,k⟩
 ·cases e
 ·have k1:=k n (by simp)
  simp only [List.mem_cons,List.mem_nil_iff,or_false] at hc
  rcases hc with rfl | rfl <;> omega
theorem Pb (row:Str):Gg row row.cps.size=row:=jN (by rw [qC,List.take_of_length_le (by simp)])
theorem zJ {row:Str} {n d:Nat} (h:row.cps.toList[n]?=some d):Gg row n ++ ⟨#[d]⟩=Gg row (n+1):=jN (by rw [gK,qC,qC,List.take_add_one,h];rfl)
def Pg (mg:Str→Option Value):Sp:=fun vs H Q _=>∃ (c:Nat) (row:Str),vs=[.str ⟨#[c]⟩,.str row]∧c∈GOOD∧Row row∧(∀ x H',Same H H'→row.cps.size=0→PG mg H' x "Blank" ⟨#[c]⟩ row (Str.ofString "blank") [] 0→GP mg H H' x ⟨#[c]⟩ row 0→Q (.ref x) H')∧∀ x H',Same H H'→0 < row.cps.size→Chn mg H' ⟨#[c]⟩ row row.cps.size x→GP mg H H' x ⟨#[c]⟩ row (row.cps.size - 1)→Q (.ref x) H'
theorem jO {z:Str}:z=Str.ofString ""↔z.cps.size=0:=⟨fun h=>by rw [h];decide+kernel,fun h=>jN (by rw [qy];exact List.eq_nil_of_length_eq_zero (by simpa using h))⟩
theorem qD:aD ["letter","row","piece","sign"] ["letter","row"] (aq ig):=⟨rfl,rfl,rfl,by decide+kernel,rfl,by decide+kernel,by decide+kernel⟩
theorem xO (T:Txt K mg):Has P w K mg base 11 "strip" ["letter","row"] (Pg mg):=by
 have gD:=gD (P:=P) (w:=w) (base:=base) T
 have iy:=iy (P:=P) (w:=w) (base:=base) T
 have aL:=aL (P:=P) (w:=w) (base:=base) T
 have bO:=bO (P:=P) (w:=w) (base:=base) T
 have aO:=aO (P:=P) (w:=w) (base:=base) T
 refine fj T.d_strip qD (fun _ _ _ _ _ _ us hl=>L2.oO (fun _ _=>rfl) us hl) ?_ fun f cdv A outer s H vs Q E hr h=>?_
 ·rintro vs H Q E ⟨c,row,rfl,_⟩;rfl
 obtain ⟨c,row,rfl,hc,hR,qB,q⟩:=h
 have hu:=hr.units0
 have hu64:=hr.units
 refine ⟨_,(az (bF (aF gD (hr.mono (by decide)) (aV kz69) (aa (ao 0 O9) ak) (by decide+kernel))) (az (bF (aF iy (hr.mono (by decide)) (aV kz68) (aa (ao 1 Kg) ak) (by decide+kernel))) (az (cz (bx (jB (K:=K) rfl hu64) (ao 1 Kg) iW (by first | exact aW _ | with_unfolding_all rfl)) (aA (aN (cH T.o_Blank aL (hr.mono (by decide)) (aV kz67) (dz fun _ _=>rfl) (aa (ao 0 O9) (aa (ao 1 Kg) ak)) (by decide+kernel)))) bI) (az (aM (i:=2) qD.nd rfl (Or.inl O8) (cH T.o_One bO (hr.mono (by decide)) (aV XJ) (dz fun _ _=>rfl) (aa (ao 0 O9) (aa (m5 (K:=K) rfl (ao 1 Kg) aG) ak)) (by decide+kernel)) rfl) (az (jt PassesOwn.never rfl (jr (K:=K) rfl (jq (jm (K:=K) rfl) (ao 1 Kg) (jo aG) jn)) (b8 (i:=3) qD.nd rfl (Or.inl XH) rfl) (aA (aM (i:=2) qD.nd rfl (Or.inl O8) (cH T.o_Beside aO (hr.mono (by decide)) (aV kz64) (dz fun _ _=>rfl) (aa (ao 2 O8) (aa (cH T.o_One bO (hr.mono (by decide)) (aV XJ) (dz fun _ _=>rfl) (aa (ao 0 O9) (aa (ao 3 XH) ak)) (by decide+kernel)) ak)) (by decide+kernel)) rfl))) (aA (aN (ao 2 O8)))))))),?_⟩
 walk_at "sts"
 have hz:20000≤sizeLine:=by decide
 have hl:=hR.1
 have el:row.length=row.cps.size:=rfl
 refine ⟨c,rfl,hc,?_⟩
 walk_at "sts"
 refine ⟨row,rfl,hR,fun H1 S1=>?_⟩
 walk_at "sts"
 by_cases h0:row.cps.size=0
 ·rw [decide_eq_true (show V.str row=V.str (Str.ofString "") by rw [jO.mpr h0])]
  walk_at "sts"
  refine jy (.of S1) (qw hc) hR (.inr h0) fun x H2 S2 p2 g2=>?_
  exact qB x H2 (S1.trans S2) h0 p2 g2
 ·rw [decide_eq_false (show ¬ V.str row=V.str (Str.ofString "") from fun z=>h0 (jO.mp (V.str.inj z)))]
  obtain ⟨d0,e0⟩:∃ d0,row.cps.toList[0]?=some d0:=⟨_,List.getElem?_eq_getElem (by simpa using (by omega:0 < row.cps.size))⟩
  walk_at "sts"
  refine yx (by omega) (oF e0) ?_
  walk_at "sts"
  refine xN (.of S1) hc (hR.2 d0 (List.mem_of_getElem? e0)) fun x1 H2 S2 p2 g2=>?_
  try walk_at "sts"
  refine tY (by omega) ?_
  walk_at "sts"
  have ep:Gg row 1=⟨#[d0]⟩:=jN (by rw [qC,List.take_add_one,e0];rfl)
  have hp2:Chn mg H2 ⟨#[c]⟩ row 1 x1:=by
   show PG mg H2 x1 "One" _ (Gg row 1) _ [] 0
   rw [ep];exact p2
  rw [← ep] at g2
  have es:=kj row 1
  generalize hzz:Txt.slice row (some ((1:Nat):Int)) none=z at es
  have ez:z.length=row.cps.size - 1:=by
   have:z.length=z.cps.toList.length:=by simp [Str.length]
   rw [this,es];simp
  refine .inr (.inr ⟨z,rfl,?_⟩)
  refine Cj (fun i σ G=>Same H G∧∃ x x3,σ=[some (.str ⟨#[c]⟩),some (.str row),some (.ref x),x3]∧Chn mg G ⟨#[c]⟩ row (i+1) x∧GP mg H G x ⟨#[c]⟩ (Gg row (i+1)) i) ⟨S1.trans S2,x1,_,rfl,hp2,g2⟩ ?_ ?_
  ·rintro i σ G d hd ⟨s,x,x3,rfl,hC,hg⟩
   rw [es,List.getElem?_drop,Nat.add_comm] at hd
   walk_at "sts"
   refine xN (.of s) hc (hR.2 d (List.mem_of_getElem? hd)) fun o G1 T1 po go=>?_
   try walk_at "sts"
   have hC1:=hC.same T1
   refine mC (.of (s.trans T1)) (hg.same T1) go ?_ fun x' h G2 T2 hh p' g'=>?_
   ·rw [zJ hd]
    have:(Gg row (i+1+1)).length=(Gg row (i+1+1)).cps.toList.length:=by simp [Str.length]
    rw [this,qC,List.length_take]
    simp;omega
   obtain rfl:=Pa hh
   rw [zJ hd] at p' g'
   try walk_at "sts"
   exact ⟨s.trans (T1.trans T2),x',_,rfl,⟨x,o,d,p',hC1.same T2,hd,po.same T2⟩,g'⟩
  ·rintro σ G ⟨s,x,x3,rfl,hC,hg⟩
   walk_at "sts"
   rw [ez,Nat.sub_add_cancel (by omega)] at hC hg
   rw [Pb] at hg
   exact q x G s (by omega) hC hg
end
local macro_rules | `(tactic| walk_at "sts") => `(tactic| (with_reducible repeat (first | refine lO ?_ | refine lw ?_ | refine kZ ?_ | refine iZ ?_ | refine jc ?_ | (refine' iM ?hz0 ?_; (case hz0 => with_unfolding_all rfl)) | refine vm ?_ | refine lV ?_ | refine dZ ?_ | refine dM ?_ | refine iQ ?_ | refine nj ?_ | refine iC ?_ | refine dF ?_ | refine iG ?_ | refine dD ?_ | refine lK ?_ | refine dH ?_ | refine lW ?_ | refine lQ ?_ | refine dN ?_ | refine lM ?_ | refine iH ?_ | refine iI ?_ | refine lN ?_ | refine dI ?_ | refine iJ ?_ | refine dJ ?_ | refine iK ?_ | refine iD ?_ | refine dG ?_ | refine jw ?_ | refine ju ?_ | refine lR ?_ | refine iR ?_ | refine lU ?_ | refine iT ?_ | refine dO ?_ | refine dR ?_ | refine dU ?_ | refine dW ?_ | refine dX ?_ | refine dY ?_ | refine iU ?_ | refine cC ?_ | refine d9 ?_ | (refine' cP (SqT.of ?hz0) ?hz1 ?_; (case hz0 => first | assumption | exact aj); (case hz1 => rfl)) | refine cG ?_ | refine eQ ?_ | refine eU ?_ | refine di ?_ | refine dj ?_ | refine dm ?_ | refine dq ?_ | refine lX ?_ | refine dg ?_ | refine dh ?_ | refine eN ?_ | refine eO ?_ | refine cF ?_ | refine iV ?_ | refine d8 ?_ | (refine' vq ?hz0 ?_; (case hz0 => with_unfolding_all first | assumption | omega | (dsimp only <;> omega) | exact ⟨by omega, by omega⟩ | exact .inl ⟨by omega, by omega⟩ | exact .inr ⟨by omega, by omega⟩ | exact ⟨by decide, by decide, by decide⟩)) | (refine' d7 ?hz0 ?_; (case hz0 => with_unfolding_all first | assumption | omega | (dsimp only <;> omega) | exact ⟨by omega, by omega⟩ | exact .inl ⟨by omega, by omega⟩ | exact .inr ⟨by omega, by omega⟩ | exact ⟨by decide, by decide, by decide⟩)) | (refine' cO (SqL.of ?hz0) ?hz1 ?_; (case hz0 => first | assumption | exact aj); (case hz1 => with_unfolding_all rfl)) | (refine' c7 ?hz0 ?hz1 ?_; (case hz0 => first | assumption | exact aj); (case hz1 => with_unfolding_all rfl)) | refine cI ?_ | refine jd ?_ | refine eV ?_ | refine wL ?_ | refine cJ ?_ | refine eY ?_ | refine cL ?_ | refine fY ?_)))
local macro_rules | `(tactic| walk_at "stn") => `(tactic| (with_reducible repeat (first | refine lO ?_ | refine lw ?_ | refine kZ ?_ | refine iZ ?_ | refine jc ?_ | (refine' iM ?hz0 ?_; (case hz0 => with_unfolding_all rfl)) | refine vm ?_ | refine lV ?_ | refine dZ ?_ | refine dM ?_ | refine iQ ?_ | refine iC ?_ | refine dF ?_ | refine iG ?_ | refine dD ?_ | refine lK ?_ | refine dH ?_ | refine lW ?_ | refine lQ ?_ | refine dN ?_ | refine lM ?_ | refine iH ?_ | refine iI ?_ | refine lN ?_ | refine dI ?_ | refine iJ ?_ | refine dJ ?_ | refine iK ?_ | refine iD ?_ | refine dG ?_ | refine jw ?_ | refine ju ?_ | refine lR ?_ | refine iR ?_ | refine lU ?_ | refine iT ?_ | refine dO ?_ | refine dR ?_ | refine dU ?_ | refine dW ?_ | refine dX ?_ | refine dY ?_ | refine iU ?_ | refine cC ?_ | refine d9 ?_ | (refine' cP (SqT.of ?hz0) ?hz1 ?_; (case hz0 => first | assumption | exact aj); (case hz1 => rfl)) | refine cG ?_ | refine eQ ?_ | refine eU ?_ | refine di ?_ | refine dj ?_ | refine dm ?_ | refine dq ?_ | refine lX ?_ | refine dg ?_ | refine dh ?_ | refine eN ?_ | refine eO ?_ | refine cF ?_ | refine iV ?_ | refine d8 ?_ | (refine' vq ?hz0 ?_; (case hz0 => with_unfolding_all first | assumption | omega | (dsimp only <;> omega) | exact ⟨by omega, by omega⟩ | exact .inl ⟨by omega, by omega⟩ | exact .inr ⟨by omega, by omega⟩ | exact ⟨by decide, by decide, by decide⟩)) | (refine' d7 ?hz0 ?_; (case hz0 => with_unfolding_all first | assumption | omega | (dsimp only <;> omega) | exact ⟨by omega, by omega⟩ | exact .inl ⟨by omega, by omega⟩ | exact .inr ⟨by omega, by omega⟩ | exact ⟨by decide, by decide, by decide⟩)) | (refine' cO (SqL.of ?hz0) ?hz1 ?_; (case hz0 => first | assumption | exact aj); (case hz1 => with_unfolding_all rfl)) | (refine' c7 ?hz0 ?hz1 ?_; (case hz0 => first | assumption | exact aj); (case hz1 => with_unfolding_all rfl)) | refine cI ?_ | refine jd ?_ | refine eV ?_ | refine wL ?_ | refine cJ ?_ | refine eY ?_ | refine cL ?_ | refine fY ?_)))
section
variable {P:Program} {w:World} {K:PySem.W.Frag} {mg:Str→Option Value} {base:Heap}
theorem uP:(["sign","bands"]:List Str).Nodup:=by decide+kernel
theorem uQ:(["other","sign"]:List Str).Nodup:=by decide+kernel
theorem kz6a:bK bY "all_over":=by decide+kernel
theorem Kh:bD bY "side":=by decide+kernel
theorem Uo:SX bY "sign":=by decide+kernel
theorem Up:SX bY "bands":=by decide+kernel
theorem kz6e:bK bY "all_beside":=by decide+kernel
theorem Ph:bD bY "top":=by decide+kernel
theorem kz6g:bK bY "Blank":=by decide+kernel
theorem kz6h:bK bY "need_rows":=by decide+kernel
theorem Pc.off {H:Hp} {x d:Addr} {y side top kind:Str} {L:List Nat} {ps:List V} {h:Nat} {kvs:List (Key×V)} (p:Pc mg H x y side top kind L ps h) (hd:H d=some (.dK kvs)):Pc mg (Hx d H) x y side top kind L ps h:=by
 obtain ⟨hy,dx,al,ap,a,b,c⟩:=p
 exact ⟨hy,dx,al,ap,vN a (fun z=>by rw [z,hd] at a;cases a),vN b (fun z=>by rw [z,hd] at b;cases b),vN c (fun z=>by rw [z,hd] at c;cases c)⟩
theorem GP1.off {H:Hp} {x d:Addr} {side top:Str} {h:Nat} {kvs:List (Key×V)} (p:GP1 mg H x side top h) (hd:H d=some (.dK kvs)):GP1 mg (Hx d H) x side top h:=by
 obtain ⟨y,k,ps,hs,a,b,c,e,f⟩:=p
 exact ⟨y,k,ps,hs,⟨a.pc.off hd,a.rs,a.rt⟩,b,⟨c.1,fun i v n e1 e2=>by
  obtain ⟨q,y',s',t',k',L,qs,rfl,z⟩:=c.2 i v n e1 e2
  exact ⟨q,y',s',t',k',L,qs,rfl,z.off hd⟩⟩,e,f⟩
theorem GP1.put {H:Hp} {x d:Addr} {side top:Str} {h:Nat} {kvs:List (Key×V)} {o:HO} (p:GP1 mg H x side top h) (hd:H d=some (.dK kvs)):GP1 mg (upd H d o) x side top h:=(p.off hd).same (by rw [← TQ (o:=o)];exact Dg d _)
theorem Uq {H0 H:Hp} {d:Addr} {o:HO} (n:H0 d=none):Hm H0 (upd H d o)=upd (Hm H0 H) d o:=by
 funext b
 by_cases h2:b=d
 ·rw [h2,aj];exact rT aj n
 ·rw [aB h2];unfold Hm;rw [aB h2]
theorem GP.put {H0 H:Hp} {x d:Addr} {side top:Str} {h:Nat} {kvs:List (Key×V)} {o:HO} (p:GP mg H0 H x side top h) (hd:H d=some (.dK kvs)) (n0:H0 d=none):GP mg H0 (upd H d o) x side top h:=by
 unfold GP
 rw [Uq n0]
 exact GP1.put p (rT hd n0)
def XM (mg:Str→Option Value):Sp:=fun vs H Q _=>∃ (side top:Str),vs=[.str side,.str top]∧Row side∧Row top∧∀ x h H',Same H H'→h≤12→GP mg H H' x side top h→Q (.ref x) H'
theorem zK (z:Str):(o6 z).length=z.cps.size:=by unfold o6;simp
theorem Dl {z:Str} {i c:Nat} (h:z.cps.toList[i]?=some c):(o6 z)[i]?=some ⟨#[c]⟩:=by unfold o6;rw [List.getElem?_map,h];rfl
theorem ou:aD ["side","top","bands","sign"] ["side","top"] (aq bY):=⟨rfl,rfl,rfl,by decide+kernel,rfl,by decide+kernel,by decide+kernel⟩
theorem mX (T:Txt K mg):Has P w K mg base 18 "balanced" ["side","top"] (XM mg):=by
 have jh:=jh (P:=P) (w:=w) (base:=base) T
 have aL:=aL (P:=P) (w:=w) (base:=base) T
 have gO:=gO (P:=P) (w:=w) (base:=base) T
 have bO:=bO (P:=P) (w:=w) (base:=base) T
 have jJ:=jJ (P:=P) (w:=w) (base:=base) T
 refine fj T.d_balanced ou (fun _ _ _ _ _ _ us hl=>L2.oO (fun _ _=>rfl) us hl) ?_ fun f cdv A outer s H vs Q E hr h=>?_
 ·rintro vs H Q E ⟨side,top,rfl,_⟩;rfl
 obtain ⟨side,top,rfl,rs,rt,q⟩:=h
 have hu:=hr.units0
 have hu64:=hr.units
 refine ⟨_,(az (bF (aF jh (hr.mono (by decide)) (aV kz6h) (aa (ao 0 Kh) (aa (ao 1 Ph) ak)) (by decide+kernel))) (az (cz (lY (p8 (bx (jB (K:=K) rfl hu64) (ao 0 Kh) iW (by first | exact aW _ | with_unfolding_all rfl)) (mG (bx (jB (K:=K) rfl hu64) (ao 1 Ph) iW (by first | exact aW _ | with_unfolding_all rfl))))) (aA (aN (cH T.o_Blank aL (hr.mono (by decide)) (aV kz6g) (dz fun _ _=>rfl) (aa (ao 0 Kh) (aa (ao 1 Ph) ak)) (by decide+kernel)))) bI) (az (aM (i:=2) ou.nd rfl (Or.inr Up) wK rfl) (az (jt PassesOwn.never rfl (jr (K:=K) rfl (ao 0 Kh)) (b8 (i:=3) ou.nd rfl (Or.inr Uo) rfl) (aA (cz (bx (Ez (K:=K) rfl hu64) (nq 3 Uo) (nq 2 Up) (by first | exact aW _ | with_unfolding_all rfl)) (aA (jK (ts:=mZ) (aF gO (hr.mono (by decide)) (aV kz6e) (aa (mH (sub:=[none,some 3]) (gU (N:=["side","top","bands","sign"]) (sc:=aq bY) (N':=["other","sign"]) (by decide+kernel)) rfl rfl rfl (jr (K:=K) rfl (ao 1 Ph)) (fun C s₀ H₀ ex=>(uG 0 (by decide+kernel) uQ)) (fun C s₀ H₀ ex=>jY) (fun C s₀ H₀ ex=>(IW (mg:=mg) rfl T.o_One bO (hr.mono (by decide)) (Vy (by decide+kernel)) (dz fun _ _=>rfl) (aa (rF 1 (by decide+kernel)) (aa (nG 0 (by decide+kernel)) ak)) (by decide+kernel)))) ak) (by decide+kernel)) (lB (nq 2 Up) (nq 3 Uo) (jL hu64)))) bI))) (aA (aN (aF jJ (hr.mono (by decide)) (aV kz6a) (aa (mH (sub:=[none,some 2]) (gU (N:=["side","top","bands","sign"]) (sc:=aq bY) (N':=["sign","bands"]) (by decide+kernel)) rfl rfl rfl (jr (K:=K) rfl (ao 0 Kh)) (fun C s₀ H₀ ex=>(uG 0 (by decide+kernel) uP)) (fun C s₀ H₀ ex=>jY) (fun C s₀ H₀ ex=>(Ja hu64 (rF 1 (by decide+kernel)) (nG 0 (by decide+kernel))))) ak) (by decide+kernel)))))))),?_⟩
 walk_at "sts"
 have hz:20000≤sizeLine:=by decide
 have l1:=rs.1
 have l2:=rt.1
 have el1:side.length=side.cps.size:=rfl
 have el2:top.length=top.cps.size:=rfl
 refine ⟨side,top,rfl,rs,rt,fun H1 S1=>?_⟩
 walk_at "sts"
 by_cases h0:side.cps.size=0
 ·rw [decide_eq_true (show V.str side=V.str (Str.ofString "") by rw [jO.mpr h0])]
  show if true=true then _ else _
  walk_at "sts"
  refine jy (.of S1) rs rt (.inl h0) fun x H2 S2 p2 g2=>?_
  exact q x 0 H2 (S1.trans S2) (by omega) g2
 rw [decide_eq_false (show ¬ V.str side=V.str (Str.ofString "") from fun z=>h0 (jO.mp (V.str.inj z)))]
 show if false=true then _ else _
 walk_at "sts"
 by_cases h1:top.cps.size=0
 ·rw [decide_eq_true (show V.str top=V.str (Str.ofString "") by rw [jO.mpr h1])]
  walk_at "sts"
  refine jy (.of S1) rs rt (.inr h1) fun x H2 S2 p2 g2=>?_
  exact q x 0 H2 (S1.trans S2) (by omega) g2
 rw [decide_eq_false (show ¬ V.str top=V.str (Str.ofString "") from fun z=>h1 (jO.mp (V.str.inj z)))]
 walk_at "sts"
 intro d nd
 have nd0:=Same.back S1 nd
 have S2:=S1.trans ((Same.refl H1).upd nd (o:=.dK []))
 have hd2:=aj (H:=H1) (a:=d) (o:=.dK [])
 generalize upd H1 d (.dK [])=H2 at S2 hd2 ⊢
 walk_at "sts"
 refine .inr (.inr ⟨side,rfl,?_⟩)
 refine Cj (fun i σ G=>Same H G∧(∃ kvs,G d=some (.dK kvs)∧kvs.length≤i∧(∀ c v,jz kvs (Sum.inr ⟨#[c]⟩)=some v→∃ x h,v= .ref x∧h≤6∧GP mg H G x ⟨#[c]⟩ top h)∧(∀ j c,j < i→side.cps.toList[j]?=some c→∃ v,jz kvs (Sum.inr ⟨#[c]⟩)=some v))∧∃ x3,σ=[some (.str side),some (.str top),some (.ref d),x3]) ⟨S2,⟨[],hd2,Nat.le_refl _,(fun c v h=>by cases h),fun j c h=>absurd h (Nat.not_lt_zero _)⟩,_,rfl⟩ ?_ ?_
 ·rintro i σ G c hc ⟨s,⟨kvs,hd,hkl,hg,hk⟩,x3,rfl⟩
  have hi:i < side.cps.size:=by simpa using (List.getElem?_eq_some_iff.mp hc).1
  have hcg:c∈GOOD:=rs.2 c (List.mem_of_getElem? hc)
  walk_at "sts"
  refine .inr ⟨d,_,rfl,DGet.k (k:=Sum.inr ⟨#[c]⟩) hd,?_⟩
  cases hv:jz kvs (Sum.inr ⟨#[c]⟩) with
  | some v=>
   rw [show (!(some v).isSome)=false from rfl]
   walk_at "sts"
   refine ⟨s,⟨kvs,hd,by omega,hg,fun j c' hj hc'=>?_⟩,_,rfl⟩
   by_cases hji:j < i
   ·exact hk j c' hji hc'
   ·obtain rfl:j=i:=by omega
    rw [hc] at hc'
    cases hc'
    exact ⟨v,hv⟩
  | none=>
   rw [show (!(none:Option V).isSome)=true from rfl]
   walk_at "sts"
   refine .inr (.inr ⟨top,rfl,?_⟩)
   refine vD (fun i zs J=>Same G J∧∃ xs:List Addr,zs=xs.map V.ref∧xs.length=i∧∀ (j:Nat) (x:Addr) (t:Str),xs[j]?=some x→(o6 top)[j]?=some t→∃ h,h≤0∧GP mg H J x ⟨#[c]⟩ t h) (by omega) ⟨Same.refl G,[],rfl,rfl,fun j x t e=>by cases e⟩ ?_ ?_ ?_
   ·rintro i zs J ⟨_,xs,rfl,e,_⟩
    rw [List.length_map];omega
   ·rintro i zs J t ht ⟨sJ,xs,rfl,e,hx⟩
    walk_at "sts"
    refine ⟨KeepSt.set rfl,?_⟩
    walk_at "sts"
    refine xN (.of (s.trans sJ)) hcg (rt.2 t (List.mem_of_getElem? ht)) fun x J2 T2 p2 g2=>?_
    refine ⟨sJ.trans T2,xs ++ [x],by rw [List.map_append];rfl,by simp;omega,fun j x' t' e1 e2=>?_⟩
    by_cases hj:j < xs.length
    ·rw [List.getElem?_append_left hj] at e1
     obtain ⟨h,h1,h2⟩:=hx j x' t' e1 e2
     exact ⟨h,h1,h2.same T2⟩
    ·have hj2:j < xs.length+1:=by have:=(List.getElem?_eq_some_iff.mp e1).1;simpa using this
     obtain rfl:j=xs.length:=by omega
     rw [List.getElem?_append_right (by omega),Nat.sub_self] at e1
     cases e1
     subst e
     rw [Dl ht] at e2
     cases e2
     exact ⟨0,Nat.le_refl _,g2⟩
   rintro zs J D J2 ⟨sJ,xs,rfl,e,hx⟩ nD T2 hD
   try walk_at "sts"
   refine ⟨D,xs,⟨#[c]⟩,o6 top,0,H,rfl,.of (s.trans (sJ.trans T2)),hD,by rw [zK];exact e,by omega,Nat.le_trans (by omega:xs.length≤48) (by decide),by rw [oN];exact l2,(fun j x t e1 e2=>by
    obtain ⟨h,h1,h2⟩:=hx j x t e1 e2
    exact ⟨h,h1,h2.same T2⟩),fun x h J3 T3 hh g3=>?_⟩
   rw [oN] at g3
   have W3:=sJ.trans (T2.trans T3)
   have hd3:=W3 _ _ hd
   try walk_at "sts"
   refine .inr ⟨d,_,rfl,DPut.k (k:=Sum.inr ⟨#[c]⟩) hd3 (by omega),?_⟩
   try walk_at "sts"
   have lk:=gj kvs (Sum.inr ⟨#[c]⟩:Key) (V.ref x)
   refine ⟨Same.put (s.trans W3) nd0,⟨_,aj,by omega,(fun c' v hv'=>?_),fun j c' hj hc'=>?_⟩,_,rfl⟩
   ·rw [lJ] at hv'
    split at hv'
    ·rename_i e1
     cases hv'
     have:=Sum.inr.inj e1
     rw [this]
     exact ⟨x,h,rfl,by omega,g3.put hd3 nd0⟩
    ·obtain ⟨x',h',e1,e2,e3⟩:=hg c' v hv'
     exact ⟨x',h',e1,e2,(e3.same W3).put hd3 nd0⟩
   ·rw [lJ]
    split
    ·exact ⟨_,rfl⟩
    ·rename_i e1
     by_cases hji:j < i
     ·exact hk j c' hji hc'
     ·obtain rfl:j=i:=by omega
      rw [hc] at hc'
      cases hc'
      exact absurd rfl e1
 ·rintro σ G ⟨s,⟨kvs,hd,hkl,hg,hk⟩,x3,rfl⟩
  walk_at "sts"
  refine .inr (.inr ⟨side,rfl,?_⟩)
  refine vD (fun i zs J=>J=G∧∃ xs:List Addr,zs=xs.map V.ref∧xs.length=i∧∀ (j:Nat) (x:Addr) (t:Str),xs[j]?=some x→(o6 side)[j]?=some t→∃ h,h≤6∧GP mg H J x t top h) (by omega) ⟨rfl,[],rfl,rfl,fun j x t e=>by cases e⟩ ?_ ?_ ?_
  ·rintro i zs J ⟨_,xs,rfl,e,_⟩
   rw [List.length_map];omega
  ·rintro i zs J c hc ⟨rfl,xs,rfl,e,hx⟩
   have hi:i < side.cps.size:=by simpa using (List.getElem?_eq_some_iff.mp hc).1
   obtain ⟨v,hv⟩:=hk i c (by show i < side.cps.size;exact hi) hc
   obtain ⟨x,h,rfl,h6,g⟩:=hg c v hv
   have hgt:=DGet.k (k:=Sum.inr ⟨#[c]⟩) hd
   rw [hv] at hgt
   walk_at "sts"
   refine ⟨KeepSt.set rfl,?_⟩
   walk_at "sts"
   refine ⟨d,_,rfl,hgt,?_⟩
   refine ⟨rfl,xs ++ [x],by rw [List.map_append];rfl,by simp;omega,fun j x' t' e1 e2=>?_⟩
   by_cases hj:j < xs.length
   ·rw [List.getElem?_append_left hj] at e1
    exact hx j x' t' e1 e2
   ·have hj2:j < xs.length+1:=by have:=(List.getElem?_eq_some_iff.mp e1).1;simpa using this
    obtain rfl:j=xs.length:=by omega
    rw [List.getElem?_append_right (by omega),Nat.sub_self] at e1
    cases e1
    subst e
    rw [Dl hc] at e2
    cases e2
    exact ⟨h,h6,g⟩
  rintro zs J D J2 ⟨rfl,xs,rfl,e,hx⟩ nD T2 hD
  try walk_at "sts"
  refine ⟨D,xs,top,o6 side,6,H,rfl,.of (s.trans T2),hD,by rw [zK];exact e,by omega,Nat.le_trans (by omega:xs.length≤48) (by decide),by rw [oN];exact l1,(fun j x t e1 e2=>by
   obtain ⟨h,h1,h2⟩:=hx j x t e1 e2
   exact ⟨h,h1,h2.same T2⟩),fun x h J3 T3 hh g3=>?_⟩
  rw [oN] at g3
  exact q x h J3 (s.trans (T2.trans T3)) (by omega) g3
end
local macro_rules | `(tactic| walk_at "sts") => `(tactic| (with_reducible repeat (first | refine lO ?_ | refine lw ?_ | refine kZ ?_ | refine iZ ?_ | refine jc ?_ | (refine' iM ?hz0 ?_; (case hz0 => with_unfolding_all rfl)) | refine vm ?_ | refine lV ?_ | refine dZ ?_ | refine dM ?_ | refine iQ ?_ | refine nj ?_ | refine iC ?_ | refine dF ?_ | refine iG ?_ | refine dD ?_ | refine lK ?_ | refine dH ?_ | refine lW ?_ | refine lQ ?_ | refine dN ?_ | refine lM ?_ | refine iH ?_ | refine iI ?_ | refine lN ?_ | refine dI ?_ | refine iJ ?_ | refine dJ ?_ | refine iK ?_ | refine iD ?_ | refine dG ?_ | refine jw ?_ | refine ju ?_ | refine lR ?_ | refine iR ?_ | refine lU ?_ | refine iT ?_ | refine dO ?_ | refine dR ?_ | refine dU ?_ | refine dW ?_ | refine dX ?_ | refine dY ?_ | refine iU ?_ | refine cC ?_ | refine d9 ?_ | (refine' cP (SqT.of ?hz0) ?hz1 ?_; (case hz0 => first | assumption | exact aj); (case hz1 => rfl)) | refine cG ?_ | refine eQ ?_ | refine eU ?_ | refine di ?_ | refine dj ?_ | refine dm ?_ | refine dq ?_ | refine lX ?_ | refine dg ?_ | refine dh ?_ | refine eN ?_ | refine eO ?_ | refine cF ?_ | refine iV ?_ | refine d8 ?_ | (refine' vq ?hz0 ?_; (case hz0 => with_unfolding_all first | assumption | omega | (dsimp only <;> omega) | exact ⟨by omega, by omega⟩ | exact .inl ⟨by omega, by omega⟩ | exact .inr ⟨by omega, by omega⟩ | exact ⟨by decide, by decide, by decide⟩)) | (refine' d7 ?hz0 ?_; (case hz0 => with_unfolding_all first | assumption | omega | (dsimp only <;> omega) | exact ⟨by omega, by omega⟩ | exact .inl ⟨by omega, by omega⟩ | exact .inr ⟨by omega, by omega⟩ | exact ⟨by decide, by decide, by decide⟩)) | (refine' cO (SqL.of ?hz0) ?hz1 ?_; (case hz0 => first | assumption | exact aj); (case hz1 => with_unfolding_all rfl)) | (refine' c7 ?hz0 ?hz1 ?_; (case hz0 => first | assumption | exact aj); (case hz1 => with_unfolding_all rfl)) | refine cI ?_ | refine jd ?_ | refine eV ?_ | refine cJ ?_ | refine eY ?_ | refine cL ?_ | refine fY ?_)))
local macro_rules | `(tactic| walk_at "stn") => `(tactic| (with_reducible repeat (first | refine lO ?_ | refine lw ?_ | refine kZ ?_ | refine iZ ?_ | refine jc ?_ | (refine' iM ?hz0 ?_; (case hz0 => with_unfolding_all rfl)) | refine vm ?_ | refine lV ?_ | refine dZ ?_ | refine dM ?_ | refine iQ ?_ | refine iC ?_ | refine dF ?_ | refine iG ?_ | refine dD ?_ | refine lK ?_ | refine dH ?_ | refine lW ?_ | refine lQ ?_ | refine dN ?_ | refine lM ?_ | refine iH ?_ | refine iI ?_ | refine lN ?_ | refine dI ?_ | refine iJ ?_ | refine dJ ?_ | refine iK ?_ | refine iD ?_ | refine dG ?_ | refine jw ?_ | refine ju ?_ | refine lR ?_ | refine iR ?_ | refine lU ?_ | refine iT ?_ | refine dO ?_ | refine dR ?_ | refine dU ?_ | refine dW ?_ | refine dX ?_ | refine dY ?_ | refine iU ?_ | refine cC ?_ | refine d9 ?_ | (refine' cP (SqT.of ?hz0) ?hz1 ?_; (case hz0 => first | assumption | exact aj); (case hz1 => rfl)) | refine cG ?_ | refine eQ ?_ | refine eU ?_ | refine di ?_ | refine dj ?_ | refine dm ?_ | refine dq ?_ | refine lX ?_ | refine dg ?_ | refine dh ?_ | refine eN ?_ | refine eO ?_ | refine cF ?_ | refine iV ?_ | refine d8 ?_ | (refine' vq ?hz0 ?_; (case hz0 => with_unfolding_all first | assumption | omega | (dsimp only <;> omega) | exact ⟨by omega, by omega⟩ | exact .inl ⟨by omega, by omega⟩ | exact .inr ⟨by omega, by omega⟩ | exact ⟨by decide, by decide, by decide⟩)) | (refine' d7 ?hz0 ?_; (case hz0 => with_unfolding_all first | assumption | omega | (dsimp only <;> omega) | exact ⟨by omega, by omega⟩ | exact .inl ⟨by omega, by omega⟩ | exact .inr ⟨by omega, by omega⟩ | exact ⟨by decide, by decide, by decide⟩)) | (refine' cO (SqL.of ?hz0) ?hz1 ?_; (case hz0 => first | assumption | exact aj); (case hz1 => with_unfolding_all rfl)) | (refine' c7 ?hz0 ?hz1 ?_; (case hz0 => first | assumption | exact aj); (case hz1 => with_unfolding_all rfl)) | refine cI ?_ | refine jd ?_ | refine eV ?_ | refine cJ ?_ | refine eY ?_ | refine cL ?_ | refine fY ?_)))
section
variable {P:Program} {w:World} {K:PySem.W.Frag} {mg:Str→Option Value} {base:Heap}
theorem uR:(["_law_number","_law_signs","_law_base_here"]:List Str).Nodup:=by decide+kernel
theorem XN:bD bL "_law_numbers":=by decide+kernel
theorem XQ:bK bL "_law_takes":=by decide+kernel
theorem kz6k:bK bL "len":=by decide+kernel
theorem XR:SX bL "_law_signs":=by decide+kernel
theorem Ur:bD bL "_law_many":=by decide+kernel
theorem XS:bD bL "_law_cell_here":=by decide+kernel
theorem XX:bD bL "_law_kinds":=by decide+kernel
theorem X3:bD bL "_law_way":=by decide+kernel
theorem X4:bD bL "_law_some":=by decide+kernel
theorem X5:bD bL "_law_few":=by decide+kernel
theorem X6:bD bL "_law_most":=by decide+kernel
theorem kz6t:bK bL "min":=by decide+kernel
theorem sgn4 (k:Nat) (h:k < 4):∃ z:Str,([V.str (Str.ofString "ab"),.str (Str.ofString "abc"),.str (Str.ofString ".ab"),.str (Str.ofString "a.bz")]:List V)[k]?=some (.str z)∧0 < z.length∧z.length≤4∧∀ c∈z.cps.toList,c∈GOOD:=by
 have key:∀ z∈[Str.ofString "ab",Str.ofString "abc",Str.ofString ".ab",Str.ofString "a.bz"],0 < z.length∧z.length≤4∧∀ c∈z.cps.toList,c∈GOOD:=by decide+kernel
 match k,h with
 | 0,_=>exact ⟨_,rfl,key _ (by simp)⟩
 | 1,_=>exact ⟨_,rfl,key _ (by simp)⟩
 | 2,_=>exact ⟨_,rfl,key _ (by simp)⟩
 | 3,_=>exact ⟨_,rfl,key _ (by simp)⟩
def GoodS (ys:List Str):Prop:=∀ y∈ys,∃ c,y=⟨#[c]⟩∧c∈GOOD
theorem GoodS.ones {ys:List Str} (h:GoodS ys):∀ y∈ys,y.length=1:=fun y hy=>by
 obtain ⟨c,rfl,_⟩:=h y hy
 exact Ei c
theorem Us {zs:List Str} (h:GoodS zs) (hl:zs.length≤48):Row (Txt.join (Str.ofString "") zs):=by
 refine ⟨by rw [yC h.ones];exact hl,fun c hc=>?_⟩
 rw [yz] at hc
 obtain ⟨l,hl1,hl2⟩:=List.mem_flatten.mp hc
 obtain ⟨y,hy,e⟩:=List.mem_map.mp hl1
 obtain ⟨d,rfl,hd⟩:=h y hy
 subst e
 simp at hl2
 subst hl2
 exact hd
theorem Pj {ms:List Int} (h:ms.length=4):∃ a b c d,ms=[a,b,c,d]:=by
 match ms,h with
 | [a,b,c,d],_=>exact ⟨a,b,c,d,rfl⟩
def Pk (K:PySem.W.Frag):Sp:=fun vs H Q _=>∃ (n b:Int) (m:Nat),vs=[.int n,.int m,.int b]∧m≤48∧∀ (z:Str) H',Same H H'→Row z→z.length≤m→Q (.str z) H'
theorem cY:aD ["_law_cell_here","_law_most","_law_base_here","_law_way","_law_few","_law_some","_law_kinds","_law_many","_law_signs","_law_numbers"] ["_law_cell_here","_law_most","_law_base_here"] (aq bL):=⟨rfl,rfl,rfl,by decide+kernel,rfl,by decide+kernel,by decide+kernel⟩
theorem mY (T:Txt K mg):Has P w K mg base 3 "_law_text" ["_law_cell_here","_law_most","_law_base_here"] (Pk K):=by
 have gG:=gG (P:=P) (w:=w) (base:=base) T
 have pM:=pM (P:=P) (w:=w) (base:=base) T
 refine fj T.d_law_text cY (fun _ _ _ _ _ _ us hl=>L2.tE (fun _ _ _=>rfl) us hl) ?_ fun f cdv A outer s H vs Q E hr h=>?_
 ·rintro vs H Q E ⟨n,b,m,rfl,_⟩;rfl
 obtain ⟨n,b,m,rfl,hm,q⟩:=h
 have hu:=hr.units0
 have hu64:=hr.units
 refine ⟨_,(az (Mf (aF gG (hr.mono (by decide)) (aV XQ) (aa (ao 0 XS) (aa (iY (aa aG (aa (bj aP (aH (uV rfl) (aV kz6t) T.b_min Hz (aa (ao 1 X6) (aa aG ak)) (by decide+kernel) (by decide+kernel)) aG) (aa (bj aP (ao 1 X6) aG) (aa aG ak))))) ak)) (by decide+kernel)) (Ma (K:=K) rfl rfl (gW (b8 (i:=3) cY.nd rfl (Or.inl X3) rfl) (gW (b8 (i:=4) cY.nd rfl (Or.inl X5) rfl) (gW (b8 (i:=5) cY.nd rfl (Or.inl X4) rfl) (gW (b8 (i:=6) cY.nd rfl (Or.inl XX) rfl) sV)))))) (az (aM (i:=7) cY.nd rfl (Or.inl Ur) (ao 4 X5) rfl) (az (cz (bx (jB (K:=K) rfl hu64) (ao 3 X3) aG (by first | exact aW _ | with_unfolding_all rfl)) (aA (aM (i:=7) cY.nd rfl (Or.inl Ur) (ao 5 X4) rfl)) bI) (az (aM (i:=8) cY.nd rfl (Or.inr XR) (m5 (K:=K) rfl (iY (aa iW (aa iW (aa iW (aa iW ak))))) (ao 6 XX)) rfl) (az (aM (i:=9) cY.nd rfl (Or.inl XN) (aF gG (hr.mono (by decide)) (aV XQ) (aa (bj yM (ao 0 XS) aG) (aa (bj jW (iY (aa (aH (aC (K:=K) rfl) (aV kz6k) T.b_len bc (aa (nq 8 XR) ak) (by decide+kernel) (by decide+kernel)) ak)) (ao 7 Ur)) ak)) (by decide+kernel)) rfl) (aA (aN (ph (K:=K) rfl PySem.F.plainAttrs_str PySem.F.slot_str_join PySem.F.type_str_join Lq iW (aa (mH (sub:=[none,some 8,some 2]) (gU (N:=["_law_cell_here","_law_most","_law_base_here","_law_way","_law_few","_law_some","_law_kinds","_law_many","_law_signs","_law_numbers"]) (sc:=aq bL) (N':=["_law_number","_law_signs","_law_base_here"]) (by decide+kernel)) rfl rfl rfl (jr (K:=K) rfl (ao 9 XN)) (fun C s₀ H₀ ex=>(uG 0 (by decide+kernel) uR)) (fun C s₀ H₀ ex=>jY) (fun C s₀ H₀ ex=>(aF pM (hr.mono (by decide)) (Vy (by decide+kernel)) (aa (m5 (K:=K) rfl (rF 1 (by decide+kernel)) (nG 0 (by decide+kernel))) (aa (rF 2 (by decide+kernel)) ak)) (by decide+kernel)))) ak))))))))),?_⟩
 walk_at "sts"
 have hs:20000≤sizeLine:=by decide
 obtain ⟨m8,e8,k8,k8'⟩:∃ m8:Nat,(if (8:Int) < (m:Int) then (8:Int) else (m:Int))=(m8:Int)∧m8≤8∧m8≤m:=by
  by_cases h:(8:Int) < (m:Int)
  ·rw [if_pos h];exact ⟨8,rfl,Nat.le_refl _,by omega⟩
  ·rw [if_neg h];exact ⟨m,rfl,by omega,Nat.le_refl _⟩
 rw [e8]
 refine fJ rfl fun p1 H1 n1 S1 h1=>?_
 walk_at "sts"
 replace h1:H1 p1=some (.lst (([8,(m8:Int)+1,(m:Int)+1,4]:List Int).map V.int)):=h1
 refine ⟨n,p1,_,rfl,h1,by simp,(fun x hx=>by simp only [List.mem_cons,List.mem_nil_iff,or_false] at hx;rcases hx with rfl | rfl | rfl | rfl <;> omega),fun p2 ms H2 n2 S2 h2 hF=>?_⟩
 walk_at "sts"
 obtain ⟨wy,fw,sm,kd,rfl⟩:=Pj hF.1
 have f1:=hF.2 1 fw _ rfl rfl
 have f2:=hF.2 2 sm _ rfl rfl
 have f3:=hF.2 3 kd _ rfl rfl
 refine Mg (xs:=[.int wy,.int fw,.int sm,.int kd]) (SqL.of h2) rfl ?_
 walk_at "stn"
 have U2:=S1.trans S2
 clear h1 n1 n2 S1 S2 hF h2
 obtain ⟨fwN,rfl⟩:∃ k:Nat,fw=k:=⟨fw.toNat,by omega⟩
 obtain ⟨smN,rfl⟩:∃ k:Nat,sm=k:=⟨sm.toNat,by omega⟩
 obtain ⟨kdN,rfl⟩:∃ k:Nat,kd=k:=⟨kd.toNat,by omega⟩
 with_reducible refine nj ?_
 walk_at "stn"
 with_reducible refine Cy (fun σ H'=>H'=H2∧∃ mn:Nat,mn≤m∧σ=[some (.int n),some (.int m),some (.int b),some (.int wy),some (.int fwN),some (.int smN),some (.int kdN),some (.int mn),none,none]) ?_ ?_
 rotate_left
 ·intro N hN
  walk_at "stn"
  refine uF (fun h=>?_) (fun h=>?_)
  ·walk_at "stn"
   exact hN _ _ ⟨rfl,smN,by omega,rfl⟩
  ·walk_at "stn"
   exact hN _ _ ⟨rfl,fwN,by omega,rfl⟩
 rintro σ H' ⟨rfl,mn,hmn,rfl⟩
 obtain ⟨z,ez,z0,z4,zg⟩:=sgn4 kdN (by omega)
 walk_at "sts"
 refine fJ rfl fun p3 H3 n3 S3 h3=>?_
 walk_at "sts"
 refine cO (SqL.of h3) (oF ez) ?_
 walk_at "sts"
 refine cu (by omega) ?_
 walk_at "sts"
 refine fJ rfl fun p4 H4 n4 S4 h4=>?_
 walk_at "sts"
 refine An h4 (by omega) (by omega) (by simp;omega) fun p5 n5=>?_
 walk_at "sts"
 rw [show (List.replicate ((mn:Nat):Int).toNat [V.int (z.length:Int)]).flatten=(List.replicate mn (z.length:Int)).map V.int by rw [show ((mn:Nat):Int).toNat=mn by omega,List.map_replicate,List.flatten_replicate_singleton]]
 have S5:=(Same.refl H4).upd n5 (o:=.lst ((List.replicate mn (z.length:Int)).map V.int))
 have h5:=aj (H:=H4) (a:=p5) (o:=.lst ((List.replicate mn (z.length:Int)).map V.int))
 generalize upd H4 p5 (.lst ((List.replicate mn (z.length:Int)).map V.int))=H5 at S5 h5 ⊢
 walk_at "sts"
 refine ⟨_,p5,_,rfl,h5,by simp;omega,(fun x hx=>by rw [List.eq_of_mem_replicate hx];omega),fun p6 ms H6 n6 S6 h6 hF=>?_⟩
 walk_at "sts"
 have U6:=U2.trans (S3.trans (S4.trans (S5.trans S6)))
 have hml:ms.length=mn:=by rw [hF.1,List.length_replicate]
 try walk_at "sts"
 refine ⟨rfl,?_⟩
 walk_at "sts"
 refine .inl ⟨p6,rfl,⟨_,SqL.of h6⟩,?_⟩
 refine mL (xs:=ms.map V.int) (fun i ys G=>G=H6∧∃ zs:List Str,ys=zs.map V.str∧zs.length=i∧GoodS zs) (by rw [List.length_map];omega) ⟨rfl,[],rfl,rfl,fun y hy=>by cases hy⟩ ?_ ?_ ?_ ?_
 ·rintro i ys G ⟨_,zs,rfl,e,_⟩
  rw [List.length_map];omega
 ·rintro i ys G ⟨rfl,_⟩
  exact SqL.of h6
 ·rintro i ys G v hv ⟨rfl,zs,rfl,e,hg⟩
  rw [List.getElem?_map] at hv
  obtain ⟨k,hk,rfl⟩:=Option.map_eq_some_iff.mp hv
  have hi:i < mn:=by rw [← hml];exact (List.getElem?_eq_some_iff.mp hk).1
  obtain ⟨k0,k1⟩:=hF.2 i k _ hk (List.getElem?_replicate_of_lt hi)
  have ezl:z.length=z.cps.toList.length:=by simp [Str.length]
  obtain ⟨c,hc⟩:∃ c,zO z.cps.toList k=some c:=⟨_,sS k0 (List.getElem?_eq_getElem (by omega))⟩
  have hcg:c∈GOOD:=zg c (by
   unfold zO at hc
   obtain ⟨j,_,hj⟩:=Option.bind_eq_some_iff.mp hc
   exact List.mem_of_getElem? hj)
  walk_at "sts"
  refine ⟨KeepSt.set rfl,?_⟩
  walk_at "sts"
  refine yx (by omega) hc ?_
  walk_at "sts"
  refine ⟨c,b,rfl,hcg,fun d hd=>?_⟩
  walk_at "sts"
  refine ⟨rfl,zs ++ [⟨#[d]⟩],by rw [List.map_append];rfl,by simp;omega,fun y hy=>?_⟩
  rcases List.mem_append.mp hy with h | h
  ·exact hg y h
  ·rw [List.mem_singleton.mp h];exact ⟨d,rfl,hd⟩
 ·rintro ys G D H7 ⟨rfl,zs,rfl,e,hg⟩ nD S7 hD
  rw [List.length_map] at e
  try walk_at "sts"
  refine RV hD (by rw [HJ hg.ones,show (Str.ofString "").length=0 by decide+kernel];omega) ?_
  walk_at "sts"
  exact q _ H7 (U6.trans S7) (Us hg (by omega)) (by rw [yC hg.ones];omega)
end
local macro_rules | `(tactic| walk_at "sts") => `(tactic| (with_reducible repeat (first | refine lO ?_ | refine lw ?_ | refine kZ ?_ | refine iZ ?_ | refine jc ?_ | (refine' iM ?hz0 ?_; (case hz0 => with_unfolding_all rfl)) | refine vm ?_ | refine lV ?_ | refine dZ ?_ | refine dM ?_ | refine iQ ?_ | refine nj ?_ | refine iC ?_ | refine dF ?_ | refine iG ?_ | refine dD ?_ | refine lK ?_ | refine dH ?_ | refine lW ?_ | refine lQ ?_ | refine dN ?_ | refine lM ?_ | refine iH ?_ | refine iI ?_ | refine lN ?_ | refine dI ?_ | refine iJ ?_ | refine dJ ?_ | refine iK ?_ | refine iD ?_ | refine dG ?_ | refine jw ?_ | refine ju ?_ | refine lR ?_ | refine iR ?_ | refine lU ?_ | refine iT ?_ | refine dO ?_ | refine dR ?_ | refine dU ?_ | refine dW ?_ | refine dX ?_ | refine dY ?_ | refine iU ?_ | refine cC ?_ | refine d9 ?_ | (refine' cP (SqT.of ?hz0) ?hz1 ?_; (case hz0 => first | assumption | exact aj); (case hz1 => rfl)) | refine cG ?_ | refine eQ ?_ | refine eU ?_ | refine di ?_ | refine dj ?_ | refine dm ?_ | refine dq ?_ | refine lX ?_ | refine dg ?_ | refine dh ?_ | refine eN ?_ | refine eO ?_ | refine cF ?_ | refine iV ?_ | refine d8 ?_ | (refine' vq ?hz0 ?_; (case hz0 => with_unfolding_all first | assumption | omega | (dsimp only <;> omega) | exact ⟨by omega, by omega⟩ | exact .inl ⟨by omega, by omega⟩ | exact .inr ⟨by omega, by omega⟩ | exact ⟨by decide, by decide, by decide⟩)) | (refine' d7 ?hz0 ?_; (case hz0 => with_unfolding_all first | assumption | omega | (dsimp only <;> omega) | exact ⟨by omega, by omega⟩ | exact .inl ⟨by omega, by omega⟩ | exact .inr ⟨by omega, by omega⟩ | exact ⟨by decide, by decide, by decide⟩)) | (refine' cO (SqL.of ?hz0) ?hz1 ?_; (case hz0 => first | assumption | exact aj); (case hz1 => with_unfolding_all rfl)) | (refine' c7 ?hz0 ?hz1 ?_; (case hz0 => first | assumption | exact aj); (case hz1 => with_unfolding_all rfl)) | refine cI ?_ | refine jd ?_ | refine eV ?_ | refine cJ ?_ | refine eY ?_ | refine cL ?_ | refine wO ?_ | refine wQ ?_ | refine fY ?_)))
local macro_rules | `(tactic| walk_at "stn") => `(tactic| (with_reducible repeat (first | refine lO ?_ | refine lw ?_ | refine kZ ?_ | refine iZ ?_ | refine jc ?_ | (refine' iM ?hz0 ?_; (case hz0 => with_unfolding_all rfl)) | refine vm ?_ | refine lV ?_ | refine dZ ?_ | refine dM ?_ | refine iQ ?_ | refine iC ?_ | refine dF ?_ | refine iG ?_ | refine dD ?_ | refine lK ?_ | refine dH ?_ | refine lW ?_ | refine lQ ?_ | refine dN ?_ | refine lM ?_ | refine iH ?_ | refine iI ?_ | refine lN ?_ | refine dI ?_ | refine iJ ?_ | refine dJ ?_ | refine iK ?_ | refine iD ?_ | refine dG ?_ | refine jw ?_ | refine ju ?_ | refine lR ?_ | refine iR ?_ | refine lU ?_ | refine iT ?_ | refine dO ?_ | refine dR ?_ | refine dU ?_ | refine dW ?_ | refine dX ?_ | refine dY ?_ | refine iU ?_ | refine cC ?_ | refine d9 ?_ | (refine' cP (SqT.of ?hz0) ?hz1 ?_; (case hz0 => first | assumption | exact aj); (case hz1 => rfl)) | refine cG ?_ | refine eQ ?_ | refine eU ?_ | refine di ?_ | refine dj ?_ | refine dm ?_ | refine dq ?_ | refine lX ?_ | refine dg ?_ | refine dh ?_ | refine eN ?_ | refine eO ?_ | refine cF ?_ | refine iV ?_ | refine d8 ?_ | (refine' vq ?hz0 ?_; (case hz0 => with_unfolding_all first | assumption | omega | (dsimp only <;> omega) | exact ⟨by omega, by omega⟩ | exact .inl ⟨by omega, by omega⟩ | exact .inr ⟨by omega, by omega⟩ | exact ⟨by decide, by decide, by decide⟩)) | (refine' d7 ?hz0 ?_; (case hz0 => with_unfolding_all first | assumption | omega | (dsimp only <;> omega) | exact ⟨by omega, by omega⟩ | exact .inl ⟨by omega, by omega⟩ | exact .inr ⟨by omega, by omega⟩ | exact ⟨by decide, by decide, by decide⟩)) | (refine' cO (SqL.of ?hz0) ?hz1 ?_; (case hz0 => first | assumption | exact aj); (case hz1 => with_unfolding_all rfl)) | (refine' c7 ?hz0 ?hz1 ?_; (case hz0 => first | assumption | exact aj); (case hz1 => with_unfolding_all rfl)) | refine cI ?_ | refine jd ?_ | refine eV ?_ | refine cJ ?_ | refine eY ?_ | refine cL ?_ | refine wO ?_ | refine wQ ?_ | refine fY ?_)))
section
variable {P:Program} {w:World} {K:PySem.W.Frag} {mg:Str→Option Value} {base:Heap}
theorem kz6u:bK bf "Beside":=by decide+kernel
theorem Pq:bK bf "_law_built":=by decide+kernel
theorem Ga:bD bf "_law_numbers":=by decide+kernel
theorem Gb:bD bf "_law_at":=by decide+kernel
theorem rn:bD bf "_law_top":=by decide+kernel
theorem qF:bD bf "_law_side":=by decide+kernel
theorem X7:bD bf "_law_left":=by decide+kernel
theorem Gd:bD bf "_law_number":=by decide+kernel
theorem Bq:bK bf "len":=by decide+kernel
theorem kz73:bK bf "Over":=by decide+kernel
theorem X8:bD bf "_law_upper":=by decide+kernel
theorem Yb:bK bf "balanced":=by decide+kernel
theorem kz76:bK bf "strip":=by decide+kernel
theorem kz77:bK bf "One":=by decide+kernel
theorem kz78:bK bf "Blank":=by decide+kernel
theorem Br (z:Str) (k:Nat):Txt.slice z none (some (k:Int)) ++ Txt.slice z (some (k:Int)) none=z:=jN (by rw [gK,qi,kj,List.take_append_drop])
theorem Bs {z:Str} (h:Row z) (k:Nat):Row (Txt.slice z none (some (k:Int)))∧Row (Txt.slice z (some (k:Int)) none):=by
 have e1:(Txt.slice z none (some (k:Int))).length=(Txt.slice z none (some (k:Int))).cps.toList.length:=by simp [Str.length]
 have e2:(Txt.slice z (some (k:Int)) none).length=(Txt.slice z (some (k:Int)) none).cps.toList.length:=by simp [Str.length]
 have e3:z.length=z.cps.toList.length:=by simp [Str.length]
 have h1:=h.1
 refine ⟨⟨by rw [e1,qi,List.length_take];omega,fun c hc=>?_⟩,by rw [e2,kj,List.length_drop];omega,fun c hc=>?_⟩
 ·rw [qi] at hc;exact h.2 c (List.mem_of_mem_take hc)
 ·rw [kj] at hc;exact h.2 c (List.mem_of_mem_drop hc)
theorem xP {z:Str} (k:Nat) (h:k≤z.cps.size):(Txt.slice z none (some (k:Int))).cps.size=k∧(Txt.slice z (some (k:Int)) none).cps.size=z.cps.size - k:=by
 have e1:(Txt.slice z none (some (k:Int))).cps.size=(Txt.slice z none (some (k:Int))).cps.toList.length:=by simp
 have e2:(Txt.slice z (some (k:Int)) none).cps.size=(Txt.slice z (some (k:Int)) none).cps.toList.length:=by simp
 have e3:z.cps.size=z.cps.toList.length:=by simp
 exact ⟨by rw [e1,qi,List.length_take];omega,by rw [e2,kj,List.length_drop];omega⟩
theorem Bt {z:Str} (h:Row z) (h1:z.cps.size=1):∃ c,z=⟨#[c]⟩∧c∈GOOD:=by
 obtain ⟨c,hc⟩:=List.length_eq_one_iff.mp (show z.cps.toList.length=1 by rw [Array.length_toList];exact h1)
 have e:z=⟨#[c]⟩:=jN (by rw [hc])
 exact ⟨c,e,h.2 c (by rw [hc];simp)⟩
theorem Bu {n:Addr} {H H':Hp} (s:Same H H'):Chg n H H':=fun b o _ e=>s b o e
def zL (K:PySem.W.Frag) (mg:Str→Option Value) (d:Nat):Sp:=fun vs H Q _=>∃ (side top:Str) (n:Addr) (ns:List Int) (H0:Hp) (o:HO),vs=[.str side,.str top,.ref n]∧Row side∧Row top∧side.cps.size+top.cps.size≤d∧H n=some (.lst (ns.map V.int))∧ns.length≤200∧H0 n=some o∧Dm H0 H∧
 ∀ x h (ms:List Int) H',Chg n H H'→H' n=some (.lst (ms.map V.int))→ms.length≤200→GP mg H0 H' x side top h→Q (.ref x) H'
def Ut (K:PySem.W.Frag) (mg:Str→Option Value):Nat→Sp
 | 0=>fun _ _ _ _=>False
 | d+1=>zL K mg d
theorem fQ:aD ["_law_side","_law_top","_law_numbers","_law_number","_law_at","_law_upper","_law_left"] ["_law_side","_law_top","_law_numbers"] (aq bf):=⟨rfl,rfl,rfl,by decide+kernel,rfl,by decide+kernel,by decide+kernel⟩
theorem xQ (T:Txt K mg):Has P w K mg base 1 "_law_built" ["_law_side","_law_top","_law_numbers"] (fun _ _ _ _=>False):=fj (k:=0) T.d_law_built fQ (fun _ _ _ _ _ _ us hl=>L2.tE (fun _ _ _=>rfl) us hl) (fun _ _ _ _ h=>h.elim) (fun _ _ _ _ _ _ _ _ _ _ h=>h.elim)
theorem qG (T:Txt K mg) (d:Nat) (fH:Has P w K mg base (18+d) "_law_built" ["_law_side","_law_top","_law_numbers"] (Ut K mg d)):Has P w K mg base (18+d+1) "_law_built" ["_law_side","_law_top","_law_numbers"] (zL K mg d):=by
 have aL:=aL (P:=P) (w:=w) (base:=base) T
 have mX:=mX (P:=P) (w:=w) (base:=base) T
 have bO:=bO (P:=P) (w:=w) (base:=base) T
 have xO:=xO (P:=P) (w:=w) (base:=base) T
 have bH:=bH (P:=P) (w:=w) (base:=base) T
 have aO:=aO (P:=P) (w:=w) (base:=base) T
 refine fj T.d_law_built fQ (fun _ _ _ _ _ _ us hl=>L2.tE (fun _ _ _=>rfl) us hl) ?_ fun f cdv A outer s H vs Q E hr h=>?_
 ·rintro vs H Q E ⟨side,top,n,ns,H0,o,rfl,_⟩;rfl
 obtain ⟨side,top,n,ns,H0,o,rfl,rs,rt,hd,hn,hnl,hn0,hD,q⟩:=h
 have hu:=hr.units0
 have hu64:=hr.units
 refine ⟨_,(az (cz (lY (p8 (bx (jC (K:=K) rfl hu64) (ao 0 qF) iW (by first | exact aW _ | with_unfolding_all rfl)) (mG (bx (jC (K:=K) rfl hu64) (ao 1 rn) iW (by first | exact aW _ | with_unfolding_all rfl))))) (aA (aN (cH T.o_Blank aL (hr.mono (by omega)) (aV kz78) (dz fun _ _=>rfl) (aa (ao 0 qF) (aa (ao 1 rn) ak)) (by decide+kernel)))) bI) (az (cz (bx (jC (K:=K) rfl hu64) (ao 2 Ga) (iY ak) (by first | exact aW _ | with_unfolding_all rfl)) (aA (aN (aF mX (hr.mono (by omega)) (aV Yb) (aa (ao 0 qF) (aa (ao 1 rn) ak)) (by decide+kernel)))) bI) (az (aM (i:=3) fQ.nd rfl (Or.inl Gd) (LQ (K:=K) rfl PySem.F.plainAttrs_list PySem.F.slot_list_pop PySem.F.type_list_pop Rt (ao 2 Ga)) rfl) (az (cz (bx (jC (K:=K) rfl hu64) (bj aP (aH (aC (K:=K) rfl) (aV Bq) T.b_len bc (aa (ao 0 qF) ak) (by decide+kernel) (by decide+kernel)) (aH (aC (K:=K) rfl) (aV Bq) T.b_len bc (aa (ao 1 rn) ak) (by decide+kernel) (by decide+kernel))) aG (by first | exact aW _ | with_unfolding_all rfl)) (aA (aN (cH T.o_One bO (hr.mono (by omega)) (aV kz77) (dz fun _ _=>rfl) (aa (ao 0 qF) (aa (ao 1 rn) ak)) (by decide+kernel)))) bI) (az (cz (lY (wB (bx (jC (K:=K) rfl hu64) (bj ik (ao 3 Gd) aG) aG (by first | exact aW _ | with_unfolding_all rfl)) (sU (bx (jC (K:=K) rfl hu64) (aH (aC (K:=K) rfl) (aV Bq) T.b_len bc (aa (ao 0 qF) ak) (by decide+kernel) (by decide+kernel)) aG (by first | exact aW _ | with_unfolding_all rfl))))) (aA (aN (aF xO (hr.mono (by omega)) (aV kz76) (aa (ao 0 qF) (aa (ao 1 rn) ak)) (by decide+kernel)))) bI) (az (cz (bx (jC (K:=K) rfl hu64) (bj ik (ao 3 Gd) aG) aG (by first | exact aW _ | with_unfolding_all rfl)) (aA (aN (aF mX (hr.mono (by omega)) (aV Yb) (aa (ao 0 qF) (aa (ao 1 rn) ak)) (by decide+kernel)))) bI) (az (cz (lY (wB (bx rz (aH (aC (K:=K) rfl) (aV Bq) T.b_len bc (aa (ao 0 qF) ak) (by decide+kernel) (by decide+kernel)) aG (by first | exact aW _ | with_unfolding_all rfl)) (sU (lY (p8 (bx (jC (K:=K) rfl hu64) (aH (aC (K:=K) rfl) (aV Bq) T.b_len bc (aa (ao 1 rn) ak) (by decide+kernel) (by decide+kernel)) aG (by first | exact aW _ | with_unfolding_all rfl)) (mG (bx (jC (K:=K) rfl hu64) (bj ik (ao 3 Gd) aG) aG (by first | exact aW _ | with_unfolding_all rfl)))))))) (az (aM (i:=4) fQ.nd rfl (Or.inl Gb) (bj aP aG (bj ik (bj sO (ao 3 Gd) aG) (bj jU (aH (aC (K:=K) rfl) (aV Bq) T.b_len bc (aa (ao 0 qF) ak) (by decide+kernel) (by decide+kernel)) aG))) rfl) (az (aM (i:=5) fQ.nd rfl (Or.inl X8) (aF fH (hr.mono (by omega)) (aV Pq) (aa (jq (jm (K:=K) rfl) (ao 0 qF) jn (jo (ao 4 Gb))) (aa (ao 1 rn) (aa (ao 2 Ga) ak))) (by decide+kernel)) rfl) (aA (aN (cH T.o_Over bH (hr.mono (by omega)) (aV kz73) (dz fun _ _=>rfl) (aa (ao 5 X8) (aa (aF fH (hr.mono (by omega)) (aV Pq) (aa (jq (jm (K:=K) rfl) (ao 0 qF) (jo (ao 4 Gb)) jn) (aa (ao 1 rn) (aa (ao 2 Ga) ak))) (by decide+kernel)) ak)) (by decide+kernel)))))) bI) (az (aM (i:=4) fQ.nd rfl (Or.inl Gb) (bj aP aG (bj ik (bj sO (ao 3 Gd) aG) (bj jU (aH (aC (K:=K) rfl) (aV Bq) T.b_len bc (aa (ao 1 rn) ak) (by decide+kernel) (by decide+kernel)) aG))) rfl) (az (aM (i:=6) fQ.nd rfl (Or.inl X7) (aF fH (hr.mono (by omega)) (aV Pq) (aa (ao 0 qF) (aa (jq (jm (K:=K) rfl) (ao 1 rn) jn (jo (ao 4 Gb))) (aa (ao 2 Ga) ak))) (by decide+kernel)) rfl) (aA (aN (cH T.o_Beside aO (hr.mono (by omega)) (aV kz6u) (dz fun _ _=>rfl) (aa (ao 6 X7) (aa (aF fH (hr.mono (by omega)) (aV Pq) (aa (ao 0 qF) (aa (jq (jm (K:=K) rfl) (ao 1 rn) (jo (ao 4 Gb)) jn) (aa (ao 2 Ga) ak))) (by decide+kernel)) ak)) (by decide+kernel))))))))))))),?_⟩
 walk_at "sts"
 have hz:20000≤sizeLine:=by decide
 have l1:=rs.1
 have l2:=rt.1
 have el1:side.length=side.cps.size:=rfl
 have el2:top.length=top.cps.size:=rfl
 by_cases h0:side.cps.size=0
 ·rw [decide_eq_true (show V.str side=V.str (Str.ofString "") by rw [jO.mpr h0])]
  show if true=true then _ else _
  walk_at "sts"
  refine jy hD rs rt (.inl h0) fun x H2 S2 p2 g2=>?_
  exact q x 0 ns H2 (Bu S2) (S2 _ _ hn) hnl g2
 rw [decide_eq_false (show ¬ V.str side=V.str (Str.ofString "") from fun z=>h0 (jO.mp (V.str.inj z)))]
 show if false=true then _ else _
 walk_at "sts"
 by_cases h1:top.cps.size=0
 ·rw [decide_eq_true (show V.str top=V.str (Str.ofString "") by rw [jO.mpr h1])]
  walk_at "sts"
  refine jy hD rs rt (.inr h1) fun x H2 S2 p2 g2=>?_
  exact q x 0 ns H2 (Bu S2) (S2 _ _ hn) hnl g2
 rw [decide_eq_false (show ¬ V.str top=V.str (Str.ofString "") from fun z=>h1 (jO.mp (V.str.inj z)))]
 walk_at "sts"
 refine fJ rfl fun e1 H1 ne S1 he=>?_
 walk_at "sts"
 have hn1:=S1 _ _ hn
 have hD1:=hD.same S1
 by_cases hns:ns=[]
 ·subst hns
  refine SM hn1 he (fun v hv=>by cases hv) ?_
  walk_at "sts"
  refine ⟨side,top,rfl,rs,rt,fun x h H2 S2 _ g=>?_⟩
  walk_at "sts"
  exact q x h [] H2 (Bu (S1.trans S2)) (S2 _ _ hn1) (by simp) (g.less hD1)
 obtain ⟨ms,z,rfl⟩:∃ ms z,ns=ms ++ [z]:=⟨ns.dropLast,ns.getLast hns,(List.dropLast_concat_getLast hns).symm⟩
 refine SN hn1 he (by simp) ?_
 walk_at "sts"
 rw [List.map_append] at hn1
 have hml:ms.length≤200:=by rw [List.length_append] at hnl;omega
 refine ⟨.inl ⟨rfl,_,SqL.of hn1⟩,n,_,.int z,rfl,rfl,hn1,by simp,?_⟩
 walk_at "sts"
 rw [show (ms.map V.int ++ [z].map V.int).dropLast=ms.map V.int by simp]
 have C2:Chg n H (upd H1 n (.lst (ms.map V.int))):=fun b u hb e=>by rw [aB hb];exact S1 _ _ e
 have hn2:=aj (H:=H1) (a:=n) (o:=.lst (ms.map V.int))
 have hD2:Dm H0 (upd H1 n (.lst (ms.map V.int))):=hD1.put
 generalize upd H1 n (.lst (ms.map V.int))=H2 at C2 hn2 hD2 ⊢
 clear hn hn1 hD1 he ne S1 hD hnl
 have Cq:∀ {J:Hp},Same H2 J→Chg n H J:=fun s b u hb e=>s _ _ (C2 b u hb e)
 walk_at "sts"
 refine cu (by omega) ?_
 walk_at "sts"
 refine cu (by omega) ?_
 walk_at "sts"
 by_cases h2:side.cps.size+top.cps.size=2
 ·rw [decide_eq_true (show V.int ((side.length:Int)+(top.length:Int))=V.int 2 by congr 1;omega)]
  obtain ⟨c,rfl,hc⟩:=Bt rs (by omega)
  obtain ⟨c',rfl,hc'⟩:=Bt rt (by omega)
  walk_at "sts"
  refine xN hD2 hc hc' fun x H3 S3 p3 g3=>?_
  exact q x 0 ms H3 (Cq S3) (S3 _ _ hn2) hml g3
 rw [decide_eq_false (show ¬ V.int ((side.length:Int)+(top.length:Int))=V.int 2 from fun z=>h2 (by have:=V.int.inj z;omega))]
 walk_at "stn"
 obtain ⟨e,rfl⟩:∃ e,d=e+1:=⟨d - 1,by omega⟩
 with_reducible refine Cy (fun σ J=>J=H2∧σ=[some (.str side),some (.str top),some (.ref n),some (.int z),none,none,none]) ?_ ?_
 rotate_left
 ·intro N hN
  walk_at "stn"
  by_cases a1:z % 9=8
  ·rw [decide_eq_true (show V.int (z % 9)=V.int 8 by rw [a1])]
   walk_at "stn"
   refine cu (by omega) ?_
   walk_at "sts"
   by_cases a2:side.cps.size=1
   ·rw [decide_eq_true (show V.int (side.length:Int)=V.int 1 by congr 1;omega)]
    obtain ⟨c,rfl,hc⟩:=Bt rs a2
    walk_at "stn"
    refine ⟨c,top,rfl,hc,rt,(fun x H3 S3 _ _ g=>q x _ ms H3 (Cq S3) (S3 _ _ hn2) hml (g.less hD2)),fun x H3 S3 _ _ g=>q x _ ms H3 (Cq S3) (S3 _ _ hn2) hml (g.less hD2)⟩
    walk_at "sts"
   ·rw [decide_eq_false (show ¬ V.int (side.length:Int)=V.int 1 from fun z=>a2 (by have:=V.int.inj z;omega))]
    walk_at "stn"
    exact hN _ _ ⟨rfl,rfl⟩
  ·rw [decide_eq_false (show ¬ V.int (z % 9)=V.int 8 from fun w=>a1 (V.int.inj w))]
   walk_at "stn"
   exact hN _ _ ⟨rfl,rfl⟩
 rintro σ J ⟨rfl,rfl⟩
 with_reducible refine Cy (fun σ G=>G=J∧σ=[some (.str side),some (.str top),some (.ref n),some (.int z),none,none,none]) ?_ ?_
 rotate_left
 ·intro N hN
  walk_at "stn"
  by_cases a1:z % 9=7
  ·rw [decide_eq_true (show V.int (z % 9)=V.int 7 by rw [a1])]
   walk_at "stn"
   refine ⟨side,top,rfl,rs,rt,fun x h H3 S3 _ g=>q x _ ms H3 (Cq S3) (S3 _ _ hn2) hml (g.less hD2)⟩
   walk_at "sts"
  ·rw [decide_eq_false (show ¬ V.int (z % 9)=V.int 7 from fun w=>a1 (V.int.inj w))]
   walk_at "stn"
   exact hN _ _ ⟨rfl,rfl⟩
 rintro σ G ⟨rfl,rfl⟩
 with_reducible refine Cy (fun σ J=>J=G∧1 < top.cps.size∧σ=[some (.str side),some (.str top),some (.ref n),some (.int z),none,none,none]) ?_ ?_
 rotate_left
 ·intro N hN
  walk_at "stn"
  refine cu (by omega) ?_
  walk_at "sts"
  by_cases a1:1 < side.cps.size
  ·rw [decide_eq_true (show (1:Int) < (side.length:Int) by omega)]
   walk_at "stn"
   refine cu (by omega) ?_
   walk_at "sts"
   by_cases a2:top.cps.size=1
   ·rw [decide_eq_true (show V.int (top.length:Int)=V.int 1 by congr 1;omega)]
    show if true=true then _ else _
    walk_at "sts"
    refine cu (by omega) ?_
    walk_at "sts"
    obtain ⟨k,ek,k1,k2⟩:∃ k:Nat,1+z / 9 % ((side.length:Int) - 1)=(k:Int)∧1≤k∧k < side.cps.size:=by
     have a1:=Int.emod_nonneg (z / 9) (show ((side.length:Int) - 1)≠0 by omega)
     have a2:=Int.emod_lt_of_pos (z / 9) (show 0 < ((side.length:Int) - 1) by omega)
     exact ⟨(1+z / 9 % ((side.length:Int) - 1)).toNat,by omega,by omega,by omega⟩
    rw [ek]
    obtain ⟨ru,rl⟩:=Bs rs k
    have es:=Br side k
    obtain ⟨z1,z2⟩:=xP k (by omega:k≤side.cps.size)
    walk_at "sts"
    refine tY (by omega) ?_
    walk_at "sts"
    generalize hsu:Txt.slice side none (some (k:Int))=su at ru es z1 ⊢
    refine ⟨su,top,n,ms,H0,o,rfl,ru,rt,by omega,hn2,hml,hn0,hD2,fun u hu ks H3 C3 hn3 hkl gu=>?_⟩
    walk_at "sts"
    have hD3:=hD2.chg C3 hn3
    try walk_at "sts"
    refine tY (by omega) ?_
    walk_at "sts"
    generalize hsl:Txt.slice side (some (k:Int)) none=sl at rl es z2 ⊢
    refine ⟨sl,top,n,ks,H0,o,rfl,rl,rt,by omega,hn3,hkl,hn0,hD3,fun l hl js H4 C4 hn4 hjl gl=>?_⟩
    walk_at "sts"
    have hD4:=hD3.chg C4 hn4
    try walk_at "sts"
    refine qx hD4 (gu.chg hn0 C4) gl (by rw [es];omega) fun x h H5 S5 hh _ g=>?_
    rw [es] at g
    exact q x h js H5 (fun b u hb e=>S5 _ _ (C4 b u hb (C3 b u hb (C2 b u hb e)))) (S5 _ _ hn4) hjl g
   ·rw [decide_eq_false (show ¬ V.int (top.length:Int)=V.int 1 from fun z=>a2 (by have:=V.int.inj z;omega))]
    show if false=true then _ else _
    walk_at "stn"
    by_cases a3:z % 2=0
    ·rw [decide_eq_true (show V.int (z % 2)=V.int 0 by rw [a3])]
     walk_at "sts"
     refine cu (by omega) ?_
     walk_at "sts"
     obtain ⟨k,ek,k1,k2⟩:∃ k:Nat,1+z / 9 % ((side.length:Int) - 1)=(k:Int)∧1≤k∧k < side.cps.size:=by
      have a1:=Int.emod_nonneg (z / 9) (show ((side.length:Int) - 1)≠0 by omega)
      have a2:=Int.emod_lt_of_pos (z / 9) (show 0 < ((side.length:Int) - 1) by omega)
      exact ⟨(1+z / 9 % ((side.length:Int) - 1)).toNat,by omega,by omega,by omega⟩
     rw [ek]
     obtain ⟨ru,rl⟩:=Bs rs k
     have es:=Br side k
     obtain ⟨z1,z2⟩:=xP k (by omega:k≤side.cps.size)
     walk_at "sts"
     refine tY (by omega) ?_
     walk_at "sts"
     generalize hsu:Txt.slice side none (some (k:Int))=su at ru es z1 ⊢
     refine ⟨su,top,n,ms,H0,o,rfl,ru,rt,by omega,hn2,hml,hn0,hD2,fun u hu ks H3 C3 hn3 hkl gu=>?_⟩
     walk_at "sts"
     have hD3:=hD2.chg C3 hn3
     try walk_at "sts"
     refine tY (by omega) ?_
     walk_at "sts"
     generalize hsl:Txt.slice side (some (k:Int)) none=sl at rl es z2 ⊢
     refine ⟨sl,top,n,ks,H0,o,rfl,rl,rt,by omega,hn3,hkl,hn0,hD3,fun l hl js H4 C4 hn4 hjl gl=>?_⟩
     walk_at "sts"
     have hD4:=hD3.chg C4 hn4
     try walk_at "sts"
     refine qx hD4 (gu.chg hn0 C4) gl (by rw [es];omega) fun x h H5 S5 hh _ g=>?_
     rw [es] at g
     exact q x h js H5 (fun b u hb e=>S5 _ _ (C4 b u hb (C3 b u hb (C2 b u hb e)))) (S5 _ _ hn4) hjl g
    ·rw [decide_eq_false (show ¬ V.int (z % 2)=V.int 0 from fun w=>a3 (V.int.inj w))]
     walk_at "stn"
     exact hN _ _ ⟨rfl,by omega,rfl⟩
  ·rw [decide_eq_false (show ¬ (1:Int) < (side.length:Int) by omega)]
   walk_at "stn"
   exact hN _ _ ⟨rfl,by omega,rfl⟩
 rintro σ J ⟨rfl,htop,rfl⟩
 walk_at "sts"
 refine cu (by omega) ?_
 walk_at "sts"
 obtain ⟨k,ek,k1,k2⟩:∃ k:Nat,1+z / 9 % ((top.length:Int) - 1)=(k:Int)∧1≤k∧k < top.cps.size:=by
  have a1:=Int.emod_nonneg (z / 9) (show ((top.length:Int) - 1)≠0 by omega)
  have a2:=Int.emod_lt_of_pos (z / 9) (show 0 < ((top.length:Int) - 1) by omega)
  exact ⟨(1+z / 9 % ((top.length:Int) - 1)).toNat,by omega,by omega,by omega⟩
 rw [ek]
 obtain ⟨ru,rl⟩:=Bs rt k
 have es:=Br top k
 obtain ⟨z1,z2⟩:=xP k (by omega:k≤top.cps.size)
 walk_at "sts"
 refine tY (by omega) ?_
 walk_at "sts"
 generalize hsu:Txt.slice top none (some (k:Int))=su at ru es z1 ⊢
 refine ⟨side,su,n,ms,H0,o,rfl,rs,ru,by omega,hn2,hml,hn0,hD2,fun u hu ks H3 C3 hn3 hkl gu=>?_⟩
 walk_at "sts"
 have hD3:=hD2.chg C3 hn3
 try walk_at "sts"
 refine tY (by omega) ?_
 walk_at "sts"
 generalize hsl:Txt.slice top (some (k:Int)) none=sl at rl es z2 ⊢
 refine ⟨side,sl,n,ks,H0,o,rfl,rs,rl,by omega,hn3,hkl,hn0,hD3,fun l hl js H4 C4 hn4 hjl gl=>?_⟩
 walk_at "sts"
 have hD4:=hD3.chg C4 hn4
 try walk_at "sts"
 refine mC hD4 (gu.chg hn0 C4) gl (by rw [es];omega) fun x h H5 S5 hh _ g=>?_
 rw [es] at g
 exact q x h js H5 (fun b u hb e=>S5 _ _ (C4 b u hb (C3 b u hb (C2 b u hb e)))) (S5 _ _ hn4) hjl g
theorem Kl (T:Txt K mg):∀ d:Nat,Has P w K mg base (19+d) "_law_built" ["_law_side","_law_top","_law_numbers"] (zL K mg d):=fun d=>by
 have key:∀ d:Nat,Has P w K mg base (19 - 1+d+1) "_law_built" ["_law_side","_law_top","_law_numbers"] (zL K mg d):=fun d=>by
  induction d with
  | zero=>exact qG T 0 ((xQ T).mono (by decide))
  | succ d ih=>exact qG T (d+1) (ih.mono (by omega))
 exact (key d).mono (by omega)
theorem fH (T:Txt K mg):Has P w K mg base (19+48) "_law_built" ["_law_side","_law_top","_law_numbers"] (zL K mg 48):=Kl T 48
end
section
variable {P:Program} {w:World} {K:PySem.W.Frag} {mg:Str→Option Value} {base:Heap}
theorem xR:bD fG "_law_piece":=by decide+kernel
theorem Pr:bD fG "_law_way":=by decide+kernel
theorem Yc:bK fG "Beside":=by decide+kernel
theorem Pu:bK fG "Blank":=by decide+kernel
theorem Yd:bK fG "Over":=by decide+kernel
theorem tD:Row (Str.ofString ""):=⟨by decide+kernel,fun c hc=>by rw [qy] at hc;cases hc⟩
theorem qH:(Str.ofString "").cps.size=0:=by decide+kernel
def Ye (K:PySem.W.Frag) (mg:Str→Option Value):Sp:=fun vs H Q _=>∃ (x:Addr) (n:Int) (side top:Str) (h:Nat) (H0:Hp),vs=[.ref x,.int n]∧GP mg H0 H x side top h∧Dm H0 H∧∀ x' h' H',Same H H'→GP mg H0 H' x' side top h'→Q (.ref x') H'
theorem xT:aD ["_law_piece","_law_way"] ["_law_piece","_law_way"] (aq fG):=⟨rfl,rfl,rfl,by decide+kernel,rfl,by decide+kernel,by decide+kernel⟩
theorem oA (T:Txt K mg):Has P w K mg base 11 "_law_edged" ["_law_piece","_law_way"] (Ye K mg):=by
 have bH:=bH (P:=P) (w:=w) (base:=base) T
 have aL:=aL (P:=P) (w:=w) (base:=base) T
 have bA:=bA (P:=P) (w:=w) (base:=base) T
 have aO:=aO (P:=P) (w:=w) (base:=base) T
 have aZ:=aZ (P:=P) (w:=w) (base:=base) T
 refine fj T.d_law_edged xT (fun _ _ _ _ _ _ us hl=>L2.oO (fun _ _=>rfl) us hl) ?_ fun f cdv A outer s H vs Q E hr h=>?_
 ·rintro vs H Q E ⟨x,n,side,top,h,H0,rfl,_⟩;rfl
 obtain ⟨x,n,side,top,h,H0,rfl,g,hD,q⟩:=h
 have hu:=hr.units0
 have hu64:=hr.units
 refine ⟨_,(az (cz (bx (jC (K:=K) rfl hu64) (ao 1 Pr) aG (by first | exact aW _ | with_unfolding_all rfl)) (aA (aN (cH T.o_Over bH (hr.mono (by decide)) (aV Yd) (dz fun _ _=>rfl) (aa (cH T.o_Blank aL (hr.mono (by decide)) (aV Pu) (dz fun _ _=>rfl) (aa iW (aa (bG (mg:=mg) rfl (ao 0 xR) T.os_Piece bA (hr.mono (by decide)) (dz fun _ _=>rfl)) ak)) (by decide+kernel)) (aa (ao 0 xR) ak)) (by decide+kernel)))) bI) (az (cz (bx (jC (K:=K) rfl hu64) (ao 1 Pr) aG (by first | exact aW _ | with_unfolding_all rfl)) (aA (aN (cH T.o_Over bH (hr.mono (by decide)) (aV Yd) (dz fun _ _=>rfl) (aa (ao 0 xR) (aa (cH T.o_Blank aL (hr.mono (by decide)) (aV Pu) (dz fun _ _=>rfl) (aa iW (aa (bG (mg:=mg) rfl (ao 0 xR) T.os_Piece bA (hr.mono (by decide)) (dz fun _ _=>rfl)) ak)) (by decide+kernel)) ak)) (by decide+kernel)))) bI) (az (cz (bx (jC (K:=K) rfl hu64) (ao 1 Pr) aG (by first | exact aW _ | with_unfolding_all rfl)) (aA (aN (cH T.o_Beside aO (hr.mono (by decide)) (aV Yc) (dz fun _ _=>rfl) (aa (cH T.o_Blank aL (hr.mono (by decide)) (aV Pu) (dz fun _ _=>rfl) (aa (bG (mg:=mg) rfl (ao 0 xR) T.os_Piece aZ (hr.mono (by decide)) (dz fun _ _=>rfl)) (aa iW ak)) (by decide+kernel)) (aa (ao 0 xR) ak)) (by decide+kernel)))) bI) (az (cz (bx (jC (K:=K) rfl hu64) (ao 1 Pr) aG (by first | exact aW _ | with_unfolding_all rfl)) (aA (aN (cH T.o_Beside aO (hr.mono (by decide)) (aV Yc) (dz fun _ _=>rfl) (aa (ao 0 xR) (aa (cH T.o_Blank aL (hr.mono (by decide)) (aV Pu) (dz fun _ _=>rfl) (aa (bG (mg:=mg) rfl (ao 0 xR) T.os_Piece aZ (hr.mono (by decide)) (dz fun _ _=>rfl)) (aa iW ak)) (by decide+kernel)) ak)) (by decide+kernel)))) bI) (aA (aN (ao 0 xR))))))),?_⟩
 walk_at "sts"
 obtain ⟨y,k,ps,hs,pg,_⟩:=id g.g
 obtain ⟨hy,dx,al,ap,hx,_,_⟩:=id pg.pc
 have rs:=pg.rs
 have rt:=pg.rt
 refine uF (fun h0=>?_) (fun h0=>?_)
 ·walk_at "sts"
  refine ⟨x,y,dx,_,rfl,hy,hx,rfl,?_⟩
  walk_at "sts"
  refine ⟨x,y,_,_,_,_,_,_,rfl,pg.pc,?_⟩
  walk_at "sts"
  refine jy hD tD rt (.inl qH) fun b H2 S2 _ gb=>?_
  try walk_at "sts"
  refine qx (hD.same S2) gb (g.same S2) (by rw [qz];exact rs.1) fun x' h' H3 S3 _ _ g'=>?_
  rw [qz] at g'
  exact q x' h' H3 (S2.trans S3) g'
 walk_at "sts"
 refine uF (fun h0=>?_) (fun h0=>?_)
 ·walk_at "sts"
  refine ⟨x,y,dx,_,rfl,hy,hx,rfl,?_⟩
  walk_at "sts"
  refine ⟨x,y,_,_,_,_,_,_,rfl,pg.pc,?_⟩
  walk_at "sts"
  refine jy hD tD rt (.inl qH) fun b H2 S2 _ gb=>?_
  try walk_at "sts"
  refine qx (hD.same S2) (g.same S2) gb (by rw [oM];exact rs.1) fun x' h' H3 S3 _ _ g'=>?_
  rw [oM] at g'
  exact q x' h' H3 (S2.trans S3) g'
 walk_at "sts"
 refine uF (fun h0=>?_) (fun h0=>?_)
 ·walk_at "sts"
  refine ⟨x,y,dx,_,rfl,hy,hx,rfl,?_⟩
  walk_at "sts"
  refine ⟨x,y,_,_,_,_,_,_,rfl,pg.pc,?_⟩
  walk_at "sts"
  refine jy hD rs tD (.inr qH) fun b H2 S2 _ gb=>?_
  try walk_at "sts"
  refine mC (hD.same S2) gb (g.same S2) (by rw [qz];exact rt.1) fun x' h' H3 S3 _ _ g'=>?_
  rw [qz] at g'
  exact q x' h' H3 (S2.trans S3) g'
 walk_at "sts"
 refine uF (fun h0=>?_) (fun h0=>?_)
 ·walk_at "sts"
  refine ⟨x,y,dx,_,rfl,hy,hx,rfl,?_⟩
  walk_at "sts"
  refine ⟨x,y,_,_,_,_,_,_,rfl,pg.pc,?_⟩
  walk_at "sts"
  refine jy hD rs tD (.inr qH) fun b H2 S2 _ gb=>?_
  try walk_at "sts"
  refine mC (hD.same S2) (g.same S2) gb (by rw [oM];exact rt.1) fun x' h' H3 S3 _ _ g'=>?_
  rw [oM] at g'
  exact q x' h' H3 (S2.trans S3) g'
 walk_at "sts"
 exact q x h H (Same.refl H) g
theorem Yg (n:Nat):∃ j:Nat,(if (if (n:Int) < 24 then (n:Int) else 24) > 6 then (if (n:Int) < 24 then (n:Int) else 24) else 6)=(j:Int)∧j≤24:=by
 by_cases h:(n:Int) < 24
 ·rw [if_pos h]
  by_cases h2:(n:Int) > 6
  ·rw [if_pos h2];exact ⟨n,rfl,by omega⟩
  ·rw [if_neg h2];exact ⟨6,rfl,by omega⟩
 ·rw [if_neg h,if_pos (by decide)];exact ⟨24,rfl,by omega⟩
theorem zM {j:Int} (h0:0≤j) (h1:j < 2 ^ 60):Builtin.Range.small 0 j 3=true:=by
 unfold Builtin.Range.small Builtin.Range.rangeSize
 simp only [Builtin.Range.rangeFitsLong,Bool.and_eq_true,Bool.or_eq_true,decide_eq_true_eq,beq_iff_eq,show (3:Int) > 0 by decide,if_true]
 split <;> omega
theorem Bv {j:Nat}:Builtin.Range.rangeSize 0 j 3=((j+2) / 3:Nat):=by
 unfold Builtin.Range.rangeSize
 simp only [show (3:Int) > 0 by decide,if_true]
 split <;> omega
theorem Uu {α:Type} {a b:α} {v:α} {i:Nat} (h:[a,b][i]?=some v):(i=0∧v=a)∨(i=1∧v=b):=by
 match i,h with
 | 0,h=>cases h;exact .inl ⟨rfl,rfl⟩
 | 1,h=>cases h;exact .inr ⟨rfl,rfl⟩
 | i+2,h=>cases h
theorem Ge {l:List Str}:∀ v∈l.map V.str,jl v=true∨∃ r,v= .ref r:=fun v hv=>by
 obtain ⟨s,_,rfl⟩:=List.mem_map.mp hv
 exact .inl rfl
def Qw (K:PySem.W.Frag):Sp:=fun vs H Q _=>∃ (a:Addr) (ns:List Int),vs=[.ref a]∧SqL K H a (ns.map V.int)∧ns.length≤63∧∀ H',Q (.bl true) H'
end
local macro_rules | `(tactic| walk_at "sts") => `(tactic| (with_reducible repeat (first | refine lO ?_ | refine lw ?_ | refine kZ ?_ | refine iZ ?_ | refine jc ?_ | (refine' iM ?hz0 ?_; (case hz0 => with_unfolding_all rfl)) | refine vm ?_ | refine lV ?_ | refine dZ ?_ | refine dM ?_ | refine iQ ?_ | refine nj ?_ | refine iC ?_ | refine dF ?_ | refine iG ?_ | refine dD ?_ | refine lK ?_ | refine dH ?_ | refine lW ?_ | refine lQ ?_ | refine dN ?_ | refine lM ?_ | refine iH ?_ | refine iI ?_ | refine lN ?_ | refine dI ?_ | refine iJ ?_ | refine dJ ?_ | refine iK ?_ | refine iD ?_ | refine dG ?_ | refine jw ?_ | refine ju ?_ | refine lR ?_ | refine iR ?_ | refine lU ?_ | refine iT ?_ | refine dO ?_ | refine dR ?_ | refine dU ?_ | refine dW ?_ | refine dX ?_ | refine dY ?_ | refine iU ?_ | refine cC ?_ | refine d9 ?_ | (refine' cP (SqT.of ?hz0) ?hz1 ?_; (case hz0 => first | assumption | exact aj); (case hz1 => rfl)) | refine cG ?_ | refine eQ ?_ | refine eU ?_ | refine di ?_ | refine dj ?_ | refine dm ?_ | refine dq ?_ | refine lX ?_ | refine dg ?_ | refine dh ?_ | refine eN ?_ | refine eO ?_ | refine cF ?_ | refine iV ?_ | refine d8 ?_ | (refine' vq ?hz0 ?_; (case hz0 => with_unfolding_all first | assumption | omega | (dsimp only <;> omega) | exact ⟨by omega, by omega⟩ | exact .inl ⟨by omega, by omega⟩ | exact .inr ⟨by omega, by omega⟩ | exact ⟨by decide, by decide, by decide⟩)) | (refine' d7 ?hz0 ?_; (case hz0 => with_unfolding_all first | assumption | omega | (dsimp only <;> omega) | exact ⟨by omega, by omega⟩ | exact .inl ⟨by omega, by omega⟩ | exact .inr ⟨by omega, by omega⟩ | exact ⟨by decide, by decide, by decide⟩)) | (refine' cO (SqL.of ?hz0) ?hz1 ?_; (case hz0 => first | assumption | exact aj); (case hz1 => with_unfolding_all rfl)) | (refine' c7 ?hz0 ?hz1 ?_; (case hz0 => first | assumption | exact aj); (case hz1 => with_unfolding_all rfl)) | refine cI ?_ | refine jd ?_ | refine eV ?_ | refine cJ ?_ | refine eY ?_ | refine cL ?_ | refine wO ?_ | refine wQ ?_ | refine fY ?_)))
local macro_rules | `(tactic| walk_at "stn") => `(tactic| (with_reducible repeat (first | refine lO ?_ | refine lw ?_ | refine kZ ?_ | refine iZ ?_ | refine jc ?_ | (refine' iM ?hz0 ?_; (case hz0 => with_unfolding_all rfl)) | refine vm ?_ | refine lV ?_ | refine dZ ?_ | refine dM ?_ | refine iQ ?_ | refine iC ?_ | refine dF ?_ | refine iG ?_ | refine dD ?_ | refine lK ?_ | refine dH ?_ | refine lW ?_ | refine lQ ?_ | refine dN ?_ | refine lM ?_ | refine iH ?_ | refine iI ?_ | refine lN ?_ | refine dI ?_ | refine iJ ?_ | refine dJ ?_ | refine iK ?_ | refine iD ?_ | refine dG ?_ | refine jw ?_ | refine ju ?_ | refine lR ?_ | refine iR ?_ | refine lU ?_ | refine iT ?_ | refine dO ?_ | refine dR ?_ | refine dU ?_ | refine dW ?_ | refine dX ?_ | refine dY ?_ | refine iU ?_ | refine cC ?_ | refine d9 ?_ | (refine' cP (SqT.of ?hz0) ?hz1 ?_; (case hz0 => first | assumption | exact aj); (case hz1 => rfl)) | refine cG ?_ | refine eQ ?_ | refine eU ?_ | refine di ?_ | refine dj ?_ | refine dm ?_ | refine dq ?_ | refine lX ?_ | refine dg ?_ | refine dh ?_ | refine eN ?_ | refine eO ?_ | refine cF ?_ | refine iV ?_ | refine d8 ?_ | (refine' vq ?hz0 ?_; (case hz0 => with_unfolding_all first | assumption | omega | (dsimp only <;> omega) | exact ⟨by omega, by omega⟩ | exact .inl ⟨by omega, by omega⟩ | exact .inr ⟨by omega, by omega⟩ | exact ⟨by decide, by decide, by decide⟩)) | (refine' d7 ?hz0 ?_; (case hz0 => with_unfolding_all first | assumption | omega | (dsimp only <;> omega) | exact ⟨by omega, by omega⟩ | exact .inl ⟨by omega, by omega⟩ | exact .inr ⟨by omega, by omega⟩ | exact ⟨by decide, by decide, by decide⟩)) | (refine' cO (SqL.of ?hz0) ?hz1 ?_; (case hz0 => first | assumption | exact aj); (case hz1 => with_unfolding_all rfl)) | (refine' c7 ?hz0 ?hz1 ?_; (case hz0 => first | assumption | exact aj); (case hz1 => with_unfolding_all rfl)) | refine cI ?_ | refine jd ?_ | refine eV ?_ | refine cJ ?_ | refine eY ?_ | refine cL ?_ | refine wO ?_ | refine wQ ?_ | refine fY ?_)))
section
variable {P:Program} {w:World} {K:PySem.W.Frag} {mg:Str→Option Value} {base:Heap}
theorem kz7e:bK cX "range":=by decide+kernel
theorem kz7f:bK cX "max":=by decide+kernel
theorem kz7g:bK cX "min":=by decide+kernel
theorem Yh:bK cX "len":=by decide+kernel
theorem Km:bD cX "_law_script":=by decide+kernel
theorem Ko:bD cX "_law_k":=by decide+kernel
theorem Px:bD cX "_law_found":=by decide+kernel
theorem Py:bD cX "_law_piece":=by decide+kernel
theorem kz7m:bK cX "_law_list":=by decide+kernel
theorem Yi:bD cX "_law_due":=by decide+kernel
theorem Pz:bD cX "_law_top":=by decide+kernel
theorem PB:bD cX "_law_side":=by decide+kernel
theorem Uv:bD cX "_law_numbers":=by decide+kernel
theorem Yj:bD cX "_law_some":=by decide+kernel
theorem kz7s:bK cX "_law_edged":=by decide+kernel
theorem kz7t:bK cX "_law_mix":=by decide+kernel
theorem Uw:bD cX "_law_cell_here":=by decide+kernel
theorem kz7v:bK cX "_law_built":=by decide+kernel
theorem kz7w:bK cX "_law_takes":=by decide+kernel
theorem PJ:bK cX "_law_cell":=by decide+kernel
theorem kz7y:bK cX "_law_lines":=by decide+kernel
theorem Yk:bK cX "_law_text":=by decide+kernel
theorem Ux:bD cX "_law_base_here":=by decide+kernel
theorem kz81:bK cX "_law_base":=by decide+kernel
theorem kW:aD ["_law_script","_law_k","_law_base_here","_law_side","_law_top","_law_due","_law_cell_here","_law_numbers","_law_found","_law_some","_law_piece"] ["_law_script"] (aq cX):=⟨rfl,rfl,rfl,by decide+kernel,rfl,by decide+kernel,by decide+kernel⟩
theorem Uy (T:Txt K mg) {f0:Addr} {fd0:FuncData} (F0:Fun K "law" "law" cX f0 fd0):FnOk P w K mg base Af 68 f0 fd0 ["_law_script"] (Qw K):=by
 have pN:=pN (P:=P) (w:=w) (base:=base) T
 have mY:=mY (P:=P) (w:=w) (base:=base) T
 have nZ:=nZ (P:=P) (w:=w) (base:=base) T
 have jH:=jH (P:=P) (w:=w) (base:=base) T
 have gG:=gG (P:=P) (w:=w) (base:=base) T
 have oA:=oA (P:=P) (w:=w) (base:=base) T
 have fH:=fH (P:=P) (w:=w) (base:=base) T
 have pL:=pL (P:=P) (w:=w) (base:=base) T
 have fW:=fW (P:=P) (w:=w) (base:=base) T
 have aZ:=aZ (P:=P) (w:=w) (base:=base) T
 have bA:=bA (P:=P) (w:=w) (base:=base) T
 have bN:=bN (P:=P) (w:=w) (base:=base) T
 refine okJ F0 kW ?_ fun f cdv A outer s H vs Q E hr h=>?_
 ·rintro vs H Q E ⟨a,ns,rfl,_⟩;rfl
 obtain ⟨a,ns,rfl,hS,hlen,q⟩:=h
 have hu:=hr.units0
 have hu64:=hr.units
 refine ⟨_,(az (jt PassesOwn.never rfl (Eu (aV kz7e) T.b_range (aa aG (aa (aH (Dy rfl) (aV kz7f) T.b_max RQ (aa aG (aa (aH (uV rfl) (aV kz7g) T.b_min Hz (aa aG (aa (aH (aC (K:=K) rfl) (aV Yh) T.b_len bc (aa (ao 0 Km) ak) (by decide+kernel) (by decide+kernel)) ak)) (by decide+kernel) (by decide+kernel)) ak)) (by decide+kernel) (by decide+kernel)) (aa aG ak)))) (b8 (i:=1) kW.nd rfl (Or.inl Ko) rfl) (az (aM (i:=2) kW.nd rfl (Or.inl Ux) (aF pN (hr.mono (by decide)) (aV kz81) (aa (aF jH (hr.mono (by decide)) (aV PJ) (aa (ao 0 Km) (aa (ao 1 Ko) ak)) (by decide+kernel)) ak) (by decide+kernel)) rfl) (az (aM (i:=3) kW.nd rfl (Or.inl PB) (aF mY (hr.mono (by decide)) (aV Yk) (aa (aF jH (hr.mono (by decide)) (aV PJ) (aa (ao 0 Km) (aa (ao 1 Ko) ak)) (by decide+kernel)) (aa aG (aa (ao 2 Ux) ak))) (by decide+kernel)) rfl) (az (aM (i:=4) kW.nd rfl (Or.inl Pz) (aF mY (hr.mono (by decide)) (aV Yk) (aa (aF jH (hr.mono (by decide)) (aV PJ) (aa (ao 0 Km) (aa (bj aP (ao 1 Ko) aG) ak)) (by decide+kernel)) (aa aG (aa (ao 2 Ux) ak))) (by decide+kernel)) rfl) (az (aM (i:=5) kW.nd rfl (Or.inl Yi) (aF nZ (hr.mono (by decide)) (aV kz7y) (aa (ao 3 PB) (aa (ao 4 Pz) ak)) (by decide+kernel)) rfl) (az (aM (i:=6) kW.nd rfl (Or.inl Uw) (aF jH (hr.mono (by decide)) (aV PJ) (aa (ao 0 Km) (aa (bj aP (ao 1 Ko) aG) ak)) (by decide+kernel)) rfl) (az (aM (i:=7) kW.nd rfl (Or.inl Uv) (aF gG (hr.mono (by decide)) (aV kz7w) (aa (ao 6 Uw) (aa (bj jW (iY (aa aG ak)) aG) ak)) (by decide+kernel)) rfl) (az (aM (i:=8) kW.nd rfl (Or.inl Px) (iY ak) rfl) (az (jt PassesOwn.never rfl (jr (K:=K) rfl (iY (aa (jq (jm (K:=K) rfl) (ao 7 Uv) jn (jo aG)) (aa (jq (jm (K:=K) rfl) (ao 7 Uv) (jo aG) jn) ak)))) (b8 (i:=9) kW.nd rfl (Or.inl Yj) rfl) (aA (bF (ph (K:=K) rfl PySem.F.plainAttrs_list PySem.F.slot_list_append PySem.F.type_list_append lH (ao 8 Px) (aa (aF oA (hr.mono (by decide)) (aV kz7s) (aa (aF fH (hr.mono (by decide)) (aV kz7v) (aa (ao 3 PB) (aa (ao 4 Pz) (aa (ao 9 Yj) ak))) (by decide+kernel)) (aa (bj ik (aF fW (hr.mono (by decide)) (aV kz7t) (aa (ao 6 Uw) (aa (bj aP aG (aH (aC (K:=K) rfl) (aV Yh) T.b_len bc (aa (ao 8 Px) ak) (by decide+kernel) (by decide+kernel))) ak)) (by decide+kernel)) aG) ak)) (by decide+kernel)) ak))))) (aA (jt PassesOwn.never rfl (jr (K:=K) rfl (ao 8 Px)) (b8 (i:=10) kW.nd rfl (Or.inl Py) rfl) (aA (cz (lY (p8 (bx (SJ (K:=K) rfl hu64) (iY (aa (bG (mg:=mg) rfl (ao 10 Py) T.os_Piece aZ (hr.mono (by decide)) (dz fun _ _=>rfl)) (aa (bG (mg:=mg) rfl (ao 10 Py) T.os_Piece bA (hr.mono (by decide)) (dz fun _ _=>rfl)) ak))) (iY (aa (ao 3 PB) (aa (ao 4 Pz) ak))) (by first | exact aW _ | with_unfolding_all rfl)) (mG (lA (j9 (aF pL (hr.mono (by decide)) (aV kz7m) (aa (bG (mg:=mg) rfl (ao 10 Py) T.os_Piece bN (hr.mono (by decide)) (dz fun _ _=>rfl)) (aa (ao 5 Yi) ak)) (by decide+kernel))))))) (aA (aN yE)) bI))))))))))))) (aA (aN yE))),?_⟩
 walk_at "sts"
 have hs:20000≤sizeLine:=by decide
 refine fX hS ?_
 walk_at "sts"
 rw [List.length_map]
 obtain ⟨j,ej,hj⟩:=Yg ns.length
 rw [ej]
 refine ⟨0,(j:Int),3,(j+2) / 3,rfl,by decide,PyProof.noPylong_small (by decide),zM (by omega) (by omega),Bv,?_⟩
 refine IK (fun i σ H'=>∃ (x1 x2 x3 x4 x5 x6 x7 x8 x9 x10:Option V),σ=[some (.ref a),x1,x2,x3,x4,x5,x6,x7,x8,x9,x10]∧Same H H') ⟨_,_,_,_,_,_,_,_,_,_,rfl,Same.refl _⟩ ?_ ?_
 ·rintro i σ H0 hi ⟨x1,x2,x3,x4,x5,x6,x7,x8,x9,x10,rfl,s⟩
  rw [show (0+(i:Int)*3)=((3*i:Nat):Int) by omega]
  generalize ek:((3*i:Nat):Int)=k
  have hk:0≤k:=by omega
  clear ek
  walk_at "sts"
  refine ⟨a,ns,k,rfl,sZ hS s,hk,fun c0=>?_⟩
  walk_at "sts"
  refine ⟨c0,rfl,fun b H2 S2=>?_⟩
  walk_at "sts"
  have s2:=s.trans S2
  refine ⟨a,ns,k,rfl,sZ hS s2,hk,fun c1=>?_⟩
  walk_at "sts"
  refine ⟨c1,b,24,rfl,by omega,fun side H3 S3 rs ls=>?_⟩
  walk_at "sts"
  have s3:=s2.trans S3
  refine ⟨a,ns,k+1,rfl,sZ hS s3,by omega,fun c2=>?_⟩
  walk_at "sts"
  refine ⟨c2,b,24,rfl,by omega,fun top H4 S4 rt lt=>?_⟩
  walk_at "sts"
  have s4:=s3.trans S4
  refine ⟨side,top,rfl,rs.1,rt.1,fun du H5 n5 S5 h5=>?_⟩
  walk_at "sts"
  have s5:=s4.trans S5
  refine ⟨a,ns,k+2,rfl,sZ hS s5,by omega,fun c3=>?_⟩
  walk_at "sts"
  refine fJ rfl fun p6 H6 n6 S6 h6=>?_
  walk_at "sts"
  refine An h6 (by decide) (by decide) (by simp;omega) fun p7 n7=>?_
  walk_at "sts"
  rw [show ((List.replicate (200:Int).toNat [V.int 432]).flatten)=(List.replicate 200 (432:Int)).map V.int from rfl]
  have S7:=(Same.refl H6).upd n7 (o:=.lst ((List.replicate 200 (432:Int)).map V.int))
  have h7:=aj (H:=H6) (a:=p7) (o:=.lst ((List.replicate 200 (432:Int)).map V.int))
  generalize upd H6 p7 (.lst ((List.replicate 200 (432:Int)).map V.int))=H7 at S7 h7 ⊢
  walk_at "sts"
  refine ⟨c3,p7,List.replicate 200 432,rfl,h7,by simp,(fun x hx=>by rw [List.eq_of_mem_replicate hx];decide),fun nm ms H8 n8 S8 h8 hF=>?_⟩
  walk_at "sts"
  have hml:ms.length=200:=by rw [hF.1,List.length_replicate]
  refine fJ rfl fun f H9 n9 S9 h9=>?_
  walk_at "sts"
  have h89:=S9 _ _ h8
  refine vy (SqL.of h89) fun q1 nq1=>?_
  walk_at "sts"
  rw [show qM (ms.map V.int) none (some 100)=(ms.take 100).map V.int by rw [show (some (100:Int))=some ((100:Nat):Int) from rfl,ug,List.map_take]]
  have SA:=(Same.refl H9).upd nq1 (o:=.lst ((ms.take 100).map V.int))
  have hA:=aj (H:=H9) (a:=q1) (o:=.lst ((ms.take 100).map V.int))
  generalize upd H9 q1 (.lst ((ms.take 100).map V.int))=HA at SA hA ⊢
  walk_at "sts"
  refine vy (SqL.of (SA _ _ h89)) fun q2 nq2=>?_
  walk_at "sts"
  rw [show qM (ms.map V.int) (some 100) none=(ms.drop 100).map V.int by rw [show (some (100:Int))=some ((100:Nat):Int) from rfl,pA,List.map_drop]]
  have SB:=(Same.refl HA).upd nq2 (o:=.lst ((ms.drop 100).map V.int))
  have hB:=aj (H:=HA) (a:=q2) (o:=.lst ((ms.drop 100).map V.int))
  generalize upd HA q2 (.lst ((ms.drop 100).map V.int))=HB at SB hB ⊢
  walk_at "sts"
  refine fJ rfl fun ls HC nC SC hC=>?_
  walk_at "sts"
  have s8:=s5.trans (S6.trans (S7.trans S8))
  have s9:=s8.trans S9
  have sA:=s9.trans SA
  have sB:=sA.trans SB
  have sC:=sB.trans SC
  have du8:=(S6.trans (S7.trans S8)) _ _ h5
  have duC:=(S9.trans (SA.trans (SB.trans SC))) _ _ du8
  have d1:du≠f:=(rm du8 n9).symm
  have d2:du≠q1:=(rm (S9 _ _ du8) nq1).symm
  have d3:du≠q2:=(rm (SA _ _ (S9 _ _ du8)) nq2).symm
  have f1:f≠q1:=(rm h9 nq1).symm
  have f2:f≠q2:=(rm (SA _ _ h9) nq2).symm
  have q12:q1≠q2:=(rm hA nq2).symm
  have fC:=(SA.trans (SB.trans SC)) _ _ h9
  have q1C:=(SB.trans SC) _ _ hA
  have q2C:=SC _ _ hB
  have l1:ls≠f:=rm ((SA.trans SB) _ _ h9) nC
  have l2:ls≠q1:=rm (SB _ _ hA) nC
  have l3:ls≠q2:=rm hB nC
  have nf0:=Same.back s8 n9
  have nq10:=Same.back s9 nq1
  have nq20:=Same.back sA nq2
  have Ei:(ms.take 100).length≤200:=by rw [List.length_take];omega
  have len2:(ms.drop 100).length≤200:=by rw [List.length_drop];omega
  clear S2 S3 S4 S5 S6 S7 S8 S9 SA SB h7 h8 h89 du8 hA hB h9 n5 n6 n7 n8 n9 nq1 nq2 nC s2 s3 s4 s5 s8 s9 sA sB h5 h6 hF SC s
  refine .inl ⟨ls,rfl,⟨_,SqL.of hC⟩,?_⟩
  refine tH (xs:=[.ref q1,.ref q2]) (fun i σ G=>(∀ b o,HC b=some o→b≠f→b≠q1→b≠q2→G b=some o)∧(∃ xs:List Addr,G f=some (.lst (xs.map V.ref))∧xs.length=i∧∀ x∈xs,∃ h,GP mg HC G x side top h)∧(∃ ks:List Int,G q1=some (.lst (ks.map V.int))∧ks.length≤200)∧(∃ ks:List Int,G q2=some (.lst (ks.map V.int))∧ks.length≤200)∧∃ x9,σ=[some (.ref a),some (.int k),some (.int b),some (.str side),some (.str top),some (.ref du),some (.int c3),some (.ref nm),some (.ref f),x9,x10])
   ⟨fun b o e _ _ _=>e,⟨[],fC,rfl,fun x hx=>by cases hx⟩,⟨_,q1C,Ei⟩,⟨_,q2C,len2⟩,_,rfl⟩ (fun i σ G _ h=>SqL.of (h.1 _ _ hC l1 l2 l3)) ?_ ?_
  ·rintro i v σ G hv ⟨sG,⟨xs,hf,hxl,hx⟩,hk1,hk2,x9,rfl⟩
   have hi:i < 2:=(List.getElem?_eq_some_iff.mp hv).1
   have hD:Dm HC G:=fun m o hm=>by
    by_cases e1:m=f
    ·rw [e1];exact ⟨_,hf⟩
    by_cases e2:m=q1
    ·rw [e2];obtain ⟨ks,h,_⟩:=hk1;exact ⟨_,h⟩
    by_cases e3:m=q2
    ·rw [e3];obtain ⟨ks,h,_⟩:=hk2;exact ⟨_,h⟩
    exact ⟨o,sG m o hm e1 e2 e3⟩
   obtain ⟨n,o,ks,rfl,hn0,hn,hkl,fn,hnn⟩:∃ (n:Addr) (o:HO) (ks:List Int),v= .ref n∧HC n=some o∧G n=some (.lst (ks.map V.int))∧ks.length≤200∧f≠n∧(n=q1∨n=q2):=by
    rcases Uu hv with ⟨rfl,rfl⟩ | ⟨rfl,rfl⟩
    ·obtain ⟨ks,h1,h2⟩:=hk1;exact ⟨q1,_,ks,rfl,q1C,h1,h2,f1,.inl rfl⟩
    ·obtain ⟨ks,h1,h2⟩:=hk2;exact ⟨q2,_,ks,rfl,q2C,h1,h2,f2,.inr rfl⟩
   walk_at "sts"
   refine ⟨.inl ⟨rfl,_,SqL.of hf⟩,?_⟩
   walk_at "sts"
   refine ⟨side,top,n,ks,HC,o,rfl,rs,rt,(by have:side.length=side.cps.size:=rfl;have:top.length=top.cps.size:=rfl;omega),hn,hkl,hn0,hD,fun x h ks' J1 C1 hn1 hl1 g1=>?_⟩
   walk_at "sts"
   have hf1:=C1 f _ fn hf
   have hD1:=hD.chg C1 hn1
   try walk_at "sts"
   refine fX (SqL.of hf1) ?_
   walk_at "sts"
   refine ⟨_,_,rfl,fun r r0 r1=>?_⟩
   walk_at "sts"
   refine ⟨x,_,side,top,h,HC,rfl,g1,hD1,fun x' h' J2 T2 g2=>?_⟩
   walk_at "sts"
   refine nH (T2 _ _ hf1) (by rw [List.length_map];omega) ?_
   walk_at "sts"
   have Cf:Chg f J2 (upd J2 f (.lst (xs.map V.ref ++ [.ref x']))):=fun b u hb e=>by rw [aB hb];exact e
   have hq:∀ z,(z=q1∨z=q2)→(∃ ks:List Int,G z=some (.lst (ks.map V.int))∧ks.length≤200)→∃ ks:List Int,upd J2 f (.lst (xs.map V.ref ++ [.ref x'])) z=some (.lst (ks.map V.int))∧ks.length≤200:=fun z hz ⟨ks,h1,h2⟩=>by
    have hzf:z≠f:=by rcases hz with rfl | rfl;exact f1.symm;exact f2.symm
    rw [aB hzf]
    by_cases e:z=n
    ·rw [e];exact ⟨ks',T2 _ _ hn1,hl1⟩
    ·exact ⟨ks,T2 _ _ (C1 z _ e h1),h2⟩
   refine ⟨fun b o hb e1 e2 e3=>?_,⟨xs ++ [x'],by rw [aj,List.map_append];rfl,by simp;omega,fun z hz=>?_⟩,hq q1 (.inl rfl) hk1,hq q2 (.inr rfl) hk2,_,rfl⟩
   ·rw [aB e1]
    refine T2 _ _ (C1 b o ?_ (sG b o hb e1 e2 e3))
    rcases hnn with rfl | rfl
    ·exact e2
    ·exact e3
   ·rcases List.mem_append.mp hz with hz | hz
    ·obtain ⟨h,g⟩:=hx z hz
     exact ⟨h,((g.chg hn0 C1).same T2).chg fC Cf⟩
    ·rw [List.mem_singleton.mp hz]
     exact ⟨h',g2.chg fC Cf⟩
  ·rintro σ G ⟨sG,⟨xs,hf,hxl,hx⟩,hk1,hk2,x9,rfl⟩
   walk_at "sts"
   refine .inl ⟨f,rfl,⟨_,SqL.of hf⟩,?_⟩
   have duG:=sG du _ duC d1 d2 d3
   refine tH (xs:=xs.map V.ref) (fun i σ J=>Same G J∧∃ x10,σ=[some (.ref a),some (.int k),some (.int b),some (.str side),some (.str top),some (.ref du),some (.int c3),some (.ref nm),some (.ref f),x9,x10]) ⟨Same.refl G,_,rfl⟩ (fun i σ J _ h=>SqL.of (h.1 _ _ hf)) ?_ ?_
   ·rintro i v σ J hv ⟨sJ,x10,rfl⟩
    rw [List.getElem?_map] at hv
    obtain ⟨x,ex,rfl⟩:=Option.map_eq_some_iff.mp hv
    obtain ⟨h,g⟩:=hx x (List.mem_of_getElem? ex)
    obtain ⟨y,kd,ps,hs',pg,_⟩:=g.g.same sJ
    obtain ⟨hy,dx,al,ap,hx',_,_⟩:=id pg.pc
    walk_at "sts"
    refine ⟨x,y,dx,_,rfl,hy,hx',rfl,?_⟩
    walk_at "sts"
    refine ⟨x,y,_,_,_,_,_,_,rfl,pg.pc,?_⟩
    walk_at "sts"
    refine ⟨x,y,dx,_,rfl,hy,hx',rfl,?_⟩
    walk_at "sts"
    refine ⟨x,y,_,_,_,_,_,_,rfl,pg.pc,?_⟩
    walk_at "sts"
    refine fJ rfl fun o1 J1 n1 T1 h1=>?_
    walk_at "sts"
    refine fJ rfl fun o2 J2 n2 T2 h2=>?_
    walk_at "sts"
    refine SQ (T2 _ _ h1) h2 (Ge (l:=[side,top])) ?_
    walk_at "sts"
    have V2:=T1.trans T2
    refine ⟨x,y,dx,_,rfl,hy,V2 _ _ hx',rfl,?_⟩
    walk_at "sts"
    refine ⟨x,y,_,_,_,_,_,_,rfl,pg.pc.same V2,fun o3 J3 n3 T3 h3=>?_⟩
    walk_at "sts"
    refine ⟨o3,du,_,rfl,h3,(sJ.trans (V2.trans T3)) _ _ duG,by rw [gR];have:side.length=side.cps.size:=rfl;have:top.length=top.cps.size:=rfl;omega,fun J4 T4=>?_⟩
    walk_at "sts"
    exact ⟨sJ.trans (V2.trans (T3.trans T4)),_,rfl⟩
   ·rintro σ J ⟨sJ,x10,rfl⟩
    refine ⟨_,_,_,_,_,_,_,_,_,_,rfl,fun b o e=>sJ _ _ (sG b o (sC _ _ e) ?_ ?_ ?_)⟩
    ·exact fun z=>by rw [z,nf0] at e;cases e
    ·exact fun z=>by rw [z,nq10] at e;cases e
    ·exact fun z=>by rw [z,nq20] at e;cases e
 ·rintro σ H0 ⟨x1,x2,x3,x4,x5,x6,x7,x8,x9,x10,rfl,s⟩
  walk_at "sts"
  exact q H0
end
end My
def PySem.W.Fast.tw12079302147412304156:Nat:=0
def PySem.W.Fast.tw9401431660987036282:Nat:=0
def PySem.W.Fast.tw9692707462271156197:Nat:=0
def PySem.W.Fast.tw16857700423510049107:Nat:=0
def PySem.W.Fast.tw14308307575356123634:Nat:=0
def PySem.W.Fast.tw749187446865259963:Nat:=0
def PySem.W.Fast.tw17068847872543643085:Nat:=0
def PySem.W.Fast.tw4537573913450330357:Nat:=0
def PySem.W.Fast.tw6517208232965803853:Nat:=0
def PySem.W.Fast.tw2392152036868932634:Nat:=0
def PySem.W.Fast.tw11973074322441022229:Nat:=0
def PySem.W.Fast.tw1380107873602103091:Nat:=0
def PySem.W.Fast.tw7476472819097621430:Nat:=0
def PySem.W.Fast.tw17888262619585453228:Nat:=0
def PySem.W.Fast.tw4497679760302777556:Nat:=0
def PySem.W.Fast.tw3209506150308023337:Nat:=0
def PySem.W.Fast.tw8287192691141630050:Nat:=0
def PySem.W.Fast.tw17107578622834323472:Nat:=0
def PySem.W.Fast.tw7808337544090630703:Nat:=0
def PySem.W.Fast.tw7521501639506311076:Nat:=0
def PySem.W.Fast.tw12689360564598948806:Nat:=0
def PySem.W.Fast.tw10550007041245144210:Nat:=0
def PySem.W.Fast.tw4008335685536881401:Nat:=0
def PySem.W.Fast.tw12643111738325916411:Nat:=0
def PySem.W.Fast.tw2874757024945870651:Nat:=0
def PySem.W.Fast.tw13812486069185471643:Nat:=0
def PySem.W.Fast.tw9470718428839396581:Nat:=0
def PySem.W.Fast.tw5859880683819169432:Nat:=0
def PySem.W.Fast.tw10341312069212893711:Nat:=0
def PySem.W.Fast.tw8515382508204673902:Nat:=0
def PySem.W.Fast.tw16647374382678754448:Nat:=0
def PySem.W.Fast.tw10322704475186073032:Nat:=0
def PySem.W.Fast.tw17189194452005838863:Nat:=0
def PySem.W.Fast.tw5441162100535201649:Nat:=0
def PySem.W.Fast.tw6066972885218685142:Nat:=0
def PySem.W.Fast.tw12338841299282264404:Nat:=0
def PySem.W.Fast.tw14731970446128143423:Nat:=0
def PySem.W.Fast.tw7492782640964480495:Nat:=0
def PySem.W.Fast.tw7236120206591511588:Nat:=0
def PySem.W.Fast.tw16320844948575222608:Nat:=0
def PySem.W.Fast.tw5562283148031559987:Nat:=0
def PySem.W.Fast.tw8326308625929932262:Nat:=0
def PySem.W.Fast.tw9284725517939026136:Nat:=0
def PySem.W.Fast.tw12098957899966844806:Nat:=0
def PySem.W.Fast.tw402428528395853893:Nat:=0
def PySem.W.Fast.tw16620566589185495856:Nat:=0
def PySem.W.Fast.tw9791037801679083038:Nat:=0
def PySem.W.Fast.tw9400450682109249168:Nat:=0
def PySem.W.Fast.tw5861862533788017138:Nat:=0
def PySem.W.Fast.tw138008296974786243:Nat:=0
def PySem.W.Fast.tw2072999310212135038:Nat:=0
def PySem.W.Fast.tw13801255874396276283:Nat:=0
def PySem.W.Fast.tw233928783340179374:Nat:=0
def PySem.W.Fast.tw2990504899721423460:Nat:=0
def PySem.W.Fast.tw9751707689596427764:Nat:=0
def PySem.W.Fast.tw5216014951768136924:Nat:=0
def PySem.W.Fast.tw3294784733579745072:Nat:=0
def PySem.W.Fast.tw6756743941716355495:Nat:=0
def PySem.W.Fast.tw11606624277446766544:Nat:=0
def PySem.W.Fast.tw5284590653792901570:Nat:=0
def PySem.W.Fast.tw3409335905002575902:Nat:=0
def PySem.W.Fast.tw14374699042334978899:Nat:=0
def PySem.W.Fast.tw1916778435020966702:Nat:=0
def PySem.W.Fast.tw16289819971035103221:Nat:=0
def PySem.W.Fast.tw9477800713399691343:Nat:=0
def PySem.W.Fast.tw17638423924876268845:Nat:=0
def PySem.W.Fast.tw12486143453876851603:Nat:=0
def PySem.W.Fast.tw6096004214268005201:Nat:=0
def PySem.W.Fast.tw10774561938972838877:Nat:=0
def PySem.W.Fast.tw16727997196211407843:Nat:=0
def PySem.W.Fast.tw6274096756047408389:Nat:=0
def PySem.W.Fast.tw13997828511018382378:Nat:=0
def PySem.W.Fast.tw3618258674449404636:Nat:=0
def PySem.W.Fast.tw8853149293884225535:Nat:=0
def PySem.W.Fast.tw1925746540837926132:Nat:=0
def PySem.W.Fast.tw15981096436474793409:Nat:=0
def PySem.W.Fast.tw9449257543003369433:Nat:=0
def PySem.W.Fast.tw3803079022550337985:Nat:=0
def PySem.W.Fast.tw14085782716747742636:Nat:=0
def PySem.W.Fast.tw2645101091028148236:Nat:=0
def PySem.W.Fast.tw14355601320415879389:Nat:=0
def PySem.W.Fast.tw5866660111593213522:Nat:=0
def PySem.W.Fast.tw17629230181480725502:Nat:=0
def PySem.W.Fast.tw2873325098848148872:Nat:=0
def PySem.W.Fast.tw4393390685957864835:Nat:=0
def PySem.W.Fast.tw525065451259098400:Nat:=0
def PySem.W.Fast.tw2710198304195896639:Nat:=0
def PySem.W.Fast.tw11970431843242990743:Nat:=0
def PySem.W.Fast.tw18377796382633910867:Nat:=0
def PySem.W.Fast.tw9128483461774185672:Nat:=0
def PySem.W.Fast.tw2367105042566809919:Nat:=0
def PySem.W.Fast.tw17288775723733113326:Nat:=0
def PySem.W.Fast.tw2237262851367756019:Nat:=0
def PySem.W.Fast.tw15813331758258591242:Nat:=0
def PySem.W.Fast.tw16370151378795921989:Nat:=0
def PySem.W.Fast.tw1844527583606671800:Nat:=0
def PySem.W.Fast.tw16193863149555838485:Nat:=0
def PySem.W.Fast.tw10097372393572090231:Nat:=0
def PySem.W.Fast.tw17460043340174426813:Nat:=0
def PySem.W.Fast.tw16731332904136668828:Nat:=0
def PySem.W.Fast.tw16924594223297476657:Nat:=0
def PySem.W.Fast.tw15870318819325048108:Nat:=0
def PySem.W.Fast.tw18306129230876520141:Nat:=0
def PySem.W.Fast.tw12515925671997859425:Nat:=0
def PySem.W.Fast.tw5845257880963479188:Nat:=0
def PySem.W.Fast.tw2680798233640589020:Nat:=0
def PySem.W.Fast.tw14639552566553814318:Nat:=0
def PySem.W.Fast.tw7373833447005502414:Nat:=0
def PySem.W.Fast.tw15424170074105939497:Nat:=0
def PySem.W.Fast.tw16405759156514034116:Nat:=0
def PySem.W.Fast.tw15626150132714802411:Nat:=0
def PySem.W.Fast.tw16051920096291258796:Nat:=0
def PySem.W.Fast.tw14965022268203720905:Nat:=0
def PySem.W.Fast.tw13624941098090145002:Nat:=0
def PySem.W.Fast.tw8880234938603329617:Nat:=0
def PySem.W.Fast.tw7045767771324993962:Nat:=0
def PySem.W.Fast.tw13240802979779167893:Nat:=0
def PySem.W.Fast.tw2416646159718826353:Nat:=0
def PySem.W.Fast.tw10444776582459766838:Nat:=0
def PySem.W.Fast.tw8812763777526030080:Nat:=0
def PySem.W.Fast.tw834333612763197919:Nat:=0
def PySem.W.Fast.tw10539053898126147118:Nat:=0
def PySem.W.Fast.tw17801174379388680838:Nat:=0
def PySem.W.Fast.tw18169779507445809910:Nat:=0
def PySem.W.Fast.tw14792137161494172623:Nat:=0
def PySem.W.Fast.tw4608885391955830789:Nat:=0
def PySem.W.Fast.tw17307016383734984591:Nat:=0
def PySem.W.Fast.tw4898570113348416042:Nat:=0
def PySem.W.Fast.tw11078791286864687638:Nat:=0
def PySem.W.Fast.tw14261576520701307767:Nat:=0
def PySem.W.Fast.tw16358151164635028835:Nat:=0
def PySem.W.Fast.tw17177863971932996949:Nat:=0
def PySem.W.Fast.tw17786778676819445938:Nat:=0
def PySem.W.Fast.tw3117966959382612181:Nat:=0
def PySem.W.Fast.tw8862727449149860282:Nat:=0
def PySem.W.Fast.tw1363992632525854632:Nat:=0
def PySem.W.Fast.tw1153512851689212389:Nat:=0
def PySem.W.Fast.tw17588922602048938176:Nat:=0
def PySem.W.Fast.tw4732118627979094029:Nat:=0
def PySem.W.Fast.tw12192144150451911505:Nat:=0
def PySem.W.Fast.tw1521446943848992482:Nat:=0
def PySem.W.Fast.tw9024027892643866652:Nat:=0
def PySem.W.Fast.tw7784236723762658341:Nat:=0
def PySem.W.Fast.tw3456044332650484899:Nat:=0
def PySem.W.Fast.tw635951226733404659:Nat:=0
def PySem.W.Fast.tw1895235781122478622:Nat:=0
def PySem.W.Fast.tw16252015021691854211:Nat:=0
def PySem.W.Fast.tw13966154138364809916:Nat:=0
def PySem.W.Fast.tw619384250308057978:Nat:=0
def PySem.W.Fast.tw14618801212094358385:Nat:=0
def PySem.W.Fast.tw8696813510202095959:Nat:=0
def PySem.W.Fast.tw7227500522103575509:Nat:=0
def PySem.W.Fast.tw15061060057407411482:Nat:=0
def PySem.W.Fast.tw14531513784452750987:Nat:=0
def PySem.W.Fast.tw1456007464467861910:Nat:=0
def PySem.W.Fast.tw8936347977953923011:Nat:=0
def PySem.W.Fast.tw6350291848947135677:Nat:=0
def PySem.W.Fast.tw4505627471644826380:Nat:=0
def PySem.W.Fast.tw2748296390783235779:Nat:=0
def PySem.W.Fast.tw6176762750836271969:Nat:=0
def PySem.W.Fast.tw562959662364856058:Nat:=0
def PySem.W.Fast.tw461808048284459290:Nat:=0
def PySem.W.Fast.tw5687066377589930012:Nat:=0
def PySem.W.Fast.tw17004241634836656403:Nat:=0
def PySem.W.Fast.tw9456985057864788185:Nat:=0
def PySem.W.Fast.tw385803873315074492:Nat:=0
def PySem.W.Fast.tw11107367532950089536:Nat:=0
def PySem.W.Fast.tw4534884586822656011:Nat:=0
def PySem.W.Fast.tw12076727827415819369:Nat:=0
def PySem.W.Fast.tw17242518221213462584:Nat:=0
def PySem.W.Fast.tw1770587615106968635:Nat:=0
def PySem.W.Fast.tw16688340295191875889:Nat:=0
def PySem.W.Fast.tw5812591353458191961:Nat:=0
def PySem.W.Fast.tw3831574761665153289:Nat:=0
def PySem.W.Fast.tw4878140574510633642:Nat:=0
def PySem.W.Fast.tw6465684962856988968:Nat:=0
def PySem.W.Fast.tw6765145333746912224:Nat:=0
def PySem.W.Fast.tw16061371581628459924:Nat:=0
def PySem.W.Fast.tw10483161670003036799:Nat:=0
def PySem.W.Fast.tw14286273675156575563:Nat:=0
def PySem.W.Fast.tw15770951610262220992:Nat:=0
def PySem.W.Fast.tw15070458931830623061:Nat:=0
def PySem.W.Fast.tw9718927284241715733:Nat:=0
def PySem.W.Fast.tw17408033764468292089:Nat:=0
def PySem.W.Fast.tw8865573500688676131:Nat:=0
def PySem.W.Fast.tw2715243489835318319:Nat:=0
def PySem.W.Fast.tw1268038555185397380:Nat:=0
def PySem.W.Fast.tw5986062857560414649:Nat:=0
def PySem.W.Fast.tw11818482516735600877:Nat:=0
def PySem.W.Fast.tw1888163925290879283:Nat:=0
def PySem.W.Fast.tw12270880106020799434:Nat:=0
def PySem.W.Fast.tw572400766037419742:Nat:=0
def PySem.W.Fast.tw10431690457489910218:Nat:=0
def PySem.W.Fast.tw2712974709424559962:Nat:=0
def PySem.W.Fast.tw14110047337146082780:Nat:=0
def PySem.W.Fast.tw12803515590863029521:Nat:=0
def PySem.W.Fast.tw15308257877143636258:Nat:=0
def PySem.W.Fast.tw4793218708311082992:Nat:=0
def PySem.W.Fast.tw1082140299246165449:Nat:=0
def PySem.W.Fast.tw3957338588104595458:Nat:=0
def PySem.W.Fast.tw3603625944966516490:Nat:=0
def PySem.W.Fast.tw12455868459673138046:Nat:=0
def PySem.W.Fast.tw1269603505101667484:Nat:=0
def PySem.W.Fast.tw12529166774507735709:Nat:=0
def PySem.W.Fast.tw14201037515359136557:Nat:=0
def PySem.W.Fast.tw15973910033643402524:Nat:=0
def PySem.W.Fast.tw11056455292098166640:Nat:=0
def PySem.W.Fast.tw4739199083165650285:Nat:=0
def PySem.W.Fast.tw3369942136994512964:Nat:=0
def PySem.W.Fast.tw3376830437709894264:Nat:=0
def PySem.W.Fast.tw4537221514011057429:Nat:=0
def PySem.W.Fast.tw2911437633202163713:Nat:=0
def PySem.W.Fast.tw2912530083324942094:Nat:=0
def PySem.W.Fast.tw18218102953402098383:Nat:=0
def PySem.W.Fast.tw7063064825442403290:Nat:=0
def PySem.W.Fast.tw12220868829813526454:Nat:=0
def PySem.W.Fast.tw489555269096865507:Nat:=0
def PySem.W.Fast.tw2460948379882430688:Nat:=0
def PySem.W.Fast.tw8562451451977685332:Nat:=0
def PySem.W.Fast.tw12420996978549565832:Nat:=0
def PySem.W.Fast.tw3908148288274556297:Nat:=0
def PySem.W.Fast.tw5331866354197880091:Nat:=0
def PySem.W.Fast.tw16508411735605299185:Nat:=0
def PySem.W.Fast.tw4456459807599862605:Nat:=0
def PySem.W.Fast.tw15089477615284545377:Nat:=0
def PySem.W.Fast.tw15796199821626570989:Nat:=0
def PySem.W.Fast.tw17015361634736519996:Nat:=0
def PySem.W.Fast.tw4247739812326650595:Nat:=0
def PySem.W.Fast.tw6359366347667611414:Nat:=0
def PySem.W.Fast.tw7996555472026420850:Nat:=0
def PySem.W.Fast.tw12723367540781975961:Nat:=0
def PySem.W.Fast.tw12653484272334221729:Nat:=0
def PySem.W.Fast.tw1918772633220587692:Nat:=0
def PySem.W.Fast.tw15645387877469949906:Nat:=0
def PySem.W.Fast.tw16469833539592328827:Nat:=0
def PySem.W.Fast.tw11301859083295036310:Nat:=0
def PySem.W.Fast.tw5734631019923493635:Nat:=0
def PySem.W.Fast.tw5716283357613793416:Nat:=0
def PySem.W.Fast.tw15055319241537081582:Nat:=0
def PySem.W.Fast.tw8528140075376118467:Nat:=0
def PySem.W.Fast.tw14275434029638371084:Nat:=0
def PySem.W.Fast.tw1788653932276654243:Nat:=0
def PySem.W.Fast.tw6800285025195066592:Nat:=0
def PySem.W.Fast.tw11902142327174543497:Nat:=0
def PySem.W.Fast.tw10284475912292493623:Nat:=0
def PySem.W.Fast.tw13185706661119944943:Nat:=0
def PySem.W.Fast.tw4711723486501721957:Nat:=0
def PySem.W.Fast.tw7920951300344170303:Nat:=0
def PySem.W.Fast.tw16421738209629793140:Nat:=0
def PySem.W.Fast.tw8839603413872605675:Nat:=0
def PySem.W.Fast.tw1080142772043771006:Nat:=0
def PySem.W.Fast.tw18009898331062051427:Nat:=0
def PySem.W.Fast.tw14171311709999263203:Nat:=0
def PySem.W.Fast.tw384651370917362542:Nat:=0
def PySem.W.Fast.tw8993973944675400386:Nat:=0
def PySem.W.Fast.tw1589074598797997117:Nat:=0
def PySem.W.Fast.tw8834442007850524336:Nat:=0
def PySem.W.Fast.tw11157747203078891989:Nat:=0
def PySem.W.Fast.tw16448814812863724363:Nat:=0
def PySem.W.Fast.tw10644316403846034954:Nat:=0
def PySem.W.Fast.tw127668721213255782:Nat:=0
def PySem.W.Fast.tw1186080412489502523:Nat:=0
def PySem.W.Fast.tw14465159356410574784:Nat:=0
def PySem.W.Fast.tw15123154072515204577:Nat:=0
def PySem.W.Fast.tw3475362766406374300:Nat:=0
def PySem.W.Fast.tw9868524976255455162:Nat:=0
def PySem.W.Fast.tw5005030502563180591:Nat:=0
def PySem.W.Fast.tw16064903275536729406:Nat:=0
def PySem.W.Fast.tw16418062331831477562:Nat:=0
def PySem.W.Fast.tw10127503747722267038:Nat:=0
def PySem.W.Fast.tw10231400730387391215:Nat:=0
def PySem.W.Fast.tw4707087726194854759:Nat:=0
def PySem.W.Fast.tw9008202250508547811:Nat:=0
def PySem.W.Fast.tw17372692364011104357:Nat:=0
def PySem.W.Fast.tw15065093065295479846:Nat:=0
def PySem.W.Fast.tw11840597547329485821:Nat:=0
def PySem.W.Fast.tw641412145012474053:Nat:=0
def PySem.W.Fast.tw5518497114423208532:Nat:=0
def PySem.W.Fast.tw1650106396439644619:Nat:=0
def PySem.W.Fast.tw16745430046273375294:Nat:=0
def PySem.W.Fast.tw9584864637740023330:Nat:=0
def PySem.W.Fast.tw11365198156207857959:Nat:=0
def PySem.W.Fast.tw12479228682491074552:Nat:=0
def PySem.W.Fast.tw5929738982212471481:Nat:=0
def PySem.W.Fast.tw10098945690837187279:Nat:=0
def PySem.W.Fast.tw632485918085728090:Nat:=0
def PySem.W.Fast.tw18281706654160811941:Nat:=0
def PySem.W.Fast.tw7624262701474264835:Nat:=0
def PySem.W.Fast.tw17928694681226646055:Nat:=0
def PySem.W.Fast.tw10811029922858252753:Nat:=0
def PySem.W.Fast.tw3061571053006885565:Nat:=0
def PySem.W.Fast.tw6603806168364759247:Nat:=0
def PySem.W.Fast.tw13329205517662039185:Nat:=0
def PySem.W.Fast.tw5817909220662879894:Nat:=0
def PySem.W.Fast.tw6650319858817624527:Nat:=0
def PySem.W.Fast.tw2326545026449131214:Nat:=0
def PySem.W.Fast.tw18036828569520888189:Nat:=0
def PySem.W.Fast.tw8645127080106306957:Nat:=0
def PySem.W.Fast.tw17675452598501373794:Nat:=0
def PySem.W.Fast.tw3409120944007432045:Nat:=0
def PySem.W.Fast.tw7656611814221004791:Nat:=0
def PySem.W.Fast.tw12814697776311578482:Nat:=0
def PySem.W.Fast.tw15017367422562036151:Nat:=0
def PySem.W.Fast.tw6220460292370126178:Nat:=0
def PySem.W.Fast.tw12521111647986688683:Nat:=0
def PySem.W.Fast.tw18150521644520930600:Nat:=0
def PySem.W.Fast.tw15549979449080943696:Nat:=0
def PySem.W.Fast.tw268722526933834308:Nat:=0
def PySem.W.Fast.tw1154256735515353406:Nat:=0
def PySem.W.Fast.tw967674816411350795:Nat:=0
def PySem.W.Fast.tw1082739917584867816:Nat:=0
def PySem.W.Fast.tw7794785908768744935:Nat:=0
def PySem.W.Fast.tw11532775503849245894:Nat:=0
def PySem.W.Fast.tw12117656093411407915:Nat:=0
def PySem.W.Fast.tw17607472923084473154:Nat:=0
def PySem.W.Fast.tw13751460695296214917:Nat:=0
def PySem.W.Fast.tw2196639638301723867:Nat:=0
def PySem.W.Fast.tw2186849826758205530:Nat:=0
def PySem.W.Fast.tw14961684082947635630:Nat:=0
def PySem.W.Fast.tw122956700333722254:Nat:=0
def PySem.W.Fast.tw10128600875415371473:Nat:=0
def PySem.W.Fast.tw10568015434139615341:Nat:=0
def PySem.W.Fast.tw7424892046334622769:Nat:=0
def PySem.W.Fast.tw8452411761390975985:Nat:=0
def PySem.W.Fast.tw10966542566527905906:Nat:=0
def PySem.W.Fast.tw2996887727604864778:Nat:=0
def PySem.W.Fast.tw8550565294986812337:Nat:=0
def PySem.W.Fast.tw4929070433315325042:Nat:=0
def PySem.W.Fast.tw14039789013336063440:Nat:=0
def PySem.W.Fast.tw3408482323768321565:Nat:=0
def PySem.W.Fast.tw18261360422575447064:Nat:=0
def PySem.W.Fast.tw7655394806215648044:Nat:=0
def PySem.W.Fast.tw2447927211031537417:Nat:=0
def PySem.W.Fast.tw16886127881090081366:Nat:=0
def PySem.W.Fast.tw18441563726785614085:Nat:=0
def PySem.W.Fast.tw4053227888732387080:Nat:=0
def PySem.W.Fast.tw8943386836059523987:Nat:=0
def PySem.W.Fast.tw17489426354927087170:Nat:=0
def PySem.W.Fast.tw17780887678694346976:Nat:=0
def PySem.W.Fast.tw5678254143452259035:Nat:=0
def PySem.W.Fast.tw16147599697422549565:Nat:=0
def PySem.W.Fast.tw13076763098989384142:Nat:=0
def PySem.W.Fast.tw6768033132028080723:Nat:=0
def PySem.W.Fast.tw13696981653481499002:Nat:=0
def PySem.W.Fast.tw3554012953460013447:Nat:=0
def PySem.W.Fast.tw8995481645841831116:Nat:=0
def PySem.W.Fast.tw119821125469640668:Nat:=0
def PySem.W.Fast.tw819271873595881049:Nat:=0
def PySem.W.Fast.tw13246101483257711999:Nat:=0
def PySem.W.Fast.tw12173051015507131620:Nat:=0
def PySem.W.Fast.tw16683845526053109664:Nat:=0
def PySem.W.Fast.tw9070739295176035176:Nat:=0
def PySem.W.Fast.tw12358196615173526129:Nat:=0
def PySem.W.Fast.tw10778926272125594719:Nat:=0
def PySem.W.Fast.tw11178408570291615207:Nat:=0
def PySem.W.Fast.tw10939945225463197616:Nat:=0
def PySem.W.Fast.tw3162968555073897667:Nat:=0
def PySem.W.Fast.tw12335327222602409486:Nat:=0
def PySem.W.Fast.tw8080684468095979107:Nat:=0
def PySem.W.Fast.tw11412207031881965725:Nat:=0
def PySem.W.Fast.tw699169208573625962:Nat:=0
def PySem.W.Fast.tw9377829384048720536:Nat:=0
def PySem.W.Fast.tw18136414747054174302:Nat:=0
def PySem.W.Fast.tw7973891219904577326:Nat:=0
def PySem.W.Fast.tw17540348922550278075:Nat:=0
def PySem.W.Fast.tw12012910988284609909:Nat:=0
def PySem.W.Fast.tw8104212877474424340:Nat:=0
def PySem.W.Fast.tw8893530947660858726:Nat:=0
def PySem.W.Fast.tw3681982726000999272:Nat:=0
def PySem.W.Fast.tw4649982269219132718:Nat:=0
def PySem.W.Fast.tw4324574574100089853:Nat:=0
def PySem.W.Fast.tw16086624716525342870:Nat:=0
def PySem.W.Fast.tw9543625092430793707:Nat:=0
def PySem.W.Fast.tw12017516061191002211:Nat:=0
def PySem.W.Fast.tw9152515114626386952:Nat:=0
def PySem.W.Fast.tw7442481828341084576:Nat:=0
def PySem.W.Fast.tw4300576041605654238:Nat:=0
def PySem.W.Fast.tw10906012648433157427:Nat:=0
def PySem.W.Fast.tw13976124554464466113:Nat:=0
def PySem.W.Fast.tw3205414489555025463:Nat:=0
def PySem.W.Fast.tw15800716721870030899:Nat:=0
def PySem.W.Fast.tw11411811327583557839:Nat:=0
def PySem.W.Fast.tw7505829382488263805:Nat:=0
def PySem.W.Fast.tw14155856685467410133:Nat:=0
def PySem.W.Fast.tw1143910706170885013:Nat:=0
def PySem.W.Fast.tw1252274457356451591:Nat:=0
def PySem.W.Fast.tw2825225452993855153:Nat:=0
def PySem.W.Fast.tw16834003236200615252:Nat:=0
def PySem.W.Fast.tw1267411287785597774:Nat:=0
def PySem.W.Fast.tw15337492565389179380:Nat:=0
def PySem.W.Fast.tw5995273863697423534:Nat:=0
def PySem.W.Fast.tw10471345124951362169:Nat:=0
def PySem.W.Fast.tw10547100829954098359:Nat:=0
def PySem.W.Fast.tw10780724158987367492:Nat:=0
def PySem.W.Fast.tw16187586830499282576:Nat:=0
def PySem.W.Fast.tw3648504729770660943:Nat:=0
def PySem.W.Fast.tw14372346293910780870:Nat:=0
def PySem.W.Fast.tw18087257178563729485:Nat:=0
def PySem.W.Fast.tw5946166289050197186:Nat:=0
def PySem.W.Fast.tw17532976347237744364:Nat:=0
def PySem.W.Fast.tw5897818186188672557:Nat:=0
def PySem.W.Fast.tw18301316625575235850:Nat:=0
def PySem.W.Fast.tw17203237925263514506:Nat:=0
def PySem.W.Fast.tw9218499130101671700:Nat:=0
def PySem.W.Fast.tw145005015630089842:Nat:=0
def PySem.W.Fast.tw1809637460711211396:Nat:=0
def PySem.W.Fast.tw15874882328202644302:Nat:=0
def PySem.W.Fast.tw4790793766662071559:Nat:=0
def PySem.W.Fast.tw16138524813908284448:Nat:=0
def PySem.W.Fast.tw10830563215973870607:Nat:=0
def PySem.W.Fast.tw10349588597249770548:Nat:=0
def PySem.W.Fast.tw15759129440369192142:Nat:=0
def PySem.W.Fast.tw11443814747347486056:Nat:=0
def PySem.W.Fast.tw5804435730258649620:Nat:=0
def PySem.W.Fast.tw16610757537206944477:Nat:=0
def PySem.W.Fast.tw3755736881497775775:Nat:=0
def PySem.W.Fast.tw8777201606363386076:Nat:=0
def PySem.W.Fast.tw11732453868390041618:Nat:=0
def PySem.W.Fast.tw10060354617810400835:Nat:=0
def PySem.W.Fast.tw17066267651891858775:Nat:=0
def PySem.W.Fast.tw5622143385820725432:Nat:=0
def PySem.W.Fast.tw17596455860979766606:Nat:=0
def PySem.W.Fast.tw11732734939935682595:Nat:=0
def PySem.W.Fast.tw11858873334102129785:Nat:=0
def PySem.W.Fast.tw8544120819870576281:Nat:=0
def PySem.W.Fast.tw1828157235936968342:Nat:=0
def PySem.W.Fast.tw8853626382004239266:Nat:=0
def PySem.W.Fast.tw1688654375589990536:Nat:=0
def PySem.W.Fast.tw18252270597075102269:Nat:=0
def PySem.W.Fast.tw15308153207607659896:Nat:=0
def PySem.W.Fast.tw14934635762445943034:Nat:=0
def PySem.W.Fast.tw17637419015173346090:Nat:=0
def PySem.W.Fast.tw6806476983237469232:Nat:=0
def PySem.W.Fast.tw13308141630546069594:Nat:=0
def PySem.W.Fast.tw15700528951724881150:Nat:=0
def PySem.W.Fast.tw5221209191243804460:Nat:=0
def PySem.W.Fast.tw4591704416204329870:Nat:=0
def PySem.W.Fast.tw9228627597172559574:Nat:=0
def PySem.W.Fast.tw1189230838008093376:Nat:=0
def PySem.W.Fast.tw6394471625562912328:Nat:=0
def PySem.W.Fast.tw9581405028979546186:Nat:=0
def PySem.W.Fast.tw2323892182458072147:Nat:=0
def PySem.W.Fast.tw6298763290843538265:Nat:=0
def PySem.W.Fast.tw7100310725809251587:Nat:=0
def PySem.W.Fast.tw12097180026542166738:Nat:=0
def PySem.W.Fast.tw14943976438355748728:Nat:=0
def PySem.W.Fast.tw8027262458145470045:Nat:=0
def PySem.W.Fast.tw2265285963753287892:Nat:=0
def PySem.W.Fast.tw6470544495571426171:Nat:=0
def PySem.W.Fast.tw8423987704144759239:Nat:=0
def PySem.W.Fast.tw17609255239253470516:Nat:=0
def PySem.W.Fast.tw15220059162656543144:Nat:=0
def PySem.W.Fast.tw12086403817118666789:Nat:=0
def PySem.W.Fast.tw12056399577707431908:Nat:=0
def PySem.W.Fast.tw9088040347386991957:Nat:=0
def PySem.W.Fast.tw14126732818960670527:Nat:=0
def PySem.W.Fast.tw2689612432196821635:Nat:=0
def PySem.W.Fast.tw5153588033125444651:Nat:=0
def PySem.W.Fast.tw5144149280206113584:Nat:=0
def PySem.W.Fast.tw1888586465667140971:Nat:=0
def PySem.W.Fast.tw61914799902258830:Nat:=0
def PySem.W.Fast.tw4150731373535909734:Nat:=0
def PySem.W.Fast.tw9195870897982656688:Nat:=0
def PySem.W.Fast.tw8000580649362342798:Nat:=0
def PySem.W.Fast.tw10970264342261085015:Nat:=0
def PySem.W.Fast.tw14176259001126589513:Nat:=0
def PySem.W.Fast.tw15287693629264925836:Nat:=0
def PySem.W.Fast.tw5916432422239378161:Nat:=0
def PySem.W.Fast.tw9227470107668377243:Nat:=0
def PySem.W.Fast.tw11837392101534582917:Nat:=0
def PySem.W.Fast.tw15390094357097149018:Nat:=0
def PySem.W.Fast.tw14114491970894563137:Nat:=0
def PySem.W.Fast.tw1421224400952083781:Nat:=0
def PySem.W.Fast.tw16662939008499545084:Nat:=0
def PySem.W.Fast.tw3512212326649519273:Nat:=0
def PySem.W.Fast.tw9615074863074203904:Nat:=0
def PySem.W.Fast.tw11417189195596236914:Nat:=0
def PySem.W.Fast.tw6386034172387438011:Nat:=0
def PySem.W.Fast.tw5007385911732691586:Nat:=0
def PySem.W.Fast.tw10544348064151495737:Nat:=0
def PySem.W.Fast.tw12656933844707855799:Nat:=0
def PySem.W.Fast.tw13299474493534164493:Nat:=0
def PySem.W.Fast.tw5769246322744442784:Nat:=0
def PySem.W.Fast.tw14973529579341058018:Nat:=0
def PySem.W.Fast.tw11147842761238268514:Nat:=0
def PySem.W.Fast.tw8591340322126893676:Nat:=0
def PySem.W.Fast.tw13833129775071624203:Nat:=0
def PySem.W.Fast.tw9461835821707103201:Nat:=0
def PySem.W.Fast.tw13509145573572869739:Nat:=0
def PySem.W.Fast.tw13849735784132026114:Nat:=0
def PySem.W.Fast.tw12885182549873333882:Nat:=0
def PySem.W.Fast.tw14843587305326257231:Nat:=0
def PySem.W.Fast.tw571858479919144907:Nat:=0
def PySem.W.Fast.tw8580431673879512293:Nat:=0
def PySem.W.Fast.tw5538373115504439446:Nat:=0
def PySem.W.Fast.tw17790456419922675132:Nat:=0
def PySem.W.Fast.tw14967317459325229262:Nat:=0
def PySem.W.Fast.tw3136371978742255573:Nat:=0
def PySem.W.Fast.tw18274159649095129313:Nat:=0
def PySem.W.Fast.tw1397778348308487877:Nat:=0
def PySem.W.Fast.tw3961583643279449877:Nat:=0
def PySem.W.Fast.tw17384387895243362974:Nat:=0
def PySem.W.Fast.tw10610871772322988178:Nat:=0
def PySem.W.Fast.tw15168315523275284070:Nat:=0
def PySem.W.Fast.tw5863401229321347259:Nat:=0
def PySem.W.Fast.tw8488021823345136218:Nat:=0
def PySem.W.Fast.tw4766653773384412660:Nat:=0
def PySem.W.Fast.tw8493401376849943724:Nat:=0
def PySem.W.Fast.tw2903814405634157415:Nat:=0
def PySem.W.Fast.tw15627792827630384926:Nat:=0
def PySem.W.Fast.tw9943584610285107406:Nat:=0
def PySem.W.Fast.tw11668048341717281328:Nat:=0
def PySem.W.Fast.tw3346058974572653126:Nat:=0
def PySem.W.Fast.tw13722168106009691916:Nat:=0
def PySem.W.Fast.tw17777078062468446259:Nat:=0
def PySem.W.Fast.tw364167772288354090:Nat:=0
def PySem.W.Fast.tw11147150285505490699:Nat:=0
def PySem.W.Fast.tw9715507174927866277:Nat:=0
def PySem.W.Fast.tw12065026956672311907:Nat:=0
def PySem.W.Fast.tw6613308132175219953:Nat:=0
def PySem.W.Fast.tw5693235284797669995:Nat:=0
def PySem.W.Fast.tw9711698892939877648:Nat:=0
def PySem.W.Fast.tw10291947528054163582:Nat:=0
def PySem.W.Fast.tw13734480894213638570:Nat:=0
def PySem.W.Fast.tw14151268783065450551:Nat:=0
def PySem.W.Fast.tw3521282169921337231:Nat:=0
def PySem.W.Fast.tw12721054288753166430:Nat:=0
def PySem.W.Fast.tw8007655930184552716:Nat:=0
def PySem.W.Fast.tw15799941187948113240:Nat:=0
def PySem.W.Fast.tw16784003173139351247:Nat:=0
def PySem.W.Fast.tw8300853443207350383:Nat:=0
def PySem.W.Fast.tw13771526576721953224:Nat:=0
def PySem.W.Fast.tw18335709757774626097:Nat:=0
def PySem.W.Fast.tw17264297862149440210:Nat:=0
def PySem.W.Fast.tw6592481990995109704:Nat:=0
def PySem.W.Fast.tw15204560900345199511:Nat:=0
open PySem PySem.W PyProof.Rows
set_option maxRecDepth 100000 in
set_option maxHeartbeats 0 in
theorem PySem.Challenge.cw_panethread_k53_whole_any_brackets_holds : PySem.Challenge.rw_panethread_k53_whole_any_brackets.Holds := by
 w_on;o_law;k_head;(case hw=>w_witness2)
 k_fill
 refine L2.VM (l:=PySem.Challenge.rw_panethread_k53_whole_any_brackets) (st:=My.cX) (k:=68) (x:="_law_script") (sp:=My.Qw) rfl rfl rfl ⟨rfl,by decide,by decide,rfl⟩ (fun w h Y=>PySem.W.kIn_of Y) (fun _ _ _ _ _ _ us hl=>L2.j6 (fun _=>rfl) us hl) ?F (fun K H a ns hl hS=>⟨a,ns,rfl,hS,hl,fun _=>rfl⟩)
 case F=>
  intro w mg h KX G
  have b_all:mg "all"=none:=by
   refine' PySem.W.mg_none_of KX G ?a
   (case a=>k_is)
  have b_bool:mg "bool"=none:=by
   refine' PySem.W.mg_none_of KX G ?a
   (case a=>k_is)
  have b_enumerate:mg "enumerate"=none:=by
   refine' PySem.W.mg_none_of KX G ?a
   (case a=>k_is)
  have b_int:mg "int"=none:=by
   refine' PySem.W.mg_none_of KX G ?a
   (case a=>k_is)
  have b_isinstance:mg "isinstance"=none:=by
   refine' PySem.W.mg_none_of KX G ?a
   (case a=>k_is)
  have b_len:mg "len"=none:=by
   refine' PySem.W.mg_none_of KX G ?a
   (case a=>k_is)
  have b_list:mg "list"=none:=by
   refine' PySem.W.mg_none_of KX G ?a
   (case a=>k_is)
  have b_max:mg "max"=none:=by
   refine' PySem.W.mg_none_of KX G ?a
   (case a=>k_is)
  have b_min:mg "min"=none:=by
   refine' PySem.W.mg_none_of KX G ?a
   (case a=>k_is)
  have b_range:mg "range"=none:=by
   refine' PySem.W.mg_none_of KX G ?a
   (case a=>k_is)
  have b_reversed:mg "reversed"=none:=by
   refine' PySem.W.mg_none_of KX G ?a
   (case a=>k_is)
  have b_str:mg "str"=none:=by
   refine' PySem.W.mg_none_of KX G ?a
   (case a=>k_is)
  have b_tuple:mg "tuple"=none:=by
   refine' PySem.W.mg_none_of KX G ?a
   (case a=>k_is)
  have c_LETTERS:∃ t,mg "LETTERS"=some (.str "abcdefghijklmnopqrstuvwxyz" t):=by
   refine' L2.qd KX G ?a ?h
   (case a=>k_is);(case h=>exact ⟨_,by with_unfolding_all rfl⟩)
  have c_MOST_LINES:∃ t,mg "MOST_LINES"=some (.int 96 t):=by
   refine' L2.qd KX G ?a ?h
   (case a=>k_is);(case h=>exact ⟨_,by with_unfolding_all rfl⟩)
  have c_MOST_SIGNS:∃ t,mg "MOST_SIGNS"=some (.int 48 t):=by
   refine' L2.qd KX G ?a ?h
   (case a=>k_is);(case h=>exact ⟨_,by with_unfolding_all rfl⟩)
  have c_POINT:∃ t,mg "POINT"=some (.str "." t):=by
   refine' L2.qd KX G ?a ?h
   (case a=>k_is);(case h=>exact ⟨_,by with_unfolding_all rfl⟩)
  have d_is_number:L2.fu (L2.KOf KX) mg "is_number" My.gn:=by
   dsimp only [L2.KOf]
   refine' L2.bB KX G ?a ?l ?c ?k
   (case a=>k_is);(case l=>k_is);(case c=>k_is);(case k=>k_is)
  have d_is_within:L2.fu (L2.KOf KX) mg "is_within" My.gq:=by
   dsimp only [L2.KOf]
   refine' L2.bB KX G ?a ?l ?c ?k
   (case a=>k_is);(case l=>k_is);(case c=>k_is);(case k=>k_is)
  have d_is_letter:L2.fu (L2.KOf KX) mg "is_letter" My.fB:=by
   dsimp only [L2.KOf]
   refine' L2.bB KX G ?a ?l ?c ?k
   (case a=>k_is);(case l=>k_is);(case c=>k_is);(case k=>k_is)
  have d_is_sign:L2.fu (L2.KOf KX) mg "is_sign" My.j4:=by
   dsimp only [L2.KOf]
   refine' L2.bB KX G ?a ?l ?c ?k
   (case a=>k_is);(case l=>k_is);(case c=>k_is);(case k=>k_is)
  have d_need_place:L2.fu (L2.KOf KX) mg "need_place" My.fK:=by
   dsimp only [L2.KOf]
   refine' L2.bB KX G ?a ?l ?c ?k
   (case a=>k_is);(case l=>k_is);(case c=>k_is);(case k=>k_is)
  have d_need_sign:L2.fu (L2.KOf KX) mg "need_sign" My.jR:=by
   dsimp only [L2.KOf]
   refine' L2.bB KX G ?a ?l ?c ?k
   (case a=>k_is);(case l=>k_is);(case c=>k_is);(case k=>k_is)
  have d_is_turning:L2.fu (L2.KOf KX) mg "is_turning" My.bQ:=by
   dsimp only [L2.KOf]
   refine' L2.bB KX G ?a ?l ?c ?k
   (case a=>k_is);(case l=>k_is);(case c=>k_is);(case k=>k_is)
  have d_need_turning:L2.fu (L2.KOf KX) mg "need_turning" My.gr:=by
   dsimp only [L2.KOf]
   refine' L2.bB KX G ?a ?l ?c ?k
   (case a=>k_is);(case l=>k_is);(case c=>k_is);(case k=>k_is)
  have d_straight:L2.fu (L2.KOf KX) mg "straight" My.gw:=by
   dsimp only [L2.KOf]
   refine' L2.bB KX G ?a ?l ?c ?k
   (case a=>k_is);(case l=>k_is);(case c=>k_is);(case k=>k_is)
  have d_opposite:L2.fu (L2.KOf KX) mg "opposite" My.dw:=by
   dsimp only [L2.KOf]
   refine' L2.bB KX G ?a ?l ?c ?k
   (case a=>k_is);(case l=>k_is);(case c=>k_is);(case k=>k_is)
  have d_do_steps:L2.fu (L2.KOf KX) mg "do_steps" My.cQ:=by
   dsimp only [L2.KOf]
   refine' L2.bB KX G ?a ?l ?c ?k
   (case a=>k_is);(case l=>k_is);(case c=>k_is);(case k=>k_is)
  have d_steps_of:L2.fu (L2.KOf KX) mg "steps_of" My.bW:=by
   dsimp only [L2.KOf]
   refine' L2.bB KX G ?a ?l ?c ?k
   (case a=>k_is);(case l=>k_is);(case c=>k_is);(case k=>k_is)
  have d_need_alike:L2.fu (L2.KOf KX) mg "need_alike" My.fM:=by
   dsimp only [L2.KOf]
   refine' L2.bB KX G ?a ?l ?c ?k
   (case a=>k_is);(case l=>k_is);(case c=>k_is);(case k=>k_is)
  have d_laid:L2.fu (L2.KOf KX) mg "laid" My.lC:=by
   dsimp only [L2.KOf]
   refine' L2.bB KX G ?a ?l ?c ?k
   (case a=>k_is);(case l=>k_is);(case c=>k_is);(case k=>k_is)
  have d_is_row:L2.fu (L2.KOf KX) mg "is_row" My.gZ:=by
   dsimp only [L2.KOf]
   refine' L2.bB KX G ?a ?l ?c ?k
   (case a=>k_is);(case l=>k_is);(case c=>k_is);(case k=>k_is)
  have d_need_row:L2.fu (L2.KOf KX) mg "need_row" My.kE:=by
   dsimp only [L2.KOf]
   refine' L2.bB KX G ?a ?l ?c ?k
   (case a=>k_is);(case l=>k_is);(case c=>k_is);(case k=>k_is)
  have d_need_rows:L2.fu (L2.KOf KX) mg "need_rows" My.je:=by
   dsimp only [L2.KOf]
   refine' L2.bB KX G ?a ?l ?c ?k
   (case a=>k_is);(case l=>k_is);(case c=>k_is);(case k=>k_is)
  have d_need_pieces:L2.fu (L2.KOf KX) mg "need_pieces" My.cM:=by
   dsimp only [L2.KOf]
   refine' L2.bB KX G ?a ?l ?c ?k
   (case a=>k_is);(case l=>k_is);(case c=>k_is);(case k=>k_is)
  have d_need_same:L2.fu (L2.KOf KX) mg "need_same" My.jT:=by
   dsimp only [L2.KOf]
   refine' L2.bB KX G ?a ?l ?c ?k
   (case a=>k_is);(case l=>k_is);(case c=>k_is);(case k=>k_is)
  have d_need_short:L2.fu (L2.KOf KX) mg "need_short" My.gH:=by
   dsimp only [L2.KOf]
   refine' L2.bB KX G ?a ?l ?c ?k
   (case a=>k_is);(case l=>k_is);(case c=>k_is);(case k=>k_is)
  have d_lines_over:L2.fu (L2.KOf KX) mg "lines_over" My.bh:=by
   dsimp only [L2.KOf]
   refine' L2.bB KX G ?a ?l ?c ?k
   (case a=>k_is);(case l=>k_is);(case c=>k_is);(case k=>k_is)
  have d_lines_beside:L2.fu (L2.KOf KX) mg "lines_beside" My.aQ:=by
   dsimp only [L2.KOf]
   refine' L2.bB KX G ?a ?l ?c ?k
   (case a=>k_is);(case l=>k_is);(case c=>k_is);(case k=>k_is)
  have d_strip:L2.fu (L2.KOf KX) mg "strip" My.ig:=by
   dsimp only [L2.KOf]
   refine' L2.bB KX G ?a ?l ?c ?k
   (case a=>k_is);(case l=>k_is);(case c=>k_is);(case k=>k_is)
  have d_all_beside:L2.fu (L2.KOf KX) mg "all_beside" My.cW:=by
   dsimp only [L2.KOf]
   refine' L2.bB KX G ?a ?l ?c ?k
   (case a=>k_is);(case l=>k_is);(case c=>k_is);(case k=>k_is)
  have d_all_over:L2.fu (L2.KOf KX) mg "all_over" My.gA:=by
   dsimp only [L2.KOf]
   refine' L2.bB KX G ?a ?l ?c ?k
   (case a=>k_is);(case l=>k_is);(case c=>k_is);(case k=>k_is)
  have d_balanced:L2.fu (L2.KOf KX) mg "balanced" My.bY:=by
   dsimp only [L2.KOf]
   refine' L2.bB KX G ?a ?l ?c ?k
   (case a=>k_is);(case l=>k_is);(case c=>k_is);(case k=>k_is)
  have d_law_cell:L2.fu (L2.KOf KX) mg "_law_cell" My.jE:=by
   dsimp only [L2.KOf]
   refine' L2.bB KX G ?a ?l ?c ?k
   (case a=>k_is);(case l=>k_is);(case c=>k_is);(case k=>k_is)
  have d_law_mix:L2.fu (L2.KOf KX) mg "_law_mix" My.j5:=by
   dsimp only [L2.KOf]
   refine' L2.bB KX G ?a ?l ?c ?k
   (case a=>k_is);(case l=>k_is);(case c=>k_is);(case k=>k_is)
  have d_law_takes:L2.fu (L2.KOf KX) mg "_law_takes" My.cA:=by
   dsimp only [L2.KOf]
   refine' L2.bB KX G ?a ?l ?c ?k
   (case a=>k_is);(case l=>k_is);(case c=>k_is);(case k=>k_is)
  have d_law_sign:L2.fu (L2.KOf KX) mg "_law_sign" My.jF:=by
   dsimp only [L2.KOf]
   refine' L2.bB KX G ?a ?l ?c ?k
   (case a=>k_is);(case l=>k_is);(case c=>k_is);(case k=>k_is)
  have d_law_base:L2.fu (L2.KOf KX) mg "_law_base" My.kI:=by
   dsimp only [L2.KOf]
   refine' L2.bB KX G ?a ?l ?c ?k
   (case a=>k_is);(case l=>k_is);(case c=>k_is);(case k=>k_is)
  have d_law_text:L2.fu (L2.KOf KX) mg "_law_text" My.bL:=by
   dsimp only [L2.KOf]
   refine' L2.bB KX G ?a ?l ?c ?k
   (case a=>k_is);(case l=>k_is);(case c=>k_is);(case k=>k_is)
  have d_law_lines:L2.fu (L2.KOf KX) mg "_law_lines" My.bC:=by
   dsimp only [L2.KOf]
   refine' L2.bB KX G ?a ?l ?c ?k
   (case a=>k_is);(case l=>k_is);(case c=>k_is);(case k=>k_is)
  have d_law_whole:L2.fu (L2.KOf KX) mg "_law_whole" My.gB:=by
   dsimp only [L2.KOf]
   refine' L2.bB KX G ?a ?l ?c ?k
   (case a=>k_is);(case l=>k_is);(case c=>k_is);(case k=>k_is)
  have d_law_list:L2.fu (L2.KOf KX) mg "_law_list" My.fO:=by
   dsimp only [L2.KOf]
   refine' L2.bB KX G ?a ?l ?c ?k
   (case a=>k_is);(case l=>k_is);(case c=>k_is);(case k=>k_is)
  have d_law_built:L2.fu (L2.KOf KX) mg "_law_built" My.bf:=by
   dsimp only [L2.KOf]
   refine' L2.bB KX G ?a ?l ?c ?k
   (case a=>k_is);(case l=>k_is);(case c=>k_is);(case k=>k_is)
  have d_law_edged:L2.fu (L2.KOf KX) mg "_law_edged" My.fG:=by
   dsimp only [L2.KOf]
   refine' L2.bB KX G ?a ?l ?c ?k
   (case a=>k_is);(case l=>k_is);(case c=>k_is);(case k=>k_is)
  have d_law:L2.fu (L2.KOf KX) mg "law" My.cX:=by
   dsimp only [L2.KOf]
   refine' L2.bB KX G ?a ?l ?c ?k
   (case a=>k_is);(case l=>k_is);(case c=>k_is);(case k=>k_is)
  have x_NoRow:L2.oV (L2.KOf KX) mg "NoRow" ["found"] "NoRow.__init__" My.CZ:=by
   dsimp only [L2.KOf]
   refine' L2.t8 KX G ?a ?b ?kp ?na ?i ?t ?l ?c ?k
   (case a=>k_is);(case b=>kernel_rfl);(case kp=>k_is);(case na=>kernel_rfl);(case i=>k_is);(case t=>k_is);(case l=>k_is);(case c=>k_is);(case k=>k_is)
  have x_NoLetter:L2.oV (L2.KOf KX) mg "NoLetter" ["found"] "NoLetter.__init__" My.ur:=by
   dsimp only [L2.KOf]
   refine' L2.t8 KX G ?a ?b ?kp ?na ?i ?t ?l ?c ?k
   (case a=>k_is);(case b=>kernel_rfl);(case kp=>k_is);(case na=>kernel_rfl);(case i=>k_is);(case t=>k_is);(case l=>k_is);(case c=>k_is);(case k=>k_is)
  have x_NoPlace:L2.oV (L2.KOf KX) mg "NoPlace" ["found"] "NoPlace.__init__" My.vL:=by
   dsimp only [L2.KOf]
   refine' L2.t8 KX G ?a ?b ?kp ?na ?i ?t ?l ?c ?k
   (case a=>k_is);(case b=>kernel_rfl);(case kp=>k_is);(case na=>kernel_rfl);(case i=>k_is);(case t=>k_is);(case l=>k_is);(case c=>k_is);(case k=>k_is)
  have x_NoTurning:L2.oV (L2.KOf KX) mg "NoTurning" ["found"] "NoTurning.__init__" My.rJ:=by
   dsimp only [L2.KOf]
   refine' L2.t8 KX G ?a ?b ?kp ?na ?i ?t ?l ?c ?k
   (case a=>k_is);(case b=>kernel_rfl);(case kp=>k_is);(case na=>kernel_rfl);(case i=>k_is);(case t=>k_is);(case l=>k_is);(case c=>k_is);(case k=>k_is)
  have x_NoPiece:L2.oV (L2.KOf KX) mg "NoPiece" ["found"] "NoPiece.__init__" My.my:=by
   dsimp only [L2.KOf]
   refine' L2.t8 KX G ?a ?b ?kp ?na ?i ?t ?l ?c ?k
   (case a=>k_is);(case b=>kernel_rfl);(case kp=>k_is);(case na=>kernel_rfl);(case i=>k_is);(case t=>k_is);(case l=>k_is);(case c=>k_is);(case k=>k_is)
  have x_Unlike:L2.oV (L2.KOf KX) mg "Unlike" ["one","other"] "Unlike.__init__" My.yW:=by
   dsimp only [L2.KOf]
   refine' L2.t8 KX G ?a ?b ?kp ?na ?i ?t ?l ?c ?k
   (case a=>k_is);(case b=>kernel_rfl);(case kp=>k_is);(case na=>kernel_rfl);(case i=>k_is);(case t=>k_is);(case l=>k_is);(case c=>k_is);(case k=>k_is)
  have x_TooLong:L2.oV (L2.KOf KX) mg "TooLong" ["found"] "TooLong.__init__" My.vM:=by
   dsimp only [L2.KOf]
   refine' L2.t8 KX G ?a ?b ?kp ?na ?i ?t ?l ?c ?k
   (case a=>k_is);(case b=>kernel_rfl);(case kp=>k_is);(case na=>kernel_rfl);(case i=>k_is);(case t=>k_is);(case l=>k_is);(case c=>k_is);(case k=>k_is)
  have o_Piece:L2.m6 (L2.KOf KX) mg "Piece":=by
   dsimp only [L2.KOf]
   refine' L2.yN KX G ?a ?b ?s ?m ?k
   (case a=>k_is);(case b=>kernel_rfl);(case s=>k_is);(case m=>first | k_is | kernel_rfl);(case k=>k_is)
  have n_Piece:∀ f∈(["held_side","held_top","held_kind","held_lines","held_parts","held_height"]:List Str),L2.NoAttr (L2.KOf KX) (L2.aU mg "Piece") f:=by
   dsimp only [L2.KOf]
   refine' L2.yO KX G ?a ?b
   (case a=>k_is);(case b=>kernel_rfl)
  have o_Blank:L2.m6 (L2.KOf KX) mg "Blank":=by
   dsimp only [L2.KOf]
   refine' L2.yN KX G ?a ?b ?s ?m ?k
   (case a=>k_is);(case b=>kernel_rfl);(case s=>k_is);(case m=>first | k_is | kernel_rfl);(case k=>k_is)
  have n_Blank:∀ f∈(["held_side","held_top","held_kind","held_lines","held_parts","held_height"]:List Str),L2.NoAttr (L2.KOf KX) (L2.aU mg "Blank") f:=by
   dsimp only [L2.KOf]
   refine' L2.yO KX G ?a ?b
   (case a=>k_is);(case b=>kernel_rfl)
  have o_One:L2.m6 (L2.KOf KX) mg "One":=by
   dsimp only [L2.KOf]
   refine' L2.yN KX G ?a ?b ?s ?m ?k
   (case a=>k_is);(case b=>kernel_rfl);(case s=>k_is);(case m=>first | k_is | kernel_rfl);(case k=>k_is)
  have n_One:∀ f∈(["held_side","held_top","held_kind","held_lines","held_parts","held_height"]:List Str),L2.NoAttr (L2.KOf KX) (L2.aU mg "One") f:=by
   dsimp only [L2.KOf]
   refine' L2.yO KX G ?a ?b
   (case a=>k_is);(case b=>kernel_rfl)
  have o_Over:L2.m6 (L2.KOf KX) mg "Over":=by
   dsimp only [L2.KOf]
   refine' L2.yN KX G ?a ?b ?s ?m ?k
   (case a=>k_is);(case b=>kernel_rfl);(case s=>k_is);(case m=>first | k_is | kernel_rfl);(case k=>k_is)
  have n_Over:∀ f∈(["held_side","held_top","held_kind","held_lines","held_parts","held_height"]:List Str),L2.NoAttr (L2.KOf KX) (L2.aU mg "Over") f:=by
   dsimp only [L2.KOf]
   refine' L2.yO KX G ?a ?b
   (case a=>k_is);(case b=>kernel_rfl)
  have o_Beside:L2.m6 (L2.KOf KX) mg "Beside":=by
   dsimp only [L2.KOf]
   refine' L2.yN KX G ?a ?b ?s ?m ?k
   (case a=>k_is);(case b=>kernel_rfl);(case s=>k_is);(case m=>first | k_is | kernel_rfl);(case k=>k_is)
  have n_Beside:∀ f∈(["held_side","held_top","held_kind","held_lines","held_parts","held_height"]:List Str),L2.NoAttr (L2.KOf KX) (L2.aU mg "Beside") f:=by
   dsimp only [L2.KOf]
   refine' L2.yO KX G ?a ?b
   (case a=>k_is);(case b=>kernel_rfl)
  have os_Piece:L2.Ys (L2.KOf KX) mg ["Blank","One","Over","Beside"]:=L2.Nf o_Blank o_One o_Over o_Beside
  have t_Blank:L2.ITxt (L2.KOf KX) mg "Blank":=by
   dsimp only [L2.KOf]
   refine' L2.CN KX G ?a ?b ?c ?d ?e
   (case a=>k_is);(case b=>k_is);(case c=>first | k_is | kernel_rfl);(case d=>first | k_is | kernel_rfl);(case e=>first | k_is | kernel_rfl)
  have t_One:L2.ITxt (L2.KOf KX) mg "One":=by
   dsimp only [L2.KOf]
   refine' L2.CN KX G ?a ?b ?c ?d ?e
   (case a=>k_is);(case b=>k_is);(case c=>first | k_is | kernel_rfl);(case d=>first | k_is | kernel_rfl);(case e=>first | k_is | kernel_rfl)
  have t_Over:L2.ITxt (L2.KOf KX) mg "Over":=by
   dsimp only [L2.KOf]
   refine' L2.CN KX G ?a ?b ?c ?d ?e
   (case a=>k_is);(case b=>k_is);(case c=>first | k_is | kernel_rfl);(case d=>first | k_is | kernel_rfl);(case e=>first | k_is | kernel_rfl)
  have t_Beside:L2.ITxt (L2.KOf KX) mg "Beside":=by
   dsimp only [L2.KOf]
   refine' L2.CN KX G ?a ?b ?c ?d ?e
   (case a=>k_is);(case b=>k_is);(case c=>first | k_is | kernel_rfl);(case d=>first | k_is | kernel_rfl);(case e=>first | k_is | kernel_rfl)
  have u_Blank_Piece:L2.Sub (L2.KOf KX) mg "Blank" "Piece" true:=by
   dsimp only [L2.KOf]
   refine' L2.wI KX G ?a ?b ?m ?o
   (case a=>k_is);(case b=>k_is);(case m=>k_is);(case o=>kernel_rfl)
  have u_One_Piece:L2.Sub (L2.KOf KX) mg "One" "Piece" true:=by
   dsimp only [L2.KOf]
   refine' L2.wI KX G ?a ?b ?m ?o
   (case a=>k_is);(case b=>k_is);(case m=>k_is);(case o=>kernel_rfl)
  have u_Over_Piece:L2.Sub (L2.KOf KX) mg "Over" "Piece" true:=by
   dsimp only [L2.KOf]
   refine' L2.wI KX G ?a ?b ?m ?o
   (case a=>k_is);(case b=>k_is);(case m=>k_is);(case o=>kernel_rfl)
  have u_Beside_Piece:L2.Sub (L2.KOf KX) mg "Beside" "Piece" true:=by
   dsimp only [L2.KOf]
   refine' L2.wI KX G ?a ?b ?m ?o
   (case a=>k_is);(case b=>k_is);(case m=>k_is);(case o=>kernel_rfl)
  have w_Piece_str:PySem.W.kitOne (L2.KOf KX) (.type "str") (.ref (L2.aU mg "Piece"))=some false:=by
   dsimp only [L2.KOf]
   refine' L2.km KX G ?a ?o
   (case a=>k_is);(case o=>kernel_rfl)
  have w_Piece_int:PySem.W.kitOne (L2.KOf KX) (.type "int") (.ref (L2.aU mg "Piece"))=some false:=by
   dsimp only [L2.KOf]
   refine' L2.km KX G ?a ?o
   (case a=>k_is);(case o=>kernel_rfl)
  have w_Piece_list:PySem.W.kitOne (L2.KOf KX) (.type "list") (.ref (L2.aU mg "Piece"))=some false:=by
   dsimp only [L2.KOf]
   refine' L2.km KX G ?a ?o
   (case a=>k_is);(case o=>kernel_rfl)
  have w_Piece_tuple:PySem.W.kitOne (L2.KOf KX) (.type "tuple") (.ref (L2.aU mg "Piece"))=some false:=by
   dsimp only [L2.KOf]
   refine' L2.km KX G ?a ?o
   (case a=>k_is);(case o=>kernel_rfl)
  have w_Piece_NoneType:PySem.W.kitOne (L2.KOf KX) (.type "NoneType") (.ref (L2.aU mg "Piece"))=some false:=by
   dsimp only [L2.KOf]
   refine' L2.km KX G ?a ?o
   (case a=>k_is);(case o=>kernel_rfl)
  have w_Piece_bool:PySem.W.kitOne (L2.KOf KX) (.type "bool") (.ref (L2.aU mg "Piece"))=some false:=by
   dsimp only [L2.KOf]
   refine' L2.km KX G ?a ?o
   (case a=>k_is);(case o=>kernel_rfl)
  have w_Piece_dict:PySem.W.kitOne (L2.KOf KX) (.type "dict") (.ref (L2.aU mg "Piece"))=some false:=by
   dsimp only [L2.KOf]
   refine' L2.km KX G ?a ?o
   (case a=>k_is);(case o=>kernel_rfl)
  have m_Piece___init__:L2.CK (L2.KOf KX) mg "Piece" "__init__" "Piece.__init__" My.aX:=by
   dsimp only [L2.KOf]
   refine' L2.We KX G ?a ?s ?r ?i ?l ?c ?k
   (case a=>k_is);(case s=>first | k_is | kernel_rfl);(case r=>kernel_rfl);(case i=>first | k_is | kernel_rfl);(case l=>k_is);(case c=>k_is);(case k=>k_is)
  have m_Piece_side:L2.o5 (L2.KOf KX) mg ["Blank","One","Over","Beside"] "side" "Piece.side" My.jZ:=by
   dsimp only [L2.KOf]
   refine' L2.wM KX G ?a1 ?a2 ?a3 ?a4 ?i1 ?i2 ?i3 ?i4 ?n ?l ?c ?k
   (case a1=>k_is);(case a2=>k_is);(case a3=>k_is);(case a4=>k_is);(case i1=>k_is);(case i2=>k_is);(case i3=>k_is);(case i4=>k_is);(case n=>first | k_is | kernel_rfl);(case l=>k_is);(case c=>k_is);(case k=>k_is)
  have m_Piece_top:L2.o5 (L2.KOf KX) mg ["Blank","One","Over","Beside"] "top" "Piece.top" My.lr:=by
   dsimp only [L2.KOf]
   refine' L2.wM KX G ?a1 ?a2 ?a3 ?a4 ?i1 ?i2 ?i3 ?i4 ?n ?l ?c ?k
   (case a1=>k_is);(case a2=>k_is);(case a3=>k_is);(case a4=>k_is);(case i1=>k_is);(case i2=>k_is);(case i3=>k_is);(case i4=>k_is);(case n=>first | k_is | kernel_rfl);(case l=>k_is);(case c=>k_is);(case k=>k_is)
  have m_Piece_lines:L2.o5 (L2.KOf KX) mg ["Blank","One","Over","Beside"] "lines" "Piece.lines" My.g8:=by
   dsimp only [L2.KOf]
   refine' L2.wM KX G ?a1 ?a2 ?a3 ?a4 ?i1 ?i2 ?i3 ?i4 ?n ?l ?c ?k
   (case a1=>k_is);(case a2=>k_is);(case a3=>k_is);(case a4=>k_is);(case i1=>k_is);(case i2=>k_is);(case i3=>k_is);(case i4=>k_is);(case n=>first | k_is | kernel_rfl);(case l=>k_is);(case c=>k_is);(case k=>k_is)
  have m_Piece_height:L2.o5 (L2.KOf KX) mg ["Blank","One","Over","Beside"] "height" "Piece.height" My.jx:=by
   dsimp only [L2.KOf]
   refine' L2.wM KX G ?a1 ?a2 ?a3 ?a4 ?i1 ?i2 ?i3 ?i4 ?n ?l ?c ?k
   (case a1=>k_is);(case a2=>k_is);(case a3=>k_is);(case a4=>k_is);(case i1=>k_is);(case i2=>k_is);(case i3=>k_is);(case i4=>k_is);(case n=>first | k_is | kernel_rfl);(case l=>k_is);(case c=>k_is);(case k=>k_is)
  have m_Blank___init__:L2.uH (L2.KOf KX) mg "Blank" "__init__" "Blank.__init__" My.bw:=by
   dsimp only [L2.KOf]
   refine' L2.Cz KX G ?a ?i ?n ?l ?c ?k
   (case a=>k_is);(case i=>k_is);(case n=>first | k_is | kernel_rfl);(case l=>k_is);(case c=>k_is);(case k=>k_is)
  have m_One___init__:L2.uH (L2.KOf KX) mg "One" "__init__" "One.__init__" My.cB:=by
   dsimp only [L2.KOf]
   refine' L2.Cz KX G ?a ?i ?n ?l ?c ?k
   (case a=>k_is);(case i=>k_is);(case n=>first | k_is | kernel_rfl);(case l=>k_is);(case c=>k_is);(case k=>k_is)
  have m_Over___init__:L2.uH (L2.KOf KX) mg "Over" "__init__" "Over.__init__" My.aR:=by
   dsimp only [L2.KOf]
   refine' L2.Cz KX G ?a ?i ?n ?l ?c ?k
   (case a=>k_is);(case i=>k_is);(case n=>first | k_is | kernel_rfl);(case l=>k_is);(case c=>k_is);(case k=>k_is)
  have m_Beside___init__:L2.uH (L2.KOf KX) mg "Beside" "__init__" "Beside.__init__" My.aK:=by
   dsimp only [L2.KOf]
   refine' L2.Cz KX G ?a ?i ?n ?l ?c ?k
   (case a=>k_is);(case i=>k_is);(case n=>first | k_is | kernel_rfl);(case l=>k_is);(case c=>k_is);(case k=>k_is)
  exact ⟨d_law,fun base f fd F=>My.Uy ⟨b_all,b_bool,b_enumerate,b_int,b_isinstance,b_len,b_list,b_max,b_min,b_range,b_reversed,b_str,b_tuple,c_LETTERS,c_MOST_LINES,c_MOST_SIGNS,c_POINT,d_is_number,d_is_within,d_is_letter,d_is_sign,d_need_place,d_need_sign,d_is_turning,d_need_turning,d_straight,d_opposite,d_do_steps,d_steps_of,d_need_alike,d_laid,d_is_row,d_need_row,d_need_rows,d_need_pieces,d_need_same,d_need_short,d_lines_over,d_lines_beside,d_strip,d_all_beside,d_all_over,d_balanced,d_law_cell,d_law_mix,d_law_takes,d_law_sign,d_law_base,d_law_text,d_law_lines,d_law_whole,d_law_list,d_law_built,d_law_edged,d_law,x_NoRow,x_NoLetter,x_NoPlace,x_NoTurning,x_NoPiece,x_Unlike,x_TooLong,o_Piece,n_Piece,o_Blank,n_Blank,o_One,n_One,o_Over,n_Over,o_Beside,n_Beside,os_Piece,t_Blank,t_One,t_Over,t_Beside,u_Blank_Piece,u_One_Piece,u_Over_Piece,u_Beside_Piece,w_Piece_str,w_Piece_int,w_Piece_list,w_Piece_tuple,w_Piece_NoneType,w_Piece_bool,w_Piece_dict,m_Piece___init__,m_Piece_side,m_Piece_top,m_Piece_lines,m_Piece_height,m_Blank___init__,m_One___init__,m_Over___init__,m_Beside___init__⟩ F⟩
