import PyProof.Rows.All
import Wide.All
import OpenK.AllK
import Wide.FinOn
import Lean
import PyProof.EqAt
import PyProof.EqKinds
import PyProof.TupleCall
import PyProof.ReprRoads
import KE.KSortTup
import PySem.Challenge.RW_panethread_k12_heaps_spoilt
noncomputable section
set_option compiler.extract_closed false
set_option Elab.async false
set_option linter.all false
set_option maxRecDepth 100000
namespace L2
@[elab_as_elim] theorem uv {p:List PySem.Value→Prop} (h:∀ a0:PySem.Value,p [a0]) (us:List PySem.Value) (hl:us.length=1):p us:=by
 rcases us with _ | ⟨a0,us0⟩
 ·cases hl
 rcases us0 with _ | ⟨b,us⟩
 ·exact h a0
 ·cases hl
@[elab_as_elim] theorem rT {p:List PySem.Value→Prop} (h:∀ a0 a1:PySem.Value,p [a0,a1]) (us:List PySem.Value) (hl:us.length=2):p us:=by
 rcases us with _ | ⟨a0,us0⟩
 ·cases hl
 rcases us0 with _ | ⟨a1,us1⟩
 ·cases hl
 rcases us1 with _ | ⟨b,us⟩
 ·exact h a0 a1
 ·cases hl
@[elab_as_elim] theorem vI {p:List PySem.Value→Prop} (h:∀ a0 a1 a2:PySem.Value,p [a0,a1,a2]) (us:List PySem.Value) (hl:us.length=3):p us:=by
 rcases us with _ | ⟨a0,us0⟩
 ·cases hl
 rcases us0 with _ | ⟨a1,us1⟩
 ·cases hl
 rcases us1 with _ | ⟨a2,us2⟩
 ·cases hl
 rcases us2 with _ | ⟨b,us⟩
 ·exact h a0 a1 a2
 ·cases hl
@[elab_as_elim] theorem usN4 {p:List PySem.Value→Prop} (h:∀ a0 a1 a2 a3:PySem.Value,p [a0,a1,a2,a3]) (us:List PySem.Value) (hl:us.length=4):p us:=by
 rcases us with _ | ⟨a0,us0⟩
 ·cases hl
 rcases us0 with _ | ⟨a1,us1⟩
 ·cases hl
 rcases us1 with _ | ⟨a2,us2⟩
 ·cases hl
 rcases us2 with _ | ⟨a3,us3⟩
 ·cases hl
 rcases us3 with _ | ⟨b,us⟩
 ·exact h a0 a1 a2 a3
 ·cases hl
theorem auto1 (h:True:=by first | exact .inl rfl | exact .inr rfl | assumption):True:=h
theorem auto2 (h:True:=by decide):True:=h
theorem auto3 (h:True:=by intro _;rfl):True:=h
theorem auto4 (h:True:=by rfl):True:=h
theorem auto5 (h:True:=by with_unfolding_all rfl):True:=h
theorem auto6 (h:True:=by decide+kernel):True:=h
open PySem PySem.Spec PyProof.Rows
abbrev Key:=Sum Int Str
def uD:Key→Value→Bool
 | .inl k,v=>Value.isInt k v
 | .inr x,v=>Value.isStrOf x v
def keyH (w:World):Key→Int
 | .inl k=>hashInt k
 | .inr x=>hashStr w x
theorem cA:∀ {k:Key} {v:Value},uD k v=true→(∃ i t,k=Sum.inl i∧v=Value.int i t)∨(∃ x t,k=Sum.inr x∧v=Value.str x t)
 | .inl i,v,h=>by
  obtain ⟨t,e⟩:=Value.isInt_shape (k:=i) (v:=v) h
  exact .inl ⟨i,t,rfl,e⟩
 | .inr x,v,h=>by
  obtain ⟨t,e⟩:=Value.isStrOf_shape (x:=x) (v:=v) h
  exact .inr ⟨x,t,rfl,e⟩
theorem Bw (i:Int) (t:Tok):uD (.inl i) (.int i t)=true:=by simp [uD,Value.isInt]
theorem Bx (x:Str) (t:Tok):uD (.inr x) (.str x t)=true:=by simp [uD,Value.isStrOf]
theorem Nq (a b:Int):decide ((Sum.inl a:Key)=Sum.inl b)=(a == b):=by
 by_cases e:a=b
 ·subst e;simp
 ·have h:¬ (Sum.inl a:Key)=Sum.inl b:=fun q=>e (Sum.inl.inj q)
  rw [decide_eq_false h]
  exact (beq_eq_false_iff_ne.mpr e).symm
theorem Nr (a b:Str):decide ((Sum.inr a:Key)=Sum.inr b)=decide (a=b):=by
 by_cases e:a=b
 ·subst e;simp
 ·have h:¬ (Sum.inr a:Key)=Sum.inr b:=fun q=>e (Sum.inr.inj q)
  rw [decide_eq_false h,decide_eq_false e]
theorem Nt (a:Int) (b:Str):decide ((Sum.inl a:Key)=Sum.inr b)=false:=decide_eq_false (fun q=>nomatch q)
theorem Nu (a:Str) (b:Int):decide ((Sum.inr a:Key)=Sum.inl b)=false:=decide_eq_false (fun q=>nomatch q)
def bR (prog:Program) (w:World):PySem.KeyKind prog w Key where
 is:=uD
 hash:=keyH w
 inj:=fun v a b ha hb=>by
  rcases cA ha with ⟨i,t,rfl,rfl⟩ | ⟨x,t,rfl,rfl⟩
  ·rcases cA hb with ⟨j,u,rfl,e⟩ | ⟨y,u,rfl,e⟩
   ·injection e with e1 _;rw [e1]
   ·exact nomatch e
  ·rcases cA hb with ⟨j,u,rfl,e⟩ | ⟨y,u,rfl,e⟩
   ·exact nomatch e
   ·injection e with e1 _;rw [e1]
 byValue:=fun k v h=>by
  rcases cA h with ⟨i,t,rfl,rfl⟩ | ⟨x,t,rfl,rfl⟩ <;> rfl
 pyHash:=fun hv h=>by
  rcases cA hv with ⟨i,t,rfl,rfl⟩ | ⟨x,t,rfl,rfl⟩
  ·exact wpAny_pyHash_int h
  ·exact wpAny_pyHash_str h
 eqBool:=fun hu hv h=>by
  rcases cA hu with ⟨i,t,rfl,rfl⟩ | ⟨x,t,rfl,rfl⟩
  ·rcases cA hv with ⟨j,u,rfl,rfl⟩ | ⟨y,u,rfl,rfl⟩
   ·rw [Nq] at h;exact wpAny_eqBool_int h
   ·rw [Nt] at h;exact SeqAt.EqAt.int_str i t y u _ _ _ _ h
  ·rcases cA hv with ⟨j,u,rfl,rfl⟩ | ⟨y,u,rfl,rfl⟩
   ·rw [Nu] at h;exact SeqAt.EqAt.str_int x t j u _ _ _ _ h
   ·rw [Nr] at h;exact wpAny_eqBool_str h
 «strs»:=fun k x t v h=>by
  rcases cA h with ⟨i,u,rfl,e⟩ | ⟨y,u,rfl,e⟩
  ·exact nomatch e
  ·injection e with e1 _
   subst e1
   cases v <;> rfl
theorem wU (prog:Program) (w:World) (i:Int) (t:Tok):(bR prog w).is (.inl i) (.int i t)=true:=Bw i t
theorem wV (prog:Program) (w:World) (x:Str) (t:Tok):(bR prog w).is (.inr x) (.str x t)=true:=Bx x t
end L2
namespace L2
open PySem PySem.Spec PyProof.Rows
inductive V where
 | non | bl (b:Bool) | int (i:Int) | str (x:Str) | byt (b:Array UInt8) | flt (b:UInt64) | ref (a:Addr) | ty (n:String)
 deriving DecidableEq
def RelV:V→Value→Prop
 | .non,u=>u=Value.none
 | .bl b,u=>u=Value.bool b
 | .int i,u=>∃ t,u=Value.int i t
 | .str x,u=>∃ t,u=Value.str x t
 | .byt b,u=>∃ t,u=Value.bytes b t
 | .flt b,u=>∃ t,u=Value.float b t
 | .ref a,u=>u=Value.ref a
 | .ty n,u=>u=Value.type n
abbrev Vals:List V→List Value→Prop:=Paired RelV
theorem Vals.length {xs:List V} {us:List Value} (r:Vals xs us):xs.length=us.length:=Paired.length r
theorem Vals.get:∀ {xs:List V} {us:List Value} {i:Nat} {x:V},Vals xs us→xs[i]?=some x→∃ u,us[i]?=some u∧RelV x u
 | _,_,_,_,.nil,e=>by simp at e
 | _,_,0,_,.cons r _,e=>by simp at e;subst e;exact ⟨_,rfl,r⟩
 | _,_,i+1,x,.cons _ t,e=>by
  obtain ⟨u,h1,h2⟩:=Vals.get (i:=i) (x:=x) t (by simpa using e)
  exact ⟨u,by simpa using h1,h2⟩
theorem Vals.set {x:V} {u:Value} (r:RelV x u):∀ {xs:List V} {us:List Value} (i:Nat),Vals xs us→Vals (xs.set i x) (us.set i u)
 | _,_,_,.nil=>.nil
 | _,_,0,.cons _ t=>.cons r t
 | _,_,i+1,.cons q t=>.cons q (Vals.set r i t)
theorem Vals.append:∀ {xs ys:List V} {us ws:List Value},Vals xs us→Vals ys ws→Vals (xs ++ ys) (us ++ ws)
 | _,_,_,_,.nil,s=>s
 | _,_,_,_,.cons r t,s=>.cons r (Vals.append t s)
theorem Vals.take:∀ {xs:List V} {us:List Value} (n:Nat),Vals xs us→Vals (xs.take n) (us.take n)
 | _,_,0,_=>.nil
 | _,_,_+1,.nil=>.nil
 | _,_,n+1,.cons r t=>.cons r (Vals.take n t)
theorem Vals.drop:∀ {xs:List V} {us:List Value} (n:Nat),Vals xs us→Vals (xs.drop n) (us.drop n)
 | _,_,0,r=>r
 | _,_,_+1,.nil=>.nil
 | _,_,n+1,.cons _ t=>Vals.drop n t
def RelO:Option V→Option Value→Prop
 | some v,some u=>RelV v u
 | none,none=>True
 | _,_=>False
def KV {κ:Type}:List (κ×V)→List (κ×Value)→Prop:=Paired fun (p:κ×V) (q:κ×Value)=>p.1=q.1∧RelV p.2 q.2
def kV:Key→V
 | .inl i=>.int i
 | .inr x=>.str x
inductive HO where
 /-- a list -/
 | lst (xs:List V)
 /-- a tuple (never changes) -/
 | tup (xs:List V)
 /-- a dict whose keys are ints and texts;one whose keys are tuples of ints and texts (the empty one is both) -/
 | dK (kvs:List (Key×V)) | dT (kvs:List (List Key×V))
 /-- a set of ints:its members,its size -/
 | set (S:Int→Bool) (n:Nat)
 /-- an instance of the class at C,its dict at dx,its attributes -/
 | ins (C dx:Addr) (fs:List (Str×V))
 /-- the dict of the instance at x -/
 | own (x:Addr)
 /-- the dict of an exception -/
 | xd (fs:List (Str×V))
 /-- a bound method,f of x -/
 | met (f x:Addr)
 /-- a range object lo,lo+1,.. below hi -/
 | rng (lo hi:Int)
 /-- a thing that is known to the object (the script;a dict while a loop walks it):read,never written while it is so -/
 | frz (o:Obj) (u:HO)
 /-- a code object's table -/
 | tbl (ps:Array Value)
 /-- any other thing,by what is true of its one object (a def of one's own:SetO a S n:=HO.ext fun h=>..) -/
 | ext (φ:Heap→Prop)
abbrev Hp:=Addr→Option HO
def upd (H:Hp) (a:Addr) (o:HO):Hp:=fun b=>if b=a then some o else H b
theorem ao {H:Hp} {a:Addr} {o:HO}:upd H a o a=some o:=by unfold upd;rw [if_pos rfl]
theorem aB {H:Hp} {a b:Addr} {o:HO} (h:b≠a):upd H a o b=H b:=by unfold upd;rw [if_neg h]
theorem Sq {H:Hp} {a b:Addr} {o u:HO} (h:H a=some o) (h':H b=some u) (d:o≠u):a≠b:=by
 intro e;subst e;rw [h] at h';exact d (Option.some.inj h')
theorem iy {H:Hp} {a b:Addr} {o:HO} (h:H a=some o) (h':H b=none):a≠b:=by
 intro e;subst e;rw [h] at h';cases h'
section
variable (P:Program) (w:World)
def ObjOk (H:Hp) (h:Heap) (a:Addr):HO→Prop
 | .lst xs=>xs.length≤sizeLine∧∃ (its:List Value) (n:Nat),Vals xs its∧h.get? a=some {cls:=.type "list",data:=.seq its.toArray n}
 | .tup xs=>xs.length≤sizeLine∧∃ its:List Value,Vals xs its∧IsTup h a its.toArray
 | .dK kvs=>kvs.length≤sizeLine∧(a == sysModules)=false∧∃ vs,KV kvs vs∧h.DictOf (bR P w) a vs
 | .dT kvs=>kvs.length≤sizeLine∧(a == sysModules)=false∧∃ xs:List (List Key×Addr×Value),
   Paired (fun (p:List Key×V) (q:List Key×Addr×Value)=>p.1=q.1∧H q.2.1=some (.tup (p.1.map kV))∧RelV p.2 q.2.2) kvs xs∧
   ∃ o es ep,h.get? a=some o∧o.ExactDict∧o.data= .dict es ep∧es.toList=xs.map (entryOfKey (tupleKind (bR P w)))∧(xs.map (·.1)).Nodup
 | .set S n=>h.SetOf (intKind P w) a S n
 | .ins C dx fs=>H dx=some (.own a)∧fs.length≤1000∧dx≠a∧h.get? a=some (PySem.W.instObj C dx)∧
   ∃ mA,h.Ns1 dx mA∧(∀ f,RelO (fs.lookup f) (mA f))∧PySem.Within mA (fs.map (·.1))
 | .own _=>∃ o,h.get? a=some o
 | .xd fs=>∃ mA,h.Ns1 a mA∧∀ f,RelO (fs.lookup f) (mA f)
 | .rng lo hi=>∃ t u v,h.get? a=some {cls:=.type "range",data:=.fields #[.int lo t,.int hi u,.int 1 v]}
 | .frz o u=>h.get? a=some o∧ObjOk H h a u
 | .tbl ps=>h.get? a=some {cls:=.none,data:=.fields ps}
 | .met f x=>h.get? a=some (PySem.W.methodObj (.ref f) (.ref x))
 | .ext φ=>φ h∧(∃ o,h.get? a=some o)∧∀ h1 h2:Heap,φ h1→(∀ o,h1.get? a=some o→h2.get? a=some o)→φ h2
def HOk (H:Hp) (h:Heap):Prop:=∀ a o,H a=some o→ObjOk P w H h a o
end
section
variable {P:Program} {w:World} {H H':Hp} {h h':Heap} {a:Addr} {o:HO}
theorem ObjOk.lt (x:ObjOk P w H h a o):a < h.objs.size:=by
 cases o with
 | lst xs=>obtain ⟨_,_,_,_,e⟩:=x;exact Heap.lt_size e
 | tup xs=>obtain ⟨_,_,_,p⟩:=x;exact p.lt
 | dK kvs=>obtain ⟨_,_,_,_,o,_,_,e,_⟩:=x;exact Heap.lt_size e
 | dT kvs=>obtain ⟨_,_,_,_,o,_,_,e,_⟩:=x;exact Heap.lt_size e
 | set S n=>obtain ⟨o,_,_,_,e,_⟩:=x;exact Heap.lt_size e
 | ins C dx fs=>obtain ⟨_,_,_,e,_⟩:=x;exact Heap.lt_size e
 | own y=>obtain ⟨_,e⟩:=x;exact Heap.lt_size e
 | xd fs=>obtain ⟨_,⟨_,_,_,e,_⟩,_⟩:=x;exact Heap.lt_size e
 | rng lo hi=>obtain ⟨_,_,_,e⟩:=x;exact Heap.lt_size e
 | frz ob u=>obtain ⟨e,_⟩:=x;exact Heap.lt_size e
 | tbl ps=>exact Heap.lt_size (show h.get? a=some _ from x)
 | met f y=>exact Heap.lt_size (show h.get? a=some _ from x)
 | ext φ=>obtain ⟨_,⟨_,e⟩,_⟩:=x;exact Heap.lt_size e
theorem Paired.mapP {α β:Type} {F G:α→β→Prop}:∀ {l₁:List α} {l₂:List β},Paired F l₁ l₂→(∀ a b,F a b→G a b)→Paired G l₁ l₂
 | _,_,.nil,_=>.nil
 | _,_,.cons r t,f=>.cons (f _ _ r) (Paired.mapP t f)
theorem ObjOk.stay (x:ObjOk P w H h a o) (k:∀ b u,(b=a∨H b=some (.own a))→h.get? b=some u→h'.get? b=some u)
  (ho:∀ b,H b=some (.own a)→H' b=some (.own a)) (ht:∀ b xs,H b=some (.tup xs)→H' b=some (.tup xs)):ObjOk P w H' h' a o:=by
 induction o with
 | lst xs=>obtain ⟨z,its,n,r,e⟩:=x;exact ⟨z,its,n,r,k _ _ (.inl rfl) e⟩
 | tup xs=>obtain ⟨z,its,r,ob,e,c⟩:=x;exact ⟨z,its,r,ob,k _ _ (.inl rfl) e,c⟩
 | dK kvs=>obtain ⟨z,y,vs,r,ob,es,ep,e,c⟩:=x;exact ⟨z,y,vs,r,ob,es,ep,k _ _ (.inl rfl) e,c⟩
 | dT kvs=>
  obtain ⟨z,y,xs,r,ob,es,ep,e,c⟩:=x
  exact ⟨z,y,xs,Paired.mapP r fun p q z=>⟨z.1,ht _ _ z.2.1,z.2.2⟩,ob,es,ep,k _ _ (.inl rfl) e,c⟩
 | set S n=>obtain ⟨ob,es,ep,t,e,c⟩:=x;exact ⟨ob,es,ep,t,k _ _ (.inl rfl) e,c⟩
 | ins C dx fs=>
  obtain ⟨d,z,ne,e,mA,⟨od,es,ep,e2,c⟩,r⟩:=x
  exact ⟨ho _ d,z,ne,k _ _ (.inl rfl) e,mA,⟨od,es,ep,k _ _ (.inr d) e2,c⟩,r⟩
 | own y=>obtain ⟨ob,e⟩:=x;exact ⟨ob,k _ _ (.inl rfl) e⟩
 | xd fs=>obtain ⟨mA,⟨od,es,ep,e,c⟩,r⟩:=x;exact ⟨mA,⟨od,es,ep,k _ _ (.inl rfl) e,c⟩,r⟩
 | rng lo hi=>obtain ⟨t,u,v,e⟩:=x;exact ⟨t,u,v,k _ _ (.inl rfl) e⟩
 | frz ob u ih=>obtain ⟨e,q⟩:=x;exact ⟨k _ _ (.inl rfl) e,ih q⟩
 | tbl ps=>
  have e:h.get? a=some {cls:=.none,data:=.fields ps}:=x
  show h'.get? a=some {cls:=.none,data:=.fields ps}
  exact k a _ (.inl rfl) e
 | met f y=>
  have e:h.get? a=some (PySem.W.methodObj (.ref f) (.ref y)):=x
  show h'.get? a=some (PySem.W.methodObj (.ref f) (.ref y))
  exact k a _ (.inl rfl) e
 | ext φ=>obtain ⟨p,⟨o,e⟩,st⟩:=x;exact ⟨st _ _ p fun o q=>k _ _ (.inl rfl) q,⟨o,k _ _ (.inl rfl) e⟩,st⟩
theorem HOk.lt (x:HOk P w H h) (e:H a=some o):a < h.objs.size:=(x a o e).lt
theorem HOk.fresh (x:HOk P w H h) (e:h.objs.size≤a):H a=none:=by
 cases q:H a with
 | none=>rfl
 | some u=>exact absurd (Nat.lt_of_lt_of_le (x.lt q) e) (Nat.lt_irrefl _)
theorem HOk.kept (x:HOk P w H h) (k:∀ b u,h.get? b=some u→h'.get? b=some u):HOk P w H h':=fun a o e=>
 (x a o e).stay (fun b u _ q=>k b u q) (fun _ q=>q) fun _ _ q=>q
theorem HOk.laid (x:HOk P w H h) (k:∀ b u,h.get? b=some u→h'.get? b=some u) (hp:h.objs.size≤a) (new:ObjOk P w (upd H a o) h' a o):HOk P w (upd H a o) h':=fun b u e=>by
 have hn:=x.fresh hp
 by_cases hb:b=a
 ·subst hb;rw [ao] at e;cases e;exact new
 ·rw [aB hb] at e
  exact (x b u e).stay (fun c v _ q=>k c v q) (fun c q=>by rw [aB (iy q hn)];exact q) fun c xs q=>by rw [aB (iy q hn)];exact q
end
def Rd (H:Hp) (a:Addr) (u:HO):Prop:=H a=some u∨∃ o,H a=some (.frz o u)
theorem Rd.ok {P:Program} {w:World} {H:Hp} {h:Heap} {a:Addr} {u:HO} (r:Rd H a u) (x:HOk P w H h):ObjOk P w H h a u:=by
 rcases r with r | ⟨o,r⟩
 ·exact x a u r
 ·obtain ⟨_,q⟩:=x a _ r
  exact q
def Ss:Option HO→Prop
 | some (.lst _)=>True
 | some (.dK _)=>True
 | some (.dT _)=>True
 | some (.set _ _)=>True
 | some (.ins _ _ _)=>True
 | some (.ext _)=>True
 | _=>False
section
variable {P:Program} {w:World} {H:Hp} {h h':Heap} {x e:Addr} {o':HO}
theorem HOk.write (ok:HOk P w H h) (mu:Ss (H x)) (he:e=x∨H e=some (.own x)) (k:∀ b u,b≠e→h.get? b=some u→h'.get? b=some u) (heo:∃ u,h'.get? e=some u)
  (new:ObjOk P w (upd H x o') h' x o'):HOk P w (upd H x o') h':=fun b u q=>by
 have nown:∀ c y,H c=some (.own y)→c≠x:=fun c y r z=>by subst z;rw [r] at mu;exact mu
 have ntup:∀ c xs,H c=some (.tup xs)→c≠x:=fun c xs r z=>by subst z;rw [r] at mu;exact mu
 by_cases hb:b=x
 ·subst hb;rw [ao] at q;cases q;exact new
 ·rw [aB hb] at q
  by_cases hbe:b=e
  ·have q':H b=some (.own x):=by
    rcases he with z | z
    ·exact absurd (hbe.trans z) hb
    ·rw [hbe];exact z
   rw [q] at q';cases q'
   obtain ⟨v,hv⟩:=heo
   exact ⟨v,by rw [hbe];exact hv⟩
  ·refine (ok b u q).stay (fun c v hc r=>k c v ?_ r) (fun c r=>by rw [aB (nown c b r)];exact r) fun c xs r=>by rw [aB (ntup c xs r)];exact r
   rcases hc with rfl | hc
   ·exact hbe
   ·rintro rfl
    rcases he with z | z
    ·exact nown c b hc z
    ·rw [hc] at z;cases z;exact hb rfl
end
structure Un (fs ex:List Addr) (H H':Hp) (h h':Heap):Prop where
 keep:∀ b o,h.get? b=some o→H b=none→b ∉ fs→b ∉ ex→h'.get? b=some o
 slot:∀ b o,h.get? b=some o→H b=none→b∈fs→b ∉ ex→∃ sl,h'.get? b=some {o with slots:=sl}
 free:∀ b o,h.get? b=some o→H b=none→b ∉ ex→H' b=none
 there:∀ b o,h.get? b=some o→b ∉ ex→∃ o',h'.get? b=some o'
 tups:∀ b xs,H b=some (.tup xs)→H' b=some (.tup xs)
 frzs:∀ b o u,H b=some (.frz o u)→H' b=some (.frz o u)
 tbls:∀ b ps,H b=some (.tbl ps)→∃ more,H' b=some (.tbl (ps ++ more))
section
variable {fs fs' ex ex':List Addr} {H H1 H2:Hp} {h h1 h2 h':Heap} {a x e:Addr} {o:HO}
theorem Un.any (u:Un fs ex H H1 h h1) {b:Addr} {ob:Obj} (q:h.get? b=some ob) (n:H b=none) (hx:b ∉ ex):∃ sl,h1.get? b=some {ob with slots:=sl}:=by
 by_cases hb:b∈fs
 ·exact u.slot b ob q n hb hx
 ·exact ⟨ob.slots,u.keep b ob q n hb hx⟩
theorem Un.kept (k:∀ b u,h.get? b=some u→h'.get? b=some u):Un fs ex H H h h':=
 ⟨fun b ob q _ _ _=>k b ob q,fun b ob q _ _ _=>⟨ob.slots,k b ob q⟩,fun _ _ _ n _=>n,fun b ob q _=>⟨ob,k b ob q⟩,fun _ _ q=>q,fun _ _ _ q=>q,fun _ ps q=>⟨#[],by rw [q];simp⟩⟩
theorem Un.refl:Un fs ex H H h h:=Un.kept fun _ _ q=>q
theorem Un.laid (k:∀ b u,h.get? b=some u→h'.get? b=some u) (hp:h.objs.size≤a) (hn:H a=none):Un fs ex H (upd H a o) h h' where
 keep:=fun b u q _ _ _=>k b u q
 slot:=fun b u q _ _ _=>⟨u.slots,k b u q⟩
 free:=fun b u q n _=>by rw [aB (Nat.ne_of_lt (Nat.lt_of_lt_of_le (Heap.lt_size q) hp))];exact n
 there:=fun b u q _=>⟨u,k b u q⟩
 tups:=fun b xs q=>by rw [aB (iy q hn)];exact q
 frzs:=fun b u xs q=>by rw [aB (iy q hn)];exact q
 tbls:=fun b ps q=>⟨#[],by rw [aB (iy q hn),q];simp⟩
theorem Un.write (mu:Ss (H x)) (he:e=x∨H e=some (.own x)) (k:∀ b u,b≠e→h.get? b=some u→h'.get? b=some u) (heo:∃ u,h'.get? e=some u):Un fs ex H (upd H x o) h h':=by
 have hx:∀ b,H b=none→b≠x:=fun b n z=>by subst z;rw [n] at mu;exact mu
 have hb:∀ b,H b=none→b≠e:=fun b n z=>by
  subst z
  rcases he with r | r
  ·exact hx b n r
  ·rw [n] at r;cases r
 have hm:∀ b u,H b=some u→¬ Ss (some u)→b≠x:=fun b u q nm z=>by subst z;rw [q] at mu;exact nm mu
 refine ⟨fun b u q n _ _=>k b u (hb b n) q,fun b u q n _ _=>⟨u.slots,k b u (hb b n) q⟩,fun b u q n _=>by rw [aB (hx b n)];exact n,fun b u q _=>?_,
  fun b xs q=>by rw [aB (hm b _ q fun z=>z)];exact q,fun b u xs q=>by rw [aB (hm b _ q fun z=>z)];exact q,fun b ps q=>⟨#[],by rw [aB (hm b _ q fun z=>z),q];simp⟩⟩
 by_cases hbe:b=e
 ·subst hbe;exact heo
 ·exact ⟨u,k b u hbe q⟩
end
def Je (h:Heap) (H:Hp):List Addr:=(List.range h.objs.size).filter fun a=>(H a).isSome
def vJ (h:Heap) (H:Hp):Heap:=PySem.W.hideAll h (Je h H)
theorem By (h:Heap) (H:Hp):(vJ h H).objs.size=h.objs.size:=PySem.W.hideAll_size _ _
theorem DW {h:Heap} {H:Hp} {b:Addr} {o:Obj} (e:h.get? b=some o) (n:H b=none):(vJ h H).get? b=some o:=
 PySem.W.hideAll_get _ e fun hm=>by
  have q:(H b).isSome=true:=(List.mem_filter.mp hm).2
  rw [n] at q;simp at q
theorem Jg {h:Heap} {H:Hp} {b:Addr} {o:Obj} (e:(vJ h H).get? b=some o):h.get? b=some o∧H b=none:=by
 have e':h.get? b=some o:=PySem.W.of_hideAll (Je h H) e
 refine ⟨e',?_⟩
 cases q:H b with
 | none=>rfl
 | some x=>
  have hm:b∈Je h H:=List.mem_filter.mpr ⟨List.mem_range.mpr (Heap.lt_size e'),by simp [q]⟩
  have z:(vJ h H).get? b=none:=PySem.W.hideAll_none (Je h H) hm
  rw [z] at e;cases e
end L2
namespace L2
open PySem PySem.Spec PyProof.Rows
structure Mod (K:PySem.W.Frag) (mg:Str→Option Value) (base:Heap):Prop where
 kin:K.In base
 glob:base.Ns mainGlobals mg
 blt:∃ mb,base.Ns builtinsNs mb∧∀ x:Str,x≠"__name__"→mb x=bootBuiltins x
 nolimit:base.NoLimit
 sysm:∃ mm,base.Ns sysModules mm
structure Cx where
 prog:Program
 w:World
 K:PySem.W.Frag
 mg:Str→Option Value
 base:Heap
 A:Around
 N:List Str
 s₀:Shared
 H₀:Hp
 env:Env
 outer:List Env
 stack:List Env
 ex:List Addr
 fn:Str→Bool
 calm:Bool
 pn:List (Addr×Obj)
 xe:Value→Shared→Prop
def frs (l:List Env):List Addr:=l.filterMap (·.frame)
abbrev Cx.fs (X:Cx):List Addr:=frs X.outer
def Vis (sc:Scope) (x:Str):Prop:=sc.names.lookup x=some .local∨sc.names.lookup x=some .cell∨sc.names.lookup x=some .free
def Loc (sc:Scope) (x:Str):Prop:=sc.names.lookup x=some .local∨sc.names.lookup x=some .cell
def Look (env:Env) (h:Heap) (m:Str→Option Value) (x:Str) (u:Value):Prop:=
 (env.kindOf x=some .local∧m x=some u)∨((env.kindOf x=some .cell∨env.kindOf x=some .free)∧∃ c,env.cells.lookup x=some c∧h.IsCell c (some u))
structure Cx.Ok (X:Cx):Prop where
 mod:Mod X.K X.mg X.base
 kind:X.env.scope.kind= .function
 glob:X.env.globals=mainGlobals
 blt:X.env.builtins=builtinsNs
 above:X.s₀.heap.objs.size≤X.env.locals
 inj:∀ x y c,X.env.cells.lookup x=some c→X.env.cells.lookup y=some c→x=y
 has:∀ x,(X.env.kindOf x=some .cell∨X.env.kindOf x=some .free)→∃ c,X.env.cells.lookup x=some c
 cab:∀ x c,X.fn x=true→X.env.cells.lookup x=some c→X.s₀.heap.objs.size≤c
 hd:X.calm=true→X.A.handled=none
 frames:X.A.frames=some X.stack
 stk:X.stack=X.outer∨(X.stack=X.env :: X.outer∧X.env.frame=some X.env.locals)
 exf:∀ b∈X.ex,b≠X.env.locals∧∀ x c,X.env.cells.lookup x=some c→c≠b
 bs:∀ b o,X.base.get? b=some o→X.s₀.heap.get? b=some o∧X.H₀ b=none
 bsz:X.base.objs.size≤X.s₀.heap.objs.size
 noex:∀ b o,X.base.get? b=some o→b ∉ X.ex
 exfs:∀ b∈X.ex,b ∉ X.fs
 funs:X.s₀.heap.FunFrames X.base X.outer
 frf:∀ b∈X.fs,X.H₀ b=none
structure Inv (X:Cx) (pins:List (Addr×Obj)) (σ:List (Option V)) (H:Hp) (s:Shared):Prop where
 ok:X.Ok
 os:s.os=X.s₀.os
 bare:AllBare s.gens
 base:Un X.fs X.ex X.H₀ H X.s₀.heap s.heap
 loc:∃ m,s.heap.Ns X.env.locals m∧∀ (i:Nat) (x:Str) (v:V),X.N[i]?=some x→σ[i]?=some (some v)→Vis X.env.scope x→∃ u,RelV v u∧Look X.env s.heap m x u
 cell:∀ x c,X.env.cells.lookup x=some c→∃ v,s.heap.IsCell c v
 free:H X.env.locals=none
 freeC:∀ x c,X.env.cells.lookup x=some c→H c=none
 pin:∀ p∈X.pn ++ pins,s.heap.get? p.1=some p.2∧H p.1=none∧p.1≠X.env.locals∧p.1 ∉ X.fs∧∀ v,p.2.data≠.cell v
 hok:HOk X.prog X.w H s.heap
 len:σ.length=X.N.length
section
variable {X:Cx} {pins:List (Addr×Obj)} {σ:List (Option V)} {H H':Hp} {s:Shared} {h':Heap}
theorem Cx.Ok.nofr (ok:X.Ok) {b:Addr} {o:Obj} (e:X.base.get? b=some o):b ∉ X.fs:=fun hb=>by
 have:=(ok.funs.mem hb).1
 rw [e] at this;cases this
theorem Inv.bs (I:Inv X pins σ H s):∀ b o,X.base.get? b=some o→s.heap.get? b=some o∧H b=none:=fun b o e=>
 ⟨I.base.keep b o (I.ok.bs b o e).1 (I.ok.bs b o e).2 (I.ok.nofr e) (I.ok.noex b o e),I.base.free b o (I.ok.bs b o e).1 (I.ok.bs b o e).2 (I.ok.noex b o e)⟩
theorem Inv.bk (I:Inv X pins σ H s):∀ b o,X.base.get? b=some o→s.heap.get? b=some o:=fun b o e=>(I.bs b o e).1
theorem Inv.mod (I:Inv X pins σ H s):Mod X.K X.mg X.base:=I.ok.mod
theorem Inv.kIn (I:Inv X pins σ H s):X.K.In s.heap:=I.ok.mod.kin.keeps I.bk
theorem Inv.lt (I:Inv X pins σ H s):X.env.locals < s.heap.objs.size:=let ⟨_,hn,_⟩:=I.loc;hn.lt
theorem Inv.sz (I:Inv X pins σ H s):X.s₀.heap.objs.size≤s.heap.objs.size:=Nat.le_trans I.ok.above (Nat.le_of_lt I.lt)
theorem Inv.nofs (I:Inv X pins σ H s) {a:Addr} (h:s.heap.objs.size≤a):a ∉ X.fs:=fun hb=>by
 obtain ⟨_,o,ho,_⟩:=I.ok.funs.mem hb
 exact absurd (Nat.lt_of_lt_of_le (Heap.lt_size ho) (Nat.le_trans I.sz h)) (Nat.lt_irrefl _)
theorem Inv.cne (I:Inv X pins σ H s):∀ x c,X.env.cells.lookup x=some c→c≠X.env.locals:=fun x c e z=>by
 obtain ⟨v,o,ho,hd⟩:=I.cell x c e
 obtain ⟨m,⟨o',es,ep,ho',hd',_⟩,_⟩:=I.loc
 rw [z,ho'] at ho;cases ho;rw [hd'] at hd;cases hd
theorem Inv.funs (I:Inv X pins σ H s):s.heap.FunFrames X.base X.outer:=by
 have all:∀ (l:List Env),(∀ b∈frs l,b∈X.fs)→X.s₀.heap.FunFrames X.base l→s.heap.FunFrames X.base l:=by
  intro l
  induction l with
  | nil=>intro _ _;trivial
  | cons env r ih=>
   intro hs hl
   obtain ⟨hk,⟨L,o,hf,hn,ho,hd⟩,hr⟩:=hl
   have hL:L∈X.fs:=hs L (by unfold frs;rw [List.filterMap_cons,hf];exact List.mem_cons_self)
   obtain ⟨sl,e⟩:=I.base.slot L o ho (I.ok.frf L hL) hL fun z=>I.ok.exfs L z hL
   exact ⟨hk,⟨L,_,hf,hn,e,hd⟩,ih (fun b hb=>hs b (by unfold frs;rw [List.filterMap_cons,hf];exact List.mem_cons_of_mem _ hb)) hr⟩
 exact all X.outer (fun _ hb=>hb) I.ok.funs
theorem Inv.stack (I:Inv X pins σ H s):s.heap.FunFrames X.base X.stack:=by
 rcases I.ok.stk with e | ⟨e,hf⟩
 ·rw [e];exact I.funs
 ·rw [e]
  obtain ⟨m,hn,_⟩:=I.loc
  refine .cons (by rw [I.ok.kind];decide) hf hn ?_ I.funs
  exact Heap.get?_none_of_le (Nat.le_trans I.ok.bsz I.ok.above)
theorem Inv.stkSub (I:Inv X pins σ H s):∀ b∈frs X.stack,b∈X.env.locals :: X.fs:=fun b hb=>by
 rcases I.ok.stk with e | ⟨e,hf⟩
 ·rw [e] at hb;exact List.mem_cons_of_mem _ hb
 ·rw [e] at hb
  unfold frs at hb
  rw [List.filterMap_cons,hf] at hb
  exact hb
theorem Inv.stkFree (I:Inv X pins σ H s):∀ b∈frs X.stack,H b=none:=fun b hb=>by
 rcases List.mem_cons.mp (I.stkSub b hb) with e | hb
 ·rw [e];exact I.free
 ·obtain ⟨_,o,ho,_⟩:=I.ok.funs.mem hb
  exact I.base.free b o ho (I.ok.frf b hb) fun z=>I.ok.exfs b z hb
theorem Inv.step {g':Array GenState} {t':Nat} {d':Drawn} {ch:List Addr} (I:Inv X pins σ H s)
  (hch:∀ b∈ch,(b∈X.ex∨X.s₀.heap.objs.size≤b)∧b≠X.env.locals∧(∀ x c,X.env.cells.lookup x=some c→c≠b)∧∀ p∈X.pn ++ pins,p.1≠b)
  (keep:∀ b o,b≠X.env.locals→b ∉ X.fs→b ∉ ch→s.heap.get? b=some o→H b=none→h'.get? b=some o)
  (slot:∀ b o,b≠X.env.locals→b∈X.fs→b ∉ ch→s.heap.get? b=some o→H b=none→∃ sl,h'.get? b=some {o with slots:=sl}) (free:∀ b o,b ∉ ch→s.heap.get? b=some o→H b=none→H' b=none)
  (there:∀ b o,b ∉ ch→s.heap.get? b=some o→∃ o',h'.get? b=some o')
  (tups:∀ b xs,H b=some (.tup xs)→H' b=some (.tup xs)) (frzs:∀ b o u,H b=some (.frz o u)→H' b=some (.frz o u)) (tbls:∀ b ps,H b=some (.tbl ps)→∃ more,H' b=some (.tbl (ps ++ more)))
  (ns:∀ m,s.heap.Ns X.env.locals m→h'.Ns X.env.locals m) (hok:HOk X.prog X.w H' h') (hg:AllBare g'):
  Inv X pins σ H' {s with heap:=h',gens:=g',drawn:=d',toks:=t'}:=by
 have neL:∀ b o,X.s₀.heap.get? b=some o→b≠X.env.locals:=fun b o e=>Nat.ne_of_lt (Nat.lt_of_lt_of_le (Heap.lt_size e) I.ok.above)
 have neC:∀ b o,X.s₀.heap.get? b=some o→b ∉ X.ex→b ∉ ch:=fun b o e hx hb=>by
  rcases (hch b hb).1 with z | z
  ·exact hx z
  ·exact absurd (Nat.lt_of_lt_of_le (Heap.lt_size e) z) (Nat.lt_irrefl _)
 have cellK:∀ x c,X.env.cells.lookup x=some c→∀ v,s.heap.IsCell c v→h'.IsCell c v:=fun x c e v ⟨o,ho,hd⟩=>by
  have nch:c ∉ ch:=fun z=>(hch c z).2.2.1 x c e rfl
  by_cases hc:c∈X.fs
  ·obtain ⟨sl,q⟩:=slot c o (I.cne x c e) hc nch ho (I.freeC x c e)
   exact ⟨_,q,hd⟩
  ·exact ⟨o,keep c o (I.cne x c e) hc nch ho (I.freeC x c e),hd⟩
 refine ⟨I.ok,I.os,hg,⟨fun b o e n hb hx=>?_,fun b o e n hb hx=>?_,fun b o e n hx=>?_,fun b o e hx=>?_,fun b xs e=>tups b xs (I.base.tups b xs e),fun b o xs e=>frzs b o xs (I.base.frzs b o xs e),fun b ps e=>?_⟩,?_,fun x c e=>?_,?_,fun x c e=>?_,fun p hp=>?_,hok,I.len⟩
 ·exact keep b o (neL b o e) hb (neC b o e hx) (I.base.keep b o e n hb hx) (I.base.free b o e n hx)
 ·obtain ⟨sl,e1⟩:=I.base.slot b o e n hb hx
  obtain ⟨sl',e2⟩:=slot b _ (neL b o e) hb (neC b o e hx) e1 (I.base.free b o e n hx)
  exact ⟨sl',e2⟩
 ·obtain ⟨o',e1⟩:=I.base.there b o e hx
  exact free b o' (neC b o e hx) e1 (I.base.free b o e n hx)
 ·obtain ⟨o',e1⟩:=I.base.there b o e hx
  exact there b o' (neC b o e hx) e1
 ·obtain ⟨m1,e1⟩:=I.base.tbls b ps e
  obtain ⟨m2,e2⟩:=tbls b _ e1
  exact ⟨m1 ++ m2,by rw [e2,Array.append_assoc]⟩
 ·obtain ⟨m,hn,hl⟩:=I.loc
  refine ⟨m,ns m hn,fun i x v e1 e2 e3=>?_⟩
  obtain ⟨u,r,l⟩:=hl i x v e1 e2 e3
  refine ⟨u,r,?_⟩
  rcases l with l | ⟨k,c,e,z⟩
  ·exact .inl l
  ·exact .inr ⟨k,c,e,cellK x c e _ z⟩
 ·obtain ⟨v,z⟩:=I.cell x c e
  exact ⟨v,cellK x c e v z⟩
 ·obtain ⟨m,⟨o,_,_,ho,_⟩,_⟩:=I.loc
  exact free _ o (fun z=>(hch _ z).2.1 rfl) ho I.free
 ·obtain ⟨v,o,ho,hd⟩:=I.cell x c e
  exact free c o (fun z=>(hch c z).2.2.1 x c e rfl) ho (I.freeC x c e)
 ·obtain ⟨e,n,ne,nf,d⟩:=I.pin p hp
  have nch:p.1 ∉ ch:=fun z=>(hch p.1 z).2.2.2 p hp rfl
  exact ⟨keep p.1 p.2 ne nf nch e n,free p.1 p.2 nch e n,ne,nf,d⟩
theorem Inv.un {t':Nat} (I:Inv X pins σ H s) (u:Un X.fs [] H H' s.heap h') (hok:HOk X.prog X.w H' h'):Inv X pins σ H' {s with heap:=h',toks:=t'}:=by
 obtain ⟨m,⟨o,es,ep,ho,r⟩,_⟩:=id I.loc
 obtain ⟨sl,hL⟩:=u.any ho I.free (by simp)
 exact I.step (g':=s.gens) (d':=s.drawn) (ch:=[]) (fun _ z=>nomatch z) (fun b o _ hb _ e n=>u.keep b o e n hb (by simp)) (fun b o _ hb _ e n=>u.slot b o e n hb (by simp)) (fun b o _ e n=>u.free b o e n (by simp)) (fun b o _ e=>u.there b o e (by simp)) u.tups u.frzs u.tbls (fun m' hm=>by
  obtain ⟨o',es',ep',ho',r'⟩:=hm
  rw [ho] at ho';cases ho'
  exact ⟨_,es',ep',hL,r'⟩) hok I.bare
theorem Inv.call {g':Array GenState} {t':Nat} {d':Drawn} {ch:List Addr} (I:Inv X pins σ H s) (u:Un (frs X.stack) ch H H' s.heap h') (hok:HOk X.prog X.w H' h') (hg:AllBare g')
  (hch:∀ b∈ch,(b∈X.ex∨X.s₀.heap.objs.size≤b)∧b≠X.env.locals∧(∀ x c,X.env.cells.lookup x=some c→c≠b)∧∀ p∈X.pn ++ pins,p.1≠b):
  Inv X pins σ H' {s with heap:=h',gens:=g',drawn:=d',toks:=t'}:=by
 obtain ⟨m,⟨o,es,ep,ho,r⟩,_⟩:=id I.loc
 obtain ⟨sl,hL⟩:=u.any ho I.free fun z=>(hch _ z).2.1 rfl
 exact I.step (ch:=ch) hch (fun b o hL hb hc e n=>u.keep b o e n (fun z=>(List.mem_cons.mp (I.stkSub b z)).elim hL hb) hc) (fun b o _ _ hc e n=>u.any e n hc) (fun b o hc e n=>u.free b o e n hc) (fun b o hc e=>u.there b o e hc) u.tups u.frzs u.tbls (fun m' hm=>by
  obtain ⟨o',es',ep',ho',r'⟩:=hm
  rw [ho] at ho';cases ho'
  exact ⟨_,es',ep',hL,r'⟩) hok hg
theorem Inv.turned {t':Nat} {it:Addr} (I:Inv X pins σ H s) (k:∀ b o,b≠it→s.heap.get? b=some o→h'.get? b=some o) (hn:H it=none) (hL:it≠X.env.locals)
  (h1:it∈X.ex∨X.s₀.heap.objs.size≤it) (h2:∀ x c,X.env.cells.lookup x=some c→c≠it) (h3:∀ p∈X.pn ++ pins,p.1≠it):Inv X pins σ H {s with heap:=h',toks:=t'}:=by
 have nit:∀ b u,H b=some u→b≠it:=fun b u e z=>by rw [z,hn] at e;cases e
 refine I.step (g':=s.gens) (d':=s.drawn) (ch:=[it]) (fun b hb=>?_) (fun b o _ _ hc e _=>k b o (fun z=>hc (by simp [z])) e) (fun b o _ _ hc e _=>⟨o.slots,k b o (fun z=>hc (by simp [z])) e⟩) (fun _ _ _ _ n=>n)
  (fun b o hc e=>⟨o,k b o (fun z=>hc (by simp [z])) e⟩) (fun _ _ e=>e) (fun _ _ _ e=>e) (fun b ps e=>⟨#[],by rw [e];simp⟩) (fun m hm=>?_) (fun b u e=>?_) I.bare
 ·have e:b=it:=by simpa using hb
  subst e
  exact ⟨h1,hL,h2,h3⟩
 ·obtain ⟨o,es,ep,ho,r⟩:=hm
  exact ⟨o,es,ep,k _ o (Ne.symm hL) ho,r⟩
 ·refine (I.hok b u e).stay (fun c v hc q=>k c v ?_ q) (fun _ q=>q) fun _ _ q=>q
  rcases hc with z | z
  ·rw [z];exact nit b u e
  ·exact nit c _ z
theorem Inv.tok (I:Inv X pins σ H s) (t:Nat):Inv X pins σ H {s with toks:=t}:=I.un (h':=s.heap) (t':=t) Un.refl I.hok
theorem Inv.kept {t':Nat} (I:Inv X pins σ H s) (k:∀ b u,s.heap.get? b=some u→h'.get? b=some u):Inv X pins σ H {s with heap:=h',toks:=t'}:=I.un (Un.kept k) (I.hok.kept k)
theorem Inv.laid {a:Addr} {o:HO} {t':Nat} (I:Inv X pins σ H s) (k:∀ b u,s.heap.get? b=some u→h'.get? b=some u) (hp:s.heap.objs.size≤a) (new:ObjOk X.prog X.w (upd H a o) h' a o):
  Inv X pins σ (upd H a o) {s with heap:=h',toks:=t'}:=I.un (Un.laid k hp (I.hok.fresh hp)) (I.hok.laid k hp new)
theorem Inv.write {x e:Addr} {o:HO} {t':Nat} (I:Inv X pins σ H s) (mu:Ss (H x)) (he:e=x∨H e=some (.own x)) (k:∀ b u,b≠e→s.heap.get? b=some u→h'.get? b=some u) (heo:∃ u,h'.get? e=some u)
  (new:ObjOk X.prog X.w (upd H x o) h' x o):Inv X pins σ (upd H x o) {s with heap:=h',toks:=t'}:=I.un (Un.write mu he k heo) (I.hok.write mu he k heo new)
theorem Inv.weak {σ':List (Option V)} (I:Inv X pins σ H s) (hl:σ'.length=σ.length) (w:∀ (i:Nat) v,σ'[i]?=some (some v)→σ[i]?=some (some v)):Inv X pins σ' H s:=
 ⟨I.ok,I.os,I.bare,I.base,let ⟨m,hn,hl'⟩:=I.loc;⟨m,hn,fun i x v e1 e2 e3=>hl' i x v e1 (w i v e2) e3⟩,I.cell,I.free,I.freeC,I.pin,I.hok,hl.trans I.len⟩
theorem Inv.pins_of {pins':List (Addr×Obj)} (I:Inv X pins σ H s) (h:∀ p∈pins',s.heap.get? p.1=some p.2∧H p.1=none∧p.1≠X.env.locals∧p.1 ∉ X.fs∧∀ v,p.2.data≠.cell v):Inv X pins' σ H s:=
 ⟨I.ok,I.os,I.bare,I.base,I.loc,I.cell,I.free,I.freeC,fun p hp=>(List.mem_append.mp hp).elim (fun z=>I.pin p (List.mem_append_left _ z)) (h p),I.hok,I.len⟩
theorem wW {N:List Str} (hN:N.Nodup) {i j:Nat} {x:Str} (a:N[i]?=some x) (b:N[j]?=some x):i=j:=by
 obtain ⟨h1,e1⟩:=List.getElem?_eq_some_iff.mp a
 obtain ⟨h2,e2⟩:=List.getElem?_eq_some_iff.mp b
 exact (List.getElem_inj hN).mp (e1.trans e2.symm)
theorem uE {M:Model} {A:Around} {E:Value→Shared→Prop} {i:Nat} {x:Str} {v:V} {u:Value} {Q:Unit→Shared→Prop} (I:Inv X pins σ H s) (hN:X.N.Nodup) (hi:X.N[i]?=some x) (hx:Loc X.env.scope x) (r:RelV v u)
  (h:∀ s',Inv X pins (σ.set i (some v)) H s'→(∃ a,Heap.SameBut a s.heap s'.heap∧(a=X.env.locals∨X.env.cells.lookup x=some a))→Q () s') (hf:autoParam (X.fn x=true∨X.env.scope.names.lookup x=some .local) L2.auto1._auto_1):wpAny M A (storeName X.env x u) Q E s:=by
 obtain ⟨m,hn,hl⟩:=id I.loc
 have hcls:(X.env.scope.kind == .class || (X.env.scope.kind == .module && X.env.locals != X.env.globals))=false:=by rw [I.ok.kind];rfl
 have hiσ:i < σ.length:=by rw [I.len];exact (List.getElem?_eq_some_iff.mp hi).1
 have cne:=I.cne
 have tracked:∀ {a:Addr} {h':Heap},(∃ o,s.heap.get? a=some o∧H a=none)→Heap.SameBut a s.heap h'→HOk X.prog X.w H h':=fun {a h'} ha hs b ob e=>by
  obtain ⟨_,_,hfree⟩:=ha
  refine (I.hok b ob e).stay (fun c w' hc q=>(hs.2 c ?_).trans q) (fun _ q=>q) fun _ _ q=>q
  rintro rfl
  rcases hc with rfl | hc
  ·rw [hfree] at e;cases e
  ·rw [hfree] at hc;cases hc
 rcases hx with hk | hk
 ·refine wpAny_storeName_local hk hn (fun h' hn' hs=>?_) hcls
  obtain ⟨oL,_,_,hoL,_⟩:=id hn
  refine h _ ⟨I.ok,I.os,I.bare,⟨fun b o e n hb hx=>?_,fun b o e n hb hx=>?_,I.base.free,fun b o e hx=>?_,I.base.tups,I.base.frzs,I.base.tbls⟩,⟨_,hn',fun j y v' e1 e2 e3=>?_⟩,fun y c e=>?_,I.free,I.freeC,fun p hp=>?_,tracked ⟨oL,hoL,I.free⟩ hs,by simpa using I.len⟩ ⟨_,hs,.inl rfl⟩
  ·exact (hs.2 b (Nat.ne_of_lt (Nat.lt_of_lt_of_le (Heap.lt_size e) I.ok.above))).trans (I.base.keep b o e n hb hx)
  ·obtain ⟨sl,e1⟩:=I.base.slot b o e n hb hx
   exact ⟨sl,(hs.2 b (Nat.ne_of_lt (Nat.lt_of_lt_of_le (Heap.lt_size e) I.ok.above))).trans e1⟩
  ·obtain ⟨o',e1⟩:=I.base.there b o e hx
   exact ⟨o',(hs.2 b (Nat.ne_of_lt (Nat.lt_of_lt_of_le (Heap.lt_size e) I.ok.above))).trans e1⟩
  ·by_cases hj:j=i
   ·subst hj
    rw [hi] at e1;cases e1
    rw [List.getElem?_set_self hiσ] at e2
    cases e2
    exact ⟨u,r,.inl ⟨hk,by simp⟩⟩
   ·rw [List.getElem?_set_ne (Ne.symm hj)] at e2
    obtain ⟨u',r',q⟩:=hl j y v' e1 e2 e3
    refine ⟨u',r',?_⟩
    rcases q with ⟨k,e⟩ | ⟨k,c,e,z⟩
    ·refine .inl ⟨k,?_⟩
     have:y≠x:=fun e=>hj (wW hN e1 (e ▸ hi))
     simp [this,e]
    ·exact .inr ⟨k,c,e,z.sameBut hs (cne y c e)⟩
  ·obtain ⟨w',z⟩:=I.cell y c e
   exact ⟨w',z.sameBut hs (cne y c e)⟩
  ·obtain ⟨e,n,ne,nf,d⟩:=I.pin p hp
   exact ⟨(hs.2 p.1 ne).trans e,n,ne,nf,d⟩
 ·have hfn:X.fn x=true:=by
   rcases hf with z | z
   ·exact z
   ·rw [z] at hk;cases hk
  obtain ⟨c,hc⟩:=I.ok.has x (.inl hk)
  obtain ⟨w',z⟩:=I.cell x c hc
  refine wpAny_storeName_cell I.ok.kind hk hc z (fun h' hc' hs=>?_)
  obtain ⟨oc,hoc,hocd⟩:=id z
  refine h {s with heap:=h'} ⟨I.ok,I.os,I.bare,⟨fun b o e n hb hx=>?_,fun b o e n hb hx=>?_,I.base.free,fun b o e hx=>?_,I.base.tups,I.base.frzs,I.base.tbls⟩,⟨m,hn.sameBut hs (Ne.symm (cne x c hc)),fun j y v' e1 e2 e3=>?_⟩,fun y c' e=>?_,I.free,I.freeC,fun p hp=>?_,tracked ⟨oc,hoc,I.freeC x c hc⟩ hs,by simpa using I.len⟩ ⟨c,hs,.inr hc⟩
  ·exact (hs.2 b (Nat.ne_of_lt (Nat.lt_of_lt_of_le (Heap.lt_size e) (I.ok.cab x c hfn hc)))).trans (I.base.keep b o e n hb hx)
  ·obtain ⟨sl,e1⟩:=I.base.slot b o e n hb hx
   exact ⟨sl,(hs.2 b (Nat.ne_of_lt (Nat.lt_of_lt_of_le (Heap.lt_size e) (I.ok.cab x c hfn hc)))).trans e1⟩
  ·obtain ⟨o',e1⟩:=I.base.there b o e hx
   exact ⟨o',(hs.2 b (Nat.ne_of_lt (Nat.lt_of_lt_of_le (Heap.lt_size e) (I.ok.cab x c hfn hc)))).trans e1⟩
  ·by_cases hj:j=i
   ·subst hj
    rw [hi] at e1;cases e1
    rw [List.getElem?_set_self hiσ] at e2
    cases e2
    exact ⟨u,r,.inr ⟨.inl hk,c,hc,hc'⟩⟩
   ·rw [List.getElem?_set_ne (Ne.symm hj)] at e2
    obtain ⟨u',r',q⟩:=hl j y v' e1 e2 e3
    refine ⟨u',r',?_⟩
    rcases q with q | ⟨k,c',e,z'⟩
    ·exact .inl q
    ·refine .inr ⟨k,c',e,z'.sameBut hs ?_⟩
     rintro rfl
     exact hj (wW hN e1 (I.ok.inj _ _ _ e hc ▸ hi))
  ·by_cases hcc:c'=c
   ·subst hcc;exact ⟨_,hc'⟩
   ·obtain ⟨w2,z2⟩:=I.cell y c' e
    exact ⟨w2,z2.sameBut hs hcc⟩
  ·obtain ⟨e,n,ne,nf,d⟩:=I.pin p hp
   refine ⟨(hs.2 p.1 ?_).trans e,n,ne,nf,d⟩
   intro q
   rw [q,hoc] at e
   have q':oc=p.2:=Option.some.inj e
   exact d w' (by rw [← q'];exact hocd)
theorem wX {M:Model} {A:Around} {E:Value→Shared→Prop} {i:Nat} {x:Str} {v:V} {u:Value} {Q:Unit→Shared→Prop} (I:Inv X pins σ H s) (hN:X.N.Nodup) (hi:X.N[i]?=some x) (hx:Loc X.env.scope x) (r:RelV v u)
  (h:∀ s',Inv X pins (σ.set i (some v)) H s'→Q () s') (hf:autoParam (X.fn x=true∨X.env.scope.names.lookup x=some .local) L2.auto1._auto_1):wpAny M A (storeName X.env x u) Q E s:=
 uE I hN hi hx r (fun s' I' _=>h s' I') hf
theorem Inv.call' {s':Shared} {ch:List Addr} (I:Inv X pins σ H s) (ho:s'.os=s.os) (u:Un (frs X.stack) ch H H' s.heap s'.heap) (hok:HOk X.prog X.w H' s'.heap) (hg:AllBare s'.gens)
  (hch:∀ b∈ch,(b∈X.ex∨X.s₀.heap.objs.size≤b)∧b≠X.env.locals∧(∀ x c,X.env.cells.lookup x=some c→c≠b)∧∀ p∈X.pn ++ pins,p.1≠b):Inv X pins σ H' s':=by
 obtain ⟨h',g',d',t',o'⟩:=s'
 have e:o'=s.os:=ho
 subst e
 exact I.call (g':=g') (t':=t') (d':=d') u hok hg hch
end
abbrev XK:=Value→Option Addr→Hp→Prop
abbrev St:=List (Option V)
abbrev VK:=V→Hp→Prop
abbrev TE:=St→Hp→VK→Prop
abbrev TT:=St→Hp→(Bool→Hp→Prop)→Prop
abbrev TA:=St→Hp→(List V→Hp→Prop)→Prop
structure Ends where
 nx:St→Hp→Prop
 rt:VK
 bk:St→Hp→Prop:=fun _ _=>False
 ct:St→Hp→Prop:=fun _ _=>False
abbrev TS:=Ends→St→Hp→Prop
def EP (X:Cx) (pins:List (Addr×Obj)) (σ:St) (Q:VK) (u:Value) (s':Shared):Prop:=∃ v H',Inv X pins σ H' s'∧RelV v u∧Q v H'
def TP (X:Cx) (pins:List (Addr×Obj)) (σ:St) (Q:Bool→Hp→Prop) (b:Bool) (s':Shared):Prop:=∃ H',Inv X pins σ H' s'∧Q b H'
def AP (X:Cx) (pins:List (Addr×Obj)) (σ:St) (Q:List V→Hp→Prop) (us:List Value) (s':Shared):Prop:=∃ vs H',Inv X pins σ H' s'∧Vals vs us∧Q vs H'
def SP (X:Cx) (pins:List (Addr×Obj)) (D:Ends) (f:Flow) (s':Shared):Prop:=
 match f with
 | .next=>∃ σ' H',Inv X pins σ' H' s'∧D.nx σ' H'
 | .brk=>∃ σ' H',Inv X pins σ' H' s'∧D.bk σ' H'
 | .cont=>∃ σ' H',Inv X pins σ' H' s'∧D.ct σ' H'
 | .ret u=>∃ v σ' H',Inv X pins σ' H' s'∧RelV v u∧D.rt v H'
def PE (X:Cx) (e:Expr) (t:TE):Prop:=
 ∀ (pins:List (Addr×Obj)) (s:Shared) (σ:St) (H:Hp) (Q:VK),Inv X pins σ H s→t σ H Q→wpAny (model X.prog X.w) X.A (eval e X.env) (EP X pins σ Q) X.xe s
def PT (X:Cx) (e:Expr) (t:TT):Prop:=
 ∀ (pins:List (Addr×Obj)) (s:Shared) (σ:St) (H:Hp) (Q:Bool→Hp→Prop),Inv X pins σ H s→t σ H Q→wpAny (model X.prog X.w) X.A (isTrue e X.env (eval e X.env)) (TP X pins σ Q) X.xe s
def PW (X:Cx) (e:Expr) (t:TT):Prop:=
 ∀ (whole:Sem Value) (pins:List (Addr×Obj)) (s:Shared) (σ:St) (H:Hp) (Q:Bool→Hp→Prop),Inv X pins σ H s→t σ H Q→wpAny (model X.prog X.w) X.A (isTrue e X.env whole) (TP X pins σ Q) X.xe s
theorem PW.pt {X:Cx} {e:Expr} {t:TT} (h:PW X e t):PT X e t:=h _
def PA (X:Cx) (es:List Expr) (t:TA):Prop:=
 ∀ (pos:Pos) (pins:List (Addr×Obj)) (s:Shared) (σ:St) (H:Hp) (Q:List V→Hp→Prop),Inv X pins σ H s→t σ H Q→wpAny (model X.prog X.w) X.A (spliced (backTo pos (starEach es X.env))) (AP X pins σ Q) X.xe s
def PS (X:Cx) (st:Stmt) (t:TS):Prop:=
 ∀ (pins:List (Addr×Obj)) (s:Shared) (σ:St) (H:Hp) (D:Ends),Inv X pins σ H s→t D σ H→wpAny (model X.prog X.w) X.A (exec st X.env) (SP X pins D) X.xe s
def PSs (X:Cx) (st:List Stmt) (t:TS):Prop:=
 ∀ (pins:List (Addr×Obj)) (s:Shared) (σ:St) (H:Hp) (D:Ends),Inv X pins σ H s→t D σ H→wpAny (model X.prog X.w) X.A (execs st X.env) (SP X pins D) X.xe s
theorem d8 {α:Type} {t:Sem α} {Q Q':α→Shared→Prop} {M:Model} {A:Around} {E:Value→Shared→Prop} {s:Shared} (h:wpAny M A t Q E s) (hQ:∀ a s,Q a s→Q' a s):wpAny M A t Q' E s:=wpAny_mono h hQ fun _ _ x=>x
end L2
namespace L2
open PySem PySem.Spec PyProof.Rows
section
variable {X:Cx}
def qW (i:Nat):TE:=fun σ H Q=>∃ v,σ[i]?=some (some v)∧Q v H
def tC (v:V):TE:=fun _ H Q=>Q v H
theorem vK {i:Nat} {x:Str} {pos:Pos} (hN:X.N[i]?=some x) (hv:Vis X.env.scope x) (hd:autoParam ((x == ("__debug__":Str))=false) L2.auto2._auto_1) (hcd:autoParam ((x == ("__classdict__":Str))=false) L2.auto2._auto_1):PE X (.Name x pos) (qW i):=by
 intro pins s σ H Q I h
 obtain ⟨v,e,h⟩:=h
 obtain ⟨m,hn,hl⟩:=I.loc
 obtain ⟨u,r,l⟩:=hl i x v hN e hv
 have fin:EP X pins σ Q u s:=⟨v,H,I,r,h⟩
 rcases l with ⟨hk,hm⟩ | ⟨hk,c,hc,hcell⟩
 ·exact wpAny_Name (wpAny_loadName_local I.ok.kind hk hn hm fin) hd
 ·rcases hk with hk | hk
  ·exact wpAny_Name (wpAny_loadName_cell I.ok.kind hk hc hcell fin) hd
  ·exact wpAny_Name (wpAny_loadName_free I.ok.kind hk hc hcell fin hcd) hd
theorem Nv {i j pos}:PE X (.Constant (.int i) j pos) (tC (.int i)):=fun _ _ _ H _ I h=>wpAny_Constant_int ⟨.int i,H,I.tok _,⟨_,rfl⟩,h⟩
theorem Su {b j pos}:PE X (.Constant (.bool b) j pos) (tC (.bl b)):=fun _ _ _ H _ I h=>Constant_bool ⟨.bl b,H,I,rfl,h⟩
theorem Ny {j pos}:PE X (.Constant .none j pos) (tC .non):=fun _ _ _ H _ I h=>Constant_none ⟨.non,H,I,rfl,h⟩
theorem Nz {x j pos}:PE X (.Constant (.str x) j pos) (tC (.str x)):=fun _ _ _ H _ I h=>Calls.Constant_str ⟨.str x,H,I.tok _,⟨_,rfl⟩,h⟩
def Gl (X:Cx) (x:Str):Prop:=X.env.kindOf x=some .globalImplicit
theorem rz {E:Value→Shared→Prop} {pins:List (Addr×Obj)} {s:Shared} {σ:St} {H:Hp} {x:Str} {u:Value} {pos:Pos} {Q:Value→Shared→Prop} (I:Inv X pins σ H s) (hg:Gl X x) (hm:X.mg x=some u) (h:Q u s)
  (hd:autoParam ((x == ("__debug__":Str))=false) L2.auto2._auto_1):wpAny (model X.prog X.w) X.A (eval (.Name x pos) X.env) Q E s:=
 Calls.Name_function_global I.ok.kind hg (Calls.loadGlobal_global (by rw [I.ok.glob];exact I.mod.glob.keeps I.bk) hm h) hd
theorem pC {E:Value→Shared→Prop} {pins:List (Addr×Obj)} {s:Shared} {σ:St} {H:Hp} {x:Str} {u:Value} {pos:Pos} {Q:Value→Shared→Prop} (I:Inv X pins σ H s) (hg:Gl X x) (hm:X.mg x=none) (hv:bootBuiltins x=some u) (h:Q u s)
  (hn:autoParam (x≠"__name__") L2.auto2._auto_1) (hd:autoParam ((x == ("__debug__":Str))=false) L2.auto2._auto_1):wpAny (model X.prog X.w) X.A (eval (.Name x pos) X.env) Q E s:=by
 obtain ⟨mb,h1,h2⟩:=I.mod.blt
 exact Calls.Name_function_global I.ok.kind hg (Calls.loadGlobal_builtin (by rw [I.ok.glob];exact I.mod.glob.keeps I.bk) hm (by rw [I.ok.blt];exact h1.keeps I.bk) ((h2 x hn).trans hv) h) hd
theorem zQ {x:Str} {v:V} {u:Value} {pos:Pos} (hg:Gl X x) (hm:X.mg x=some u) (r:RelV v u) (hd:autoParam ((x == ("__debug__":Str))=false) L2.auto2._auto_1):PE X (.Name x pos) (tC v):=
 fun _ _ _ H _ I h=>rz I hg hm ⟨v,H,I,r,h⟩ hd
theorem Jh {x:Str} {v:V} {u:Value} {pos:Pos} (hg:Gl X x) (hm:X.mg x=none) (hv:bootBuiltins x=some u) (r:RelV v u) (hn:autoParam (x≠"__name__") L2.auto2._auto_1) (hd:autoParam ((x == ("__debug__":Str))=false) L2.auto2._auto_1):PE X (.Name x pos) (tC v):=
 fun _ _ _ H _ I h=>pC I hg hm hv ⟨v,H,I,r,h⟩ hn hd
variable {a b:Expr} {ta tb:TE} {pos:Pos}
def tB (t:TE):TT:=fun σ H Q=>t σ H fun x H1=>∃ c,x= .bl c∧Q c H1
theorem NB {e:Expr} {t:TE} (h:PE X e t) (he:autoParam (∀ whole,isTrue e X.env whole=(do let v ← whole;standAt e.pos;holding [v] (truthy v))) L2.auto3._auto_1):PT X e (tB t):=by
 intro pins s σ H Q I hw
 refine isTrue_plain (d8 (h pins s σ H _ I hw) fun v s1 qq0=>?_) (he _)
 obtain ⟨x,H1,I1,r1,q1⟩:=qq0
 obtain ⟨d,rfl,q⟩:=q1
 cases r1
 exact wpAny_truthy_bool ⟨H1,I1,q⟩
variable {tA tB':TT} {rest:List Expr}
def NK (t u:TT):TT:=fun σ H Q=>t σ H fun c H1=>if c=true then u σ H1 Q else Q false H1
def tOr (t u:TT):TT:=fun σ H Q=>t σ H fun c H1=>if c=true then Q true H1 else u σ H1 Q
def NP (t:TT):TT:=fun σ H Q=>t σ H fun c H1=>Q (!c) H1
theorem Ji (ha:PT X a tA):PW X (.BoolOp .And [a] pos) tA:=by
 intro wh pins s σ H Q I h
 refine isTrue_and (d8 (ha pins s σ H Q I h) fun c s1 e=>?_)
 cases c with
 | true=>exact isTrue_and_nil e
 | false=>exact e
theorem NQ (ha:PT X a tA):PW X (.BoolOp .Or [a] pos) tA:=by
 intro wh pins s σ H Q I h
 refine isTrue_or (d8 (ha pins s σ H Q I h) fun c s1 e=>?_)
 cases c with
 | false=>exact isTrue_or_nil e
 | true=>exact e
theorem NT (ha:PT X a tA) (hb:PW X (.BoolOp .And (b :: rest) pos) tB'):PW X (.BoolOp .And (a :: b :: rest) pos) (NK tA tB'):=by
 intro wh pins s σ H Q I h
 refine isTrue_and (d8 (ha pins s σ H _ I h) fun c s1 qq0=>?_)
 obtain ⟨H1,I1,q1⟩:=qq0
 cases c with
 | true=>exact hb wh pins s1 σ H1 Q I1 q1
 | false=>exact ⟨H1,I1,q1⟩
theorem Sv (ha:PT X a tA) (hb:PW X (.BoolOp .Or (b :: rest) pos) tB'):PW X (.BoolOp .Or (a :: b :: rest) pos) (tOr tA tB'):=by
 intro wh pins s σ H Q I h
 refine isTrue_or (d8 (ha pins s σ H _ I h) fun c s1 qq0=>?_)
 obtain ⟨H1,I1,q1⟩:=qq0
 cases c with
 | true=>exact ⟨H1,I1,q1⟩
 | false=>exact hb wh pins s1 σ H1 Q I1 q1
theorem NZ (ha:PT X a tA):PT X (.UnaryOp .Not a pos) (NP tA):=by
 intro pins s σ H Q I h
 exact isTrue_not (ha pins s σ H (fun c H1=>Q (!c) H1) I h)
def DX (ta tb:TE):TE:=fun σ H Q=>ta σ H fun x H1=>∃ c,x= .bl c∧if c=true then tb σ H1 Q else Q (.bl false) H1
def DY (ta:TE):TE:=fun σ H Q=>ta σ H fun x H1=>∃ c,x= .bl c∧Q (.bl (!c)) H1
theorem N5 {op} {t:TE} (h:PE X a t):PE X (.BoolOp op [a] pos) t:=fun pins s σ H Q I hw=>BoolOp_one (h pins s σ H Q I hw)
theorem N6 (ha:PE X a ta) (hb:PE X (.BoolOp .And (b :: rest) pos) tb):PE X (.BoolOp .And (a :: b :: rest) pos) (DX ta tb):=by
 intro pins s σ H Q I h
 refine BoolOp_and (d8 (ha pins s σ H _ I h) fun v s1 qq0=>?_)
 obtain ⟨x,H1,I1,r1,q1⟩:=qq0
 obtain ⟨c,rfl,q1⟩:=q1
 cases r1
 refine wpAny_truthy_bool ?_
 cases c with
 | true=>exact hb pins s1 σ H1 Q I1 q1
 | false=>exact ⟨.bl false,H1,I1,rfl,q1⟩
theorem N7 (ha:PE X a ta):PE X (.UnaryOp .Not a pos) (DY ta):=by
 intro pins s σ H Q I h
 refine UnaryOp_ (d8 (ha pins s σ H _ I h) fun v s1 qq0=>?_)
 obtain ⟨x,H1,I1,r1,q1⟩:=qq0
 obtain ⟨c,rfl,q1⟩:=q1
 cases r1
 exact not_of (wpAny_truthy_bool ⟨.bl (!c),H1,I1,rfl,q1⟩)
end
end L2
namespace L2
open PySem PySem.Spec PyProof.Rows
def SqL (K:PySem.W.Frag) (H:Hp) (a:Addr) (xs:List V):Prop:=
 Rd H a (.lst xs)∨
  ∃ (o:Obj) (its:Array Value) (n:Nat),K.lookup a=some o∧o.cls= .type "list"∧o.dict=none∧o.data= .seq its n∧its.size≤sizeLine∧Vals xs its.toList
def SqT (K:PySem.W.Frag) (H:Hp) (a:Addr) (xs:List V):Prop:=
 Rd H a (.tup xs)∨
  ∃ (o:Obj) (its:Array Value) (n:Nat),K.lookup a=some o∧o.cls= .type "tuple"∧o.data= .seq its n∧its.size≤sizeLine∧Vals xs its.toList
def absV:Value→Option V
 | .none=>some .non
 | .bool b=>some (.bl b)
 | .int i _=>some (.int i)
 | .str x _=>some (.str x)
 | .bytes b _=>some (.byt b)
 | .float b _=>some (.flt b)
 | .ref a=>some (.ref a)
 | .type n=>some (.ty n)
 | _=>none
theorem RelV.abs {x:V} {u:Value} (r:RelV x u):absV u=some x:=by
 cases x with
 | non=>cases r;rfl
 | bl _=>cases r;rfl
 | int _=>obtain ⟨t,rfl⟩:=r;rfl
 | str _=>obtain ⟨t,rfl⟩:=r;rfl
 | byt _=>obtain ⟨t,rfl⟩:=r;rfl
 | flt _=>obtain ⟨t,rfl⟩:=r;rfl
 | ref _=>cases r;rfl
 | ty _=>cases r;rfl
theorem RelV.inj {x y:V} {u:Value} (r:RelV x u) (q:RelV y u):x=y:=Option.some.inj (r.abs.symm.trans q.abs)
theorem Vals.inj:∀ {xs ys:List V} {us:List Value},Vals xs us→Vals ys us→xs=ys
 | _,_,_,.nil,.nil=>rfl
 | _,_,_,.cons r t,.cons r' t'=>by rw [r.inj r',Vals.inj t t']
section
variable {X:Cx} {pins:List (Addr×Obj)} {σ:St} {H:Hp} {s:Shared} {a:Addr} {xs ys:List V}
theorem SqL.of {K:PySem.W.Frag} (h:H a=some (.lst xs)):SqL K H a xs:=.inl (.inl h)
theorem SqT.of {K:PySem.W.Frag} (h:H a=some (.tup xs)):SqT K H a xs:=.inl (.inl h)
theorem Inv.list (I:Inv X pins σ H s) (h:SqL X.K H a xs):∃ its:List Value,Vals xs its∧PlainL s.heap a its.toArray∧xs.length≤sizeLine:=by
 rcases h with h | ⟨o,its,n,hk,hc,hd,hs,hz,r⟩
 ·obtain ⟨z,its,n,r,e⟩:=h.ok I.hok
  exact ⟨its,r,⟨_,n,e,rfl,rfl,rfl⟩,z⟩
 ·refine ⟨its.toList,r,⟨o,n,I.kIn a o hk,hc,hd,by simpa using hs⟩,?_⟩
  have e:=r.length
  simp only [Array.length_toList] at e
  omega
theorem Inv.tuple (I:Inv X pins σ H s) (h:SqT X.K H a xs):∃ its:List Value,Vals xs its∧IsTup s.heap a its.toArray∧xs.length≤sizeLine:=by
 rcases h with h | ⟨o,its,n,hk,hc,hs,hz,r⟩
 ·obtain ⟨z,its,r,p⟩:=h.ok I.hok
  exact ⟨its,r,p,z⟩
 ·refine ⟨its.toList,r,⟨o,I.kIn a o hk,hc,n,by simpa using hs⟩,?_⟩
  have e:=r.length
  simp only [Array.length_toList] at e
  omega
theorem Inv.list_inj (I:Inv X pins σ H s) (h:SqL X.K H a xs) (h':SqL X.K H a ys):xs=ys:=by
 obtain ⟨its,r,⟨o,n,e,_,_,d⟩,_⟩:=I.list h
 obtain ⟨its',r',⟨o',n',e',_,_,d'⟩,_⟩:=I.list h'
 rw [e] at e';cases e'
 rw [d] at d'
 injection d' with d1 _
 have:its=its':=by simpa using congrArg Array.toList d1
 subst this
 exact r.inj r'
theorem Inv.tuple_inj (I:Inv X pins σ H s) (h:SqT X.K H a xs) (h':SqT X.K H a ys):xs=ys:=by
 obtain ⟨its,r,⟨o,e,_,n,d⟩,_⟩:=I.tuple h
 obtain ⟨its',r',⟨o',e',_,n',d'⟩,_⟩:=I.tuple h'
 rw [e] at e';cases e'
 rw [d] at d'
 injection d' with d1 _
 have:its=its':=by simpa using congrArg Array.toList d1
 subst this
 exact r.inj r'
end
abbrev Cx.wish (X:Cx) (E:Value→Shared→Prop):Cx:={X with xe:=E}
abbrev Cx.nox (X:Cx):Cx:=X.wish fun _ _=>False
theorem Cx.Ok.wish {X:Cx} (ok:X.Ok) (E:Value→Shared→Prop):(X.wish E).Ok:=
 ⟨ok.mod,ok.kind,ok.glob,ok.blt,ok.above,ok.inj,ok.has,ok.cab,ok.hd,ok.frames,ok.stk,ok.exf,ok.bs,ok.bsz,ok.noex,ok.exfs,ok.funs,ok.frf⟩
theorem Cx.Ok.unwish {X:Cx} {E:Value→Shared→Prop} (ok:(X.wish E).Ok):X.Ok:=
 ⟨ok.mod,ok.kind,ok.glob,ok.blt,ok.above,ok.inj,ok.has,ok.cab,ok.hd,ok.frames,ok.stk,ok.exf,ok.bs,ok.bsz,ok.noex,ok.exfs,ok.funs,ok.frf⟩
section
variable {X:Cx} {pins:List (Addr×Obj)} {σ:St} {H:Hp} {s:Shared} {E:Value→Shared→Prop}
theorem Inv.wish (I:Inv X pins σ H s) (E:Value→Shared→Prop):Inv (X.wish E) pins σ H s:=⟨I.ok.wish E,I.os,I.bare,I.base,I.loc,I.cell,I.free,I.freeC,I.pin,I.hok,I.len⟩
theorem Inv.unwish (I:Inv (X.wish E) pins σ H s):Inv X pins σ H s:=⟨I.ok.unwish,I.os,I.bare,I.base,I.loc,I.cell,I.free,I.freeC,I.pin,I.hok,I.len⟩
theorem SP.unwish {D:Ends} {f:Flow} {s':Shared} (h:SP (X.wish E) pins D f s'):SP X pins D f s':=by
 cases f with
 | next=>obtain ⟨σ',H',I,q⟩:=h;exact ⟨σ',H',I.unwish,q⟩
 | brk=>obtain ⟨σ',H',I,q⟩:=h;exact ⟨σ',H',I.unwish,q⟩
 | cont=>obtain ⟨σ',H',I,q⟩:=h;exact ⟨σ',H',I.unwish,q⟩
 | ret u=>obtain ⟨v,σ',H',I,r,q⟩:=h;exact ⟨v,σ',H',I.unwish,r,q⟩
theorem PSs.nox {st:List Stmt} {t:TS} (h:PSs X.nox st t):PSs X st t:=fun pins s σ H D I hw=>
 wpAny_mono (h pins s σ H D (I.wish _) hw) (fun _ _ q=>q.unwish) fun _ _ z=>False.elim z
end
section
variable {X:Cx} {st:Stmt} {rest:List Stmt} {t u:TS} {e:Expr} {te:TE} {pos:Pos}
def Ea:TS:=fun D σ H=>D.nx σ H
def N8 (t u:TS):TS:=fun D σ H=>t {D with nx:=u D} σ H
theorem Jj:PSs X [] Ea:=fun _ _ σ H _ I h=>wpAny_execs_nil ⟨σ,H,I,h⟩
theorem Eb (h1:PS X st t) (h2:PSs X rest u):PSs X (st :: rest) (N8 t u):=by
 intro pins s σ H D I h
 refine wpAny_execs_cons (d8 (h1 pins s σ H {D with nx:=u D} I h) fun f s1 q=>?_)
 cases f with
 | next=>
  obtain ⟨σ',H',I',q⟩:=q
  exact h2 pins s1 σ' H' D I' q
 | ret v=>exact q
 | brk=>exact q
 | cont=>exact q
theorem Jk (h1:PS X st t):PSs X [st] t:=by
 intro pins s σ H D I h
 refine wpAny_execs_cons (d8 (h1 pins s σ H D I h) fun f s1 q=>?_)
 cases f with
 | next=>exact wpAny_execs_nil q
 | ret v=>exact q
 | brk=>exact q
 | cont=>exact q
theorem Inv.quiet {pins:List (Addr×Obj)} {σ:St} {H:Hp} {s:Shared} (I:Inv X pins σ H s):interactive X.env=false:=by simp [interactive,I.ok.kind]
def zR (te:TE):TS:=fun D σ H=>te σ H fun _ H1=>D.nx σ H1
theorem Jl (he:PE X e te) (hs:autoParam (swapsWith e none pos.line X.env=pure false) L2.auto4._auto_1):PS X (.Expr e pos) (zR te):=by
 intro pins s σ H D I h
 exact wpAny_Expr_any (d8 (he pins s σ H _ I h) fun v s1 ⟨x,H1,I1,r1,q1⟩=>⟨σ,H1,I1,q1⟩) I.quiet hs
def Oa (te:TE):TS:=fun D σ H=>te σ H D.rt
theorem Ob (he:PE X e te):PS X (.Return (some e) pos) (Oa te):=by
 intro pins s σ H D I h
 exact wpAny_Return_some (d8 (he pins s σ H _ I h) fun v s1 ⟨x,H1,I1,r1,q1⟩=>⟨x,σ,H1,I1,r1,q1⟩)
def Oc (c:TT) (t u:TS):TS:=fun D σ H=>c σ H fun b H1=>if b=true then t D σ H1 else u D σ H1
theorem Sw {c:Expr} {a b:List Stmt} {tc:TT} (hc:PT X c tc) (ha:PSs X a t) (hb:PSs X b u):PS X (.If c a b pos) (Oc tc t u):=by
 intro pins s σ H D I h
 refine wpAny_If (d8 (hc pins s σ H _ I h) fun d s1 qq0=>?_)
 obtain ⟨H1,I1,q1⟩:=qq0
 cases d with
 | true=>exact ha pins s1 σ H1 D I1 q1
 | false=>exact hb pins s1 σ H1 D I1 q1
end
abbrev TG:=V→St→Hp→(St→Hp→Prop)→Prop
abbrev yC:=List V→St→Hp→(St→Hp→Prop)→Prop
def PG (X:Cx) (target:Expr) (t:TG):Prop:=
 ∀ (pins:List (Addr×Obj)) (s:Shared) (σ:St) (H:Hp) (v:V) (u:Value) (Q:St→Hp→Prop),Inv X pins σ H s→RelV v u→t v σ H Q→
  wpAny (model X.prog X.w) X.A (assign target X.env u) (fun _ s'=>∃ σ' H',Inv X pins σ' H' s'∧Q σ' H') X.xe s
def RZ (X:Cx) (ts:List Expr) (t:yC):Prop:=
 ∀ (pins:List (Addr×Obj)) (s:Shared) (σ:St) (H:Hp) (vs:List V) (us:List Value) (Q:St→Hp→Prop),Inv X pins σ H s→Vals vs us→t vs σ H Q→
  wpAny (model X.prog X.w) X.A (assignInOrder ((assignEach ts X.env).map (·.2)) us) (fun _ s'=>∃ σ' H',Inv X pins σ' H' s'∧Q σ' H') X.xe s
abbrev yD:=V→V→V→Hp→(Hp→Prop)→Prop
def Jm (X:Cx) (t:yD):Prop:=
 ∀ (pins:List (Addr×Obj)) (s:Shared) (σ:St) (H:Hp) (o i v:V) (ov iv u:Value) (Q:Hp→Prop),Inv X pins σ H s→RelV o ov→RelV i iv→RelV v u→t o i v H Q→
  wpAny (model X.prog X.w) X.A (setItem ov iv u) (fun _ s'=>∃ H',Inv X pins σ H' s'∧Q H') X.xe s
section
variable {X:Cx} {pos:Pos}
def lY (i:Nat):TG:=fun v σ H Q=>Q (σ.set i (some v)) H
theorem zU {i:Nat} {x:Str} (hN:X.N.Nodup) (hi:X.N[i]?=some x) (hx:Loc X.env.scope x) (hf:autoParam (X.fn x=true∨X.env.scope.names.lookup x=some .local) L2.auto1._auto_1):PG X (.Name x pos) (lY i):=by
 intro pins s σ H v u Q I r h
 exact wpAny_assign_Name (wX I hN hi hx r (fun s' I'=>⟨_,H,I',h⟩) hf)
def Od:yC:=fun vs σ H Q=>vs=[]∧Q σ H
def Ec (t:TG) (u:yC):yC:=fun vs σ H Q=>∃ v r,vs=v :: r∧t v σ H fun σ' H'=>u r σ' H' Q
theorem Jo:RZ X [] Od:=by
 intro pins s σ H vs us Q I r h
 obtain ⟨e,h⟩:=h
 subst e
 cases r
 exact assignInOrder_nil ⟨σ,H,I,h⟩
theorem Ed {e:Expr} {es:List Expr} {t:TG} {u:yC} (h1:PG X e t) (h2:RZ X es u)
  (hs:autoParam ((assignEach (e :: es) X.env).map (·.2)=assign e X.env :: (assignEach es X.env).map (·.2)) L2.auto4._auto_1):RZ X (e :: es) (Ec t u):=by
 intro pins s σ H vs us Q I r h
 obtain ⟨v,vr,e1,h⟩:=h
 subst e1
 cases r with
 | cons r rr=>
  rw [hs]
  refine assignInOrder_cons (d8 (h1 pins s σ H _ _ _ I r h) fun _ s1 qq0=>?_)
  obtain ⟨σ1,H1,I1,q1⟩:=qq0
  exact h2 pins s1 σ1 H1 _ _ Q I1 rr q1
def Jp (K:PySem.W.Frag) (n:Nat) (t:yC):TG:=fun v σ H Q=>∃ a xs,v= .ref a∧SqT K H a xs∧xs.length=n∧t xs σ H Q
theorem Ef {es:List Expr} {k:Nat} {t:yC} {n:Nat} (hc:X.calm=true) (h:RZ X es t)
  (hn:autoParam ((assignEach es X.env).length=n) L2.auto4._auto_1) (hst:autoParam ((assignEach es X.env).findIdx? (·.1)=none) L2.auto4._auto_1):PG X (.Tuple es k pos) (Jp X.K n t):=by
 intro pins s σ H v u Q I r hw
 obtain ⟨a,xs,e1,hq,hl,hw⟩:=hw
 subst e1
 cases r
 obtain ⟨its,rv,ht,hz⟩:=I.tuple hq
 refine assign_Tuple_tuple (I.ok.hd hc) ht (by simp [hn,← hl,rv.length]) hst fun h' hx=>?_
 have I1:Inv X pins σ H {s with heap:=h'}:=I.kept (t':=s.toks) fun b o e=>hx b o (Nat.ne_of_lt (Heap.lt_size e)) e
 exact h pins _ σ H xs _ Q I1 (by simpa using rv) hw
def Oe (to ti:TE) (t:yD):TG:=fun v σ H Q=>to σ H fun o H1=>ti σ H1 fun i H2=>t o i v H2 fun H3=>Q σ H3
theorem Og {o i:Expr} {to ti:TE} {t:yD} (ho:PE X o to) (hi:PE X i ti) (hs:Jm X t)
  (ha:∀ v,assign (.Subscript o i pos) X.env v=(do
   let ov ← holding [v] (eval o X.env)
   let iv ← holding [v,ov] (eval i X.env)
   standAt pos
   holding [v,ov,iv] (setItem ov iv v)
   release [v,ov,iv] []):=by intro _;rfl):PG X (.Subscript o i pos) (Oe to ti t):=by
 intro pins s σ H v u Q I r h
 rw [ha]
 refine wpAny_bind (wpAny_holding (d8 (ho pins s σ H _ I h) fun ov s1 qq0=>?_))
 obtain ⟨x,H1,I1,r1,q1⟩:=qq0
 refine wpAny_bind (wpAny_holding (d8 (hi pins s1 σ H1 _ I1 q1) fun iv s2 qq0=>?_))
 obtain ⟨y,H2,I2,r2,q2⟩:=qq0
 refine wpAny_bind (wpAny_standAt (wpAny_bind (wpAny_holding (d8 (hs pins s2 σ H2 x y v ov iv u _ I2 r1 r2 r q2) fun _ s3 qq0=>?_))))
 obtain ⟨H3,I3,q3⟩:=qq0
 exact wpAny_release ⟨σ,H3,I3,q3⟩
def vL (te:TE) (g:TG):TS:=fun D σ H=>te σ H fun x H1=>g x σ H1 D.nx
theorem Eg {tg e:Expr} {te:TE} {g:TG} (he:PE X e te) (hg:PG X tg g) (hs:autoParam (swapsWithSole [tg] e pos.line X.env=pure false) L2.auto4._auto_1) (hw:autoParam (swappedStores [tg] e X.env=pure none) L2.auto4._auto_1)
  (h1:autoParam ((assignEach [tg] X.env).map (·.2)=[assign tg X.env]) L2.auto4._auto_1):PS X (.Assign [tg] e pos) (vL te g):=by
 intro pins s σ H D I h
 refine wpAny_Assign_stores (d8 (he pins s σ H _ I h) fun v s1 qq0=>?_) hs hw
 obtain ⟨x,H1,I1,r1,q1⟩:=qq0
 rw [h1]
 exact d8 (hg pins s1 σ H1 x v _ I1 r1 q1) fun _ s2 q=>q
theorem Eh {i:Nat} {x:Str} {e:Expr} {te:TE} {pos':Pos} (hN:X.N.Nodup) (hi:X.N[i]?=some x) (hx:Loc X.env.scope x) (he:PE X e te) (hs:autoParam (swapsWith e (some (.Name x pos')) pos.line X.env=pure false) L2.auto4._auto_1) (hf:autoParam (X.fn x=true∨X.env.scope.names.lookup x=some .local) L2.auto1._auto_1):
  PS X (.Assign [.Name x pos'] e pos) (vL te (lY i)):=by
 intro pins s σ H D I h
 refine wpAny_Assign_Name (d8 (he pins s σ H _ I h) fun v s1 qq0=>?_) hs
 obtain ⟨y,H1,I1,r1,q1⟩:=qq0
 exact wX I1 hN hi hx r1 (fun s2 I2=>⟨_,H1,I2,q1⟩) hf
end
section
variable {X:Cx} {pos:Pos}
end
structure It where
 go:Nat→Hp→Prop
 yld:Nat→Hp→V→Hp→Prop
 stop:Nat→Hp→Prop
def iH (X:Cx) (pins:List (Addr×Obj)) (H:Hp) (b:Addr):Prop:=
 H b=none∧b≠X.env.locals∧b ∉ X.fs∧(b∈X.ex∨X.s₀.heap.objs.size≤b)∧(∀ x c,X.env.cells.lookup x=some c→c≠b)∧∀ p∈X.pn ++ pins,p.1≠b
theorem Inv.fpOk {X:Cx} {pins:List (Addr×Obj)} {σ:St} {H H':Hp} {s:Shared} {b:Addr} (I:Inv X pins σ H s) (hb:s.heap.objs.size≤b) (hn:H' b=none):iH X pins H' b:=by
 refine ⟨hn,Nat.ne_of_gt (Nat.lt_of_lt_of_le I.lt hb),I.nofs hb,.inr (Nat.le_trans I.sz hb),fun x c e z=>?_,fun p hp z=>?_⟩
 ·obtain ⟨v,q⟩:=I.cell x c e
  exact absurd (Nat.lt_of_lt_of_le q.lt (by rw [z];exact hb)) (Nat.lt_irrefl _)
 ·exact absurd (Nat.lt_of_lt_of_le (Heap.lt_size (I.pin p hp).1) (by rw [z];exact hb)) (Nat.lt_irrefl _)
structure Turn (P:Program) (w:World) (K:PySem.W.Frag) (tg:Expr) (J:It) (fp:List Addr) (it:Addr) (tn:Nat→Heap→Prop):Prop where
 mem:it∈fp
 obj:∀ i h,tn i h→∀ b∈fp,∃ o,h.get? b=some o∧∀ v,o.data≠.cell v
 keep:∀ i h h',tn i h→(∀ b∈fp,∀ o,h.get? b=some o→h'.get? b=some o)→tn i h'
 item:∀ (X:Cx),X.prog=P→X.w=w→X.K=K→X.calm=true→∀ (i:Nat) (pins:List (Addr×Obj)) (s:Shared) (σ:St) (H:Hp) (E:Value→Shared→Prop),Inv X pins σ H s→(∀ b∈fp,iH X pins H b)→tn i s.heap→J.go i H→
  wpAny (model P w) X.A (pyNext (.ref it)) (fun r s1=>∃ u,r=some u∧
   wpAny (model P w) X.A (letOwnedTupleGo tg (.ref it) u) (fun _ s2=>∃ x H',Inv X pins σ H' s2∧RelV x u∧J.yld i H x H'∧tn (i+1) s2.heap∧∀ b∈fp,H' b=none) E s1) E s
 done:∀ (X:Cx),X.prog=P→X.w=w→X.K=K→X.calm=true→∀ (i:Nat) (pins:List (Addr×Obj)) (s:Shared) (σ:St) (H:Hp) (E:Value→Shared→Prop),Inv X pins σ H s→(∀ b∈fp,iH X pins H b)→tn i s.heap→J.stop i H→
  wpAny (model P w) X.A (pyNext (.ref it)) (fun r s1=>r=none∧Inv X pins σ H s1) E s
 self:∀ (A:Around) (i:Nat) (s:Shared) (Q:Value→Shared→Prop) (E:Value→Shared→Prop),tn i s.heap→Q (.ref it) s→wpAny (model P w) A (pyIter (.ref it)) Q E s
abbrev TI:=St→Hp→(It→Hp→Prop)→Prop
def PIE (X:Cx) (pins:List (Addr×Obj)) (σ:St) (tg:Expr) (R:It→Hp→Prop) (itv:Value) (s2:Shared):Prop:=
 ∃ (it:Addr) (fp:List Addr) (tn:Nat→Heap→Prop) (J:It) (H':Hp),itv= .ref it∧Inv X pins σ H' s2∧Turn X.prog X.w X.K tg J fp it tn∧tn 0 s2.heap∧(∀ b∈fp,iH X pins H' b)∧R J H'
def PI (X:Cx) (tg iter:Expr) (wi:TI):Prop:=
 ∀ (pins:List (Addr×Obj)) (s:Shared) (σ:St) (H:Hp) (R:It→Hp→Prop),Inv X pins σ H s→wi σ H R→
  wpAny (model X.prog X.w) X.A (eval iter X.env) (fun v s1=>wpAny (model X.prog X.w) X.A (pyIter v) (PIE X pins σ tg R) X.xe s1) X.xe s
theorem zV {M:Model} {A:Around} {E:Value→Shared→Prop} {s:Shared} {tg:Expr} {it:Addr} {u:Value} {o:Obj} {n:String} {vs:Array Value} {Q:Unit→Shared→Prop} (ho:s.heap.get? it=some o) (hc:o.cls= .type n) (hd:o.data= .fields vs)
  (hn:["enumerate","zip","dict_itemiterator","dict_reverseitemiterator","odict_iterator","itertools.zip_longest","itertools.pairwise"].contains n=false) (hQ:Q () s):wpAny M A (letOwnedTupleGo tg (.ref it) u) Q E s:=by
 unfold letOwnedTupleGo
 cases tg <;> first
  | exact wpAny_pure hQ
  | (cases u <;> first
    | exact wpAny_pure hQ
    | (refine wpAny_bind (wpAny_load ho ?_)
       rw [hc,hd]
       show wpAny M A (if (["enumerate","zip","dict_itemiterator","dict_reverseitemiterator","odict_iterator","itertools.zip_longest","itertools.pairwise"].contains n && vs[0]? == some (rawInt _))=true then _ else _) Q E s
       rw [if_neg (by intro h;rw [hn,Bool.false_and] at h;cases h)]
       exact wpAny_pure hQ))
def Oh (K:PySem.W.Frag) (a:Addr):It:=
 ⟨fun i H=>∃ xs x,SqL K H a xs∧xs[i]?=some x,fun i H x H'=>H'=H∧∀ xs,SqL K H a xs→xs[i]?=some x,fun i H=>∃ xs,SqL K H a xs∧xs.length≤i⟩
def Itt (K:PySem.W.Frag) (a:Addr):It:=
 ⟨fun i H=>∃ xs x,SqT K H a xs∧xs[i]?=some x,fun i H x H'=>H'=H∧∀ xs,SqT K H a xs→xs[i]?=some x,fun i H=>∃ xs,SqT K H a xs∧xs.length≤i⟩
def Mp (lo:Int) (n:Nat):It:=⟨fun i _=>i < n,fun i H x H'=>H'=H∧x= .int (lo+i),fun i _=>n≤i⟩
theorem BJ {P:Program} {w:World} {K:PySem.W.Frag} {tg:Expr} (a it:Addr):Turn P w K tg (Oh K a) [it] it (fun i h=>h.IsListIter it a i) where
 mem:=by simp
 obj:=fun i h st b hb=>by
  have e:b=it:=by simpa using hb
  subst e
  obtain ⟨o,e,c,d⟩:=st
  exact ⟨o,e,fun v z=>by rw [d] at z;cases z⟩
 keep:=fun i h h' st k=>st.at fun o e=>k it (by simp) o e
 item:=by
  intro X hP hw hK hc i pins s σ H E I hf st hg
  subst hP hw hK
  obtain ⟨xs,x,hq,hx⟩:=hg
  obtain ⟨its,rv,p,hz⟩:=I.list hq
  obtain ⟨u,hu,ru⟩:=rv.get hx
  obtain ⟨f0,f1,f2,f3,f4,f5⟩:=hf it (by simp)
  refine wpAny_pyNext_list_item st p.isList (x:=u) (by simpa using hu) fun h' st' sb=>?_
  have I1:Inv X pins σ H {s with heap:=h'}:=I.turned (t':=s.toks) (fun b o hb e=>(sb.2 b hb).trans e) f0 f1 f3 f4 f5
  obtain ⟨o,e,c,d⟩:=id st'
  exact ⟨u,rfl,zV (s:={s with heap:=h'}) e c d (by decide) ⟨x,H,I1,ru,⟨rfl,fun ys hy=>by rw [I.list_inj hy hq];exact hx⟩,st',fun b hb=>(hf b hb).1⟩⟩
 done:=by
  intro X hP hw hK hc i pins s σ H E I hf st hg
  subst hP hw hK
  obtain ⟨xs,hq,hx⟩:=hg
  obtain ⟨its,rv,p,hz⟩:=I.list hq
  obtain ⟨f0,f1,f2,f3,f4,f5⟩:=hf it (by simp)
  have hl:=rv.length
  exact wpAny_pyNext_list_end (I.ok.hd hc) st p.isList (by simp;omega) fun h' eb=>⟨rfl,I.turned (t':=s.toks) (fun b o hb e=>eb b o hb e) f0 f1 f3 f4 f5⟩
 self:=fun _ _ _ _ _ st h=>wpAny_pyIter_listiter st h
theorem yE {P:Program} {w:World} {K:PySem.W.Frag} {tg:Expr} (a it:Addr):Turn P w K tg (Itt K a) [it] it (fun i h=>h.IsTupleIter it a i) where
 mem:=by simp
 obj:=fun i h st b hb=>by
  have e:b=it:=by simpa using hb
  subst e
  obtain ⟨o,e,c,d⟩:=st
  exact ⟨o,e,fun v z=>by rw [d] at z;cases z⟩
 keep:=fun i h h' st k=>st.at fun o e=>k it (by simp) o e
 item:=by
  intro X hP hw hK hc i pins s σ H E I hf st hg
  subst hP hw hK
  obtain ⟨xs,x,hq,hx⟩:=hg
  obtain ⟨its,rv,p,hz⟩:=I.tuple hq
  obtain ⟨u,hu,ru⟩:=rv.get hx
  obtain ⟨f0,f1,f2,f3,f4,f5⟩:=hf it (by simp)
  refine wpAny_pyNext_tuple_item st (show s.heap.IsTuple a its.toArray from p) (x:=u) (by simpa using hu) fun h' st' sb=>?_
  have I1:Inv X pins σ H {s with heap:=h'}:=I.turned (t':=s.toks) (fun b o hb e=>(sb.2 b hb).trans e) f0 f1 f3 f4 f5
  obtain ⟨o,e,c,d⟩:=id st'
  exact ⟨u,rfl,zV (s:={s with heap:=h'}) e c d (by decide) ⟨x,H,I1,ru,⟨rfl,fun ys hy=>by rw [I.tuple_inj hy hq];exact hx⟩,st',fun b hb=>(hf b hb).1⟩⟩
 done:=by
  intro X hP hw hK hc i pins s σ H E I hf st hg
  subst hP hw hK
  obtain ⟨xs,hq,hx⟩:=hg
  obtain ⟨its,rv,p,hz⟩:=I.tuple hq
  obtain ⟨f0,f1,f2,f3,f4,f5⟩:=hf it (by simp)
  have hl:=rv.length
  exact wpAny_pyNext_tuple_end (I.ok.hd hc) st (show s.heap.IsTuple a its.toArray from p) (by simp;omega) fun h' eb=>⟨rfl,I.turned (t':=s.toks) (fun b o hb e=>eb b o hb e) f0 f1 f3 f4 f5⟩
 self:=fun _ _ _ _ _ st h=>wpAny_pyIter_tupleiter st h
theorem yF {P:Program} {w:World} {K:PySem.W.Frag} {tg:Expr} (it:Addr) (lo:Int) (n:Nat):Turn P w K tg (Mp lo n) [it] it (fun i h=>IsRangeIter h it (lo+(i:Nat)*1) ((n:Int) - (i:Nat)) 1) where
 mem:=by simp
 obj:=fun i h st b hb=>by
  have e:b=it:=by simpa using hb
  subst e
  exact ⟨_,st,fun v z=>by
   have z':Data.fields _=Data.cell v:=z
   cases z'⟩
 keep:=fun i h h' st k=>k it (by simp) _ st
 item:=by
  intro X hP hw hK hc i pins s σ H E I hf st hg
  subst hP hw hK
  obtain ⟨f0,f1,f2,f3,f4,f5⟩:=hf it (by simp)
  have W:=Walks.range (prog:=X.prog) (w:=X.w) (I.ok.hd hc) it lo 1 n
  refine W.item i s _ _ hg st fun v h' tk hv st' kk=>?_
  obtain ⟨t,rfl⟩:=hv
  have I1:Inv X pins σ H {s with heap:=h',toks:=tk}:=I.turned (fun b o hb e=>kk b o (by simpa using hb) e) f0 f1 f3 f4 f5
  refine ⟨_,rfl,zV (s:={s with heap:=h',toks:=tk}) (n:="range_iterator") st' rfl rfl (by decide) ⟨.int (lo+i),H,I1,⟨t,?_⟩,⟨rfl,rfl⟩,st',fun b hb=>(hf b hb).1⟩⟩
  rw [Int.mul_one]
 done:=by
  intro X hP hw hK hc i pins s σ H E I hf st hg
  subst hP hw hK
  obtain ⟨f0,f1,f2,f3,f4,f5⟩:=hf it (by simp)
  exact wpAny_pyNext_range_end (I.ok.hd hc) st (by have:n≤i:=hg;omega) fun h' eb=>⟨rfl,I.turned (t':=s.toks) (fun b o hb e=>eb b o hb e) f0 f1 f3 f4 f5⟩
 self:=fun _ _ _ _ _ st h=>wpAny_pyIter_rangeiter st h
end L2
namespace L2
open PySem PySem.Spec PyProof.Rows
section
variable {X:Cx} {tg:Expr}
theorem Ei {pins:List (Addr×Obj)} {σ:St} {H:Hp} {s:Shared} {R:It→Hp→Prop} {E:Value→Shared→Prop} {lo hi:Int} {t u v:Tok} {tk:Nat} (I:Inv X pins σ H s) (h1: -(2 ^ 62)≤lo) (h2:lo < 2 ^ 62) (h3: -(2 ^ 62)≤hi) (h4:hi < 2 ^ 62)
  (q:R (Mp lo (hi - lo).toNat) H):wpAny (model X.prog X.w) X.A (pyIter (.ref s.heap.objs.size)) (PIE X pins σ tg R) E {s with heap:=s.heap.push {cls:=.type "range",data:=.fields #[.int lo t,.int hi u,.int 1 v]},toks:=tk}:=by
 refine wpAny_pyIter_range (IsRange.new ..) (small_one h1 h2 h3 h4) ?_
 have I1:Inv X pins σ H {s with heap:=s.heap.push {cls:=.type "range",data:=.fields #[.int lo t,.int hi u,.int 1 v]},toks:=tk}:=I.kept fun b o e=>Heap.get?_push_of_some _ e
 refine ⟨(s.heap.push {cls:=.type "range",data:=.fields #[.int lo t,.int hi u,.int 1 v]}).objs.size,[(s.heap.push {cls:=.type "range",data:=.fields #[.int lo t,.int hi u,.int 1 v]}).objs.size],_,_,H,rfl,
  I1.kept (t':=tk) fun b o e=>Heap.get?_push_of_some _ e,yF _ lo (hi - lo).toNat,?_,fun b hb=>?_,q⟩
 ·have e1:lo+((0:Nat):Int)*1=lo:=by simp
  have e2:(((hi - lo).toNat:Nat):Int) - ((0:Nat):Int)=Builtin.Range.rangeSize lo hi 1:=by rw [rangeSize_one];split <;> omega
  show IsRangeIter _ _ (lo+((0:Nat):Int)*1) ((((hi - lo).toNat:Nat):Int) - ((0:Nat):Int)) 1
  rw [e1,e2]
  exact Heap.get?_push_size _ rfl
 ·have e:b=(s.heap.push {cls:=.type "range",data:=.fields #[.int lo t,.int hi u,.int 1 v]}).objs.size:=by simpa using hb
  subst e
  exact I1.fpOk (Nat.le_refl _) (I1.hok.fresh (Nat.le_refl _))
def Ej (ta:TA):TI:=fun σ H R=>ta σ H fun vs H1=>∃ j:Int,vs=[.int j]∧-(2 ^ 62)≤j∧j < 2 ^ 62∧R (Mp 0 j.toNat) H1
theorem BK {a:Expr} {ta:TA} {p pos:Pos} (hg:Gl X "range") (hm:X.mg "range"=none) (ha:PA X [a] ta) (hs:autoParam (starEach [a] X.env=[(false,eval a X.env)]) L2.auto4._auto_1):PI X tg (.Call (.Name "range" p) [a] [] pos) (Ej ta):=by
 intro pins s σ H R I h
 refine Call_ (pC I hg hm boot_range (PyProof.Rows.callWith_type1 (d8 (ha pos pins s σ H _ I h) fun us s1 ⟨vs,H1,I1,r1,q1⟩=>?_) hs rfl))
 obtain ⟨j,e,q1,q2,q⟩:=q1
 subst e
 cases r1 with
 | cons r rr=>
  cases rr
  obtain ⟨t,rfl⟩:=r
  exact call_range_1 (Ei I1 (by omega) (by omega) q1 q2 (by simpa using q))
def Jq (wi:TI) (g:TG) (tb:TS):TS:=fun D σ H=>wi σ H fun J H1=>∃ W:Nat→Nat→St→Hp→Prop,(∃ m,W 0 m σ H1)∧∀ i m σ H,W i m σ H→
 (J.stop i H∧D.nx σ H)∨(J.go i H∧∃ N:St→Hp→Prop,(∀ σ' H',N σ' H'→∃ m',m' < m∧W (i+1) m' σ' H')∧∀ x H',J.yld i H x H'→g x σ H' fun σ2 H2=>tb {D with nx:=N,ct:=N,bk:=D.nx} σ2 H2)
def pG (fp:List Addr) (h:Heap):List (Addr×Obj):=fp.filterMap fun b=>(h.get? b).map fun o=>(b,o)
theorem jm {fp:List Addr} {h:Heap} {b:Addr} {o:Obj} (hb:b∈fp) (e:h.get? b=some o):(b,o)∈pG fp h:=List.mem_filterMap.mpr ⟨b,hb,by rw [e];rfl⟩
theorem BL {fp:List Addr} {h:Heap} {p:Addr×Obj} (hp:p∈pG fp h):p.1∈fp∧h.get? p.1=some p.2:=by
 obtain ⟨b,hb,e⟩:=List.mem_filterMap.mp hp
 cases q:h.get? b with
 | none=>rw [q] at e;cases e
 | some o=>
  rw [q] at e
  have e':(b,o)=p:=Option.some.inj e
  subst e'
  exact ⟨hb,q⟩
theorem Inv.pinned {pins:List (Addr×Obj)} {σ:St} {H:Hp} {s:Shared} {fp:List Addr} (I:Inv X pins σ H s) (hf:∀ b∈fp,iH X pins H b) (ho:∀ b∈fp,∃ o,s.heap.get? b=some o∧∀ v,o.data≠.cell v):Inv X (pins ++ pG fp s.heap) σ H s:=
 I.pins_of fun p hp=>(List.mem_append.mp hp).elim (fun z=>I.pin p (List.mem_append_right _ z)) fun z=>by
  obtain ⟨hb,e⟩:=BL z
  obtain ⟨f0,f1,f2,_⟩:=hf p.1 hb
  obtain ⟨o,e',d⟩:=ho p.1 hb
  rw [e] at e';cases e'
  exact ⟨e,f0,f1,f2,d⟩
theorem Inv.unpinned {pins pl:List (Addr×Obj)} {σ:St} {H:Hp} {s:Shared} (I:Inv X (pins ++ pl) σ H s):Inv X pins σ H s:=I.pins_of fun p hp=>I.pin p (List.mem_append_right _ (List.mem_append_left _ hp))
theorem Oi {iter:Expr} {body:List Stmt} {wi:TI} {g:TG} {tb:TS} {pos:Pos} (hp:PassesOwn (model X.prog X.w) X.A X.env X.xe) (hc:X.calm=true) (hi:PI X tg iter wi) (hg:PG X tg g) (hb:PSs X body tb)
  (hs:autoParam (∀ x,foldedSetIterable iter X.env x=pure x) L2.auto3._auto_1):PS X (.For tg iter body [] pos) (Jq wi g tb):=by
 intro pins s σ H D I h
 refine wpAny_For (d8 (hi pins s σ H _ I h) fun v s1 h1=>d8 h1 fun itv s2 h2=>?_) hs
 obtain ⟨it,fp,tn,J,H2,e,I2,T,st2,f2,W,⟨m0,w0⟩,turn⟩:=h2
 subst e
 have stat:∀ {H':Hp},(∀ b∈fp,H' b=none)→∀ b∈fp,iH X pins H' b:=fun hn b hb=>⟨hn b hb,(f2 b hb).2⟩
 refine codeAny_forLoop_any (fun n s'=>∃ i σ' H',Inv X pins σ' H' s'∧tn i s'.heap∧(∀ b∈fp,H' b=none)∧W i n σ' H') ?_ m0 ⟨0,σ,H2,I2,st2,fun b hb=>(f2 b hb).1,w0⟩
 rintro n s3 ⟨i,σ3,H3,I3,st3,fr3,w3⟩
 rcases turn i n σ3 H3 w3 with ⟨stop,qn⟩ | ⟨go,N,hN,step⟩
 ·refine wpAny_passesOwn hp (d8 (T.done X rfl rfl rfl hc i pins s3 σ3 H3 X.xe I3 (stat fr3) st3 stop) fun r s4 qq0=>?_)
  obtain ⟨hr,I4⟩:=qq0
  subst hr
  exact wpAny_execs_nil ⟨σ3,H3,I4,qn⟩
 ·refine wpAny_passesOwn hp (d8 (T.item X rfl rfl rfl hc i pins s3 σ3 H3 X.xe I3 (stat fr3) st3 go) fun r s4 qq0=>?_)
  obtain ⟨u,hr,h4⟩:=qq0
  subst hr
  refine wpAny_passesOwn hp (d8 h4 fun _ s5 qq0=>?_)
  obtain ⟨x,H5,I5,r5,y5,st5,fr5⟩:=qq0
  have I5':=I5.pinned (stat fr5) (T.obj _ _ st5)
  refine wpAny_passesOwn hp (d8 (hg _ s5 σ3 H5 x u _ I5' r5 (step x H5 y5)) fun _ s6 qq0=>?_)
  obtain ⟨σ6,H6,I6,q6⟩:=qq0
  refine wpAny_passesOwn hp (d8 (hb _ s6 σ6 H6 _ I6 q6) fun f s7 q7=>?_)
  have again:∀ {σ7:St} {H7:Hp},Inv X (pins ++ pG fp s5.heap) σ7 H7 s7→N σ7 H7→∃ m,m < n∧∃ i σ' H',Inv X pins σ' H' s7∧tn i s7.heap∧(∀ b∈fp,H' b=none)∧W i m σ' H':=fun {σ7 H7} I7 n7=>by
   obtain ⟨m',hm,w7⟩:=hN σ7 H7 n7
   refine ⟨m',hm,i+1,σ7,H7,I7.unpinned,T.keep _ _ _ st5 fun b hb o e=>(I7.pin (b,o) (List.mem_append_right _ (List.mem_append_right _ (jm hb e)))).1,fun b hb=>?_,w7⟩
   obtain ⟨o,e,d⟩:=T.obj _ _ st5 b hb
   exact (I7.pin (b,o) (List.mem_append_right _ (List.mem_append_right _ (jm hb e)))).2.1
  cases f with
  | next=>obtain ⟨σ7,H7,I7,n7⟩:=q7;exact again I7 n7
  | cont=>obtain ⟨σ7,H7,I7,n7⟩:=q7;exact again I7 n7
  | brk=>obtain ⟨σ7,H7,I7,q7⟩:=q7;exact ⟨σ7,H7,I7.unpinned,q7⟩
  | ret v=>obtain ⟨x7,σ7,H7,I7,r7,q7⟩:=q7;exact ⟨x7,σ7,H7,I7.unpinned,r7,q7⟩
end
theorem gG {K:PySem.W.Frag} {a:Addr} {xs:List V} {g:TG} {tb:TS} {D:Ends} {σ:St} {H:Hp} (Pv:Nat→St→Hp→Prop) (h0:Pv 0 σ H) (hl:∀ i σ H,i≤xs.length→Pv i σ H→SqL K H a xs)
  (hs:∀ i x σ H,xs[i]?=some x→Pv i σ H→g x σ H fun σ2 H2=>tb {D with nx:=Pv (i+1),ct:=Pv (i+1),bk:=D.nx} σ2 H2) (hd:∀ σ H,Pv xs.length σ H→D.nx σ H):
  ∃ W:Nat→Nat→St→Hp→Prop,(∃ m,W 0 m σ H)∧∀ i m σ H,W i m σ H→
   ((Oh K a).stop i H∧D.nx σ H)∨((Oh K a).go i H∧∃ N:St→Hp→Prop,(∀ σ' H',N σ' H'→∃ m',m' < m∧W (i+1) m' σ' H')∧∀ x H',(Oh K a).yld i H x H'→g x σ H' fun σ2 H2=>tb {D with nx:=N,ct:=N,bk:=D.nx} σ2 H2):=by
 refine ⟨fun i m σ H=>m=xs.length - i∧i≤xs.length∧Pv i σ H,⟨xs.length,by simp,Nat.zero_le _,h0⟩,?_⟩
 rintro i m σ H ⟨rfl,hi,p⟩
 have q:=hl i σ H hi p
 by_cases hlt:i < xs.length
 ·refine .inr ⟨⟨xs,xs[i],q,by simp [hlt]⟩,Pv (i+1),fun σ' H' p'=>⟨xs.length - (i+1),by omega,rfl,hlt,p'⟩,fun x H' y=>?_⟩
  obtain ⟨e,y⟩:=y
  subst e
  exact hs i x σ _ (y xs q) p
 ·have e:i=xs.length:=by omega
  subst e
  exact .inl ⟨⟨xs,q,Nat.le_refl _⟩,hd σ H p⟩
theorem kY {lo:Int} {n:Nat} {g:TG} {tb:TS} {D:Ends} {σ:St} {H:Hp} (Pv:Nat→St→Hp→Prop) (h0:Pv 0 σ H)
  (hs:∀ i σ H,i < n→Pv i σ H→g (.int (lo+i)) σ H fun σ2 H2=>tb {D with nx:=Pv (i+1),ct:=Pv (i+1),bk:=D.nx} σ2 H2) (hd:∀ σ H,Pv n σ H→D.nx σ H):
  ∃ W:Nat→Nat→St→Hp→Prop,(∃ m,W 0 m σ H)∧∀ i m σ H,W i m σ H→
   ((Mp lo n).stop i H∧D.nx σ H)∨((Mp lo n).go i H∧∃ N:St→Hp→Prop,(∀ σ' H',N σ' H'→∃ m',m' < m∧W (i+1) m' σ' H')∧∀ x H',(Mp lo n).yld i H x H'→g x σ H' fun σ2 H2=>tb {D with nx:=N,ct:=N,bk:=D.nx} σ2 H2):=by
 refine ⟨fun i m σ H=>m=n - i∧i≤n∧Pv i σ H,⟨n,by simp,Nat.zero_le _,h0⟩,?_⟩
 rintro i m σ H ⟨rfl,hi,p⟩
 by_cases hlt:i < n
 ·refine .inr ⟨hlt,Pv (i+1),fun σ' H' p'=>⟨n - (i+1),by omega,rfl,hlt,p'⟩,fun x H' y=>?_⟩
  obtain ⟨e,y⟩:=y
  subst e y
  exact hs i σ _ hlt p
 ·have e:i=n:=by omega
  subst e
  exact .inl ⟨Nat.le_refl _,hd σ H p⟩
end L2
namespace L2
open PySem PySem.Spec PyProof.Rows
abbrev R2:=V→V→Hp→VK→Prop
def OpR (X:Cx) (f:Value→Value→Sem Value) (r:R2):Prop:=
 ∀ (pins:List (Addr×Obj)) (s:Shared) (σ:St) (H:Hp) (x y:V) (v u:Value) (Q:VK),Inv X pins σ H s→RelV x v→RelV y u→r x y H Q→
  wpAny (model X.prog X.w) X.A (f v u) (EP X pins σ Q) X.xe s
def Wb (X:Cx) (f:Value→Sem Value) (r:V→Hp→VK→Prop):Prop:=
 ∀ (pins:List (Addr×Obj)) (s:Shared) (σ:St) (H:Hp) (x:V) (v:Value) (Q:VK),Inv X pins σ H s→RelV x v→r x H Q→
  wpAny (model X.prog X.w) X.A (f v) (EP X pins σ Q) X.xe s
def CallR (X:Cx) (f:Value) (r:List V→Hp→VK→Prop):Prop:=
 ∀ (pins:List (Addr×Obj)) (s:Shared) (σ:St) (H:Hp) (xs:List V) (us:List Value) (Q:VK),Inv X pins σ H s→Vals xs us→r xs H Q→
  wpAny (model X.prog X.w) X.A (call f us) (EP X pins σ Q) X.xe s
def Jf (r:R2) (ta tb:TE):TE:=fun σ H Q=>ta σ H fun x H1=>tb σ H1 fun y H2=>r x y H2 Q
def tUn (r:V→Hp→VK→Prop) (ta:TE):TE:=fun σ H Q=>ta σ H fun x H1=>r x H1 Q
def rI (C:Int→Int→Prop) (g:Int→Int→V):R2:=fun x y H Q=>∃ i j,x= .int i∧y= .int j∧C i j∧Q (g i j) H
def Mq (g:Int→Int→V):R2:=fun x y H Q=>∃ i j,x= .int i∧y= .int j∧Q (g i j) H
def rU (g:Int→V):V→Hp→VK→Prop:=fun x H Q=>∃ i,x= .int i∧Q (g i) H
section
variable {X:Cx} {a b c:Expr} {ta tb tc:TE} {pos:Pos}
theorem Oj (ha:PE X a ta) (hb:PE X b tb) {pins:List (Addr×Obj)} {s:Shared} {σ:St} {H:Hp} {R:V→V→Hp→Prop} (I:Inv X pins σ H s)
  (h:ta σ H fun x H1=>tb σ H1 fun y H2=>R x y H2) {Q:Value→Shared→Prop} {f:Value→Value→Sem Value}
  (hf:∀ v u s2 x y H2,Inv X pins σ H2 s2→RelV x v→RelV y u→R x y H2→wpAny (model X.prog X.w) X.A (f v u) Q X.xe s2):
  wpAny (model X.prog X.w) X.A (eval a X.env) (fun v s₁=>wpAny (model X.prog X.w) X.A (eval b X.env) (fun u s₂=>wpAny (model X.prog X.w) X.A (f v u) Q X.xe s₂) X.xe s₁) X.xe s:=by
 refine d8 (ha pins s σ H _ I h) fun v s1 qq0=>?_
 obtain ⟨x,H1,I1,r1,q1⟩:=qq0
 refine d8 (hb pins s1 σ H1 _ I1 q1) fun u s2 qq0=>?_
 obtain ⟨y,H2,I2,r2,q2⟩:=qq0
 exact hf v u s2 x y H2 I2 r1 r2 q2
theorem Sx {op:Operator} {r:R2} (ho:OpR X (binaryOp op) r) (ha:PE X a ta) (hb:PE X b tb):PE X (.BinOp a op b pos) (Jf r ta tb):=by
 intro pins s σ H Q I h
 exact wpAny_BinOp (Oj ha hb I h fun v u s2 x y H2 I2 rx ry q=>ho pins s2 σ H2 x y v u Q I2 rx ry q)
theorem Sy {op:UnaryOp} {r:V→Hp→VK→Prop} (ho:Wb X (unaryOp op) r) (ha:PE X a ta):PE X (.UnaryOp op a pos) (tUn r ta):=by
 intro pins s σ H Q I h
 exact UnaryOp_ (d8 (ha pins s σ H _ I h) fun v s1 ⟨x,H1,I1,r1,q1⟩=>ho pins s1 σ H1 x v Q I1 r1 q1)
theorem Wc {f:Value→Value→Sem Value} {C:Int→Int→Prop} {g:Int→Int→Int}
  (rule:∀ (i j:Int) (t u:Tok) (s:Shared) (Q:Value→Shared→Prop) (E:Value→Shared→Prop),C i j→Q (.int (g i j) s.toks) {s with toks:=s.toks+1}→wpAny (model X.prog X.w) X.A (f (.int i t) (.int j u)) Q E s):
  OpR X f (rI C fun i j=>.int (g i j)):=by
 intro pins s σ H x y v u Q I rx ry h
 obtain ⟨i,j,rfl,rfl,hc,q⟩:=h
 obtain ⟨t,rfl⟩:=rx
 obtain ⟨t',rfl⟩:=ry
 exact rule i j t t' s _ _ hc ⟨.int (g i j),H,I.tok _,⟨_,rfl⟩,q⟩
theorem SJ {f:Value→Value→Sem Value} {g:Int→Int→Int}
  (rule:∀ (i j:Int) (t u:Tok) (s:Shared) (Q:Value→Shared→Prop) (E:Value→Shared→Prop),Q (.int (g i j) s.toks) {s with toks:=s.toks+1}→wpAny (model X.prog X.w) X.A (f (.int i t) (.int j u)) Q E s):
  OpR X f (Mq fun i j=>.int (g i j)):=by
 intro pins s σ H x y v u Q I rx ry h
 obtain ⟨i,j,rfl,rfl,q⟩:=h
 obtain ⟨t,rfl⟩:=rx
 obtain ⟨t',rfl⟩:=ry
 exact rule i j t t' s _ _ ⟨.int (g i j),H,I.tok _,⟨_,rfl⟩,q⟩
theorem Ol {f:Value→Value→Sem Value} {g:Int→Int→Bool}
  (rule:∀ (i j:Int) (t u:Tok) (s:Shared) (Q:Value→Shared→Prop) (E:Value→Shared→Prop),Q (.bool (g i j)) s→wpAny (model X.prog X.w) X.A (f (.int i t) (.int j u)) Q E s):
  OpR X f (Mq fun i j=>.bl (g i j)):=by
 intro pins s σ H x y v u Q I rx ry h
 obtain ⟨i,j,rfl,rfl,q⟩:=h
 obtain ⟨t,rfl⟩:=rx
 obtain ⟨t',rfl⟩:=ry
 exact rule i j t t' s _ _ ⟨.bl (g i j),H,I,rfl,q⟩
def CDiv (i j:Int):Prop:=0 < j∧j < 1073741824
def CPow (i j:Int):Prop:=0≤j∧j≤1000000∧i.natAbs < 2 ^ 64
def CMul (i j:Int):Prop:=(-(2 ^ 64) < i∧i < 2 ^ 64)∨(-(2 ^ 64) < j∧j < 2 ^ 64)
theorem CMul.ok {i j:Int} (h:CMul i j):IntMulOk i j:=by
 rcases h with ⟨h1,h2⟩ | ⟨h1,h2⟩
 ·exact .of_left (intBits_le_64 h1 h2)
 ·exact .of_right (intBits_le_64 h1 h2)
theorem Om:OpR X (binaryOp .Add) (Mq fun i j=>.int (i+j)):=SJ fun _ _ _ _ _ _ _ q=>add_int q
theorem pH:OpR X (binaryOp .Sub) (Mq fun i j=>.int (i - j)):=SJ fun _ _ _ _ _ _ _ q=>sub_int q
theorem Oo:OpR X (binaryOp .Mult) (rI CMul fun i j=>.int (i*j)):=Wc fun _ _ _ _ _ _ _ hc q=>mul_int q hc.ok
theorem zW:OpR X (binaryOp .FloorDiv) (rI CDiv fun i j=>.int (i / j)):=Wc fun i j _ _ _ _ _ hc q=>by
 have h1:(0:Int) < j:=hc.1
 have h2:j < 1073741824:=hc.2
 exact floordiv_int (by omega) (by rw [Int.fdiv_eq_ediv_of_nonneg i (by omega)];exact q) (.inl (PyProof.noPylong_small (by omega)))
theorem jQ:OpR X (binaryOp .Mod) (rI (fun _ j=>0 < j) fun i j=>.int (i % j)):=Wc fun i j _ _ _ _ _ hc q=>by
 have h1:(0:Int) < j:=hc
 exact mod_int' (by omega) (by rw [Int.fmod_eq_emod_of_nonneg i (by omega)];exact q)
theorem Ek:OpR X (binaryOp .Pow) (rI CPow fun i j=>.int (i ^ j.toNat)):=Wc fun _ _ _ _ _ _ _ hc q=>pow_int_small hc.1 hc.2.1 hc.2.2 q
theorem unI {f:Value→Sem Value} {g:Int→Int}
  (rule:∀ (i:Int) (t:Tok) (s:Shared) (Q:Value→Shared→Prop) (E:Value→Shared→Prop),Q (.int (g i) s.toks) {s with toks:=s.toks+1}→wpAny (model X.prog X.w) X.A (f (.int i t)) Q E s):
  Wb X f (rU fun i=>.int (g i)):=by
 intro pins s σ H x v Q I rx h
 obtain ⟨i,rfl,q⟩:=h
 obtain ⟨t,rfl⟩:=rx
 exact rule i t s _ _ ⟨.int (g i),H,I.tok _,⟨_,rfl⟩,q⟩
theorem jR:Wb X (unaryOp .USub) (rU fun i=>.int (-i)):=unI fun _ _ _ _ _ q=>neg_int q
end
def SM:V→V→Bool
 | .non,.non=>true | .non,.int _=>true | .int _,.non=>true | .non,.bl _=>true | .bl _,.non=>true | .non,.str _=>true | .str _,.non=>true
 | .int _,.int _=>true | .bl _,.bl _=>true | .str _,.str _=>true | .byt _,.byt _=>true
 | .int _,.str _=>true | .str _,.int _=>true | .bl _,.str _=>true | .str _,.bl _=>true
 | _,_=>false
def rEq:R2:=fun x y H Q=>SM x y=true∧Q (.bl (decide (x=y))) H
def rNe:R2:=fun x y H Q=>SM x y=true∧Q (.bl (!decide (x=y))) H
theorem zX {i j:Int}:decide (V.int i=V.int j)=(i == j):=by
 rw [Bool.eq_iff_iff]
 simp
theorem El {i j:Bool}:decide (V.bl i=V.bl j)=(i == j):=by
 rw [Bool.eq_iff_iff]
 simp
theorem zY {i j:Str}:decide (V.str i=V.str j)=(i == j):=by
 rw [Bool.eq_iff_iff]
 simp
theorem zZ {i j:Array UInt8}:decide (V.byt i=V.byt j)=(i.toList == j.toList):=by
 rw [Bool.eq_iff_iff]
 cases i
 cases j
 simp
section
variable {X:Cx} {a b c:Expr} {ta tb tc:TE} {pos:Pos}
theorem bG {pins:List (Addr×Obj)} {σ:St} {H:Hp} {s:Shared} {Q:VK} {k k':Bool} (I:Inv X pins σ H s) (q:Q (.bl k) H) (e:k=k'):EP X pins σ Q (.bool k') s:=by
 subst e
 exact ⟨.bl k,H,I,rfl,q⟩
theorem SN:OpR X (compareOp .Eq) rEq:=by
 intro pins s σ H x y v u Q I rx ry h
 obtain ⟨hs,q⟩:=h
 cases x with
 | non=>
  cases rx
  cases y with
  | non=>cases ry;exact PySem.EqNone.eq_none_none (bG I q (by simp))
  | bl j=>cases ry;exact PySem.EqNone.eq_none_bool (bG I q (by simp))
  | int j=>obtain ⟨t',rfl⟩:=ry;exact PySem.EqNone.eq_none_int (bG I q (by simp))
  | str j=>obtain ⟨t',rfl⟩:=ry;exact PySem.EqNone.eq_none_str (bG I q (by simp))
  | _=>exact absurd (show false=true from hs) Bool.false_ne_true
 | bl i=>
  cases rx
  cases y with
  | non=>cases ry;exact PySem.EqNone.eq_bool_none (bG I q (by simp))
  | bl j=>cases ry;exact eq_bool (bG I q El)
  | str j=>obtain ⟨t',rfl⟩:=ry;exact PySem.EqMixed.eq_bool_str (bG I q (by simp))
  | _=>exact absurd (show false=true from hs) Bool.false_ne_true
 | int i=>
  obtain ⟨t,rfl⟩:=rx
  cases y with
  | non=>cases ry;exact PySem.EqNone.eq_int_none (bG I q (by simp))
  | int j=>obtain ⟨t',rfl⟩:=ry;exact eq_int (bG I q zX)
  | str j=>obtain ⟨t',rfl⟩:=ry;exact PySem.EqMixed.eq_int_str (bG I q (by simp))
  | _=>exact absurd (show false=true from hs) Bool.false_ne_true
 | str i=>
  obtain ⟨t,rfl⟩:=rx
  cases y with
  | non=>cases ry;exact PySem.EqNone.eq_str_none (bG I q (by simp))
  | bl j=>cases ry;exact PySem.EqMixed.eq_str_bool (bG I q (by simp))
  | int j=>obtain ⟨t',rfl⟩:=ry;exact PySem.EqMixed.eq_str_int (bG I q (by simp))
  | str j=>obtain ⟨t',rfl⟩:=ry;exact eq_str (bG I q zY)
  | _=>exact absurd (show false=true from hs) Bool.false_ne_true
 | byt i=>
  obtain ⟨t,rfl⟩:=rx
  cases y with
  | byt j=>obtain ⟨t',rfl⟩:=ry;exact PySem.W.eq_bytes (bG I q zZ)
  | _=>exact absurd (show false=true from hs) Bool.false_ne_true
 | _=>cases y <;> exact absurd (show false=true from hs) Bool.false_ne_true
theorem SQ:OpR X (compareOp .NotEq) rNe:=by
 intro pins s σ H x y v u Q I rx ry h
 obtain ⟨hs,q⟩:=h
 cases x with
 | non=>
  cases rx
  cases y with
  | non=>cases ry;exact PySem.EqNone.ne_none_none (bG I q (by simp))
  | bl j=>cases ry;exact PySem.EqNone.ne_none_bool (bG I q (by simp))
  | int j=>obtain ⟨t',rfl⟩:=ry;exact PySem.EqNone.ne_none_int (bG I q (by simp))
  | str j=>obtain ⟨t',rfl⟩:=ry;exact PySem.EqNone.ne_none_str (bG I q (by simp))
  | _=>exact absurd (show false=true from hs) Bool.false_ne_true
 | bl i=>
  cases rx
  cases y with
  | non=>cases ry;exact PySem.EqNone.ne_bool_none (bG I q (by simp))
  | bl j=>cases ry;exact ne_bool (bG I q (congrArg not El))
  | str j=>obtain ⟨t',rfl⟩:=ry;exact PySem.EqMixed.ne_bool_str (bG I q (by simp))
  | _=>exact absurd (show false=true from hs) Bool.false_ne_true
 | int i=>
  obtain ⟨t,rfl⟩:=rx
  cases y with
  | non=>cases ry;exact PySem.EqNone.ne_int_none (bG I q (by simp))
  | int j=>obtain ⟨t',rfl⟩:=ry;exact ne_int (bG I q (congrArg not zX))
  | str j=>obtain ⟨t',rfl⟩:=ry;exact PySem.EqMixed.ne_int_str (bG I q (by simp))
  | _=>exact absurd (show false=true from hs) Bool.false_ne_true
 | str i=>
  obtain ⟨t,rfl⟩:=rx
  cases y with
  | non=>cases ry;exact PySem.EqNone.ne_str_none (bG I q (by simp))
  | bl j=>cases ry;exact PySem.EqMixed.ne_str_bool (bG I q (by simp))
  | int j=>obtain ⟨t',rfl⟩:=ry;exact PySem.EqMixed.ne_str_int (bG I q (by simp))
  | str j=>obtain ⟨t',rfl⟩:=ry;exact ne_str (bG I q (congrArg not zY))
  | _=>exact absurd (show false=true from hs) Bool.false_ne_true
 | byt i=>
  obtain ⟨t,rfl⟩:=rx
  cases y with
  | byt j=>obtain ⟨t',rfl⟩:=ry;exact PySem.W.ne_bytes (bG I q (congrArg not zZ))
  | _=>exact absurd (show false=true from hs) Bool.false_ne_true
 | _=>cases y <;> exact absurd (show false=true from hs) Bool.false_ne_true
theorem wY:OpR X (compareOp .Lt) (Mq fun i j=>.bl (decide (i < j))):=Ol fun _ _ _ _ _ _ _ q=>lt_int q
theorem Mr:OpR X (compareOp .LtE) (Mq fun i j=>.bl (decide (i≤j))):=Ol fun _ _ _ _ _ _ _ q=>le_int q
theorem Em:OpR X (compareOp .Gt) (Mq fun i j=>.bl (decide (j < i))):=Ol fun _ _ _ _ _ _ _ q=>gt_int q
theorem BP:OpR X (compareOp .In) (fun x y H Q=>∃ i j,x= .str i∧y= .str j∧Q (.bl (!(Builtin.Str.occurrences j i 0 j.length 1).isEmpty)) H):=by
 intro pins s σ H x y v u Q I rx ry h
 obtain ⟨i,j,rfl,rfl,q⟩:=h
 obtain ⟨t,rfl⟩:=rx
 obtain ⟨t',rfl⟩:=ry
 exact in_str (bG I q rfl)
theorem OpR.or {f:Value→Value→Sem Value} {r r':R2} (h:OpR X f r) (h':OpR X f r'):OpR X f (fun x y H Q=>r x y H Q∨r' x y H Q):=by
 intro pins s σ H x y v u Q I rx ry q
 rcases q with q | q
 ·exact h pins s σ H x y v u Q I rx ry q
 ·exact h' pins s σ H x y v u Q I rx ry q
theorem aW (b:Expr) {op:CmpOp} (h:autoParam (op≠.In) L2.auto2._auto_1) (h2:autoParam (op≠.NotIn) L2.auto2._auto_1):behindInMarks op b=false:=by
 have e1:(op == CmpOp.In)=false:=by cases op <;> first | rfl | exact absurd rfl h
 have e2:(op == CmpOp.NotIn)=false:=by cases op <;> first | rfl | exact absurd rfl h2
 cases b <;> simp [behindInMarks,e1,e2]
theorem Jr {op:CmpOp} {r:R2} (ho:OpR X (compareOp op) r) (ha:PE X a ta) (hb:PE X b tb) (hm:behindInMarks op b=false):PE X (.Compare a [op] [b] pos) (Jf r ta tb):=by
 intro pins s σ H Q I h
 exact wpAny_Compare1 (Oj ha hb I h fun v u s2 x y H2 I2 rx ry q=>ho pins s2 σ H2 x y v u Q I2 rx ry q) hm
def En (t:TE):TT:=fun σ H Q=>t σ H fun x H'=>∃ k,x= .bl k∧Q k H'
theorem Js {op:CmpOp} {r:R2} (ho:OpR X (compareOp op) r) (ha:PE X a ta) (hb:PE X b tb) (hm:behindInMarks op b=false):PT X (.Compare a [op] [b] pos) (En (Jf r ta tb)):=by
 intro pins s σ H Q I h
 refine wpAny_isTrue_Compare1 (d8 (ha pins s σ H _ I h) fun v s1 ⟨x,H1,I1,r1,q1⟩=>d8 (hb pins s1 σ H1 _ I1 q1) fun u s2 ⟨y,H2,I2,r2,q2⟩=>
  d8 (ho pins s2 σ H2 x y v u _ I2 r1 r2 q2) fun c s3 ⟨z,H3,I3,r3,k,e,q3⟩=>?_) hm
 subst e
 cases r3
 exact wpAny_truthy_bool ⟨H3,I3,q3⟩
def yG (r r':R2) (ta tb tc:TE):TE:=fun σ H Q=>ta σ H fun x H1=>tb σ H1 fun y H2=>r x y H2 fun z H3=>∃ k,z= .bl k∧
 (if k=true then tc σ H3 fun w' H4=>r' y w' H4 Q else Q (.bl false) H3)
theorem Eo {op op':CmpOp} {r r':R2} (ho:OpR X (compareOp op) r) (ho':OpR X (compareOp op') r') (ha:PE X a ta) (hb:PE X b tb) (hc:PE X c tc)
  (hm:autoParam (lastMarks [op,op'] [b,c]=false) L2.auto5._auto_1):PE X (.Compare a [op,op'] [b,c] pos) (yG r r' ta tb tc):=by
 intro pins s σ H Q I h
 refine Compare_chain (d8 (ha pins s σ H _ I h) fun v s1 ⟨x,H1,I1,r1,q1⟩=>chain_link (d8 (hb pins s1 σ H1 _ I1 q1) fun u s2 ⟨y,H2,I2,r2,q2⟩=>
  d8 (ho pins s2 σ H2 x y v u _ I2 r1 r2 q2) fun d s3 ⟨z,H3,I3,r3,k,e,q3⟩=>?_)) hm
 subst e
 cases r3
 refine wpAny_truthy_bool ?_
 cases k with
 | false=>exact ite_ff ⟨.bl false,H3,I3,rfl,q3⟩
 | true=>exact ite_tt (chain_last (d8 (hc pins s3 σ H3 _ I3 q3) fun w' s4 ⟨z',H4,I4,r4,q4⟩=>ho' pins s4 σ H4 y z' u w' Q I4 r2 r4 q4))
theorem rW:(sizeLine:Nat) < 2 ^ 63:=by rw [sizeLine_eq];decide
theorem yH:OpR X (binaryOp .Add) (fun x y H Q=>∃ i j,x= .str i∧y= .str j∧i.length+j.length≤sizeLine∧Q (.str (i ++ j)) H):=by
 intro pins s σ H x y v u Q I rx ry h
 obtain ⟨i,j,rfl,rfl,hz,q⟩:=h
 obtain ⟨t,rfl⟩:=rx
 obtain ⟨t',rfl⟩:=ry
 exact add_str (fun t' tk=>⟨.str (i ++ j),H,I.tok _,⟨_,rfl⟩,q⟩) hz
theorem vals1 {x:V} {us:List Value} (r:Vals [x] us):∃ u,us=[u]∧RelV x u:=by
 cases r with
 | cons r1 r2=>cases r2;exact ⟨_,rfl,r1⟩
theorem vals2 {x y:V} {us:List Value} (r:Vals [x,y] us):∃ u w',us=[u,w']∧RelV x u∧RelV y w':=by
 cases r with
 | cons r1 r2=>
  cases r2 with
  | cons r3 r4=>cases r4;exact ⟨_,_,rfl,r1,r3⟩
theorem uF (hc:X.calm=true):CallR X (.builtin "max") (fun xs H Q=>∃ i j,xs=[.int i,.int j]∧Q (.int (if j > i then j else i)) H):=by
 intro pins s σ H xs us Q I r h
 obtain ⟨i,j,rfl,q⟩:=h
 obtain ⟨u,w',rfl,⟨t,rfl⟩,⟨t',rfl⟩⟩:=vals2 r
 refine max_two_ints (I.ok.hd hc) fun h' tk k=>⟨_,H,I.kept k,?_,q⟩
 by_cases hj:j > i
 ·rw [if_pos hj,if_pos hj];exact ⟨_,rfl⟩
 ·rw [if_neg hj,if_neg hj];exact ⟨_,rfl⟩
theorem BR (hc:X.calm=true):CallR X (.builtin "min") (fun xs H Q=>∃ i j,xs=[.int i,.int j]∧Q (.int (if j < i then j else i)) H):=by
 intro pins s σ H xs us Q I r h
 obtain ⟨i,j,rfl,q⟩:=h
 obtain ⟨u,w',rfl,⟨t,rfl⟩,⟨t',rfl⟩⟩:=vals2 r
 refine min_two_ints (I.ok.hd hc) fun h' tk k=>⟨_,H,I.kept k,?_,q⟩
 by_cases hj:j < i
 ·rw [if_pos hj,if_pos hj];exact ⟨_,rfl⟩
 ·rw [if_neg hj,if_neg hj];exact ⟨_,rfl⟩
def Tc (K:PySem.W.Frag) (x:V) (H:Hp) (n:Nat):Prop:=
 match x with
 | .str y=>y.length≤sizeLine∧n=y.length
 | .byt y=>y.size≤sizeLine∧n=y.size
 | .ref p=>(∃ xs,SqL K H p xs∧n=xs.length)∨∃ xs,SqT K H p xs∧n=xs.length
 | _=>False
theorem Ep:CallR X (.builtin "len") (fun xs H Q=>∃ x n,xs=[x]∧Tc X.K x H n∧Q (.int n) H):=by
 intro pins s σ H xs us Q I r h
 obtain ⟨x,n,rfl,e,q⟩:=h
 obtain ⟨u,rfl,rx⟩:=vals1 r
 have hl:=rW
 have hs:sizeLine=16777216:=sizeLine_eq
 cases x with
 | str y=>
  obtain ⟨t,rfl⟩:=rx
  obtain ⟨hy,e'⟩:y.length≤sizeLine∧n=y.length:=e
  subst e'
  exact len_str (by omega) ⟨.int _,H,I.tok _,⟨_,rfl⟩,q⟩
 | byt y=>
  obtain ⟨t,rfl⟩:=rx
  obtain ⟨hy,e'⟩:y.size≤sizeLine∧n=y.size:=e
  subst e'
  exact PySem.W.len_bytes (by omega) ⟨.int _,H,I.tok _,⟨_,rfl⟩,q⟩
 | ref p=>
  cases rx
  have e':(∃ xs,SqL X.K H p xs∧n=xs.length)∨∃ xs,SqT X.K H p xs∧n=xs.length:=e
  rcases e' with ⟨xs,hx,e'⟩ | ⟨xs,hx,e'⟩
  ·subst e'
   obtain ⟨its,r',pl,hz⟩:=I.list hx
   have hlen:=r'.length
   exact Calls.call_len_list pl.isList (by simp only [List.size_toArray];omega) ⟨.int xs.length,H,I.tok _,⟨_,by simp only [List.size_toArray];rw [hlen]⟩,q⟩
  ·subst e'
   obtain ⟨its,r',pl,hz⟩:=I.tuple hx
   have hlen:=r'.length
   exact len_tuple pl (by simp only [List.size_toArray];omega) ⟨.int xs.length,H,I.tok _,⟨_,by simp only [List.size_toArray];rw [hlen]⟩,q⟩
 | _=>exact (show False from e).elim
end
end L2
namespace L2
open PySem PySem.Spec PyProof.Rows
structure ObjM (h:Heap) (x dx C:Addr) (mA:Str→Option Value):Prop where
 obj:h.get? x=some (PySem.W.instObj C dx)
 ns:h.Ns1 dx mA
 ne:dx≠x
theorem BV {h:Heap} {dx:Addr} {mA:Str→Option Value} (n:h.Ns1 dx mA):∃ od,h.get? dx=some od∧∀ name,PySem.W.lookIn name od=some (mA name):=by
 obtain ⟨o,es,ep,ho,hd,hk,_,hm⟩:=n
 refine ⟨o,ho,fun name=>?_⟩
 have e:=hm name
 unfold nsFind findBy at e
 rw [← Array.find?_toList] at e
 unfold PySem.W.lookIn
 rw [hd]
 dsimp only
 split
 ·rename_i y q
  rw [q] at e
  exact congrArg some e
 ·rename_i q
  rw [q] at e
  have a:es.toList.any (·.refKey)=false:=by
   rw [List.any_eq_false]
   intro y hy
   obtain ⟨z,t,hkey⟩:=hk y (Array.mem_toList_iff.mp hy)
   simp [DictEntry.refKey,hkey]
  have a':¬ es.toList.any (·.refKey)=true:=by rw [a];exact Bool.false_ne_true
  rw [if_neg a']
  exact congrArg some e
theorem ObjM.look {h:Heap} {x dx C:Addr} {mA:Str→Option Value} (I:ObjM h x dx C mA):∃ od,PySem.W.InstAt h x (PySem.W.instObj C dx) C (some od)∧∀ name,PySem.W.lookIn name od=some (mA name):=
 let ⟨od,ho,hl⟩:=BV I.ns
 ⟨od,⟨I.obj,rfl,rfl,ho⟩,hl⟩
section
variable {prog:Program} {w:World} {A:Around} {E:Value→Shared→Prop} {s:Shared} {K:PySem.W.Frag} {x dx C f:Addr} {mA:Str→Option Value} {name:Str} {v:Value}
end
def BW (f:Str) (v:V):List (Str×V)→List (Str×V)
 | []=>[(f,v)]
 | (g,x) :: r=>if g=f then (g,v) :: r else (g,x) :: BW f v r
theorem qI (f g:Str) (v:V):∀ fs:List (Str×V),(BW f v fs).lookup g=if g=f then some v else fs.lookup g
 | []=>by
  show List.lookup g [(f,v)]=_
  by_cases h:g=f
  ·have hb:(g == f)=true:=beq_iff_eq.mpr h
   simp only [List.lookup,hb,if_pos h]
  ·have hb:(g == f)=false:=beq_eq_false_iff_ne.mpr h
   simp only [List.lookup,hb,if_neg h]
 | (k,x) :: r=>by
  have ih:=qI f g v r
  rw [show BW f v ((k,x) :: r)=(if k=f then (k,v) :: r else (k,x) :: BW f v r) from rfl]
  by_cases hk:k=f
  ·rw [if_pos hk]
   by_cases h:g=k
   ·have hb:(g == k)=true:=beq_iff_eq.mpr h
    simp only [List.lookup,hb,if_pos (h.trans hk)]
   ·have hb:(g == k)=false:=beq_eq_false_iff_ne.mpr h
    simp only [List.lookup,hb,if_neg (fun e:g=f=>h (e.trans hk.symm))]
  ·rw [if_neg hk]
   by_cases h:g=k
   ·have hb:(g == k)=true:=beq_iff_eq.mpr h
    simp only [List.lookup,hb,if_neg (fun e:g=f=>hk (h.symm.trans e))]
   ·have hb:(g == k)=false:=beq_eq_false_iff_ne.mpr h
    simp only [List.lookup,hb]
    exact ih
theorem RelO.none_of {o:Option Value} (r:RelO none o):o=none:=by
 cases o with
 | none=>rfl
 | some u=>exact (show False from r).elim
section
variable {P:Program} {w:World} {H H':Hp} {h h':Heap} {a C dx:Addr} {fs fs':List (Str×V)}
theorem Jt (hok:HOk P w H h) (e:H a=some (.ins C dx fs)):∃ mA,ObjM h a dx C mA∧(∀ f,RelO (fs.lookup f) (mA f))∧PySem.Within mA (fs.map (·.1))∧fs.length≤1000∧H dx=some (.own a):=by
 obtain ⟨d,z,ne,ob,mA,n,r,q⟩:=(show ObjOk P w H h a (.ins C dx fs) from hok a _ e)
 exact ⟨mA,⟨ob,n,ne⟩,r,q,z,d⟩
end
structure Cls (K:PySem.W.Frag) (C:Addr):Prop where
 pg:PySem.W.plainGet K C Str.empty=true
 hd:PySem.W.hasDictIn K C=true
 po:PySem.W.plainOver K C=true
 sa:PySem.W.findIn K (.ref C) "__setattr__"=some (some (.builtin "object.__setattr__"))
theorem Cls.get {K:PySem.W.Frag} {C:Addr} (c:Cls K C) (f:Str):PySem.W.plainGet K C f=true:=c.pg
def mz (K:PySem.W.Frag) (C:Addr) (f:Str):Prop:=PySem.W.findIn K (.ref C) f=some none
structure Con (K:PySem.W.Frag) (C:Addr) (f:Str) (v:V) (u:Value):Prop where
 at_:PySem.W.findIn K (.ref C) f=some (some u)
 rel:RelV v u
 get:PySem.W.specialIn K u "__get__"=some none
 cp:PySem.W.copiedNames.contains f=false
structure Meth (K:PySem.W.Frag) (C:Addr) (m:Str) (f:Addr):Prop where
 at_:PySem.W.findIn K (.ref C) m=some (some (.ref f))
 fn:PySem.W.isFn K (.ref f)=true
 kp:PySem.W.keepIn K (.ref f)=true
section
variable {X:Cx} {pins:List (Addr×Obj)} {σ:St} {H:Hp} {s:Shared} {a C dx:Addr} {fs:List (Str×V)} {f:Str} {v:V} {A:Around} {E:Value→Shared→Prop}
end
section
variable {X:Cx} {o e value:Expr} {f:Str} {pos pos' tpos:Pos} {ta tv:TE}
end
section
variable {X:Cx} {pins:List (Addr×Obj)} {σ:St} {H:Hp} {s:Shared} {A:Around} {E:Value→Shared→Prop} {Q:Value→Shared→Prop} {c:Value} {b:Bool}
inductive jT (K:PySem.W.Frag) (H:Hp):V→Value→Prop where
 | non:jT K H .non (.type "NoneType")
 | bl (x:Bool):jT K H (.bl x) (.type "bool")
 | int (i:Int):jT K H (.int i) (.type "int")
 | str (x:Str):jT K H (.str x) (.type "str")
 | flt (x:UInt64):jT K H (.flt x) (.type "float")
 | lst {a:Addr} {xs:List V} (e:H a=some (.lst xs)):jT K H (.ref a) (.type "list")
 | frz {a:Addr} {o:Obj} {xs:List V} (e:H a=some (.frz o (.lst xs))):jT K H (.ref a) (.type "list")
 | tup {a:Addr} {xs:List V} (e:H a=some (.tup xs)):jT K H (.ref a) (.type "tuple")
 | dK {a:Addr} {kvs:List (Key×V)} (e:H a=some (.dK kvs)):jT K H (.ref a) (.type "dict")
 | dT {a:Addr} {kvs:List (List Key×V)} (e:H a=some (.dT kvs)):jT K H (.ref a) (.type "dict")
 | ins {a C dx:Addr} {fs:List (Str×V)} (e:H a=some (.ins C dx fs)) (cl:Cls K C) (ha:PySem.W.findIn K (.ref C) "__class__"=some (some (.builtin "object.__class__")))
   (hn:PySem.W.specialIn K (.builtin "object.__class__") "__get__"=some (some (.builtin "getset_descriptor.__get__"))) (htk:PySem.W.takesIn K (.builtin "object.__class__")=some true)
   (hm:PySem.W.mroIn K C (.type "object")=some true):jT K H (.ref a) (.ref C)
theorem BX {x:V} {u t:Value} (I:Inv X pins σ H s) (rx:RelV x u) (ty:jT X.K H x t) (e:PySem.W.kitOne X.K t c=some b) (h:∀ tk,Q (.bool b) {s with toks:=tk}):
  wpAny (model X.prog X.w) A (call (.builtin "isinstance") [u,c]) Q E s:=by
 cases ty with
 | non=>cases (show u=Value.none from rx);exact PySem.W.kia_one PySem.W.kitx_none I.kIn True.intro e (fun z=>nomatch z) h
 | bl y=>cases (show u=Value.bool y from rx);exact PySem.W.kia_one PySem.W.kitx_bool I.kIn True.intro e (fun z=>nomatch z) h
 | int i=>obtain ⟨t,q⟩:=(show ∃ t,u=Value.int i t from rx);cases q;exact PySem.W.kia_one PySem.W.kitx_int I.kIn True.intro e (fun z=>nomatch z) h
 | str y=>obtain ⟨t,q⟩:=(show ∃ t,u=Value.str y t from rx);cases q;exact PySem.W.kia_one PySem.W.kitx_str I.kIn True.intro e (fun z=>nomatch z) h
 | flt y=>obtain ⟨t,q⟩:=(show ∃ t,u=Value.float y t from rx);cases q;exact PySem.W.kia_one PySem.W.kitx_float I.kIn True.intro e (fun z=>nomatch z) h
 | @lst a xs ea=>
  cases (show u=Value.ref a from rx)
  obtain ⟨_,_,n,_,h1⟩:=(show ObjOk X.prog X.w H s.heap a (.lst xs) from I.hok a _ ea)
  exact PySem.W.kia_one PySem.W.kitx_list I.kIn ⟨_,h1,rfl⟩ e (fun z=>nomatch z) h
 | @frz a ob xs ea=>
  cases (show u=Value.ref a from rx)
  obtain ⟨_,_,_,n,_,h1⟩:=(show ObjOk X.prog X.w H s.heap a (.frz ob (.lst xs)) from I.hok a _ ea)
  exact PySem.W.kia_one PySem.W.kitx_list I.kIn ⟨_,h1,rfl⟩ e (fun z=>nomatch z) h
 | @tup a xs ea=>
  cases (show u=Value.ref a from rx)
  obtain ⟨_,_,_,p⟩:=(show ObjOk X.prog X.w H s.heap a (.tup xs) from I.hok a _ ea)
  obtain ⟨o,h1,h2,_⟩:=p
  exact PySem.W.kia_one PySem.W.kitx_tuple I.kIn ⟨o,h1,h2⟩ e (fun z=>nomatch z) h
 | @dK a kvs ea=>
  cases (show u=Value.ref a from rx)
  obtain ⟨_,_,vs,_,p⟩:=(show ObjOk X.prog X.w H s.heap a (.dK kvs) from I.hok a _ ea)
  obtain ⟨o,es,ep,h1,h2,_⟩:=p
  exact PySem.W.kia_one PySem.W.kitx_dict I.kIn ⟨o,h1,h2.1⟩ e (fun z=>nomatch z) h
 | @dT a kvs ea=>
  cases (show u=Value.ref a from rx)
  obtain ⟨_,_,xs,_,o,es,ep,h1,h2,_⟩:=(show ObjOk X.prog X.w H s.heap a (.dT kvs) from I.hok a _ ea)
  exact PySem.W.kia_one PySem.W.kitx_dict I.kIn ⟨o,h1,h2.1⟩ e (fun z=>nomatch z) h
 | @ins a C dx fs ea cl ha hn htk hm=>
  cases (show u=Value.ref a from rx)
  obtain ⟨mA,O,_⟩:=Jt I.hok ea
  obtain ⟨od,J,_⟩:=O.look
  exact PySem.W.kia_one (PySem.W.kitx_own (cl.get _) cl.hd ha hn htk hm) I.kIn J e (fun z=>nomatch z) h
end
end L2
namespace L2
open PySem PySem.Spec PyProof.Rows
structure Room (k:Nat) (A:Around):Prop where
 hd:A.handled=none
 dp:A.depth+3*k+5 < recursionLimit
 un:A.units+16*k+200 < cLine
 gd:A.guards=some []
theorem Room.mono {j k:Nat} {A:Around} (r:Room k A) (h:j≤k):Room j A:=⟨r.hd,by have:=r.dp;omega,by have:=r.un;omega,r.gd⟩
theorem Room.deeper {k:Nat} {A:Around} (r:Room (k+1) A) (env:Env):Room k (A.deeper env):=
 ⟨r.hd,by have:=r.dp;show A.depth+1+3*k+5 < _;omega,by have:=r.un;show A.units+3+16*k+200 < _;omega,r.gd⟩
theorem yI {A:Around} {C:Addr} {us:List Value} {kw:List (Str×Value)}:(A.under (.builtin "type.__call__" ⟨.ref C :: us,kw⟩)).depth=A.depth+1:=by
 first | rfl | simp [Around.under,Code.weight,Code.isCreation,Code.isGuard,Code.isCaller,Code.frames,Code.isFrame,guardIds]
theorem yJ {A:Around} {C:Addr} {us:List Value} {kw:List (Str×Value)}:(A.under (.builtin "type.__call__" ⟨.ref C :: us,kw⟩)).units=A.units+1:=by
 first | rfl | simp [Around.under,Code.cUnits,Code.frames,Code.isFrame]
theorem wZ {A:Around} {C:Addr} {us:List Value} {kw:List (Str×Value)}:(A.under (.builtin "type.__call__" ⟨.ref C :: us,kw⟩)).guards=pushGuards [] A.guards:=by
 first | rfl | simp [Around.under,Code.guards,Code.isGuard,guardIds]
theorem Room.make {k:Nat} {A:Around} (r:Room (k+1) A) (C:Addr) (us:List Value) (kw:List (Str×Value)):Room k (A.under (.builtin "type.__call__" ⟨.ref C :: us,kw⟩)):=
 ⟨r.hd,by have:=r.dp;rw [yI];omega,by have:=r.un;rw [yJ];omega,(wZ.trans (by rw [r.gd];rfl))⟩
theorem Room.depth {k:Nat} {A:Around} (r:Room k A):A.depth < recursionLimit:=by have:=r.dp;omega
theorem Room.units {k:Nat} {A:Around} (r:Room k A):A.units+64 < cLine:=by have:=r.un;omega
theorem Room.units0 {k:Nat} {A:Around} (r:Room k A):A.units < cLine:=by have:=r.un;omega
def Oq:TA:=fun _ H Q=>Q [] H
def z6 (ta:TE) (tr:TA):TA:=fun σ H Q=>ta σ H fun x H1=>tr σ H1 fun xs H2=>Q (x :: xs) H2
section
variable {X:Cx} {e:Expr} {es:List Expr} {te:TE} {t:TA} {pos:Pos}
theorem Ot:PA X [] Oq:=fun _ _ _ _ H Q I h=>Calls.spliced_nil ⟨[],H,I,.nil,h⟩
theorem Ju (ha:PE X e te) (hr:PA X es t) (hs:autoParam (starEach (e :: es) X.env=(false,eval e X.env) :: starEach es X.env) L2.auto4._auto_1):PA X (e :: es) (z6 te t):=by
 intro pos pins s σ H Q I h
 rw [hs]
 show wpAny _ _ (spliced ((false,eval e X.env) :: backTo pos (starEach es X.env))) _ _ s
 refine Calls.spliced_cons (d8 (ha pins s σ H _ I h) fun u s1 qq0=>?_)
 obtain ⟨x,H1,I1,r1,q1⟩:=qq0
 exact d8 (hr pos pins s1 σ H1 _ I1 q1) fun us s2 ⟨xs,H2,I2,r2,q2⟩=>⟨x :: xs,H2,I2,.cons r1 r2,q2⟩
def Jv (t:TA):TE:=fun σ H Q=>t σ H fun xs H1=>xs.length≤sizeLine∧∀ p,H1 p=none→Q (.ref p) (upd H1 p (.tup xs))
def Jw (t:TA):TE:=fun σ H Q=>t σ H fun xs H1=>xs.length≤sizeLine∧∀ p,H1 p=none→Q (.ref p) (upd H1 p (.lst xs))
theorem Ou {x1} (h:PA X es t):PE X (.Tuple es x1 pos) (Jv t):=by
 intro pins s σ H Q I hq
 refine wpAny_Tuple_spliced (d8 (h pos pins s σ H _ I hq) fun us s1 ⟨xs,H1,I1,r,z,q⟩=>⟨by rw [← r.length];exact z,?_⟩)
 have hf:H1 s1.heap.objs.size=none:=I1.hok.fresh (Nat.le_refl _)
 refine ⟨.ref s1.heap.objs.size,upd H1 s1.heap.objs.size (.tup xs),I1.laid (t':=s1.toks) (fun b u e=>Heap.get?_push_of_some _ e) (Nat.le_refl _) ?_,rfl,q _ hf⟩
 exact ⟨z,us,r,⟨_,Heap.get?_push_size _ rfl,rfl,_,rfl⟩⟩
theorem Ov (h:PA X es t):PE X (.List es pos) (Jw t):=by
 intro pins s σ H Q I hq
 refine wpAny_List_spliced (d8 (h pos pins s σ H _ I hq) fun us s1 ⟨xs,H1,I1,r,z,q⟩=>⟨by rw [← r.length];exact z,?_⟩)
 have hf:H1 s1.heap.objs.size=none:=I1.hok.fresh (Nat.le_refl _)
 refine ⟨.ref s1.heap.objs.size,upd H1 s1.heap.objs.size (.lst xs),I1.laid (t':=s1.toks) (fun b u e=>Heap.get?_push_of_some _ e) (Nat.le_refl _) ?_,rfl,q _ hf⟩
 exact ⟨z,us,0,r,Heap.get?_push_size _ rfl⟩
end
abbrev Sp:=List V→Hp→VK→XK→Prop
abbrev DQ:=List Env→Hp→Shared→XK→Value→Shared→Prop
structure Env0 (P:Program) (w:World) (K:PySem.W.Frag) (mg:Str→Option Value) (base:Heap) (A:Around) (outer:List Env) (s:Shared) (H:Hp):Prop where
 frames:A.frames=some outer
 mod:Mod K mg base
 bs:∀ b o,base.get? b=some o→s.heap.get? b=some o∧H b=none
 bsz:base.objs.size≤s.heap.objs.size
 funs:s.heap.FunFrames base outer
 frf:∀ b∈frs outer,H b=none
 hok:HOk P w H s.heap
 bare:AllBare s.gens
def CE (outer:List Env) (P:Program) (w:World) (H:Hp) (s:Shared) (Q:VK) (u:Value) (s':Shared):Prop:=
 ∃ v H',s'.os=s.os∧AllBare s'.gens∧Un (frs outer) [] H H' s.heap s'.heap∧HOk P w H' s'.heap∧RelV v u∧Q v H'
def CR (CX:DQ) (outer:List Env) (P:Program) (w:World) (H:Hp) (s:Shared) (Q:VK) (E:XK) (r:Result) (s':Shared):Prop:=
 match r with
 | .ok (.ret u)=>CE outer P w H s Q u s'
 | .ok _=>False
 | .error e=>CX outer H s E e s'
structure pJ (P:Program) (w:World) (K:PySem.W.Frag) (mg:Str→Option Value) (base:Heap) (CX:DQ) (k:Nat) (f:Addr) (fd:FuncData) (ps:List Str) (sp:Sp):Prop where
 len:∀ vs H Q E,sp vs H Q E→vs.length=ps.length
 run:∀ (A:Around) (outer:List Env) (s:Shared) (H:Hp) (args:Args) (us:List Value) (vs:List V) (Q:VK) (E:XK),Room k A→Env0 P w K mg base A outer s H→BindsTo s fd args (ps.zip us)→Vals vs us→sp vs H Q E→
  codeAny (model P w) A (.call (.ref f) args) (CR CX outer P w H s Q E) s
theorem Env0.make {P:Program} {w:World} {K:PySem.W.Frag} {mg:Str→Option Value} {base:Heap} {A:Around} {outer:List Env} {s:Shared} {H:Hp} (e:Env0 P w K mg base A outer s H) (C:Addr) (us:List Value) (kw:List (Str×Value)):
  Env0 P w K mg base (A.under (.builtin "type.__call__" ⟨.ref C :: us,kw⟩)) outer s H:=⟨by first | exact e.frames | (simpa [Around.under,Code.envs,Code.isFrame,pushEnvs] using e.frames),e.mod,e.bs,e.bsz,e.funs,e.frf,e.hok,e.bare⟩
section
variable {X:Cx} {pins:List (Addr×Obj)} {σ:St} {H:Hp} {s s':Shared}
theorem Inv.env0 (I:Inv X pins σ H s):Env0 X.prog X.w X.K X.mg X.base X.A X.stack s H:=
 ⟨I.ok.frames,I.ok.mod,I.bs,Nat.le_trans I.ok.bsz I.sz,I.stack,I.stkFree,I.hok,I.bare⟩
theorem Inv.after {Q:VK} {u:Value} (I:Inv X pins σ H s) (h:CE X.stack X.prog X.w H s Q u s'):EP X pins σ Q u s':=by
 obtain ⟨v,H',os,bare,un,hok,r,q⟩:=h
 obtain ⟨hh,g,d,t,os'⟩:=s'
 obtain rfl:os'=s.os:=os
 exact ⟨v,H',I.call (h':=hh) (g':=g) (d':=d) (t':=t) (ch:=[]) un hok bare (fun b z=>absurd z (by simp)),r,q⟩
end
def uG (sp:Sp) (dvs:List V) (E:XK) (t:TA):TE:=fun σ H Q=>t σ H fun vs H1=>sp (vs ++ dvs) H1 Q E
def Binds (K:PySem.W.Frag) (fd:FuncData) (ps:List Str) (ds:List Value):Prop:=
 ∀ (s:Shared) (us:List Value),K.In s.heap→(us ++ ds).length=ps.length→BindsTo s fd ⟨us,[]⟩ (ps.zip (us ++ ds))
theorem Binds.all {K:PySem.W.Frag} {fd:FuncData} {ps:List Str} (h:∀ us:List Value,us.length=ps.length→bindArgs fd ⟨us,[]⟩=pure (ps.zip us)):Binds K fd ps []:=fun s us _ hl=>by
 rw [List.append_nil] at hl ⊢
 exact .of_eq (h us hl)
def yK (CX:DQ) (X:Cx) (E:XK):Prop:=∀ (pins:List (Addr×Obj)) (σ:St) (H:Hp) (s:Shared) (e:Value) (s':Shared),Inv X pins σ H s→CX X.stack H s E e s'→X.xe e s'
section
variable {X:Cx} {CX:DQ} {k:Nat} {f C:Addr} {fd:FuncData} {ps:List Str} {sp:Sp} {dvs:List V} {ds:List Value} {E:XK} {x m:Str} {p pos apos:Pos} {e o:Expr} {es:List Expr} {ta:TE} {t:TA}
theorem Ow {pins:List (Addr×Obj)} {σ:St} {H:Hp} {s:Shared} {Q:VK} {us:List Value} {vs:List V} (F:pJ X.prog X.w X.K X.mg X.base CX k f fd ps sp) (hr:Room k X.A) (hb:Binds X.K fd ps ds) (hd:Vals dvs ds) (hx:yK CX X E)
  (I:Inv X pins σ H s) (r:Vals vs us) (h:sp (vs ++ dvs) H Q E):wpAny (model X.prog X.w) X.A (call (.ref f) us) (EP X pins σ Q) X.xe s:=by
 have r2:Vals (vs ++ dvs) (us ++ ds):=r.append hd
 have hl:(us ++ ds).length=ps.length:=by rw [← r2.length];exact F.len _ _ _ _ h
 refine wpAny_call (codeAny_mono (F.run X.A X.stack s H ⟨us,[]⟩ (us ++ ds) (vs ++ dvs) Q E hr I.env0 (hb s us I.kIn hl) r2 h) fun r s' hq=>?_)
 cases r with
 | error e=>exact hx pins σ H s e s' I hq
 | ok fl=>
  cases fl with
  | ret u=>exact I.after hq
  | next=>exact False.elim hq
  | brk=>exact False.elim hq
  | cont=>exact False.elim hq
theorem Jx (F:pJ X.prog X.w X.K X.mg X.base CX k f fd ps sp) (hr:Room k X.A) (hg:Gl X x) (hm:X.mg x=some (.ref f)) (hk:PySem.W.keepIn X.K (.ref f)=true) (hb:Binds X.K fd ps ds) (hd:Vals dvs ds) (hx:yK CX X E)
  (ha:PA X (e :: es) t) (hdb:autoParam ((x == ("__debug__":Str))=false) L2.auto2._auto_1) (he:autoParam (starEach (e :: es) X.env=(false,eval e X.env) :: starEach es X.env) L2.auto4._auto_1) (hpl:autoParam ((backTo pos (starEach es X.env)).any (·.1)=false) L2.auto4._auto_1):
  PE X (.Call (.Name x p) (e :: es) [] pos) (uG sp dvs E t):=by
 intro pins s σ H Q I h
 refine wpAny_Call_Name_kw (rz I hg hm ?_ hdb)
 refine PySem.W.callWith_K (h₀:=X.base) I.ok.mod.kin hk (d8 (ha pos pins s σ H _ I h) fun us s1 ⟨vs,H1,I1,r,q⟩=>⟨I1.kIn,?_⟩) he hpl
 exact Ow F hr hb hd hx I1 r q
structure Mk (K:PySem.W.Frag) (C f:Addr):Prop where
 makes:PySem.W.makesIn K C=true
 init:PySem.W.findIn K (.ref C) "__init__"=some (some (.ref f))
 fn:PySem.W.isFn K (.ref f)=true
 kp:PySem.W.keepIn K (.ref C)=true
end
section
variable {X:Cx} {CX:DQ} {k:Nat} {f C:Addr} {fd:FuncData} {ps ks:List Str} {sp:Sp} {E:XK} {x m:Str} {p pos apos kpos:Pos} {e o:Expr} {es:List Expr} {kws:List Keyword} {te ta:TE} {t tk:TA} {nm:Option Str}
structure KBinds (K:PySem.W.Frag) (fd:FuncData) (ps ks:List Str) (g:List Value→List Value→List Value) (gV:List V→List V→List V):Prop where
 to:∀ (s:Shared) (us ws:List Value),K.In s.heap→(g us ws).length=ps.length→BindsTo s fd ⟨us,ks.zip ws⟩ (ps.zip (g us ws))
 rel:∀ {vs:List V} {us:List Value} {zs:List V} {ws:List Value},Vals vs us→Vals zs ws→Vals (gV vs zs) (g us ws)
variable {g:List Value→List Value→List Value} {gV:List V→List V→List V}
end
structure aP (N P:List Str) (sc:Scope):Prop where
 kind:sc.kind= .function
 co:sc.isCoroutine=false
 gen:sc.isGenerator=false
 nd:N.Nodup
 pre:N.take P.length=P
 par:∀ x∈P,sc.names.lookup x=some .local∨sc.names.lookup x=some .cell
 nofree:∀ y∈sc.names,y.2≠.free
theorem uH {kindOf:Str→Option NameKind} {x:Str}:∀ {binds:List (Str×Value)} {m:Str→Option Value},(∀ v,(x,v) ∉ binds)→bindL kindOf binds m x=m x
 | [],_,_=>rfl
 | (n,v) :: r,m,h=>by
  unfold bindL
  rw [uH fun w hw=>h w (List.mem_cons_of_mem _ hw)]
  split
  ·have:x≠n:=by rintro rfl;exact h v List.mem_cons_self
   simp [this]
  ·rfl
theorem uI {kindOf:Str→Option NameKind} {x:Str}:∀ {binds:List (Str×Value)} {m:Str→Option Value},(∀ v,(x,v) ∉ binds)→bindC kindOf binds m x=m x
 | [],_,_=>rfl
 | (n,v) :: r,m,h=>by
  unfold bindC
  rw [uI fun w hw=>h w (List.mem_cons_of_mem _ hw)]
  split
  ·rfl
  ·have:x≠n:=by rintro rfl;exact h v List.mem_cons_self
   simp [this]
theorem uJ {kindOf:Str→Option NameKind} {x:Str} {v:Value}:∀ {P:List Str} {vs:List Value} {i:Nat} {m:Str→Option Value},P.Nodup→P[i]?=some x→vs[i]?=some v→kindOf x=some .local→
  bindL kindOf (P.zip vs) m x=some v
 | [],_,_,_,_,h,_,_=>by simp at h
 | _ :: _,[],_,_,_,_,h,_=>by simp at h
 | p :: P,w :: vs,0,m,nd,h1,h2,hk=>by
  simp at h1 h2;subst h1;subst h2
  show bindL kindOf ((p,w) :: P.zip vs) m p=_
  unfold bindL
  rw [uH fun v hv=>(List.nodup_cons.mp nd).1 (List.of_mem_zip hv).1,if_pos hk]
  simp
 | p :: P,w :: vs,i+1,m,nd,h1,h2,hk=>by
  show bindL kindOf ((p,w) :: P.zip vs) m x=_
  unfold bindL
  exact uJ (i:=i) (List.nodup_cons.mp nd).2 (by simpa using h1) (by simpa using h2) hk
theorem uK {kindOf:Str→Option NameKind} {x:Str} {v:Value}:∀ {P:List Str} {vs:List Value} {i:Nat} {m:Str→Option Value},P.Nodup→P[i]?=some x→vs[i]?=some v→kindOf x≠some .local→
  bindC kindOf (P.zip vs) m x=some v
 | [],_,_,_,_,h,_,_=>by simp at h
 | _ :: _,[],_,_,_,_,h,_=>by simp at h
 | p :: P,w :: vs,0,m,nd,h1,h2,hk=>by
  simp at h1 h2;subst h1;subst h2
  show bindC kindOf ((p,w) :: P.zip vs) m p=_
  unfold bindC
  rw [uI fun v hv=>(List.nodup_cons.mp nd).1 (List.of_mem_zip hv).1,if_neg hk]
  simp
 | p :: P,w :: vs,i+1,m,nd,h1,h2,hk=>by
  show bindC kindOf ((p,w) :: P.zip vs) m x=_
  unfold bindC
  exact uK (i:=i) (List.nodup_cons.mp nd).2 (by simpa using h1) (by simpa using h2) hk
def start (N:List Str) (vs:List V):St:=vs.map some ++ List.replicate (N.length - vs.length) none
def nQ (CX:DQ) (P:Program) (w:World) (K:PySem.W.Frag) (mg:Str→Option Value) (base:Heap) (N:List Str) (qual:Str) (scope:Scope) (f:Addr) (cd:Value) (A:Around) (outer:List Env) (s:Shared) (H:Hp) (E:XK):Cx where
 prog:=P
 w:=w
 K:=K
 mg:=mg
 base:=base
 A:=A.deeper (envOfC qual scope s.heap.objs.size f cd)
 N:=N
 s₀:=s
 H₀:=H
 env:=envOfC qual scope s.heap.objs.size f cd
 outer:=outer
 stack:=envOfC qual scope s.heap.objs.size f cd :: outer
 ex:=[]
 calm:=true
 fn:=fun _=>true
 pn:=[]
 xe:=fun e s'=>wpAny (model P w) (A.deeper (envOfC qual scope s.heap.objs.size f cd)) (leaving (envOfC qual scope s.heap.objs.size f cd) e) (fun _ s''=>CX outer H s E e s'') (fun e' s''=>CX outer H s E e' s'') s'
theorem w6 {sc:Scope} {n:Nat} {x:Str} (h:sc.names.lookup x=some .cell):∃ c,(cellsFrom n sc.names []).lookup x=some c:=by
 have q:=PySem.W.cellsFrom_some sc.names n [] (.inl h)
 exact Option.isSome_iff_exists.mp q
theorem BZ {CX:DQ} {P:Program} {w:World} {K:PySem.W.Frag} {mg:Str→Option Value} {base:Heap} {N ps:List Str} {qual:Str} {scope:Scope} {f:Addr} {cd:Value} {A:Around} {outer:List Env} {s s1:Shared} {H:Hp} {E:XK} {us:List Value} {vs:List V}
  (S:aP N ps scope) (hd:A.handled=none) (e0:Env0 P w K mg base A outer s H) (hl:vs.length=ps.length) (r:Vals vs us)
  (x:InCallC s s.heap.objs.size (bindL (envOfC qual scope s.heap.objs.size f cd).kindOf (ps.zip us) fun _=>none) (cellsFrom (s.heap.objs.size+1) scope.names []) (bindC (envOfC qual scope s.heap.objs.size f cd).kindOf (ps.zip us) fun _=>none) s1):
  Inv (nQ CX P w K mg base N qual scope f cd A outer s H E) [] (start N vs) H s1:=by
 have hpl:ps.length≤N.length:=by have:=congrArg List.length S.pre;rw [List.length_take] at this;omega
 obtain ⟨h1,tk,rfl,hk⟩:=x.done
 have noA:∀ b:Addr,b ∉ (nQ CX P w K mg base N qual scope f cd A outer s H E).ex:=fun b z=>absurd (show b∈([]:List Addr) from z) (by simp)
 refine ⟨⟨e0.mod,S.kind,rfl,rfl,Nat.le_refl _,fun y z c h1 h2=>?_,fun y hy=>?_,fun y c _ h=>?_,fun _=>hd,Around.frames_deeper e0.frames,.inr ⟨rfl,rfl⟩,fun b z=>absurd z (noA b),e0.bs,e0.bsz,fun b _ _=>noA b,fun b z=>absurd z (noA b),e0.funs,e0.frf⟩,
  rfl,e0.bare,Un.kept hk,⟨_,x.toInCall.ns,fun i y v h1 h2 h3=>?_⟩,fun y c h=>⟨_,x.cell y c h⟩,e0.hok.fresh (Nat.le_refl _),fun y c h=>?_,fun p hp=>absurd (show p∈([]:List (Addr×Obj)) from hp) (by simp),e0.hok.kept hk,?_⟩
 ·exact name_of_addr x.apart (PySem.mem_of_lookup h1) (PySem.mem_of_lookup h2)
 ·have hy:scope.names.lookup y=some .cell∨scope.names.lookup y=some .free:=hy
  rcases hy with hy | hy
  ·exact w6 hy
  ·exact absurd rfl (S.nofree _ (PySem.mem_of_lookup hy))
 ·exact Nat.le_of_lt (x.above y c (PySem.mem_of_lookup h))
 ·have hi:i < vs.length:=by
   unfold start at h2
   by_cases hi:i < vs.length
   ·exact hi
   ·rw [List.getElem?_append_right (by simpa using hi)] at h2
    rw [List.getElem?_replicate] at h2
    split at h2 <;> cases h2
  have ha:vs[i]?=some v:=by
   unfold start at h2
   rw [List.getElem?_append_left (by simpa using hi),List.getElem?_map] at h2
   cases e:vs[i]? with
   | none=>rw [e] at h2;cases h2
   | some a=>rw [e] at h2;cases h2;rfl
  obtain ⟨u,hu,rv⟩:=r.get ha
  have hp:ps[i]?=some y:=by
   rw [← S.pre,List.getElem?_take_of_lt (by omega)];exact h1
  have ndP:ps.Nodup:=by rw [← S.pre];exact S.nd.sublist (List.take_sublist _ _)
  refine ⟨u,rv,?_⟩
  rcases S.par y (List.mem_of_getElem? hp) with k | k
  ·exact .inl ⟨k,uJ ndP hp hu k⟩
  ·obtain ⟨c,e⟩:=w6 (n:=s.heap.objs.size+1) k
   refine .inr ⟨.inl k,c,e,?_⟩
   have q:=x.cell y c e
   rw [uK ndP hp hu (by show scope.names.lookup y≠_;rw [k];decide)] at q
   exact q
 ·exact e0.hok.fresh (Nat.le_of_lt (x.above y c (PySem.mem_of_lookup h)))
 ·unfold start
  show _=N.length
  rw [List.length_append,List.length_map,List.length_replicate]
  omega
theorem Ms {CX:DQ} {P:Program} {w:World} {K:PySem.W.Frag} {mg:Str→Option Value} {base:Heap} {k:Nat} {f:Addr} {name qual:Str} {params:Arguments} {body:List Stmt} {scope:Scope} {dV kV doc pm cdv ct oc:Value} {an od:Option Addr}
  {osl:Array (Option Value)} {N ps:List Str} {sp:Sp} (lk:K.lookup f=some ⟨oc,od,.func (PySem.W.fnOf name qual params body scope dV kV doc pm an cdv ct),osl⟩) (hcd:PySem.W.codeIn K cdv qual=true) (S:aP N ps scope)
  (len:∀ vs H Q E,sp vs H Q E→vs.length=ps.length)
  (hbody:∀ (A:Around) (outer:List Env) (s:Shared) (H:Hp) (vs:List V) (Q:VK) (E:XK),Room k (A.deeper (envOfC qual scope s.heap.objs.size f cdv))→sp vs H Q E→
   ∃ t,PSs (nQ CX P w K mg base N qual scope f cdv A outer s H E) body t∧t {nx:=fun _ H'=>Q .non H',rt:=Q} (start N vs) H):
  pJ P w K mg base CX (k+1) f (PySem.W.fnOf name qual params body scope dV kV doc pm an cdv ct) ps sp:=by
 refine ⟨len,fun A outer s H args us vs Q E hr e0 hb r hsp=>?_⟩
 have hl:=len _ _ _ _ hsp
 have KX:K.In s.heap:=e0.mod.kin.keeps fun b o e=>(e0.bs b o e).1
 have lim:s.heap.NoLimit:=e0.mod.nolimit.keeps fun b o e=>(e0.bs b o e).1
 have hkind:∀ y∈ps.zip us,scope.names.lookup y.1=some .local∨(scope.names.lookup y.1=some .cell∧((cellsFrom (s.heap.objs.size+1) scope.names []).lookup y.1).isSome=true):=fun ⟨n,v⟩ hy=>by
  rcases S.par n (List.of_mem_zip hy).1 with q | q
  ·exact .inl q
  ·exact .inr ⟨q,PySem.W.cellsFrom_some _ _ _ (.inl q)⟩
 refine codeAny_call_function hr.depth (KX _ _ lk) rfl S.co S.gen rfl (PySem.W.codeRec_of KX hcd) (hb _ _ _ _ ?_)
 refine wpAny_newFunctionEnv_cells S.kind hkind fun env he s1 x=>?_
 subst he
 refine ⟨lim.keeps x.toInCall.keep,codeAny_func ?_⟩
 obtain ⟨t,ht,hq⟩:=hbody A outer s H vs Q E (hr.deeper _) hsp
 have I:Inv (nQ CX P w K mg base N qual scope f cdv A outer s H E) [] (start N vs) H s1:=BZ S hr.hd e0 hl r x
 refine wpAny_mono (ht [] s1 (start N vs) H _ I hq) (fun fl s' hs=>?_) fun e s' hs=>hs
 have fin:∀ {σ':St} {H':Hp} {v:V} {u:Value},Inv (nQ CX P w K mg base N qual scope f cdv A outer s H E) [] σ' H' s'→RelV v u→Q v H'→CE outer P w H s Q u s':=
  fun {σ' H' v u} J rv q=>⟨v,H',J.os,J.bare,J.base,J.hok,rv,q⟩
 cases fl with
 | ret u=>
  obtain ⟨v,σ',H',J,rv,q⟩:=hs
  exact fin J rv q
 | next=>
  obtain ⟨σ',H',J,q⟩:=hs
  exact fin (v:=V.non) (u:=Value.none) J rfl q
 | brk=>
  obtain ⟨_,_,_,q⟩:=hs
  exact False.elim q
 | cont=>
  obtain ⟨_,_,_,q⟩:=hs
  exact False.elim q
end L2
namespace L2
open PySem PySem.Spec PyProof.Rows
section
variable {X:Cx} {x:Str} {p pos:Pos} {e:Expr} {es:List Expr} {t:TA} {id T:String} {r:List V→Hp→VK→Prop}
def Ox (r:List V→Hp→VK→Prop) (t:TA):TE:=fun σ H Q=>t σ H fun vs H1=>r vs H1 Q
theorem Er (hc:CallR X (.builtin id) r) (hg:Gl X x) (hm:X.mg x=none) (hv:bootBuiltins x=some (.builtin id)) (ha:PA X (e :: es) t) (hn:autoParam (x≠"__name__") L2.auto2._auto_1) (hdb:autoParam ((x == ("__debug__":Str))=false) L2.auto2._auto_1)
  (he:autoParam (starEach (e :: es) X.env=(false,eval e X.env) :: starEach es X.env) L2.auto4._auto_1) (hpl:autoParam ((backTo pos (starEach es X.env)).any (·.1)=false) L2.auto4._auto_1):PE X (.Call (.Name x p) (e :: es) [] pos) (Ox r t):=by
 intro pins s σ H Q I h
 refine wpAny_Call_Name_kw (pC I hg hm hv ?_ hn hdb)
 exact PyProof.Rows.callWith_builtin1 (d8 (ha pos pins s σ H _ I h) fun us s1 ⟨vs,H1,I1,r1,q1⟩=>hc pins s1 σ H1 vs us Q I1 r1 q1) he hpl
theorem Ca (hc:CallR X (.type T) r) (hg:Gl X x) (hm:X.mg x=none) (hv:bootBuiltins x=some (.type T)) (ha:PA X (e :: es) t) (hn:autoParam (x≠"__name__") L2.auto2._auto_1) (hdb:autoParam ((x == ("__debug__":Str))=false) L2.auto2._auto_1)
  (he:autoParam (starEach (e :: es) X.env=(false,eval e X.env) :: starEach es X.env) L2.auto4._auto_1) (hpl:autoParam ((backTo pos (starEach es X.env)).any (·.1)=false) L2.auto4._auto_1):PE X (.Call (.Name x p) (e :: es) [] pos) (Ox r t):=by
 intro pins s σ H Q I h
 refine wpAny_Call_Name_kw (pC I hg hm hv ?_ hn hdb)
 exact PyProof.Rows.callWith_type1 (d8 (ha pos pins s σ H _ I h) fun us s1 ⟨vs,H1,I1,r1,q1⟩=>hc pins s1 σ H1 vs us Q I1 r1 q1) he hpl
end
end L2
namespace HT
open PySem PyProof.Rows
def lexLt:List Int→List Int→Bool
 | [],[]=>false
 | [],_ :: _=>true
 | _ :: _,[]=>false
 | x :: xs,y :: ys=>if x=y then lexLt xs ys else decide (x < y)
theorem lexLt_cons (x y:Int) (xs ys:List Int):lexLt (x :: xs) (y :: ys)=if x=y then lexLt xs ys else decide (x < y):=rfl
theorem lexLt_nil_nil:lexLt [] []=false:=rfl
section
open PySem.SeqAt
open PySem.AutoSeq1 (wpAny_loadPart')
open PySem.MeetsSeq PySem.MeetsSeq2 PySem.MeetsSeq3
end
section
variable {prog:Program} {w:World} {A:Around} {E:Value→Shared→Prop} {s:Shared}
def sIx (n d:Nat):Option Int→Nat
 | none=>d
 | some v=>if v < 0 then (v+(n:Int)).toNat else min v.toNat n
theorem sIx_none (n d:Nat):sIx n d none=d:=rfl
theorem sIx_nat (n d k:Nat):sIx n d (some (k:Int))=min k n:=by
 show (if (k:Int) < 0 then ((k:Int)+(n:Int)).toNat else min (k:Int).toNat n)=min k n
 rw [if_neg (by omega),Int.toNat_natCast]
theorem Oz (n d:Nat) (hd:d≤n) (o:Option Int):sIx n d o≤n:=by
 cases o with
 | none=>exact hd
 | some v=>
  show (if v < 0 then (v+(n:Int)).toNat else min v.toNat n)≤n
  by_cases hv:v < 0
  ·rw [if_pos hv];omega
  ·rw [if_neg hv];exact Nat.min_le_right _ _
theorem z7 (v:Int) (n d:Nat):(if v < 0 then max (v+(n:Int)) 0 else min v (n:Int))=((sIx n d (some v):Nat):Int):=by
 show (if v < 0 then max (v+(n:Int)) 0 else min v (n:Int))=(((if v < 0 then (v+(n:Int)).toNat else min v.toNat n):Nat):Int)
 by_cases hv:v < 0
 ·simp only [if_pos hv];omega
 ·simp only [if_neg hv];omega
theorem yL (lo hi:Option Int) (n:Nat):Builtin.Slice.sliceAdjust lo hi 1 (n:Int)=(((sIx n 0 lo:Nat):Int),((sIx n n hi:Nat):Int)):=by
 have h1:¬ ((1:Int) < 0):=by omega
 unfold Builtin.Slice.sliceAdjust
 simp only [h1,if_false]
 refine Prod.ext ?_ ?_
 ·cases lo with
  | none=>rfl
  | some v=>exact z7 v n 0
 ·cases hi with
  | none=>rfl
  | some v=>exact z7 v n n
theorem yM (i j:Nat):Builtin.Slice.slicePlaces (i:Int) (j:Int) 1=j - i:=by
 unfold Builtin.Slice.slicePlaces
 have h1:(1:Int) > 0:=by omega
 simp only [h1,if_true,Int.ediv_one]
 split <;> omega
theorem rY {v:Value} {o:Option Int} {Q:Option Int→Shared→Prop} (p:IsPart v o) (h:Q o s):wpAny (model prog w) A (Builtin.Slice.slicePartIndex v) Q E s:=by
 cases p with
 | none=>exact slicePart_none h
 | int i t=>exact slicePart_int h
theorem ji {sl:Addr} {vl vu:Value} {lo hi:Option Int} {n:Nat} {Q:Int×Int×Nat→Shared→Prop} (hs:s.heap.IsSliceOf sl vl vu .none) (pl:IsPart vl lo) (pu:IsPart vu hi)
  (h:Q (((sIx n 0 lo:Nat):Int),1,sIx n n hi - sIx n 0 lo) s):wpAny (model prog w) A (Builtin.Slice.sliceApplied (.ref sl) (pure (n:Int))) Q E s:=by
 obtain ⟨os,hos,hcs,hds⟩:=id hs
 unfold Builtin.Slice.sliceApplied Builtin.Slice.sliceFields
 refine wpAny_bind (wpAny_bind (wpAny_field hos hds (x:=vl) rfl (wpAny_bind (wpAny_field hos hds (x:=vu) rfl (wpAny_bind (wpAny_field hos hds (x:=.none) rfl (wpAny_pure ?_)))))))
 refine wpAny_bind (slicePart_none ?_)
 show wpAny _ _ (if ((1:Int) == 0)=true then _ else _) _ _ s
 rw [if_neg (by decide)]
 refine wpAny_bind (rY pl (wpAny_bind (rY pu (wpAny_bind (wpAny_pure ?_)))))
 show wpAny _ _ (match Builtin.Slice.sliceAdjust lo hi 1 (n:Int) with | (lo,hi)=>pure (lo,(1:Int),Builtin.Slice.slicePlaces lo hi 1)) _ _ s
 rw [yL lo hi n]
 show wpAny _ _ (pure (((sIx n 0 lo:Nat):Int),(1:Int),Builtin.Slice.slicePlaces ((sIx n 0 lo:Nat):Int) ((sIx n n hi:Nat):Int) 1)) _ _ s
 rw [yM]
 exact wpAny_pure h
theorem Es (xs:Array Value) (i k:Nat):((List.range k).filterMap fun (m:Nat)=>xs[((i:Int)+(m:Int)*1).toNat]?).toArray=((xs.toList.drop i).take k).toArray:=by
 have e:(fun (m:Nat)=>xs[((i:Int)+(m:Int)*1).toNat]?)=fun m=>xs[i+m]?:=by
  funext m
  have:((i:Int)+(m:Int)*1).toNat=i+m:=by omega
  rw [this]
 rw [e]
 have:=pick_run xs i k
 rw [List.filterMap_map] at this
 have e2:((fun x=>xs[x]?) ∘ fun x=>i+x)=fun m=>xs[i+m]?:=rfl
 rw [e2] at this
 rw [this]
theorem getItem_tuple_cut {t sl:Addr} {items:Array Value} {vl vu:Value} {lo hi:Option Int} {Q:Value→Shared→Prop} (ht:IsTup s.heap t items) (hs:s.heap.IsSliceOf sl vl vu .none) (pl:IsPart vl lo) (pu:IsPart vu hi)
  (hw:¬ (sIx items.size 0 lo=0∧sIx items.size items.size hi=items.size))
  (h:Q (.ref s.heap.objs.size) {s with heap:=s.heap.push {cls:=.type "tuple",data:=.seq ((items.toList.drop (sIx items.size 0 lo)).take (sIx items.size items.size hi - sIx items.size 0 lo)).toArray}})
  (hsz:items.size≤sizeLine):wpAny (model prog w) A (getItem (.ref t) (.ref sl)) Q E s:=by
 have htake:sizeOk (.seq ((items.toList.drop (sIx items.size 0 lo)).take (sIx items.size items.size hi - sIx items.size 0 lo)).toArray):=by
  show ((items.toList.drop (sIx items.size 0 lo)).take (sIx items.size items.size hi - sIx items.size 0 lo)).toArray.size≤sizeLine
  rw [List.size_toArray,List.length_take,List.length_drop,Array.length_toList]
  omega
 have hj:sIx items.size items.size hi≤items.size:=Oz _ _ (Nat.le_refl _) hi
 obtain ⟨os,hos,hcs,hds⟩:=id hs
 have hTs:s.TypeIs (.ref sl) "slice":=⟨os,hos,hcs⟩
 unfold getItem
 try with_reducible refine wpAny_holding ?_
 first | refine wpAny_bind (wpAny_pure ?_) | skip
 refine wpAny_bind (wpAny_sequenceKey ht.typeIs (by decide) ?_)
 refine wpAny_bind (wpAny_callSpecial?_slot (name:=Str.ofString "__getitem__") ht.typeIs PyProof.Rows.slot_tuple_getitem
  (wpAny_call_entry PyProof.Rows.slot_tuple_getitem ht.typeIs entry_tuple_getitem ?_ (args_tuple_getitem _ _)))
 show wpAny _ _ (Builtin.Tuple.tupleItemsOf (.ref t) >>=_) _ _ s
 refine wpAny_bind (tupleItemsOf_ ht ?_)
 refine wpAny_bind (wpAny_typeOf hTs ?_)
 rw [if_pos (by decide)]
 refine wpAny_bind (ji hs pl pu ?_)
 have hno:¬ ((((sIx items.size 0 lo:Nat):Int) == 0 && (1:Int) == 1 && (sIx items.size items.size hi - sIx items.size 0 lo) == items.size)=true):=by
  intro q
  rw [Bool.and_eq_true,Bool.and_eq_true] at q
  have q1:((sIx items.size 0 lo:Nat):Int)=0:=eq_of_beq q.1.1
  have q2:sIx items.size items.size hi - sIx items.size 0 lo=items.size:=eq_of_beq q.2
  exact hw ⟨by omega,by omega⟩
 show wpAny _ _ (if (((sIx items.size 0 lo:Nat):Int) == 0 && (1:Int) == 1 && (sIx items.size items.size hi - sIx items.size 0 lo) == items.size)=true then _ else _) _ _ s
 rw [if_neg hno,Es]
 first
  | exact wpAny_bind (m:=Builtin.Tuple.tupleExact _) (wpAny_newObj_type (wpAny_pure ⟨_,rfl,wpAny_pure h⟩) htake)
  | exact wpAny_bind (m:=Builtin.Tuple.tupleExact _) (wpAny_newObj_type (wpAny_bind (wpAny_pure (wpAny_pure ⟨_,rfl,wpAny_pure h⟩))) htake)
  | exact wpAny_bind (wpAny_bind (m:=Builtin.Tuple.tupleExact _) (wpAny_newObj_type (wpAny_pure (wpAny_pure ⟨_,rfl,wpAny_pure h⟩)) htake))
  | exact wpAny_bind (wpAny_bind (m:=Builtin.Tuple.tupleExact _) (wpAny_newObj_type (wpAny_pure ⟨_,rfl,wpAny_pure h⟩) htake))
end
end HT
namespace L2
open PySem PySem.Spec PyProof.Rows
abbrev TO:=St→Hp→(Option Int→Hp→Prop)→Prop
def PO (X:Cx) (e:Option Expr) (t:TO):Prop:=
 ∀ (pins:List (Addr×Obj)) (s:Shared) (σ:St) (H:Hp) (Q:Option Int→Hp→Prop),Inv X pins σ H s→t σ H Q→
  wpAny (model X.prog X.w) X.A (evalPart e X.env) (fun u s'=>∃ o H',Inv X pins σ H' s'∧IsPart u o∧Q o H') X.xe s
def vM:TO:=fun _ H Q=>Q none H
def Et (t:TE):TO:=fun σ H Q=>t σ H fun x H1=>∃ i,x= .int i∧Q (some i) H1
theorem intsAre_of {ns:List Int}:∀ {us:List Value},Vals (ns.map V.int) us→IntsAre us ns:=by
 induction ns with
 | nil=>intro us r;rw [List.map_nil] at r;cases r;exact .nil
 | cons n ns ih=>
  intro us r
  rw [List.map_cons] at r
  cases r with
  | cons r1 r2=>
   obtain ⟨t,e⟩:=r1
   subst e
   exact .cons n t (ih r2)
section
variable {X:Cx} {e:Expr} {te:TE} {lo hi:Option Expr} {tl th:TO} {pos p2:Pos}
theorem Jy:PO X none vM:=by
 intro pins s σ H Q I h
 rw [evalPart_none]
 exact wpAny_pure ⟨none,H,I,.none,h⟩
theorem Jz (h:PE X e te):PO X (some e) (Et te):=by
 intro pins s σ H Q I hw
 rw [evalPart_some]
 refine d8 (h pins s σ H _ I hw) fun u s1 qq0=>?_
 obtain ⟨x,H1,I1,r1,q1⟩:=qq0
 obtain ⟨i,rfl,q⟩:=q1
 obtain ⟨t,rfl⟩:=r1
 exact ⟨some i,H1,I1,.int i t,q⟩
def SlR (X:Cx) (r:V→Option Int→Option Int→Hp→VK→Prop):Prop:=
 ∀ (pins:List (Addr×Obj)) (s:Shared) (σ:St) (H:Hp) (x:V) (v vl vu:Value) (lo hi:Option Int) (sl:Addr) (Q:VK),Inv X pins σ H s→RelV x v→s.heap.IsSliceOf sl vl vu .none→IsPart vl lo→IsPart vu hi→r x lo hi H Q→
  ∃ T id,typeLookup (.type T) "__getitem__"=pure (some (.builtin id))∧s.TypeIs v T∧wpAny (model X.prog X.w) X.A (getItem v (.ref sl)) (EP X pins σ Q) X.xe s
theorem SlR.or {r r':V→Option Int→Option Int→Hp→VK→Prop} (h:SlR X r) (h':SlR X r'):SlR X (fun x lo hi H Q=>r x lo hi H Q∨r' x lo hi H Q):=by
 intro pins s σ H x v vl vu lo hi sl Q I rx hs pl pu q
 rcases q with q | q
 ·exact h pins s σ H x v vl vu lo hi sl Q I rx hs pl pu q
 ·exact h' pins s σ H x v vl vu lo hi sl Q I rx hs pl pu q
def tSl (r:V→Option Int→Option Int→Hp→VK→Prop) (te:TE) (tl th:TO):TE:=fun σ H Q=>te σ H fun x H1=>tl σ H1 fun l H2=>th σ H2 fun u H3=>r x l u H3 Q
theorem Eu {r:V→Option Int→Option Int→Hp→VK→Prop} (hr:SlR X r) (he:PE X e te) (hl:PO X lo tl) (hu:PO X hi th):PE X (.Subscript e (.Slice lo hi none p2) pos) (tSl r te tl th):=by
 intro pins s σ H Q I h
 refine Subscript_ (d8 (he pins s σ H _ I h) fun v s1 qq0=>?_)
 obtain ⟨x,H1,I1,r1,q1⟩:=qq0
 refine wpAny_Slice (d8 (hl pins s1 σ H1 _ I1 q1) fun vl s2 ⟨l,H2,I2,pl,q2⟩=>d8 (hu pins s2 σ H2 _ I2 q2) fun vu s3 qq0=>?_)
 obtain ⟨u,H3,I3,pu,q3⟩:=qq0
 rw [evalPart_none]
 refine wpAny_pure ?_
 have I4:Inv X pins σ H3 {s3 with heap:=s3.heap.push {cls:=.type "slice",data:=.fields #[vl,vu,.none]}}:=I3.kept (t':=s3.toks) fun b ob q=>Heap.get?_push_of_some _ q
 obtain ⟨T,id,hT,ht,hg⟩:=hr pins {s3 with heap:=s3.heap.push {cls:=.type "slice",data:=.fields #[vl,vu,.none]}} σ H3 x v vl vu l u s3.heap.objs.size Q I4 r1 (Heap.IsSliceOf.new ..) pl pu q3
 show wpAny (model X.prog X.w) X.A (subscriptTail e (.Slice lo hi none p2) v (.ref s3.heap.objs.size)) (EP X pins σ Q) X.xe {s3 with heap:=s3.heap.push {cls:=.type "slice",data:=.fields #[vl,vu,.none]}}
 exact tail_any (ops:=[.ref s3.heap.objs.size,v]) ht hT hg (by with_unfolding_all rfl)
def lR (xs:List V) (lo hi:Option Int):List V:=(xs.drop (HT.sIx xs.length 0 lo)).take (HT.sIx xs.length xs.length hi - HT.sIx xs.length 0 lo)
theorem jU (xs:List V) (lo hi:Option Int):(lR xs lo hi).length≤xs.length:=by
 unfold lR
 rw [List.length_take,List.length_drop]
 omega
def Td (K:PySem.W.Frag):V→Option Int→Option Int→Hp→VK→Prop:=fun x lo hi H Q=>∃ a xs,x= .ref a∧SqT K H a xs∧
 ¬ (HT.sIx xs.length 0 lo=0∧HT.sIx xs.length xs.length hi=xs.length)∧∀ p,H p=none→Q (.ref p) (upd H p (.tup (lR xs lo hi)))
theorem OD:SlR X (Td X.K):=by
 intro pins s σ H x v vl vu lo hi sl Q I rx hs pl pu h
 obtain ⟨a,xs,rfl,hx,hw,q⟩:=h
 cases rx
 obtain ⟨its,r,ht,hz⟩:=I.tuple hx
 have hlen:its.toArray.size=xs.length:=by rw [List.size_toArray];exact r.length.symm
 refine ⟨"tuple",_,PyProof.Rows.slot_tuple_getitem.lookup,ht.typeIs,?_⟩
 refine HT.getItem_tuple_cut ht hs pl pu (by rw [hlen];exact hw) ?_ (by rw [hlen];exact hz)
 rw [hlen]
 refine ⟨.ref s.heap.objs.size,_,I.laid (t':=s.toks) (o:=.tup (lR xs lo hi)) (fun b ob q=>Heap.get?_push_of_some _ q) (Nat.le_refl _) ?_,rfl,q _ (I.hok.fresh (Nat.le_refl _))⟩
 exact ⟨Nat.le_trans (jU xs lo hi) hz,_,(r.drop (HT.sIx xs.length 0 lo)).take (HT.sIx xs.length xs.length hi - HT.sIx xs.length 0 lo),IsTup.new _ _⟩
end
end L2
namespace L2
open PySem PySem.Spec PyProof.Rows
def z8 (n:Nat) (i:Int):Option Nat:=if 0≤i then (if i < n then some i.toNat else none) else if -(n:Int)≤i then some (i+n).toNat else none
def nR {α:Type} (xs:List α) (i:Int):Option α:=(z8 xs.length i).bind fun j=>xs[j]?
theorem z9 {n:Nat} {i:Int} {j:Nat} (h:z8 n i=some j):seqIndex? i n=some j∧j < n∧-(n:Int)≤i∧i < n:=by
 unfold z8 at h
 by_cases h0:0≤i
 ·rw [if_pos h0] at h
  by_cases h1:i < n
  ·rw [if_pos h1] at h
   have e:i.toNat=j:=Option.some.inj h
   exact ⟨by rw [seqIndex_of h0 h1,e],by omega,by omega,h1⟩
  ·rw [if_neg h1] at h;cases h
 ·rw [if_neg h0] at h
  by_cases h1: -(n:Int)≤i
  ·rw [if_pos h1] at h
   have e:(i+n).toNat=j:=Option.some.inj h
   exact ⟨by rw [seqIndex_neg (by omega) h1,e],by omega,h1,by omega⟩
  ·rw [if_neg h1] at h;cases h
theorem vN {α:Type} {xs:List α} {i:Int} {v:α} (h:nR xs i=some v):∃ j,seqIndex? i xs.length=some j∧xs[j]?=some v∧j < xs.length∧-(xs.length:Int)≤i∧i < xs.length:=by
 unfold nR at h
 cases e:z8 xs.length i with
 | none=>rw [e] at h;cases h
 | some j=>
  rw [e] at h
  obtain ⟨h1,h2,h3,h4⟩:=z9 e
  exact ⟨j,h1,h,h2,h3,h4⟩
theorem rB {α:Type} {xs:List α} {j:Nat} {v:α} (h:xs[j]?=some v):nR xs (j:Int)=some v:=by
 have hj:j < xs.length:=(List.getElem?_eq_some_iff.mp h).1
 have e:z8 xs.length (j:Int)=some j:=by
  unfold z8
  rw [if_pos (by omega),if_pos (by omega)];simp
 unfold nR;rw [e];exact h
def Aa (b:Expr):Prop:=∀ o i,subscripted b false o i=operate [o,i] (getItem o i)
def IxR (X:Cx) (r:R2):Prop:=
 ∀ (value slice:Expr) (pins:List (Addr×Obj)) (s:Shared) (σ:St) (H:Hp) (x y:V) (v u:Value) (Q:VK),Inv X pins σ H s→RelV x v→RelV y u→r x y H Q→
  subscripted slice false v u=operate [v,u] (getItem v u)→wpAny (model X.prog X.w) X.A (subscriptTail value slice v u) (EP X pins σ Q) X.xe s
def JC (X:Cx) (id:String) (r:V→List V→Hp→VK→Prop):Prop:=
 ∀ (pins:List (Addr×Obj)) (s:Shared) (σ:St) (H:Hp) (x:V) (xs:List V) (v:Value) (us:List Value) (Q:VK),Inv X pins σ H s→RelV x v→Vals xs us→r x xs H Q→
  wpAny (model X.prog X.w) X.A (call (.builtin id) (v :: us)) (EP X pins σ Q) X.xe s
section
variable {X:Cx} {a b:Expr} {ta tb:TE} {pos:Pos}
theorem IxR.or {r r':R2} (h:IxR X r) (h':IxR X r'):IxR X (fun x y H Q=>r x y H Q∨r' x y H Q):=by
 intro value slice pins s σ H x y v u Q I rx ry q hs
 rcases q with q | q
 ·exact h value slice pins s σ H x y v u Q I rx ry q hs
 ·exact h' value slice pins s σ H x y v u Q I rx ry q hs
theorem Te {r:R2} (hr:IxR X r) (ha:PE X a ta) (hb:PE X b tb) (hs:Aa b):PE X (.Subscript a b pos) (Jf r ta tb):=by
 intro pins s σ H Q I h
 exact Subscript_ (Oj ha hb I h fun v u s2 x y H2 I2 rx ry q=>hr a b pins s2 σ H2 x y v u Q I2 rx ry q (hs _ _))
def Tf (K:PySem.W.Frag):R2:=fun x y H Q=>∃ p xs i v,x= .ref p∧y= .int i∧SqL K H p xs∧nR xs i=some v∧Q v H
def Tg (K:PySem.W.Frag):R2:=fun x y H Q=>∃ p xs i v,x= .ref p∧y= .int i∧SqT K H p xs∧nR xs i=some v∧Q v H
def Ti:R2:=fun x y H Q=>∃ z i c,x= .str z∧y= .int i∧z.length≤sizeLine∧nR z.cps.toList i=some c∧Q (.str ⟨#[c]⟩) H
theorem JD:IxR X (Tf X.K):=by
 intro value slice pins s σ H x y v u Q I rx ry h hs
 obtain ⟨p,xs,i,z,rfl,rfl,hq,he,q⟩:=h
 cases rx
 obtain ⟨t,rfl⟩:=ry
 obtain ⟨its,r,pl,hz⟩:=I.list hq
 obtain ⟨j,h1,h2,h3,h4,h5⟩:=vN he
 obtain ⟨w,ew,rw'⟩:=r.get h2
 have hl:=r.length
 have hn:=rW
 have fin:EP X pins σ Q w s:=⟨z,H,I,rw',q⟩
 by_cases h0:0≤i
 ·have hj:i.toNat=j:=by
   rw [seqIndex_of h0 h5] at h1
   exact Option.some.inj h1
  exact item_listR pl.isList h0 (by omega) (by rw [hj];simpa using ew) fin hs
 ·have hj:(i+(its.toArray.size:Int)).toNat=j:=by
   rw [seqIndex_neg (by omega) h4] at h1
   rw [List.size_toArray,← hl]
   exact Option.some.inj h1
  exact subscriptTail_builtinR (x:=w) pl.isList.typeIs slot_list_getitem.lookup
   (wpAny_getItem_list_neg (Q:=fun r s'=>r=w∧EP X pins σ Q r s') pl.isList (by omega) (by rw [List.size_toArray] <;> omega) (by omega) (by rw [hj];simpa using ew) ⟨rfl,fin⟩) hs
theorem OJ:IxR X (Tg X.K):=by
 intro value slice pins s σ H x y v u Q I rx ry h hs
 obtain ⟨p,xs,i,z,rfl,rfl,hq,he,q⟩:=h
 cases rx
 obtain ⟨t,rfl⟩:=ry
 obtain ⟨its,r,pl,hz⟩:=I.tuple hq
 obtain ⟨j,h1,h2,h3,h4,h5⟩:=vN he
 obtain ⟨w,ew,rw'⟩:=r.get h2
 have hl:=r.length
 have hn:=rW
 have fin:EP X pins σ Q w s:=⟨z,H,I,rw',q⟩
 exact subscriptTail_builtinR (x:=w) pl.typeIs slot_tuple_getitem.lookup
  (getItem_tuple (j:=j) (Q:=fun r s'=>r=w∧EP X pins σ Q r s') pl (by omega) (by omega) (by rw [List.size_toArray,← hl];exact h1) (by simpa using ew) ⟨rfl,fin⟩) hs
theorem O1:IxR X Ti:=by
 intro value slice pins s σ H x y v u Q I rx ry h hs
 obtain ⟨z,i,c,rfl,rfl,hz,he,q⟩:=h
 obtain ⟨t,rfl⟩:=rx
 obtain ⟨t',rfl⟩:=ry
 obtain ⟨j,h1,h2,h3,h4,h5⟩:=vN he
 have hl:z.cps.toList.length=z.length:=by simp [Str.length]
 rw [hl] at h1 h4 h5
 have hn:=rW
 exact tail_any (typeIs_str s z t) slot_str_getitem.lookup (getItem_str (c:=c) (by
  have e1:decide (i < -(2 ^ 63:Int))=false:=decide_eq_false (by omega)
  have e2:decide (i≥2 ^ 63)=false:=decide_eq_false (by omega)
  rw [e1,e2,Bool.or_false]) (by rw [h1];simpa using h2) ⟨.str ⟨#[c]⟩,H,I.tok _,⟨_,rfl⟩,q⟩) hs
def O2 (K:PySem.W.Frag):R2:=fun x y H Q=>Tf K x y H Q∨Tg K x y H Q∨Ti x y H Q
theorem O3:IxR X (O2 X.K):=JD.or (OJ.or O1)
theorem yN (its:List Value) (n j:Nat) (u:Value):Obj.mapSeq (·.setIfInBounds j u) {cls:=.type "list",data:=.seq its.toArray n}={cls:=.type "list",data:=.seq (its.set j u).toArray n}:=by
 simp [Obj.mapSeq]
theorem Inv.lst {pins:List (Addr×Obj)} {σ:St} {H:Hp} {s:Shared} {p:Addr} {xs:List V} (I:Inv X pins σ H s) (h:H p=some (.lst xs)):
  ∃ (its:List Value) (n:Nat),Vals xs its∧s.heap.get? p=some {cls:=.type "list",data:=.seq its.toArray n}∧xs.length≤sizeLine:=by
 obtain ⟨z,its,n,r,e⟩:=I.hok p _ h
 exact ⟨its,n,r,e,z⟩
theorem Inv.lstUpd {pins:List (Addr×Obj)} {σ:St} {H:Hp} {s:Shared} {p:Addr} {xs ys:List V} {its its':List Value} {n n':Nat} {f:Obj→Obj} (I:Inv X pins σ H s) (h:H p=some (.lst xs))
  (ho:s.heap.get? p=some {cls:=.type "list",data:=.seq its.toArray n}) (hf:f {cls:=.type "list",data:=.seq its.toArray n}={cls:=.type "list",data:=.seq its'.toArray n'}) (r:Vals ys its') (hz:ys.length≤sizeLine) (t:Nat):
  Inv X pins σ (upd H p (.lst ys)) {s with heap:=s.heap.update p f,toks:=t}:=by
 have e:(s.heap.update p f).get? p=some {cls:=.type "list",data:=.seq its'.toArray n'}:=by
  rw [Heap.get?_update_self f ho (by rw [hf] <;> rfl),hf]
 refine I.write (x:=p) (e:=p) (by rw [h];trivial) (.inl rfl) (fun b u hb q=>(Heap.get?_update_other _ _ (Ne.symm hb)).trans q) ⟨_,e⟩ ?_
 exact ⟨hz,its',n',r,e⟩
def xf:V→V→V→Hp→(Hp→Prop)→Prop:=fun o i v H Q=>∃ p xs k j,o= .ref p∧i= .int k∧H p=some (.lst xs)∧z8 xs.length k=some j∧Q (upd H p (.lst (xs.set j v)))
theorem set_list:Jm X xf:=by
 intro pins s σ H o i v ov iv u Q I ro ri rv h
 obtain ⟨p,xs,k,j,rfl,rfl,hp,hj,q⟩:=h
 cases ro
 obtain ⟨t,rfl⟩:=ri
 obtain ⟨its,n,r,ho,hz⟩:=I.lst hp
 obtain ⟨h1,h2,h3,h4⟩:=z9 hj
 have hl:=r.length
 have hn:=rW
 have I':Inv X pins σ (upd H p (.lst (xs.set j v))) {s with heap:=s.heap.update p (Obj.mapSeq (·.setIfInBounds j u))}:=
  I.lstUpd hp ho (yN its n j u) (r.set rv j) (by rw [List.length_set];exact hz) s.toks
 by_cases h0:0≤k
 ·have hk:k.toNat=j:=by
   rw [seqIndex_of h0 h4] at h1
   exact Option.some.inj h1
  exact PySem.W.ki_setAt ho h0 (by omega) (by rw [List.size_toArray,← hl];exact h4) (by rw [hk];exact ⟨_,I',q⟩)
 ·have hk:(k+(its.toArray.size:Int)).toNat=j:=by
   rw [seqIndex_neg (by omega) h3] at h1
   rw [List.size_toArray,← hl]
   exact Option.some.inj h1
  exact PySem.W.ki_setBack ho (by omega) (by rw [List.size_toArray,← hl];exact h3) (by omega) (by rw [hk];exact ⟨_,I',q⟩)
theorem vO (lo hi:Option Int) (n:Nat):(sliceBounds lo hi none n).1=((HT.sIx n 0 lo:Nat):Int)∧(sliceBounds lo hi none n).2.1=((HT.sIx n n hi:Nat):Int)∧(sliceBounds lo hi none n).2.2=1:=by
 refine ⟨?_,?_,rfl⟩
 ·cases lo with
  | none=>simp [sliceBounds,HT.sIx]
  | some i=>
   simp only [sliceBounds,HT.sIx,Option.getD_none,show (1:Int) > 0 by decide,if_true]
   by_cases h:i < 0
   ·simp only [h,if_true] <;> omega
   ·simp only [h,if_false] <;> omega
 ·cases hi with
  | none=>simp [sliceBounds,HT.sIx]
  | some i=>
   simp only [sliceBounds,HT.sIx,Option.getD_none,show (1:Int) > 0 by decide,if_true]
   by_cases h:i < 0
   ·simp only [h,if_true] <;> omega
   ·simp only [h,if_false] <;> omega
theorem uw (its:List Value) (lo hi:Option Int):slicePick its.toArray lo hi none=((its.drop (HT.sIx its.length 0 lo)).take (HT.sIx its.length its.length hi - HT.sIx its.length 0 lo)).toArray:=by
 obtain ⟨h1,h2,h3⟩:=vO lo hi its.toArray.size
 unfold slicePick
 rw [h1,h2,h3]
 simp only [sliceRange_one,pick_run,List.size_toArray] <;> rfl
def Tj (K:PySem.W.Frag):V→Option Int→Option Int→Hp→VK→Prop:=fun x lo hi H Q=>∃ a xs,x= .ref a∧SqL K H a xs∧∀ p,H p=none→Q (.ref p) (upd H p (.lst (lR xs lo hi)))
theorem JF:SlR X (Tj X.K):=by
 intro pins s σ H x v vl vu lo hi sl Q I rx hs pl pu h
 obtain ⟨a,xs,rfl,hx,q⟩:=h
 cases rx
 obtain ⟨its,r,ht,hz⟩:=I.list hx
 have hlen:=r.length
 refine ⟨"list",_,slot_list_getitem.lookup,ht.isList.typeIs,?_⟩
 refine wpAny_getItem_list_slice ht.isList hs pl pu .none (by simp) ?_ (by rw [List.size_toArray] <;> omega)
 rw [uw,← hlen]
 refine ⟨.ref s.heap.objs.size,_,I.laid (t':=s.toks) (o:=.lst (lR xs lo hi)) (fun b ob q=>Heap.get?_push_of_some _ q) (Nat.le_refl _) ?_,rfl,q _ (I.hok.fresh (Nat.le_refl _))⟩
 exact ⟨Nat.le_trans (jU xs lo hi) hz,_,0,(r.drop (HT.sIx xs.length 0 lo)).take (HT.sIx xs.length xs.length hi - HT.sIx xs.length 0 lo),Heap.get?_push_size _ rfl⟩
def iI:V→Bool
 | .non=>true
 | .bl _=>true
 | .int _=>true
 | .str _=>true
 | _=>false
def Ab:V→V→Bool
 | .non,.non=>true
 | .bl a,.bl b=>a == b
 | .bl a,.int b=>(if a then 1 else 0) == b
 | .int a,.bl b=>a == (if b then 1 else 0)
 | .int a,.int b=>a == b
 | .str a,.str b=>a == b
 | _,_=>false
theorem rZ {A:Around} {s:Shared} {y x:V} {u v:Value} (ry:RelV y u) (rx:RelV x v) (fy:iI y=true) (fx:iI x=true):SeqAt.EqAt A s u v (Ab y x):=by
 cases y with
 | non=>
  cases ry
  cases x with
  | non=>cases rx;exact SeqAt.EqAt.same _
  | bl b=>cases rx;exact SeqAt.EqAt.none_bool b
  | int b=>obtain ⟨t,rfl⟩:=rx;exact SeqAt.EqAt.none_int b t
  | str b=>obtain ⟨t,rfl⟩:=rx;exact SeqAt.EqAt.none_str b t
  | _=>exact absurd (show false=true from fx) Bool.false_ne_true
 | bl a=>
  cases ry
  cases x with
  | non=>cases rx;exact SeqAt.EqAt.bool_none a
  | bl b=>cases rx;exact SeqAt.EqAt.bool_bool a b
  | int b=>obtain ⟨t,rfl⟩:=rx;exact SeqAt.EqAt.bool_int a b t
  | str b=>obtain ⟨t,rfl⟩:=rx;exact SeqAt.EqAt.bool_str a b t
  | _=>exact absurd (show false=true from fx) Bool.false_ne_true
 | int a=>
  obtain ⟨t',rfl⟩:=ry
  cases x with
  | non=>cases rx;exact SeqAt.EqAt.int_none a t'
  | bl b=>cases rx;exact SeqAt.EqAt.int_bool a t' b
  | int b=>obtain ⟨t,rfl⟩:=rx;exact SeqAt.EqAt.int_int a t' b t
  | str b=>obtain ⟨t,rfl⟩:=rx;exact SeqAt.EqAt.int_str a t' b t
  | _=>exact absurd (show false=true from fx) Bool.false_ne_true
 | str a=>
  obtain ⟨t',rfl⟩:=ry
  cases x with
  | non=>cases rx;exact SeqAt.EqAt.str_none a t'
  | bl b=>cases rx;exact SeqAt.EqAt.str_bool a t' b
  | int b=>obtain ⟨t,rfl⟩:=rx;exact SeqAt.EqAt.str_int a t' b t
  | str b=>obtain ⟨t,rfl⟩:=rx;exact SeqAt.EqAt.str_str a t' b t
  | _=>exact absurd (show false=true from fx) Bool.false_ne_true
 | _=>exact absurd (show false=true from fy) Bool.false_ne_true
def JK (x:V) (u:Value):Bool:=match u with
 | .none=>Ab .non x
 | .bool b=>Ab (.bl b) x
 | .int i _=>Ab (.int i) x
 | .str z _=>Ab (.str z) x
 | _=>false
theorem Ew {x y:V} {u:Value} (r:RelV y u) (f:iI y=true):JK x u=Ab y x:=by
 cases y with
 | non=>cases r;rfl
 | bl b=>cases r;rfl
 | int i=>obtain ⟨t,rfl⟩:=r;rfl
 | str z=>obtain ⟨t,rfl⟩:=r;rfl
 | _=>exact absurd (show false=true from f) Bool.false_ne_true
theorem vP {x:V}:∀ {xs:List V} {us:List Value},Vals xs us→xs.all iI=true→us.any (JK x)=xs.any fun y=>Ab y x
 | _,_,.nil,_=>rfl
 | y :: xs,u :: us,.cons r t,f=>by
  rw [List.all_cons,Bool.and_eq_true] at f
  rw [List.any_cons,List.any_cons,Ew r f.1,vP t f.2]
theorem sr {A:Around} {s:Shared} {x:V} {v:Value} (rx:RelV x v) (fx:iI x=true):∀ {xs:List V} {us:List Value},Vals xs us→xs.all iI=true→∀ u∈us,SeqAt.EqAt A s u v (JK x u)
 | _,_,.nil,_=>fun u hu=>by cases hu
 | y :: xs,u :: us,.cons r t,f=>fun u' hu=>by
  rw [List.all_cons,Bool.and_eq_true] at f
  rcases List.mem_cons.mp hu with rfl | hu
  ·rw [Ew r f.1];exact rZ r rx f.1 fx
  ·exact sr rx fx t f.2 u' hu
def inV (x:V) (xs:List V):Bool:=xs.any fun y=>Ab y x
def rIn (K:PySem.W.Frag) (neg:Bool):R2:=fun x y H Q=>∃ p xs,y= .ref p∧(SqL K H p xs∨SqT K H p xs)∧iI x=true∧xs.all iI=true∧Q (.bl (if neg then !inV x xs else inV x xs)) H
theorem Cd:OpR X (compareOp .In) (rIn X.K false):=by
 intro pins s σ H x y v u Q I rx ry h
 obtain ⟨p,xs,rfl,hq,fx,fs,q⟩:=h
 cases ry
 rcases hq with hq | hq
 ·obtain ⟨its,r,pl,hz⟩:=I.list hq
  refine SeqAt.in_listAt (JK x) pl.isList (fun w hw=>sr rx fx r fs w (by simpa using hw)) ⟨.bl _,H,I,rfl,?_⟩
  rw [show its.toArray.any (JK x)=its.any (JK x) by simp,vP r fs]
  exact q
 ·obtain ⟨its,r,pl,hz⟩:=I.tuple hq
  refine SeqAt.in_tupleAt (JK x) pl (fun w hw=>sr rx fx r fs w (by simpa using hw)) ⟨.bl _,H,I,rfl,?_⟩
  rw [show its.toArray.any (JK x)=its.any (JK x) by simp,vP r fs]
  exact q
theorem CallR.or {f:Value} {r r':List V→Hp→VK→Prop} (h:CallR X f r) (h':CallR X f r'):CallR X f (fun xs H Q=>r xs H Q∨r' xs H Q):=by
 intro pins s σ H xs us Q I rs q
 rcases q with q | q
 ·exact h pins s σ H xs us Q I rs q
 ·exact h' pins s σ H xs us Q I rs q
theorem vQ:CallR X (.type "list") (fun xs H Q=>∃ p ys,xs=[.ref p]∧(SqL X.K H p ys∨SqT X.K H p ys)∧∀ l,H l=none→Q (.ref l) (upd H l (.lst ys))):=by
 intro pins s σ H xs us Q I r h
 obtain ⟨p,ys,rfl,hq,q⟩:=h
 obtain ⟨u,rfl,rx⟩:=vals1 r
 cases rx
 have fin:∀ (its:List Value),Vals ys its→ys.length≤sizeLine→∀ (h':Heap) (c':Nat),(∀ b o',s.heap.get? b=some o'→h'.get? b=some o')→
   h'.get? s.heap.objs.size=some {cls:=.type "list",dict:=none,data:=.seq its.toArray c',slots:=#[]}→EP X pins σ Q (.ref s.heap.objs.size) {s with heap:=h'}:=fun its r' hz h' c' kp e=>
  ⟨.ref s.heap.objs.size,_,I.laid (t':=s.toks) kp (Nat.le_refl _) (show ObjOk X.prog X.w _ h' _ (.lst ys) from ⟨hz,its,c',r',e⟩),rfl,q _ (I.hok.fresh (Nat.le_refl _))⟩
 rcases hq with hq | hq
 ·obtain ⟨its,r',pl,hz⟩:=I.list hq
  have hlen:=r'.length
  obtain ⟨o,ho,hc,n,hd⟩:=pl.isList
  exact call_list_seq p (.inl rfl) ho hc hd (fun h' c' kp e=>fin its r' hz h' c' kp e) (by simp only [List.size_toArray] <;> omega)
 ·obtain ⟨its,r',pl,hz⟩:=I.tuple hq
  have hlen:=r'.length
  obtain ⟨o,ho,hc,n,hd⟩:=pl
  exact call_list_seq p (.inr rfl) ho hc hd (fun h' c' kp e=>fin its r' hz h' c' kp e) (by simp only [List.size_toArray] <;> omega)
theorem ux:CallR X (.type "tuple") (fun xs H Q=>∃ p ys,xs=[.ref p]∧((SqL X.K H p ys∧∀ l,H l=none→Q (.ref l) (upd H l (.tup ys)))∨(SqT X.K H p ys∧Q (.ref p) H))):=by
 intro pins s σ H xs us Q I r h
 obtain ⟨p,ys,rfl,h⟩:=h
 obtain ⟨u,rfl,rx⟩:=vals1 r
 cases rx
 rcases h with ⟨hq,q⟩ | ⟨hq,q⟩
 ·obtain ⟨its,r',pl,hz⟩:=I.list hq
  have hlen:=r'.length
  refine call_tuple_list pl.isList (fun h' kp=>?_) (by simp only [List.size_toArray] <;> omega)
  have I1:Inv X pins σ H {s with heap:=h'}:=I.kept (t':=s.toks) kp
  have I2:Inv X pins σ (upd H h'.objs.size (.tup ys)) {s with heap:=h'.push {cls:=.type "tuple",data:=.seq its.toArray}}:=
   I1.laid (t':=s.toks) (fun b o e=>Heap.get?_push_of_some _ e) (Nat.le_refl _) (show ObjOk X.prog X.w _ _ _ (.tup ys) from ⟨hz,its,r',IsTup.new _ _⟩)
  exact ⟨.ref h'.objs.size,_,I2,rfl,q _ (I1.hok.fresh (Nat.le_refl _))⟩
 ·obtain ⟨its,r',pl,hz⟩:=I.tuple hq
  exact call_tuple_same pl ⟨.ref p,H,I,rfl,q⟩
def Tn (K:PySem.W.Frag) (T:String) (x:V) (H:Hp):Prop:=match x with
 | .str _=>T="str"
 | .int _=>T="int"
 | .ref p=>(T="list"∧∃ xs,SqL K H p xs)∨(T="tuple"∧∃ o,K.lookup p=some o∧o.cls= .type "tuple"∧o.dict=none)∨
   (T="dict"∧((∃ kvs,H p=some (.dK kvs))∨∃ kvs,H p=some (.dT kvs)))∨(T="set"∧∃ S n,H p=some (.set S n))
 | _=>False
theorem Ex {pins:List (Addr×Obj)} {σ:St} {H:Hp} {s:Shared} {T:String} {x:V} {v:Value} (I:Inv X pins σ H s) (r:RelV x v) (ty:Tn X.K T x H):
  s.TypeIs v T∧∀ a,v= .ref a→∃ ob,s.heap.get? a=some ob∧ob.dict=none:=by
 cases x with
 | str z=>
  obtain ⟨t,rfl⟩:=r
  cases (show T="str" from ty)
  exact ⟨typeIs_str s z t,fun _ e=>nomatch e⟩
 | int i=>
  obtain ⟨t,rfl⟩:=r
  cases (show T="int" from ty)
  exact ⟨typeIs_int s i t,fun _ e=>nomatch e⟩
 | ref p=>
  cases r
  rcases ty with ⟨rfl,xs,hq⟩ | ⟨rfl,o,hk,hc,hd⟩ | ⟨rfl,hk⟩ | ⟨rfl,S,n,hk⟩
  ·obtain ⟨its,_,pl,_⟩:=I.list hq
   refine ⟨pl.isList.typeIs,fun a e=>?_⟩
   cases e
   obtain ⟨o,n,e,c,hd,_⟩:=pl
   exact ⟨o,e,hd⟩
  ·refine ⟨⟨o,I.kIn p o hk,hc⟩,fun a e=>?_⟩
   cases e
   exact ⟨o,I.kIn _ o hk,hd⟩
  ·have z:∃ o,s.heap.get? p=some o∧o.ExactDict:=by
    rcases hk with ⟨kvs,hk⟩ | ⟨kvs,hk⟩
    ·obtain ⟨_,_,_,_,o,_,_,e,ex,_⟩:=I.hok p _ hk
     exact ⟨o,e,ex⟩
    ·obtain ⟨_,_,_,_,o,_,_,e,ex,_⟩:=I.hok p _ hk
     exact ⟨o,e,ex⟩
   obtain ⟨o,e,ex⟩:=z
   refine ⟨⟨o,e,ex.1⟩,fun a e2=>?_⟩
   cases e2
   exact ⟨o,e,ex.2.1⟩
  ·obtain ⟨o,_,_,_,e,ex,_⟩:=I.hok p _ hk
   refine ⟨⟨o,e,ex.1⟩,fun a e2=>?_⟩
   cases e2
   exact ⟨o,e,ex.2.1⟩
 | _=>exact False.elim ty
def Ey (K:PySem.W.Frag) (T:String) (r:V→List V→Hp→VK→Prop) (to:TE):TE:=fun σ H Q=>to σ H fun x H1=>Tn K T x H1∧r x [] H1 Q
def Tp (K:PySem.W.Frag) (T:String) (r:V→List V→Hp→VK→Prop) (to:TE) (t:TA):TE:=fun σ H Q=>to σ H fun x H1=>Tn K T x H1∧t σ H1 fun xs H2=>r x xs H2 Q
variable {o e:Expr} {es:List Expr} {to:TE} {t:TA} {name:Str} {apos cpos:Pos} {T id:String} {r:V→List V→Hp→VK→Prop}
theorem O5 (pa:PlainAttrs T) (slot:Slot T name id) (hty:typeOf (.builtin id)=pure (.type "method_descriptor")) (hm:JC X id r) (ho:PE X o to)
  (hbase:autoParam (attributeBase o name X.env (eval o X.env)=eval o X.env) L2.auto4._auto_1) (hline:autoParam ((apos.endLine == cpos.line)=true) L2.auto4._auto_1):PE X (.Call (.Attribute o name apos) [] [] cpos) (Ey X.K T r to):=by
 intro pins s σ H Q I h
 refine wpAny_Call_method0_late hbase hline (d8 (ho pins s σ H _ I h) fun v s1 qq0=>?_)
 obtain ⟨x,H1,I1,r1,ty,q1⟩:=qq0
 obtain ⟨h1,h2⟩:=Ex I1 r1 ty
 exact ⟨T,id,pa,slot,hty,h1,h2,Calls.callWith_builtin rfl (PySem.evalArgs_none (hm pins s1 σ H1 x [] v [] Q I1 r1 .nil q1))⟩
theorem Tq (pa:PlainAttrs T) (slot:Slot T name id) (hty:typeOf (.builtin id)=pure (.type "method_descriptor")) (hm:JC X id r) (ho:PE X o to) (ha:PA X (e :: es) t)
  (hbase:autoParam (attributeBase o name X.env (eval o X.env)=eval o X.env) L2.auto4._auto_1)
  (hfew:((backTo cpos (starEach (e :: es) X.env)).all (fun x=>!x.1) && (backToKw cpos (keywordEach [] X.env)).all (fun x=>x.1.isSome)
   && decide ((e :: es).length+([]:List Keyword).length+(if ([]:List Keyword).isEmpty then 0 else 1) < 30))=true:=by rfl)
  (hline:autoParam ((apos.endLine == cpos.line)=true) L2.auto4._auto_1) (hs:autoParam (starEach (e :: es) X.env=(false,eval e X.env) :: starEach es X.env) L2.auto4._auto_1) (hplain:autoParam ((backTo cpos (starEach es X.env)).any (·.1)=false) L2.auto4._auto_1):
  PE X (.Call (.Attribute o name apos) (e :: es) [] cpos) (Tp X.K T r to t):=by
 intro pins s σ H Q I h
 refine wpAny_Call_method_late hbase hfew hline rfl (d8 (ho pins s σ H _ I h) fun v s1 qq0=>?_)
 obtain ⟨x,H1,I1,r1,ty,q1⟩:=qq0
 obtain ⟨h1,h2⟩:=Ex I1 r1 ty
 refine ⟨T,id,pa,slot,hty,h1,h2,?_⟩
 have hA:=ha cpos pins s1 σ H1 _ I1 q1
 rw [hs] at hA ⊢
 refine Calls.callWith_builtin (by show (false || (backTo cpos (starEach es X.env)).any (·.1))=false;rw [hplain] <;> rfl) (Calls.evalArgs_plain ?_)
 exact d8 hA fun us s2 ⟨vs,H2,I2,r2,q2⟩=>hm pins s2 σ H2 x vs v us Q I2 r1 r2 q2
end
end L2
namespace L2
open PySem PySem.Spec PyProof.Rows
def MtM (X:Cx) (id:String) (r:V→List V→Hp→VK→Prop):Prop:=
 ∀ (pins:List (Addr×Obj)) (s:Shared) (σ:St) (H:Hp) (x:V) (xs:List V) (v:Value) (us:List Value) (Q:VK),Inv X pins σ H s→RelV x v→Vals xs us→r x xs H Q→
  wpAny (model X.prog X.w) X.A (call (.builtin id) (v :: us)) (EP X pins σ Q) X.xe s
theorem Vals.one:∀ {x:V} {us:List Value},Vals [x] us→∃ u,us=[u]∧RelV x u
 | _,_,.cons r .nil=>⟨_,rfl,r⟩
theorem Vals.zero:∀ {us:List Value},Vals [] us→us=[]
 | _,.nil=>rfl
theorem Vals.dropLast {xs:List V} {us:List Value} (h:Vals xs us):Vals xs.dropLast us.dropLast:=by
 induction h with
 | nil=>exact .nil
 | cons r t ih=>
  cases t with
  | nil=>exact .nil
  | cons q t'=>exact .cons r ih
theorem Vals.rep {xs:List V} {us:List Value} (h:Vals xs us):∀ k:Nat,Vals (List.replicate k xs).flatten (List.replicate k us).flatten
 | 0=>.nil
 | k+1=>by
  rw [List.replicate_succ,List.replicate_succ,List.flatten_cons,List.flatten_cons]
  exact Vals.append h (Vals.rep h k)
theorem yO {α:Type} (l:List α):l.eraseIdx (l.length - 1)=l.dropLast:=by
 induction l with
 | nil=>rfl
 | cons a r ih=>
  cases r with
  | nil=>rfl
  | cons b r=>
   have e:(a :: b :: r).length - 1=((b :: r).length - 1)+1:=by
    have h1:(a :: b :: r).length=r.length+2:=rfl
    have h2:(b :: r).length=r.length+1:=rfl
    omega
   rw [e,List.eraseIdx_cons_succ,ih]
   all_goals rfl
theorem foldl_rep (its:List Value):∀ (k:Nat) (acc:List Value),
  List.foldl (fun x1 x2=>x1 ++ x2) acc.toArray (List.replicate k its.toArray)=(acc ++ (List.replicate k its).flatten).toArray
 | 0,acc=>by simp
 | k+1,acc=>by
  have e:acc.toArray ++ its.toArray=(acc ++ its).toArray:=by simp
  have e2:(acc ++ its) ++ (List.replicate k its).flatten=acc ++ (List.replicate (k+1) its).flatten:=by
   rw [List.replicate_succ,List.flatten_cons,List.append_assoc]
  rw [← e2,← foldl_rep its k (acc ++ its),← e,List.replicate_succ,List.foldl_cons]
section
variable {X:Cx} {pins:List (Addr×Obj)} {σ:St} {H:Hp} {s:Shared} {l b:Addr} {xs ys zs:List V}
theorem Inv.lset {its its':List Value} {n:Nat} {f:Array Value→Array Value} {t':Nat} (I:Inv X pins σ H s) (hH:H l=some (.lst xs))
  (e:s.heap.get? l=some {cls:=.type "list",data:=.seq its.toArray n}) (hf:f its.toArray=its'.toArray) (hv:Vals ys its') (hz:ys.length≤sizeLine):
  Inv X pins σ (upd H l (.lst ys)) {s with heap:=s.heap.update l (Obj.mapSeq f),toks:=t'}:=by
 have q:=PySem.IsL.update e f
 rw [hf] at q
 refine I.write (x:=l) (e:=l) (by rw [hH];exact trivial) (.inl rfl) (fun b' u hb hu=>(Heap.get?_update_other s.heap (Obj.mapSeq f) (Ne.symm hb)).trans hu) ⟨_,q⟩ ?_
 exact ⟨hz,its',_,hv,q⟩
theorem Inv.lnew {its:List Value} {t':Nat} (I:Inv X pins σ H s) (hv:Vals ys its) (hz:ys.length≤sizeLine):
  Inv X pins σ (upd H s.heap.objs.size (.lst ys)) {s with heap:=s.heap.push {cls:=.type "list",data:=.seq its.toArray},toks:=t'}:=
 I.laid (fun _ _ q=>Heap.get?_push_of_some _ q) (Nat.le_refl _) ⟨hz,its,0,hv,Heap.get?_push_size _ rfl⟩
theorem Inv.fresh (I:Inv X pins σ H s):H s.heap.objs.size=none:=I.hok.fresh (Nat.le_refl _)
theorem Inv.lstM (I:Inv X pins σ H s) (hH:H l=some (.lst xs)):xs.length≤sizeLine∧∃ (its:List Value) (n:Nat),Vals xs its∧xs.length=its.length∧s.heap.get? l=some {cls:=.type "list",data:=.seq its.toArray n}:=by
 obtain ⟨z,its,n,r,e⟩:=I.hok l _ hH
 exact ⟨z,its,n,r,r.length,e⟩
theorem xg {n:Nat} (h:n≤sizeLine):Builtin.List.listTooLong n=false:=by
 unfold Builtin.List.listTooLong
 exact decide_eq_false (by omega)
end
section
variable {X:Cx}
def Ac:V→List V→Hp→VK→Prop:=fun x vs H Q=>∃ l xs y,x= .ref l∧vs=[y]∧H l=some (.lst xs)∧xs.length < sizeLine∧Q .non (upd H l (.lst (xs ++ [y])))
theorem iw:MtM X "list.append" Ac:=by
 intro pins s σ H x vs v us Q I rx rv h
 obtain ⟨l,xs,y,rfl,rfl,hH,hz,q⟩:=h
 cases rx
 obtain ⟨u,rfl,ru⟩:=rv.one
 obtain ⟨z,its,n,r,hl,e⟩:=I.lstM hH
 refine call_meets F.slot_list_append ⟨_,e,rfl⟩ F.entry_list_append (F.args_list_append_2 _ _) (PySem.list_append l its.toArray n u (by rw [List.size_toArray];omega)) ⟨e,?_⟩
 refine ⟨.non,_,I.lset (its':=its ++ [u]) hH e (by simp) (r.append (.cons ru .nil)) ?_,rfl,q⟩
 rw [List.length_append,List.length_singleton]
 omega
def JL:V→List V→Hp→VK→Prop:=fun x vs H Q=>∃ l b xs zs,x= .ref l∧vs=[.ref b]∧H l=some (.lst xs)∧H b=some (.lst zs)∧xs.length+zs.length≤sizeLine∧Q .non (upd H l (.lst (xs ++ zs)))
theorem uL:MtM X "list.extend" JL:=by
 intro pins s σ H x vs v us Q I rx rv h
 obtain ⟨l,b,xs,zs,rfl,rfl,hH,hB,hz,q⟩:=h
 cases rx
 obtain ⟨u,rfl,ru⟩:=rv.one
 cases ru
 obtain ⟨z,its,n,r,hl,e⟩:=I.lstM hH
 obtain ⟨z2,its2,n2,r2,hl2,e2⟩:=I.lstM hB
 have hsz:its.toArray.size+its2.toArray.size≤sizeLine:=by rw [List.size_toArray,List.size_toArray];omega
 have hlong:¬ (!its.toArray.isEmpty && Builtin.List.listTooLong (its.toArray.size+its2.toArray.size))=true:=by
  rw [xg hsz,Bool.and_false]
  exact Bool.false_ne_true
 refine call_meets F.slot_list_extend ⟨_,e,rfl⟩ F.entry_list_extend (F.args_list_extend_2 _ _)
  (AutoSeq1.list_extend_list_list_0 l its.toArray n b its2.toArray n2 hlong (by rw [List.size_toArray];omega) (by omega)) ⟨e,e2,?_⟩
 refine ⟨.non,_,I.lset (its':=its ++ its2) hH e (by simp) (r.append r2) ?_,rfl,q⟩
 rw [List.length_append]
 omega
def rPop:V→List V→Hp→VK→Prop:=fun x vs H Q=>∃ l xs y,x= .ref l∧vs=[]∧H l=some (.lst xs)∧xs[xs.length - 1]?=some y∧Q y (upd H l (.lst xs.dropLast))
theorem Ez:MtM X "list.pop" rPop:=by
 intro pins s σ H x vs v us Q I rx rv h
 obtain ⟨l,xs,y,rfl,rfl,hH,hy,q⟩:=h
 cases rx
 have hus:=rv.zero
 subst hus
 obtain ⟨z,its,n,r,hl,e⟩:=I.lstM hH
 obtain ⟨u,hu,ru⟩:=r.get hy
 have hy':its.toArray[its.toArray.size - 1]?=some u:=by
  show its.toArray[its.length - 1]?=some u
  rw [← Array.getElem?_toList,← hl]
  exact hu
 refine call_meets F.slot_list_pop ⟨_,e,rfl⟩ F.entry_list_pop (F.args_list_pop_1 _) (MeetsSeq.list_pop_last l its.toArray n u hy' (by rw [List.size_toArray];omega)) ⟨e,?_⟩
 refine ⟨y,_,I.lset (its':=its.dropLast) hH e ?_ r.dropLast ?_,ru,q⟩
 ·show its.toArray.eraseIdxIfInBounds (its.toArray.size - 1)=its.dropLast.toArray
  rw [List.size_toArray,List.eraseIdxIfInBounds_toArray,yO]
 ·rw [List.length_dropLast]
  omega
def Tr:R2:=fun x y H Q=>∃ l b xs zs,x= .ref l∧y= .ref b∧H l=some (.lst xs)∧H b=some (.lst zs)∧xs.length+zs.length≤sizeLine∧∀ p,H p=none→Q (.ref p) (upd H p (.lst (xs ++ zs)))
theorem O6:OpR X (binaryOp .Add) Tr:=by
 intro pins s σ H x y v u Q I rx ry h
 obtain ⟨l,b,xs,zs,rfl,rfl,hH,hB,hz,q⟩:=h
 cases rx
 cases ry
 obtain ⟨z,its,n,r,hl,e⟩:=I.lstM hH
 obtain ⟨z2,its2,n2,r2,hl2,e2⟩:=I.lstM hB
 refine PySem.P.add_list e e2 ?_ (by rw [List.size_toArray,List.size_toArray];omega)
 have ea:its.toArray ++ its2.toArray=(its ++ its2).toArray:=by simp
 rw [ea]
 exact ⟨.ref _,_,I.lnew (t':=s.toks) (r.append r2) (by rw [List.length_append];omega),rfl,q _ I.fresh⟩
def Tt:R2:=fun x y H Q=>∃ l k xs,x= .ref l∧y= .int k∧H l=some (.lst xs)∧-(2 ^ 63)≤k∧k < 2 ^ 63∧xs.length*k.toNat≤sizeLine∧
 ∀ p,H p=none→Q (.ref p) (upd H p (.lst (List.replicate k.toNat xs).flatten))
theorem len_rep {α:Type} (xs:List α) (k:Nat):(List.replicate k xs).flatten.length=k*xs.length:=by
 induction k with
 | zero=>simp
 | succ k ih=>rw [List.replicate_succ,List.flatten_cons,List.length_append,ih,Nat.succ_mul,Nat.add_comm]
theorem O7:OpR X (binaryOp .Mult) Tt:=by
 intro pins s σ H x y v u Q I rx ry h
 obtain ⟨l,k,xs,rfl,rfl,hH,h1,h2,hz,q⟩:=h
 cases rx
 obtain ⟨t,rfl⟩:=ry
 obtain ⟨z,its,n,r,hl,e⟩:=I.lstM hH
 have hlen:its.toArray.size*k.toNat≤sizeLine:=by rw [List.size_toArray,← hl];exact hz
 have hcap:¬ its.toArray.size*k.toNat > (2 ^ 63 - 1) / 8:=by
  have:(sizeLine:Nat)≤(2 ^ 63 - 1) / 8:=by decide
  omega
 have hfit:¬ (!Builtin.List.listFitsIndex k)=true:=by
  rw [fitsIndex_both h1 h2]
  exact Bool.false_ne_true
 have hlong:¬ Builtin.List.listTooLong (its.toArray.size*k.toNat)=true:=by
  rw [xg hlen]
  exact Bool.false_ne_true
 have hnew:List.foldl (fun x1 x2=>x1 ++ x2) #[] (List.replicate (if its.toArray.isEmpty=true then 0 else k.toNat) its.toArray)=(List.replicate k.toNat its).flatten.toArray:=by
  have f0:∀ m:Nat,List.foldl (fun x1 x2=>x1 ++ x2) #[] (List.replicate m its.toArray)=(List.replicate m its).flatten.toArray:=fun m=>by
   have:=foldl_rep its m []
   rw [List.nil_append] at this
   exact this
  rw [f0]
  cases its with
  | nil=>simp
  | cons a r'=>rw [if_neg (by simp)]
 refine wpAny_binaryOp_repeat_ref (T:="list") (U:="int") (by decide) ⟨_,e,rfl⟩ (fun s'=>typeIs_int s' k t) noFill_list_mul F.fills_int_mul F.slot_int_rmul repeat_list F.slot_int_index.lookup
  (call_meets F.slot_int_rmul (typeIs_int s k t) F.entry_int_rmul (F.args_int_rmul_2 _ _) (int___rmul___int_list k t l its.toArray n)
   ⟨e,rfl,⟨_,e,rfl⟩,call_meets F.slot_list_mul ⟨_,e,rfl⟩ F.entry_list_mul (F.args_list_mul_2 _ _) (AutoListH.list___mul___list_int_3 l its.toArray n k t hfit hcap hlong) ⟨e,?_⟩⟩)
 rw [hnew]
 exact ⟨.ref _,_,I.lnew (t':=s.toks) (r.rep k.toNat) (by rw [len_rep,Nat.mul_comm];exact hz),rfl,q _ I.fresh⟩
end
section
variable {prog:Program} {w:World} {A:Around} {E:Value→Shared→Prop} {s:Shared}
end
section
variable {X:Cx}
end
end L2
namespace Att
open PySem PySem.W PySem.Calls PyProof.Rows
theorem qX {P:Params} {h:Heap}:∀ (ns:List Int) (vs:List Value),WellAll P h vs (ns.map WData.int)→IntsAre vs ns:=by
 intro ns
 induction ns with
 | nil=>
  intro vs w
  rw [List.map_nil] at w
  cases w
  exact .nil
 | cons n ns ih=>
  intro vs w
  rw [List.map_cons] at w
  cases w with
  | cons a b=>
   cases a
   exact .cons _ _ (ih _ b)
theorem Ce {l:OpenLaw} {n:Nat} (hn:l.most=some n) {P:Params} {h:Heap} {args:List WData} {vals:List Value}
  (hpre:l.row.toRowW.claim.pre args=true) (hwl:WellAll P h vals args):
  ∃ a vs ns,vals=[Value.ref a]∧args=[WData.list (ns.map WData.int)]∧h.get? a=some {cls:=.type "list",data:=.seq vs.toArray}∧IntsAre vs ns∧ns.length≤n:=by
 have hsh:WShape.hasAll [] args [.list .int]=true:=(pre_splitW hpre).1
 have hc:l.pre.holds [] {args:=args}=true:=(pre_splitW hpre).2
 obtain ⟨d,r,rfl,h1,h2⟩:=hasAllW_cons hsh
 obtain rfl:=hasAllW_nil h2
 obtain ⟨xs,rfl,h3⟩:=hasW_list h1
 obtain ⟨ns,rfl⟩:=items_int h3
 have hlen:ns.length≤n:=by
  unfold OpenLaw.pre at hc
  have h4:(WTm.not (.lt (.lit (.int (n:Int))) (.len (.arg 0)))).holds [] {args:=[.list (ns.map .int)]}=true:=by
   have h4:=(holds_andW hc).1
   rw [hn] at h4
   exact h4
  have h5:=condW_of h4 (w_not (w_lt w_lit (w_len_list (w_arg rfl))))
  rw [List.length_map] at h5
  refine Nat.le_of_not_lt fun q=>?_
  have q':(n:Int) < ((ns.length:Nat):Int):=by omega
  first
   | (rw [decide_eq_true q'] at h5;exact absurd h5 (by decide))
   | (simp at h5;omega)
 cases hwl with
 | cons w1 w2=>
  cases w2
  cases w1 with
  | list ho hall=>exact ⟨_,_,ns,rfl,rfl,ho,qX ns _ hall,hlen⟩
theorem Cg (l:OpenLaw) (args:List WData):l.row.toRowW.claim.post args (.bool true) args=true:=
 postW_of (r:=l.row.toRowW) (X:=(true == true))
  (show WShape.has [] (.bool true) .bool=true by first | rfl | decide | simp [WShape.has,WShape.arms,WShape.armsAll])
  (show (WTm.eq .res (.lit (.bool true))).value [] {args:=args,res:=some (.bool true),after:=args}=some (.bool (true == true)) from w_eq_bool (w_res rfl) w_lit) rfl
theorem attach_call {l:OpenLaw} {n:Nat} {q:Program} {loose:List Str} {XP:(Str→Option Value)→Heap→Prop} {YP:World→Heap→Prop} {d:DefRec}
  (hn:l.most=some n) (hdf:d.params.defaults=[])
  (call:∀ (w:World) (s₀ s₁:Shared) (mg mb:Str→Option Value) (fa:Addr) (o:Obj) (pm cd doc:Value) (a:Addr) (vs:List Value) (ns:List Int),
   Ground q loose [] XP w s₀ mg mb s₁.heap→YP w s₁.heap→
   s₁.heap.get? fa=some o→o.data= .func (docDef d.name d.params d.body d.scope pm cd doc)→s₁.heap.CodeRec cd d.name→mg d.name=some (.ref fa)→
   s₁.heap.get? a=some {cls:=.type "list",data:=.seq vs.toArray}→IntsAre vs ns→ns.length≤n→s₁.gens= #[]→
   codeAny (model l.prog w) callerA (.call (.ref fa) ⟨[.ref a],[]⟩) (fun r s'=>r= .ok (.ret (.bool true))∧OldK s₁.heap s'.heap∧s'.os=s₁.os∧AllBare s'.gens) s₁):
  WalkO q loose XP YP l.row.toRowW d [] (fun f vs=>PySem.call f vs):=by
 intro w s₀ s₁ mg mb G Y fa o pm cd doc dV kV ho hd hcd hD hmg hg args vals as hpre hlay hrd hwl hlo
 obtain rfl:dV= .none:=Dflts.none hD hdf
 obtain rfl:kV= .none:=Dflts.noKw hD
 obtain ⟨a,vs,ns,rfl,rfl,hobj,hints,hlen⟩:=Ce hn hpre hwl
 refine enter_call (codeAny_mono (call w s₀ s₁ mg mb fa o pm cd doc a vs ns G Y ho (fd_plain hd) hcd hmg hobj hints hlen hg) fun r s' hq=>?_)
 obtain ⟨rfl,h2,h3,h4⟩:=hq
 exact ⟨.inl ⟨.bool true,.bool true,[],rfl,fun _=>rfl,.bool true,Cg l _,fun _=>⟨List.Pairwise.nil,fun _ hm=>(nomatch hm)⟩⟩,h2,h3,h4⟩
section
variable {prog:Program} {w:World} {A:Around} {E:Value→Shared→Prop} {s:Shared} {K:Frag}
end
end Att
namespace L2
open PySem PySem.Spec PyProof.Rows
theorem uM:∀ {vs:List Value} {ns:List Int},IntsAre vs ns→Vals (ns.map V.int) vs
 | _,_,.nil=>.nil
 | _,_,.cons n t h=>.cons ⟨t,rfl⟩ (uM h)
def Only (H:Hp):Prop:=∀ b,H b=none∨∃ o xs,H b=some (.frz o (.lst xs))
theorem EY {P:Program} {w:World} {K:PySem.W.Frag} {mg mb:Str→Option Value} {CX:DQ} {k:Nat} {fa a:Addr} {fd:FuncData} {x:Str} {sp:Sp} {s₁:Shared} {vs:List Value} {ns:List Int}
  (KX:K.In s₁.heap) (hns:s₁.heap.Ns mainGlobals mg) (hb:s₁.heap.Ns builtinsNs mb) (hbb:∀ x:Str,x≠"__name__"→mb x=bootBuiltins x) (hlim:s₁.heap.NoLimit) (hsm:∃ mm,s₁.heap.Ns sysModules mm) (hg:s₁.gens= #[])
  (ha:s₁.heap.get? a=some {cls:=.type "list",data:=.seq vs.toArray}) (hi:IntsAre vs ns) (hl:ns.length≤sizeLine) (hr:Room k callerA)
  (F:∀ base:Heap,K.In base→base.Ns mainGlobals mg→pJ P w K mg base CX k fa fd [x] sp) (hbind:∀ (s:Shared) (u:Value),BindsTo s fd ⟨[u],[]⟩ [(x,u)])
  (hsp:∀ H:Hp,Only H→SqL K H a (ns.map V.int)→sp [.ref a] H (fun v _=>v= .bl true) fun _ _ _=>False)
  (hCX:∀ H e s',CX [] H s₁ (fun _ _ _=>False) e s'→False):
  codeAny (model P w) callerA (.call (.ref fa) ⟨[.ref a],[]⟩) (fun r s'=>r= .ok (.ret (.bool true))∧OldK s₁.heap s'.heap∧s'.os=s₁.os∧AllBare s'.gens) s₁:=by
 have rv:=uM hi
 have lenV:=hi.length
 have core:∀ H:Hp,Only H→SqL K H a (ns.map V.int)→HOk P w H s₁.heap→(∀ b,H b≠none→b=a)→(H a≠none→K.lookup a=none)→
   codeAny (model P w) callerA (.call (.ref fa) ⟨[.ref a],[]⟩) (fun r s'=>r= .ok (.ret (.bool true))∧OldK s₁.heap s'.heap∧s'.os=s₁.os∧AllBare s'.gens) s₁:=by
  intro H hO hS hok hA hK
  have base_of:∀ {b:Addr} {o:Obj},s₁.heap.get? b=some o→H b=none→(vJ s₁.heap H).get? b=some o:=fun e n=>DW e n
  have noA:∀ {b:Addr} {o:Obj} {es:Array DictEntry} {ep:Nat},s₁.heap.get? b=some o→o.data= .dict es ep→H b=none:=fun {b o es ep} e d=>by
   cases q:H b with
   | none=>rfl
   | some u=>
    have e':b=a:=hA b (by rw [q];simp)
    subst e'
    rw [ha] at e;cases e
    have d':Data.seq vs.toArray _=Data.dict es ep:=d
    cases d'
  have nsK:∀ {b:Addr} {m:Str→Option Value},s₁.heap.Ns b m→(vJ s₁.heap H).Ns b m:=fun {b m} ⟨o,es,ep,e,d,r⟩=>⟨o,es,ep,base_of e (noA e d),d,r⟩
  have hKb:K.In (vJ s₁.heap H):=fun b o e=>base_of (KX b o e) (by
   cases q:H b with
   | none=>rfl
   | some u=>
    have e':b=a:=hA b (by rw [q];simp)
    subst e'
    rw [hK (by rw [q];simp)] at e;cases e)
  have hM:Mod K mg (vJ s₁.heap H):=⟨hKb,nsK hns,⟨mb,nsK hb,hbb⟩,(let ⟨mc,h1,h2⟩:=hlim;⟨mc,nsK h1,h2⟩),let ⟨mm,h1⟩:=hsm;⟨mm,nsK h1⟩⟩
  have e0:Env0 P w K mg (vJ s₁.heap H) callerA [] s₁ H:=⟨rfl,hM,fun b o e=>Jg e,Nat.le_of_eq (By _ _),trivial,fun b hb=>absurd (show b∈([]:List Addr) from hb) (by simp),hok,.of_eq hg⟩
  refine codeAny_mono ((F _ hKb (nsK hns)).run callerA [] s₁ H ⟨[.ref a],[]⟩ [.ref a] [.ref a] _ _ hr e0 (hbind s₁ (.ref a)) (.cons rfl .nil) (hsp H hO hS)) fun r s' h=>?_
  cases r with
  | error e=>exact (hCX H e s' h).elim
  | ok fl=>
   cases fl with
   | next=>exact False.elim h
   | brk=>exact False.elim h
   | cont=>exact False.elim h
   | ret u=>
    obtain ⟨v,H',os,bare,un,hok',r',q⟩:=h
    have q':v= .bl true:=q
    subst q'
    obtain rfl:u=Value.bool true:=r'
    refine ⟨rfl,OldK.of_keep fun b o e=>?_,os,bare⟩
    cases q:H b with
    | none=>exact un.keep b o e q (by intro z;exact absurd (show b∈([]:List Addr) from z) (by simp)) (by simp)
    | some u=>
     rcases hO b with z | ⟨ob,xs,z⟩
     ·rw [q] at z;cases z
     ·have z2:=un.frzs b ob _ z
      obtain ⟨e1,_⟩:=hok b _ z
      obtain ⟨e2,_⟩:=hok' b _ z2
      rw [e] at e1;cases e1
      exact e2
 cases hk:K.lookup a with
 | some o=>
  have e:=KX a o hk
  rw [ha] at e
  cases e
  refine core (fun _=>none) (fun _=>.inl rfl) (.inr ⟨_,vs.toArray,_,hk,rfl,rfl,rfl,by rw [List.size_toArray,lenV];exact hl,by simpa using rv⟩) (fun b u z=>by have z':(none:Option HO)=some u:=z;cases z') (fun b z=>absurd rfl z) fun z=>absurd rfl z
 | none=>
  refine core (fun b=>if b=a then some (.frz {cls:=.type "list",data:=.seq vs.toArray} (.lst (ns.map V.int))) else none) (fun b=>?_) (.inl (.inr ⟨{cls:=.type "list",data:=.seq vs.toArray},if_pos rfl⟩)) (fun b u z=>?_) (fun b z=>?_) fun _=>hk
  ·by_cases hb:b=a
   ·exact .inr ⟨_,_,if_pos hb⟩
   ·exact .inl (if_neg hb)
  ·by_cases hb:b=a
   ·have z':=(if_pos hb).symm.trans z
    cases z'
    subst hb
    exact ⟨ha,by rw [List.length_map];exact hl,vs,_,rv,ha⟩
   ·have z':=(if_neg hb).symm.trans z
    cases z'
  ·by_cases hb:b=a
   ·exact hb
   ·exact absurd (if_neg hb) z
end L2
namespace L2
open PySem PySem.Spec PyProof.Rows
abbrev KOf {K:PySem.W.Frag} {h:Heap} (_:K.In h):PySem.W.Frag:=K
theorem JM {l:PySem.W.OpenLaw} {n k:Nat} {q:Program} {loose:List Str} {XP:(Str→Option Value)→Heap→Prop} {YP:World→Heap→Prop} {d:DefRec} {K:Params→PySem.W.Frag} {CX:World→DQ} {sp:World→Sp} {x:Str}
  (hn:l.most=some n) (hn2:n≤sizeLine) (hdf:d.params.defaults=[]) (hr:Room k callerA)
  (hY:∀ (w:World) (h:Heap),YP w h→(K w.params).In h)
  (F:∀ (w:World) (mg:Str→Option Value) (fa:Addr) (h:Heap),(K w.params).In h→h.Ns mainGlobals mg→mg d.name=some (.ref fa)→
   ∃ fd:FuncData,(∀ (s:Shared) (u:Value),BindsTo s fd ⟨[u],[]⟩ [(x,u)])∧
    ∀ base:Heap,(K w.params).In base→base.Ns mainGlobals mg→pJ l.prog w (K w.params) mg base (CX w) k fa fd [x] (sp w))
  (hsp:∀ (w:World) (H:Hp) (a:Addr) (ns:List Int),ns.length≤n→Only H→SqL (K w.params) H a (ns.map V.int)→sp w [.ref a] H (fun v _=>v= .bl true) fun _ _ _=>False)
  (hCX:∀ (w:World) (H:Hp) (s:Shared) (e:Value) (s':Shared),CX w [] H s (fun _ _ _=>False) e s'→False) (him:importsNone q=true):
  PySem.W.WalkO q loose XP YP l.row.toRowW d [] (fun f vs=>PySem.call f vs):=by
 refine Att.attach_call hn hdf fun w s₀ s₁ mg mb fa o pm cd doc a vs ns G Y ho hd hcd hmg hobj hints hlen hg=>?_
 have KX:=hY w _ Y
 obtain ⟨fd,hb,hF⟩:=F w mg fa _ KX G.T.g hmg
 exact EY KX G.T.g G.T.b G.T.builtins G.T.nolimit (let ⟨mm,h1,_⟩:=(G.T.seer him).mods;⟨mm,h1⟩) hg hobj hints (Nat.le_trans hlen hn2) hr hF hb (fun H hO hS=>hsp w H a ns hlen hO hS) fun H e s'=>hCX w H s₁ e s'
end L2
namespace L2
open PySem PySem.Spec PyProof.Rows
def fW (s:Stmt):Arguments:=match s with
 | .FunctionDef _ a _ _ _ _ _ _ _ _=>a
 | _=>{posonlyargs:=[],args:=[],vararg:=none,kwonlyargs:=[],kw_defaults:=[],kwarg:=none,defaults:=[]}
def cO (s:Stmt):List Stmt:=match s with
 | .FunctionDef _ _ b _ _ _ _ _ _ _=>b
 | _=>[]
def au (s:Stmt):Scope:=match s with
 | .FunctionDef _ _ _ _ _ _ sc _ _ _=>sc
 | _=>{kind:=.function,names:=[],isGenerator:=false,isCoroutine:=false}
abbrev yP:DQ:=fun _ _ _ _ _ _=>False
abbrev E0:XK:=fun _ _ _=>False
theorem Tu {X:Cx}:yK yP X E0:=fun _ _ _ _ _ _ _ h=>h.elim
structure Fun (K:PySem.W.Frag) (x qual:Str) (st:Stmt) (f:Addr) (fd:FuncData):Prop where
 ex:∃ (oc:Value) (od:Option Addr) (kV doc pm:Value) (an:Option Addr) (cdv ct:Value) (osl:Array (Option Value)),
  fd=PySem.W.fnOf x qual (fW st) (cO st) (au st) .none kV doc pm an cdv ct∧K.lookup f=some ⟨oc,od,.func fd,osl⟩∧PySem.W.codeIn K cdv qual=true
 kp:PySem.W.keepIn K (.ref f)=true
section
variable {P:Program} {w:World} {K:PySem.W.Frag} {mg:Str→Option Value} {base:Heap}
theorem Fun.ok {x qual:Str} {st:Stmt} {f:Addr} {fd:FuncData} {N ps:List Str} {k:Nat} {sp:Sp} (F:Fun K x qual st f fd) (S:aP N ps (au st)) (len:∀ vs H Q E,sp vs H Q E→vs.length=ps.length)
  (hbody:∀ (cdv:Value) (A:Around) (outer:List Env) (s:Shared) (H:Hp) (vs:List V) (Q:VK) (E:XK),Room k (A.deeper (envOfC qual (au st) s.heap.objs.size f cdv))→sp vs H Q E→
   ∃ t,PSs (nQ yP P w K mg base N qual (au st) f cdv A outer s H E).nox (cO st) t∧t {nx:=fun _ H'=>Q .non H',rt:=Q} (start N vs) H):pJ P w K mg base yP (k+1) f fd ps sp:=by
 obtain ⟨oc,od,kV,doc,pm,an,cdv,ct,osl,rfl,lk,hcd⟩:=F.ex
 refine Ms lk hcd S len fun A outer s H vs Q E hr hsp=>?_
 obtain ⟨t,h,q⟩:=hbody cdv A outer s H vs Q E hr hsp
 exact ⟨t,h.nox,q⟩
theorem Fun.binds {x qual:Str} {st:Stmt} {f:Addr} {fd:FuncData} {ps:List Str} (F:Fun K x qual st f fd)
  (h:∀ (kV doc pm:Value) (an:Option Addr) (cdv ct:Value) (us:List Value),us.length=ps.length→bindArgs (PySem.W.fnOf x qual (fW st) (cO st) (au st) .none kV doc pm an cdv ct) ⟨us,[]⟩=pure (ps.zip us)):Binds K fd ps []:=by
 obtain ⟨oc,od,kV,doc,pm,an,cdv,ct,osl,rfl,lk,hcd⟩:=F.ex
 exact .all (h kV doc pm an cdv ct)
theorem Fb {x qual:Str} {st:Stmt} {f:Addr} {oc:Value} {od an:Option Addr} {osl:Array (Option Value)} {kV doc pm cdv ct:Value} (l:K.lookup f=some ⟨oc,od,.func (PySem.W.fnOf x qual (fW st) (cO st) (au st) .none kV doc pm an cdv ct),osl⟩)
  (c:PySem.W.codeIn K cdv qual=true) (k:PySem.W.keepIn K (.ref f)=true):Fun K x qual st f (PySem.W.fnOf x qual (fW st) (cO st) (au st) .none kV doc pm an cdv ct):=⟨⟨oc,od,kV,doc,pm,an,cdv,ct,osl,rfl,l,c⟩,k⟩
end
section
variable {X:Cx}
end
theorem xj {A B:Prop} (h:B):if false=true then A else B:=by
 rw [if_neg Bool.false_ne_true]
 exact h
theorem jn {A B:Prop} (h:A):if true=true then A else B:=by
 rw [if_pos rfl]
 exact h
def Same (H H':Hp):Prop:=∀ b o,H b=some o→H' b=some o
theorem Same.refl (H:Hp):Same H H:=fun _ _ h=>h
theorem Same.trans {H H1 H2:Hp} (a:Same H H1) (b:Same H1 H2):Same H H2:=fun c o h=>b c o (a c o h)
theorem Same.free {H H':Hp} (e:Same H H') {l:Addr} (h:H' l=Option.none):H l=Option.none:=by
 cases q:H l with
 | none=>rfl
 | some o=>
  rw [e l o q] at h
  cases h
theorem Same.seq {K:PySem.W.Frag} {H H':Hp} {a:Addr} {xs:List V} (e:Same H H') (h:SqL K H a xs):SqL K H' a xs:=by
 rcases h with (h | ⟨o,h⟩) | h
 ·exact .inl (.inl (e _ _ h))
 ·exact .inl (.inr ⟨o,e _ _ h⟩)
 ·exact .inr h
end L2
set_option maxHeartbeats 4000000
namespace L2
open PySem PySem.Spec PyProof.Rows
def qY (env:Env):List (Str×NameKind)→List (Str×Addr)→List (Str×Addr)
 | [],acc=>acc
 | (n,k) :: r,acc=>qY env r (if k == .free then (match env.cells.lookup n with | some c=>(n,c) :: acc | none=>acc) else acc)
theorem su {env:Env}:∀ {names:List (Str×NameKind)} {acc:List (Str×Addr)},(∀ x c,(x,c)∈acc→env.cells.lookup x=some c)→∀ x c,(x,c)∈qY env names acc→env.cells.lookup x=some c
 | [],_,h,x,c,m=>h x c m
 | (n,k) :: r,acc,h,x,c,m=>by
  refine su (names:=r) ?_ x c m
  intro y d hm
  cases hk:(k == NameKind.free) with
  | false=>rw [hk] at hm;exact h y d hm
  | true=>
   rw [hk] at hm
   simp only [if_true] at hm
   cases e:env.cells.lookup n with
   | none=>rw [e] at hm;exact h y d hm
   | some c'=>
    rw [e] at hm
    rcases List.mem_cons.mp hm with z | z
    ·cases z;exact e
    ·exact h y d z
theorem xm {env:Env}:∀ {names:List (Str×NameKind)} {acc:List (Str×Addr)} {p:Str×Addr},p∈acc→p∈qY env names acc
 | [],_,_,h=>h
 | (n,k) :: r,acc,p,h=>by
  refine xm (names:=r) ?_
  split
  ·split
   ·exact List.mem_cons_of_mem _ h
   ·exact h
  ·exact h
theorem sy {env:Env} {x:Str} {c:Addr} (e:env.cells.lookup x=some c):∀ {names:List (Str×NameKind)} {acc:List (Str×Addr)},(x,NameKind.free)∈names→(x,c)∈qY env names acc
 | [],_,h=>by simp at h
 | (n,k) :: r,acc,h=>by
  rcases List.mem_cons.mp h with z | z
  ·cases z
   refine xm (names:=r) ?_
   rw [e]
   simp
  ·exact sy e (names:=r) z
theorem uy {l:List (Str×Addr)} {x:Str} {c:Addr} (hm:(x,c)∈l) (ha:∀ d,(x,d)∈l→d=c):l.lookup x=some c:=by
 induction l with
 | nil=>simp at hm
 | cons p r ih=>
  obtain ⟨n,d⟩:=p
  by_cases e:x=n
  ·subst e
   have:d=c:=ha d (by simp)
   subst this
   simp [List.lookup_cons]
  ·have hb:(x == n)=false:=by simpa using e
   rw [List.lookup_cons,hb]
   refine ih ?_ fun d' h'=>ha d' (List.mem_cons_of_mem _ h')
   rcases List.mem_cons.mp hm with z | z
   ·cases z;exact absurd rfl e
   ·exact z
theorem xn {env:Env} {names:List (Str×NameKind)} {x:Str} {c:Addr} (e:env.cells.lookup x=some c) (h:(x,NameKind.free)∈names):(qY env names []).lookup x=some c:=
 uy (sy e h) fun d hd=>by
  have q:=su (names:=names) (acc:=[]) (env:=env) (by simp) x d hd
  rw [e] at q
  exact (Option.some.inj q).symm
theorem Ci {env:Env} {names:List (Str×NameKind)} {x:Str} {c:Addr} (e:(qY env names []).lookup x=some c):env.cells.lookup x=some c:=
 su (names:=names) (acc:=[]) (env:=env) (by simp) x c (PySem.mem_of_lookup e)
theorem mC {env:Env}:∀ (names:List (Str×NameKind)) (acc:List (Str×Addr)),(∀ x∈names,x.2=NameKind.free→∃ c,env.cells.lookup x.1=some c)→
  (forIn (m:=Sem) names acc fun x r=>match x with
   | (name,kind)=>if (kind == NameKind.free)=true then do let c ← cellOf env name;pure (ForInStep.yield ((name,c) :: r)) else pure (ForInStep.yield r))=pure (qY env names acc)
 | [],acc,_=>rfl
 | (n,k) :: r,acc,h=>by
  rw [List.forIn_cons]
  cases hk:(k == NameKind.free) with
  | false=>
   simp only [hk,Bool.false_eq_true,if_false,pure_bind,qY]
   exact mC r acc fun x hx=>h x (List.mem_cons_of_mem _ hx)
  | true=>
   obtain ⟨c,e⟩:=h (n,k) List.mem_cons_self (by simpa using hk)
   simp only [hk,if_true,pure_bind,qY,cellOf,e]
   exact mC r ((n,c) :: acc) fun x hx=>h x (List.mem_cons_of_mem _ hx)
theorem lZ {scope:Scope} {env:Env} (h:∀ x∈scope.names,x.2=NameKind.free→∃ c,env.cells.lookup x.1=some c):closureFor scope env=pure (qY env scope.names []):=by
 unfold closureFor
 have:=mC (env:=env) scope.names [] h
 simp only [this,pure_bind]
theorem uN {prog:Program} {w:World} {A:Around} {R:Result→Shared→Prop} {s:Shared} {elt target iter:Expr} {ifs:List Expr} {scope:Scope} {pos:Pos} {it acc:Value} {env:Env} (I:Nat→Shared→Prop)
  (turn:∀ n s,I n s→wpAny (model prog w) A (pyNext it) (fun r s₁=>match r with
   | none=>R (.ok .next) s₁
   | some v=>wpAny (model prog w) A (letOwnedTupleGo target it v) (fun _ s₁'=>wpAny (model prog w) A (assign target env v) (fun _ s₂=>
     wpAny (model prog w) A (forIn ifs true fun c r=>if r=true then do let ok ← isTrue c env (eval c env);pure (ForInStep.yield ok) else pure (ForInStep.yield r)) (fun ok s₃=>
      if ok=true then wpAny (model prog w) A (eval elt env) (fun x s₄=>
       wpAny (model prog w) A (call (.builtin "list.append") [acc,x]) (fun _ s₅=>∃ m,m < n∧I m s₅) (fun _ _=>False) s₄) (fun _ _=>False) s₃
      else ∃ m,m < n∧I m s₃) (fun _ _=>False) s₂) (fun _ _=>False) s₁') (fun _ _=>False) s₁) (fun _ _=>False) s)
  (n:Nat) (h:I n s):
  codeAny (model prog w) A (.compLoop (.ListComp elt [⟨target,iter,ifs,0⟩] scope pos) 0 it acc env) R s:=by
 refine codeAny_loop rfl I (fun n s hI=>?_) n h
 show wpAny _ A ((compTurn (.ListComp elt [⟨target,iter,ifs,0⟩] scope pos) 0 it acc env).onRaise (fun x=>do noteFrame x env;theTreesLotGoes x)) _ _ s
 refine wpAny_noted ?_
 rw [compTurn_list]
 refine wpAny_bind (wpAny_standAt (wpAny_bind (wpAny_mono (turn n s hI) (fun r s₁ h₁=>?_) fun _ _ h'=>h'.elim)))
 cases r with
 | none=>exact wpAny_pure h₁
 | some v=>
  refine wpAny_bind (wpAny_mono h₁ (fun _ s₁' h₁'=>?_) fun _ _ h'=>h'.elim)
  refine wpAny_bind (wpAny_mono h₁' (fun _ s₂ h₂=>wpAny_bind (wpAny_mono h₂ (fun ok s₃ h₃=>?_) fun _ _ h'=>h'.elim)) fun _ _ h'=>h'.elim)
  cases ok with
  | false=>exact wpAny_pure ⟨rfl,h₃⟩
  | true=>
   exact wpAny_bind (wpAny_bind (wpAny_mono h₃ (fun x s₄ h₄=>wpAny_bind (wpAny_mono h₄ (fun _ s₅ h₅=>wpAny_pure (wpAny_pure ⟨rfl,h₅⟩)) fun _ _ h'=>h'.elim)) fun _ _ h'=>h'.elim))
end L2
namespace L2
open PySem PySem.Spec PyProof.Rows
theorem cZ:∀ (names:List (Str×NameKind)) (n:Nat) (acc:List (Str×Addr)),cellsFrom n names acc=cellsFrom n names [] ++ acc
 | [],_,_=>rfl
 | (x,k) :: r,n,acc=>by
  unfold cellsFrom
  split
  ·rw [cZ r (n+1) ((x,n) :: acc),cZ r (n+1) [(x,n)],List.append_assoc];rfl
  ·exact cZ r n acc
theorem nU {α:Type}:∀ {A B:List (Str×α)} {x:Str},(A ++ B).lookup x=(match A.lookup x with | some c=>some c | none=>B.lookup x)
 | [],_,_=>rfl
 | (y,c) :: A,B,x=>by
  rw [List.cons_append,List.lookup_cons,List.lookup_cons]
  cases x == y with
  | true=>rfl
  | false=>exact nU (A:=A)
theorem sE:∀ {names:List (Str×NameKind)} {n:Nat} {acc:List (Str×Addr)} {x:Str} {c:Addr},(x,c)∈cellsFrom n names acc→(x,c)∈acc∨(x,NameKind.cell)∈names
 | [],_,_,_,_,h=>.inl h
 | (y,k) :: r,n,acc,x,c,h=>by
  unfold cellsFrom at h
  split at h
  ·rename_i hk
   rcases sE h with z | z
   ·rcases List.mem_cons.mp z with z | z
    ·cases z
     have:k= .cell:=by simpa using hk
     rw [this];exact .inr List.mem_cons_self
    ·exact .inl z
   ·exact .inr (List.mem_cons_of_mem _ z)
  ·exact (sE h).imp id (List.mem_cons_of_mem _)
theorem nY {α:Type}:∀ {l:List (Str×α)} {x:Str} {c:α},(x,c)∈l→∃ d,l.lookup x=some d
 | (y,d) :: r,x,c,h=>by
  by_cases e:x=y
  ·subst e;exact ⟨d,by simp [List.lookup_cons]⟩
  ·have hb:(x == y)=false:=by simpa using e
   rw [List.lookup_cons,hb]
   rcases List.mem_cons.mp h with z | z
   ·cases z;exact absurd rfl e
   ·exact nY z
theorem nZ:∀ {names:List (Str×NameKind)} {n:Nat} {acc:List (Str×Addr)} {x:Str},(x,NameKind.cell)∈names∨(∃ c,(x,c)∈acc)→∃ c,(x,c)∈cellsFrom n names acc
 | [],_,_,_,h=>h.elim (fun h=>by simp at h) id
 | (y,k) :: r,n,acc,x,h=>by
  unfold cellsFrom
  split
  ·refine nZ ?_
   rcases h with h | ⟨c,h⟩
   ·rcases List.mem_cons.mp h with z | z
    ·cases z;exact .inr ⟨n,List.mem_cons_self⟩
    ·exact .inl z
   ·exact .inr ⟨c,List.mem_cons_of_mem _ h⟩
  ·rename_i hk
   refine nZ ?_
   rcases h with h | h
   ·rcases List.mem_cons.mp h with z | z
    ·cases z;exact absurd (by decide) hk
    ·exact .inl z
   ·exact .inr h
def Cj (X:Cx) (scope:Scope) (C:Addr):List (Str×Addr):=cellsFrom (C+1) scope.names (qY X.env scope.names [])
section
variable {M:Model} {A:Around} {E:Value→Shared→Prop} {s:Shared}
theorem fH {scope:Scope} {globals:Addr} {cl:List (Str×Addr)} {qual:Str} {env:Env} {Q:Env→Shared→Prop}
  (hQ:∀ h':Heap,h'.Ns s.heap.objs.size (fun _=>none)→(∀ b o,s.heap.get? b=some o→h'.get? b=some o)→CellsOk h' (s.heap.objs.size+1) (cellsFrom (s.heap.objs.size+1) scope.names [])→
   Q (newEnv scope s.heap.objs.size globals (cellsFrom (s.heap.objs.size+1) scope.names cl) qual none .none (some env) builtinsNs) {s with heap:=h',toks:=s.toks+([]:List (Str×Value)).length}):
  wpAny M A (newFunctionEnv scope globals cl [] qual none .none (some env)) Q E s:=by
 simp only [newFunctionEnv,Option.isSome_some,if_true]
 refine wpAny_bind (wpAny_alloc ?_)
 refine wpAny_bind (wpAny_layCells _ (fun name kind cells=>by cases hkc:kind == NameKind.cell <;> simp [hkc]) _ _ _ _ ?_)
 have ok:=cellsFrom_ok scope.names (s.heap.push {cls:=.type "dict",data:=.dict #[]}) (s.heap.objs.size+1) [] ⟨fun _ _ hm=>(nomatch hm),List.Pairwise.nil⟩ (by rw [Heap.size_push];exact Nat.le_refl _)
 rw [Heap.size_push] at ok
 rw [show ({s with heap:=s.heap.push {cls:=.type "dict",data:=.dict #[]}}:Shared).heap.objs.size=s.heap.objs.size+1 from Heap.size_push ..]
 exact wpAny_bind (wpAny_pure (wpAny_pure (hQ _ ((Heap.Ns.new s.heap (.type "dict")).keeps (pushCells_keeps _ _)) (fun b o e=>pushCells_keeps _ _ b o (Heap.get?_push_of_some _ e)) ok)))
end
def lU (X:Cx) (N':List Str) (scope:Scope) (C:Addr) (s₀:Shared) (H₀:Hp) (ex:List Addr):Cx:=
 {X with N:=N',s₀:=s₀,H₀:=H₀,env:=compEnvC scope (Cj X scope C) C X.env,outer:=X.stack,ex:=ex,fn:=fun x=>decide (scope.names.lookup x=some .cell),pn:=[],xe:=fun _ _=>False}
def dG (sub:List (Option Nat)) (σ:St):St:=sub.map fun o=>o.bind fun j=>(σ[j]?).join
structure qJ (N:List Str) (sc:Scope) (N':List Str) (scope:Scope) (sub:List (Option Nat)):Prop where
 kind:scope.kind= .function
 cel:∀ x∈scope.names,x.2= .cell→scope.names.lookup x.1=some .cell
 loc:∀ x∈scope.names,x.2= .local→scope.names.lookup x.1=some .local
 free:∀ x∈scope.names,x.2= .free→sc.names.lookup x.1=some .cell∨sc.names.lookup x.1=some .free
 len:sub.length=N'.length
 at_:∀ (i j:Nat) (x:Str),sub[i]?=some (some j)→N'[i]?=some x→N[j]?=some x∧(x,NameKind.free)∈scope.names∧scope.names.lookup x=some .free
def Fd (N:List Str) (sc:Scope) (N':List Str) (scope:Scope) (sub:List (Option Nat)):Bool:=
 decide (scope.kind= .function) && scope.names.all (fun x=>decide (x.2= .cell→scope.names.lookup x.1=some .cell)) && scope.names.all (fun x=>decide (x.2= .local→scope.names.lookup x.1=some .local)) &&
 scope.names.all (fun x=>decide (x.2= .free→sc.names.lookup x.1=some .cell∨sc.names.lookup x.1=some .free)) && decide (sub.length=N'.length) &&
 (List.range sub.length).all fun i=>match sub[i]?,N'[i]? with
  | some (some j),some x=>decide (N[j]?=some x∧(x,NameKind.free)∈scope.names∧scope.names.lookup x=some .free)
  | _,_=>true
theorem cQ {N:List Str} {sc:Scope} {N':List Str} {scope:Scope} {sub:List (Option Nat)} (h:Fd N sc N' scope sub=true):qJ N sc N' scope sub:=by
 simp only [Fd,Bool.and_eq_true,decide_eq_true_eq,List.all_eq_true] at h
 obtain ⟨⟨⟨⟨⟨h1,h2⟩,h3⟩,h4⟩,h5⟩,h6⟩:=h
 refine ⟨h1,h2,h3,h4,h5,fun i j x e1 e2=>?_⟩
 have hi:i < sub.length:=(List.getElem?_eq_some_iff.mp e1).1
 have q:=h6 i (List.mem_range.mpr hi)
 rw [e1,e2] at q
 simpa using q
def Fe:TT:=fun _ H Q=>Q true H
def vR (X:Cx) (ifs:List Expr) (t:TT):Prop:=
 ∀ (pins:List (Addr×Obj)) (s:Shared) (σ:St) (H:Hp) (Q:Bool→Hp→Prop),Inv X pins σ H s→t σ H Q→
  wpAny (model X.prog X.w) X.A (forIn ifs true fun c r=>if r=true then do let ok ← isTrue c X.env (eval c X.env);pure (ForInStep.yield ok) else pure (ForInStep.yield r)) (TP X pins σ Q) X.xe s
theorem Ff {X:Cx}:vR X [] Fe:=fun _ _ _ H _ I h=>wpAny_tests_nil ⟨H,I,h⟩
theorem Fg {X:Cx} {c:Expr} {t:TT} (hc:PT X c t):vR X [c] t:=fun pins s σ H Q I h=>wpAny_tests_one (hc pins s σ H Q I h)
def KeepSt (σ σ':St):Prop:=σ'.length=σ.length∧∀ (i:Nat) (v:V),σ[i]?=some (some v)→σ'[i]?=some (some v)
theorem KeepSt.set {σ:St} {i:Nat} {v:V} (h:σ[i]?=some none):KeepSt σ (σ.set i (some v)):=by
 refine ⟨by simp,fun j u e=>?_⟩
 by_cases hj:i=j
 ·subst hj;rw [h] at e;cases e
 ·rw [List.getElem?_set_ne hj];exact e
theorem KeepSt.trans {σ1 σ2 σ3:St} (a:KeepSt σ1 σ2) (b:KeepSt σ2 σ3):KeepSt σ1 σ3:=⟨b.1.trans a.1,fun i v e=>b.2 i v (a.2 i v e)⟩
def sG (sub:List (Option Nat)) (wi:TI) (g:TG) (tt:TT) (te:TE):TE:=fun σ H Q=>wi σ H fun J H1=>∃ W:Nat→Nat→List V→Hp→Prop,(∃ m,W 0 m [] H1)∧∀ i m ys H,W i m ys H→
 (J.stop i H∧ys.length≤sizeLine∧∀ D,H D=none→Q (.ref D) (upd H D (.lst ys)))∨
 (J.go i H∧ys.length < sizeLine∧∃ N:List V→Hp→Prop,(∀ ys' H',N ys' H'→∃ m',m' < m∧W (i+1) m' ys' H')∧
  ∀ x H',J.yld i H x H'→g x (dG sub σ) H' fun σ2 H2=>KeepSt (dG sub σ) σ2∧tt σ2 H2 fun b H3=>if b=true then te σ2 H3 fun y H4=>N (ys ++ [y]) H4 else N ys H3)
theorem oh {scope:Scope} {env:Env} {x:Str} (hx:scope.names.lookup x=some .free):(relabel scope env).names.lookup x=some .cell∨(relabel scope env).names.lookup x=some .free:=by
 have:∀ names:List (Str×NameKind),names.lookup x=some .free→
  (names.map fun (n,k)=>if (k == NameKind.free && env.scope.kind == .function && env.kindOf n == some .cell) then (n,NameKind.cell) else (n,k)).lookup x=some .cell∨
  (names.map fun (n,k)=>if (k == NameKind.free && env.scope.kind == .function && env.kindOf n == some .cell) then (n,NameKind.cell) else (n,k)).lookup x=some .free:=by
  intro names
  induction names with
  | nil=>intro h;simp at h
  | cons p r ih=>
   obtain ⟨n,k⟩:=p
   intro h
   by_cases e:x=n
   ·subst e
    have hk:k= .free:=by simpa [List.lookup_cons] using h
    subst hk
    by_cases hc:((NameKind.free == NameKind.free && env.scope.kind == .function && env.kindOf x == some .cell)=true)
    ·left;simp only [List.map_cons];rw [if_pos hc];simp [List.lookup_cons]
    ·right;simp only [List.map_cons];rw [if_neg hc];simp [List.lookup_cons]
   ·have hb:(x == n)=false:=by simpa using e
    rw [List.lookup_cons,hb] at h
    have q:=ih h
    simp only [List.map_cons]
    split <;> (rw [List.lookup_cons,hb];exact q)
 exact this scope.names hx
theorem vU {scope:Scope} {env:Env} {x:Str} (h:(relabel scope env).names.lookup x=some .cell∨(relabel scope env).names.lookup x=some .free):(x,NameKind.cell)∈scope.names∨(x,NameKind.free)∈scope.names:=by
 have key:∀ k,(k=NameKind.cell∨k=NameKind.free)→(relabel scope env).names.lookup x=some k→(x,NameKind.cell)∈scope.names∨(x,NameKind.free)∈scope.names:=by
  intro k hk hl
  have hm:=PySem.mem_of_lookup hl
  unfold relabel at hm
  obtain ⟨⟨n,k'⟩,hm1,hm2⟩:=List.mem_map.mp hm
  dsimp only at hm2
  by_cases hc:(k' == NameKind.free && env.scope.kind == .function && env.kindOf n == some .cell)=true
  ·rw [if_pos hc] at hm2
   cases hm2
   simp only [Bool.and_eq_true,beq_iff_eq] at hc
   rw [← hc.1.1];exact .inr hm1
  ·rw [if_neg hc] at hm2
   cases hm2
   rcases hk with hk | hk
   ·subst hk;exact .inl hm1
   ·subst hk;exact .inr hm1
 rcases h with h | h
 ·exact key _ (.inl rfl) h
 ·exact key _ (.inr rfl) h
section
variable {X:Cx} {tg iter elt:Expr} {ifs:List Expr} {scope:Scope} {pos:Pos} {N':List Str} {sub:List (Option Nat)} {wi:TI} {g:TG} {tt:TT} {te:TE}
theorem uO {pins:List (Addr×Obj)} {σ:St} {H:Hp} {s:Shared} {fp:List Addr} {D:Addr} {h':Heap} {tk:Nat} {N:List Str} {sc:Scope} (S:qJ N sc N' scope sub) (hN:X.N=N) (hsc:X.env.scope=sc) (I:Inv X pins σ H s) (hf:∀ b∈fp,iH X pins H b) (hfo:∀ b∈fp,b < s.heap.objs.size)
  (hD:D < s.heap.objs.size) (fD:iH X pins H D) (hns:h'.Ns s.heap.objs.size fun _=>none) (hk:∀ b o,s.heap.get? b=some o→h'.get? b=some o) (hc:CellsOk h' (s.heap.objs.size+1) (cellsFrom (s.heap.objs.size+1) scope.names [])):
  Inv (lU X N' scope s.heap.objs.size s H (D :: fp)) [] (dG sub σ) H {s with heap:=h',toks:=tk}:=by
 have hex:∀ b∈D :: fp,iH X pins H b∧b < s.heap.objs.size:=fun b hb=>by
  rcases List.mem_cons.mp hb with rfl | z
  ·exact ⟨fD,hD⟩
  ·exact ⟨hf b z,hfo b z⟩
 have spl:∀ {x c},(Cj X scope s.heap.objs.size).lookup x=some c→(h'.IsCell c none∧s.heap.objs.size+1≤c∧(x,c)∈cellsFrom (s.heap.objs.size+1) scope.names [])∨(X.env.cells.lookup x=some c∧∃ o,s.heap.get? c=some o):=fun {x c} h=>by
  unfold Cj at h
  rw [cZ,nU] at h
  cases e:(cellsFrom (s.heap.objs.size+1) scope.names []).lookup x with
  | some d=>
   rw [e] at h
   cases h
   have m:=PySem.mem_of_lookup e
   exact .inl ⟨(hc.empty _ _ m).1,(hc.empty _ _ m).2,m⟩
  | none=>
   rw [e] at h
   have z:=Ci h
   obtain ⟨v,o,ho,_⟩:=I.cell x c z
   exact .inr ⟨z,o,ho⟩
 have fre:∀ {x c},(x,NameKind.free)∈scope.names→scope.names.lookup x=some .free→X.env.cells.lookup x=some c→(Cj X scope s.heap.objs.size).lookup x=some c:=fun {x c} h1 h2 h3=>by
  unfold Cj
  rw [cZ,nU]
  cases e:(cellsFrom (s.heap.objs.size+1) scope.names []).lookup x with
  | some d=>
   rcases sE (PySem.mem_of_lookup e) with z | z
   ·cases z
   ·have:=S.cel _ z rfl
    rw [h2] at this;cases this
  | none=>exact xn h3 h1
 refine ⟨⟨I.ok.mod,S.kind,I.ok.glob,I.ok.blt,Nat.le_refl _,fun x y c h1 h2=>?_,fun x hx=>?_,fun x c hx h=>?_,I.ok.hd,I.ok.frames,.inl rfl,fun b hb=>?_,I.bs,Nat.le_trans I.ok.bsz I.sz,fun b o e hb=>?_,fun b hb=>?_,I.stack,I.stkFree⟩,
  rfl,I.bare,Un.kept hk,⟨_,hns,fun i x v h1 h2 h3=>?_⟩,fun x c h=>?_,I.hok.fresh (Nat.le_refl _),fun x c h=>?_,fun p hp=>(nomatch hp),I.hok.kept hk,?_⟩
 ·rcases spl h1 with ⟨_,l1,m1⟩ | ⟨z1,o1,q1⟩ <;> rcases spl h2 with ⟨_,l2,m2⟩ | ⟨z2,o2,q2⟩
  ·exact PySem.name_of_addr hc.apart m1 m2
  ·exact absurd (Nat.lt_of_lt_of_le (Heap.lt_size q2) (Nat.le_of_succ_le l1)) (Nat.lt_irrefl _)
  ·exact absurd (Nat.lt_of_lt_of_le (Heap.lt_size q1) (Nat.le_of_succ_le l2)) (Nat.lt_irrefl _)
  ·exact I.ok.inj x y c z1 z2
 ·rcases vU hx with z | z
  ·obtain ⟨c,m⟩:=nZ (n:=s.heap.objs.size+1) (acc:=qY X.env scope.names []) (.inl z)
   exact nY m
  ·obtain ⟨c,e⟩:=I.ok.has x (by have:=S.free _ z rfl;rw [← hsc] at this;exact this)
   show ∃ c,(Cj X scope s.heap.objs.size).lookup x=some c
   unfold Cj
   rw [cZ]
   exact nY (c:=c) (List.mem_append_right _ (sy e z))
 ·have hx':scope.names.lookup x=some .cell:=by simpa [lU] using hx
  rcases spl h with ⟨_,l,_⟩ | ⟨z,o,q⟩
  ·exact Nat.le_of_succ_le l
  ·exfalso
   have m:(x,NameKind.cell)∈scope.names:=PySem.mem_of_lookup hx'
   obtain ⟨d,md⟩:=nZ (n:=s.heap.objs.size+1) (acc:=[]) (.inl m)
   obtain ⟨d',e'⟩:=nY md
   have h:(Cj X scope s.heap.objs.size).lookup x=some c:=h
   unfold Cj at h
   rw [cZ,nU,e'] at h
   cases h
   exact absurd (Nat.lt_of_lt_of_le (Heap.lt_size q) (Nat.le_of_succ_le (hc.empty _ _ (PySem.mem_of_lookup e')).2)) (Nat.lt_irrefl _)
 ·obtain ⟨⟨f0,f1,f2,f3,f4,f5⟩,hlt⟩:=hex b hb
  refine ⟨Nat.ne_of_lt hlt,fun x c h=>?_⟩
  rcases spl h with ⟨_,l,_⟩ | ⟨z,_⟩
  ·exact fun z=>absurd (Nat.lt_of_lt_of_le hlt (Nat.le_of_succ_le (z ▸ l))) (Nat.lt_irrefl _)
  ·exact f4 x c z
 ·obtain ⟨⟨f0,f1,f2,f3,f4,f5⟩,hlt⟩:=hex b hb
  rcases f3 with z | z
  ·exact I.ok.noex b o e z
  ·exact absurd (Nat.lt_of_lt_of_le (Heap.lt_size (I.ok.bs b o e).1) z) (Nat.lt_irrefl _)
 ·obtain ⟨⟨f0,f1,f2,f3,f4,f5⟩,hlt⟩:=hex b hb
  intro z
  rcases List.mem_cons.mp (I.stkSub b z) with z | z
  ·exact f1 z
  ·exact f2 z
 ·have hs:∃ j,sub[i]?=some (some j)∧σ[j]?=some (some v):=by
   unfold dG at h2
   rw [List.getElem?_map] at h2
   cases e:sub[i]? with
   | none=>rw [e] at h2;cases h2
   | some o=>
    rw [e] at h2
    cases o with
    | none=>cases h2
    | some j=>
     refine ⟨j,rfl,?_⟩
     have h3:(σ[j]?).join=some v:=Option.some.inj h2
     cases e2:σ[j]? with
     | none=>rw [e2] at h3;cases h3
     | some z=>rw [e2] at h3;cases z with
      | none=>cases h3
      | some z=>cases h3;rfl
  obtain ⟨j,e1,e2⟩:=hs
  obtain ⟨g1,g2,g3⟩:=S.at_ i j x e1 h1
  rw [← hN] at g1
  obtain ⟨m,hn,hl⟩:=I.loc
  have hkf:X.env.kindOf x=some .cell∨X.env.kindOf x=some .free:=by have:=S.free _ g2 rfl;rw [← hsc] at this;exact this
  have hvis:Vis X.env.scope x:=by
   rcases hkf with z | z
   ·exact .inr (.inl z)
   ·exact .inr (.inr z)
  obtain ⟨u,r,l⟩:=hl j x v g1 e2 hvis
  refine ⟨u,r,.inr ⟨oh g3,?_⟩⟩
  rcases l with ⟨k,_⟩ | ⟨_,c,e,o,ho,hd⟩
  ·have k':X.env.kindOf x=some .local:=k
   rcases hkf with z | z <;> (rw [k'] at z;cases z)
  ·exact ⟨c,fre g2 g3 e,o,hk _ _ ho,hd⟩
 ·rcases spl h with ⟨z,_⟩ | ⟨z,_⟩
  ·exact ⟨_,z⟩
  ·obtain ⟨v,o,ho,hd⟩:=I.cell x c z
   exact ⟨v,o,hk _ _ ho,hd⟩
 ·rcases spl h with ⟨_,l,_⟩ | ⟨z,_⟩
  ·exact I.hok.fresh (Nat.le_of_succ_le l)
  ·exact I.freeC x c z
 ·show (dG sub σ).length=N'.length
  unfold dG
  rw [List.length_map]
  exact S.len
theorem Ad {N:List Str} {sc:Scope} (S:qJ N sc N' scope sub) (hc:X.calm=true) (hN:X.N=N) (hsc:X.env.scope=sc) (hi:PI X tg iter wi)
  (hg:∀ (C:Addr) (s₀:Shared) (H₀:Hp) (ex:List Addr),PG (lU X N' scope C s₀ H₀ ex) tg g)
  (ht:∀ (C:Addr) (s₀:Shared) (H₀:Hp) (ex:List Addr),vR (lU X N' scope C s₀ H₀ ex) ifs tt)
  (he:∀ (C:Addr) (s₀:Shared) (H₀:Hp) (ex:List Addr),PE (lU X N' scope C s₀ H₀ ex) elt te)
  (hs:autoParam (∀ x,foldedSetIterable iter X.env x=pure x) L2.auto3._auto_1):
  PE X (.ListComp elt [⟨tg,iter,ifs,0⟩] scope pos) (sG sub wi g tt te):=by
 intro pins s σ H Q I h
 rw [eval_ListComp]
 have hcl:∀ x∈scope.names,x.2=NameKind.free→∃ c,X.env.cells.lookup x.1=some c:=fun x hx hk=>I.ok.has x.1 (by have:=S.free x hx hk;rw [← hsc] at this;exact this)
 refine wpAny_comprehension_free (use:=none) rfl hs (lZ hcl) S.kind S.loc ?_
 refine d8 (hi pins s σ H _ I h) fun v s1 h1=>d8 h1 fun itv s2 h2=>?_
 obtain ⟨it,fp,tn,J,H2,e,I2,T,st2,f2,W,⟨m0,w0⟩,turn⟩:=h2
 subst e
 refine wpAny_newObj_type (fH fun h₁ hns₁ hk31 hcl₁=>?_)
 dsimp only at hns₁ hk31 hcl₁ ⊢
 generalize hs3:({s2 with heap:=s2.heap.push {cls:=.type "list",dict:=none,data:=.seq ([]:List Value).toArray}}:Shared)=s3
 have e3:s2.heap.push {cls:=.type "list",dict:=none,data:=.seq ([]:List Value).toArray}=s3.heap:=by rw [← hs3]
 rw [e3] at hns₁ hk31 hcl₁ ⊢
 have hD3:s3.heap.get? s2.heap.objs.size=some {cls:=.type "list",dict:=none,data:=.seq ([]:List Value).toArray}:=by rw [← e3];exact Heap.get?_push_size _ rfl
 have I3:Inv X pins σ H2 s3:=by
  rw [← hs3]
  exact I2.kept (t':=s2.toks) fun b o e=>Heap.get?_push_of_some _ e
 have k23:∀ b o,s2.heap.get? b=some o→s3.heap.get? b=some o:=fun b o e=>by rw [← e3];exact Heap.get?_push_of_some _ e
 have hsz:s3.heap.objs.size=s2.heap.objs.size+1:=by rw [← e3,Heap.size_push]
 have hDn:H2 s2.heap.objs.size=none:=I2.hok.fresh (Nat.le_refl _)
 have fD:iH X pins H2 s2.heap.objs.size:=I2.fpOk (Nat.le_refl _) hDn
 have hfo:∀ b∈fp,b < s2.heap.objs.size:=fun b hb=>let ⟨o,e,_⟩:=T.obj _ _ st2 b hb;Heap.lt_size e
 have hDfp:s2.heap.objs.size ∉ fp:=fun z=>absurd (hfo _ z) (Nat.lt_irrefl _)
 have I4:=uO (tk:=s3.toks+([]:List (Str×Value)).length) S hN hsc I3 f2 (fun b hb=>by rw [hsz];exact Nat.lt_succ_of_lt (hfo b hb)) (D:=s2.heap.objs.size) (by rw [hsz];exact Nat.lt_succ_self _) fD hns₁ hk31 hcl₁
 have stat:∀ {H':Hp} {ob:Obj},(∀ b∈fp,H' b=none)→∀ b∈fp,iH (lU X N' scope s3.heap.objs.size s3 H2 (s2.heap.objs.size :: fp)) [(s2.heap.objs.size,ob)] H' b:=fun {H' ob} hn b hb=>by
  obtain ⟨q1,q2⟩:=I4.ok.exf b (List.mem_cons_of_mem _ hb)
  refine ⟨hn b hb,q1,I4.ok.exfs b (List.mem_cons_of_mem _ hb),.inl (List.mem_cons_of_mem _ hb),q2,fun p hp z=>?_⟩
  have hp':p=(s2.heap.objs.size,ob):=by simpa [lU] using hp
  subst hp'
  have z':s2.heap.objs.size=b:=z
  exact hDfp (by rw [z'];exact hb)
 generalize hXC:lU X N' scope s3.heap.objs.size s3 H2 (s2.heap.objs.size :: fp)=XC at I4 stat
 have eP:XC.prog=X.prog:=by rw [← hXC];rfl
 have eW:XC.w=X.w:=by rw [← hXC];rfl
 have eK:XC.K=X.K:=by rw [← hXC];rfl
 have eA:XC.A=X.A:=by rw [← hXC];rfl
 have eE:XC.env=compEnvC scope (Cj X scope s3.heap.objs.size) s3.heap.objs.size X.env:=by rw [← hXC];rfl
 have eC:XC.calm=true:=by rw [← hXC];exact hc
 have eX:XC.xe=fun _ _=>False:=by rw [← hXC];rfl
 have eH:XC.H₀=H2:=by rw [← hXC];rfl
 have eS:XC.s₀=s3:=by rw [← hXC];rfl
 have eF:XC.fs=frs X.stack:=by rw [← hXC];rfl
 have eEx:XC.ex=s2.heap.objs.size :: fp:=by rw [← hXC];rfl
 have ePn:XC.pn=[]:=by rw [← hXC];rfl
 have hgC:PG XC tg g:=by rw [← hXC];exact hg _ _ _ _
 have htC:vR XC ifs tt:=by rw [← hXC];exact ht _ _ _ _
 have heC:PE XC elt te:=by rw [← hXC];exact he _ _ _ _
 have pinD:∀ {σ':St} {H':Hp} {s':Shared} {ob:Obj},Inv XC [] σ' H' s'→H' s2.heap.objs.size=none→s'.heap.get? s2.heap.objs.size=some ob→(∀ v,ob.data≠.cell v)→Inv XC [(s2.heap.objs.size,ob)] σ' H' s':=fun {σ' H' s' ob} J hn hg hd=>
  J.pins_of fun p hp=>by
   have hp':p=(s2.heap.objs.size,ob):=by simpa using hp
   subst hp'
   refine ⟨hg,hn,(J.ok.exf _ (by rw [eEx];exact List.mem_cons_self)).1,J.ok.exfs _ (by rw [eEx];exact List.mem_cons_self),hd⟩
 have loop:codeAny (model X.prog X.w) X.A (.compLoop (.ListComp elt [⟨tg,iter,ifs,0⟩] scope pos) 0 (.ref it) (.ref s2.heap.objs.size) (compEnvC scope (Cj X scope s3.heap.objs.size) s3.heap.objs.size X.env))
   (compPost (model X.prog X.w) X.A X.xe none (EP X pins σ Q) (.ref s2.heap.objs.size) s3.heap.objs.size) {s3 with heap:=h₁,toks:=s3.toks+([]:List (Str×Value)).length}:=by
  refine uN (fun n s'=>∃ (i:Nat) (ys:List V) (its:List Value) (nn:Nat) (H':Hp),Inv XC [] (dG sub σ) H' s'∧tn i s'.heap∧(∀ b∈fp,H' b=none)∧H' s2.heap.objs.size=none∧
   s'.heap.get? s2.heap.objs.size=some {cls:=.type "list",data:=.seq its.toArray nn}∧Vals ys its∧W i n ys H') ?_ m0
   ⟨0,[],[],_,H2,I4,T.keep _ _ _ st2 fun b _ o e=>hk31 b o (k23 b o e),fun b hb=>(f2 b hb).1,hDn,hk31 _ _ hD3,.nil,w0⟩
  rintro n s4 ⟨i,ys,its,nn,H4,J4,st4,fr4,dn4,dg4,rv4,w4⟩
  have P4:=pinD J4 dn4 dg4 (fun v z=>by cases z)
  rcases turn i n ys H4 w4 with ⟨stop,hyl,qn⟩ | ⟨go,hyl,N,hN,step⟩
  ·have hdone:=T.done XC eP eW eK eC i _ s4 _ H4 (fun _ _=>False) P4 (stat fr4) st4 stop
   rw [eA] at hdone
   refine wpAny_mono hdone (fun r s5 ⟨hr,I5⟩=>?_) fun _ _ z=>z
   subst hr
   obtain ⟨m,hn,_⟩:=id I5.loc
   have hCe:XC.env.locals=s3.heap.objs.size:=by rw [eE];rfl
   rw [hCe] at hn
   refine ⟨m,hn,fun h6 hs6=>?_⟩
   have hDg:=(I5.pin (s2.heap.objs.size,_) (by rw [ePn];exact List.mem_cons_self)).1
   have hDne:s2.heap.objs.size≠s3.heap.objs.size:=by rw [hsz];exact Nat.ne_of_lt (Nat.lt_succ_self _)
   have hHC:H4 s3.heap.objs.size=none:=by have:=I5.free;rw [hCe] at this;exact this
   have k56:∀ b o,b≠s3.heap.objs.size→s5.heap.get? b=some o→h6.get? b=some o:=fun b o hb e=>hs6.extBut b o hb e
   have un:=I5.base
   rw [eF,eEx,eH,eS] at un
   have nC:∀ b o,s3.heap.get? b=some o→b≠s3.heap.objs.size:=fun b o e=>Nat.ne_of_lt (Heap.lt_size e)
   have hok6:HOk X.prog X.w (upd H4 s2.heap.objs.size (.lst ys)) h6:=by
    have h5:=I5.hok
    rw [eP,eW] at h5
    have Je:∀ b u,H4 b=some u→b≠s3.heap.objs.size:=fun b u e z=>by rw [z,hHC] at e;cases e
    intro b u e
    by_cases hb:b=s2.heap.objs.size
    ·subst hb
     rw [ao] at e;cases e
     exact ⟨hyl,its,nn,rv4,k56 _ _ hDne hDg⟩
    ·rw [aB hb] at e
     have nD:∀ c u,H4 c=some u→c≠s2.heap.objs.size:=fun c u e z=>by rw [z,dn4] at e;cases e
     refine (h5 b u e).stay (fun c v hc' q=>k56 c v ?_ q) (fun c q=>by rw [aB (nD c _ q)];exact q) fun c xs q=>by rw [aB (nD c _ q)];exact q
     rcases hc' with z | z
     ·rw [z];exact Je b u e
     ·exact Je c _ z
   have nD2:∀ c u,H4 c=some u→c≠s2.heap.objs.size:=fun c u e z=>by rw [z,dn4] at e;cases e
   have un6:Un (frs X.stack) (s2.heap.objs.size :: fp) H2 (upd H4 s2.heap.objs.size (.lst ys)) s3.heap h6:=
    ⟨fun b o e nn' hb hx=>k56 b o (nC b o e) (un.keep b o e nn' hb hx),fun b o e nn' hb hx=>let ⟨sl,q⟩:=un.slot b o e nn' hb hx;⟨sl,k56 b _ (nC b o e) q⟩,
     fun b o e nn' hx=>by rw [aB (fun z=>hx (by rw [z];exact List.mem_cons_self))];exact un.free b o e nn' hx,
     fun b o e hx=>let ⟨o',q⟩:=un.there b o e hx;⟨o',k56 b o' (nC b o e) q⟩,
     fun b xs e=>by have q:=un.tups b xs e;rw [aB (nD2 b _ q)];exact q,
     fun b o u e=>by have q:=un.frzs b o u e;rw [aB (nD2 b _ q)];exact q,
     fun b ps e=>let ⟨more,q⟩:=un.tbls b ps e;⟨more,by rw [aB (nD2 b _ q)];exact q⟩⟩
   have I6:Inv X pins σ (upd H4 s2.heap.objs.size (.lst ys)) {s5 with heap:=h6}:=by
    refine I3.call' (s':={s5 with heap:=h6}) (ch:=s2.heap.objs.size :: fp) ?_ un6 hok6 I5.bare fun b hb=>?_
    ·show s5.os=s3.os
     have:=I5.os
     rw [eS] at this
     exact this
    ·have q:iH X pins H2 b:=by
      rcases List.mem_cons.mp hb with rfl | z
      ·exact fD
      ·exact f2 b z
     obtain ⟨f0,f1,f2',f3,f4,f5⟩:=q
     exact ⟨f3,f1,f4,f5⟩
   exact ⟨.ref s2.heap.objs.size,_,I6,rfl,qn _ dn4⟩
  ·have hitem:=T.item XC eP eW eK eC i _ s4 _ H4 (fun _ _=>False) P4 (stat fr4) st4 go
   rw [eA] at hitem
   refine wpAny_mono hitem (fun r s5 ⟨u,hr,h5⟩=>?_) fun _ _ z=>z
   subst hr
   dsimp only
   refine wpAny_mono h5 (fun _ s6 ⟨x,H6,I6,r6,y6,st6,fr6⟩=>?_) fun _ _ z=>z
   have P6:=I6.pinned (stat fr6) (T.obj _ _ st6)
   rw [← eE,← eP,← eW,← eA]
   refine wpAny_mono (hgC _ s6 _ H6 x u _ P6 r6 (step x H6 y6)) (fun _ s7 ⟨σ7,H7,I7,kp7,q7⟩=>?_) fun _ _ z=>by rw [eX] at z;exact z
   refine wpAny_mono (htC _ s7 σ7 H7 _ I7 q7) (fun ok s8 ⟨H8,I8,q8⟩=>?_) fun _ _ z=>by rw [eX] at z;exact z
   have fin:∀ {H9:Hp} {s9:Shared},Inv XC ([(s2.heap.objs.size,({cls:=.type "list",data:=.seq its.toArray nn}:Obj))] ++ pG fp s6.heap) σ7 H9 s9→Inv XC [] (dG sub σ) H9 s9∧tn (i+1) s9.heap∧(∀ b∈fp,H9 b=none)∧H9 s2.heap.objs.size=none∧
     s9.heap.get? s2.heap.objs.size=some {cls:=.type "list",data:=.seq its.toArray nn}:=fun {H9 s9} J=>by
    have pD:=J.pin (s2.heap.objs.size,({cls:=.type "list",data:=.seq its.toArray nn}:Obj)) (by rw [ePn];simp)
    have pF:∀ b∈fp,∀ o,s6.heap.get? b=some o→s9.heap.get? b=some o∧H9 b=none:=fun b hb o e=>by
     have q:=J.pin (b,o) (by rw [ePn];exact List.mem_append_right _ (List.mem_append_right _ (jm hb e)))
     exact ⟨q.1,q.2.1⟩
    refine ⟨?_,T.keep _ _ _ st6 fun b hb o e=>(pF b hb o e).1,fun b hb=>?_,pD.2.1,pD.1⟩
    ·have J0:Inv XC [] σ7 H9 s9:=J.pins_of fun p hp=>nomatch hp
     exact J0.weak kp7.1.symm fun j v e=>kp7.2 j v e
    ·obtain ⟨o,e,_⟩:=T.obj _ _ st6 b hb
     exact (pF b hb o e).2
   cases ok with
   | false=>
    rw [if_neg (by simp)]
    rw [if_neg (by simp)] at q8
    obtain ⟨m',hm,w8⟩:=hN _ _ q8
    obtain ⟨a1,a2,a3,a4,a5⟩:=fin I8
    exact ⟨m',hm,i+1,ys,its,nn,H8,a1,a2,a3,a4,a5,rv4,w8⟩
   | true=>
    rw [if_pos rfl]
    rw [if_pos rfl] at q8
    refine wpAny_mono (heC _ s8 σ7 H8 _ I8 q8) (fun xv s9 ⟨y,H9,I9,r9,n9⟩=>?_) fun _ _ z=>by rw [eX] at z;exact z
    obtain ⟨m',hm,w9⟩:=hN _ _ n9
    obtain ⟨a1,a2,a3,a4,a5⟩:=fin I9
    refine wpAny_list_append_plain (items:=its.toArray) ⟨nn,a5⟩ (fun h' ⟨n',hp'⟩ sb=>?_) (by simp;rw [← rv4.length];omega)
    obtain ⟨q1,q2⟩:=I4.ok.exf s2.heap.objs.size (by rw [eEx];exact List.mem_cons_self)
    have a1':Inv XC [] (dG sub σ) H9 {s9 with heap:=h'}:=a1.turned (t':=s9.toks) (fun b o hb e=>(sb.2 b hb).trans e) a4 q1 (.inl (by rw [eEx];exact List.mem_cons_self)) q2 (fun p hp=>by rw [ePn] at hp;exact nomatch hp)
    refine ⟨m',hm,i+1,ys ++ [y],its ++ [xv],n',H9,a1',T.keep _ _ _ a2 fun b hb o e=>(sb.2 b (fun z=>hDfp (by rw [← z];exact hb))).trans e,a3,a4,?_,rv4.append (.cons r9 .nil),w9⟩
    rw [hp']
    simp
 subst hs3
 exact codeAny_compStart_list loop (T.self _ 0 _ _ _ (T.keep _ _ _ st2 fun b _ o e=>hk31 b o (k23 b o e)) loop)
end
abbrev uP (sub:List (Option Nat)) (g:TG) (tt:TT) (te:TE) (σ:St) (Q:VK) (J:It) (H1:Hp):Prop:=∃ W:Nat→Nat→List V→Hp→Prop,(∃ m,W 0 m [] H1)∧∀ i m ys H,W i m ys H→
 (J.stop i H∧ys.length≤sizeLine∧∀ D,H D=none→Q (.ref D) (upd H D (.lst ys)))∨
 (J.go i H∧ys.length < sizeLine∧∃ N:List V→Hp→Prop,(∀ ys' H',N ys' H'→∃ m',m' < m∧W (i+1) m' ys' H')∧
  ∀ x H',J.yld i H x H'→g x (dG sub σ) H' fun σ2 H2=>KeepSt (dG sub σ) σ2∧tt σ2 H2 fun b H3=>if b=true then te σ2 H3 fun y H4=>N (ys ++ [y]) H4 else N ys H3)
theorem rC {sub:List (Option Nat)} {g:TG} {tt:TT} {te:TE} {σ:St} {Q:VK} {J:It} {H:Hp} {n:Nat} (Pv:Nat→List V→Hp→Prop) (hn:n≤sizeLine) (h0:Pv 0 [] H) (hl:∀ i ys H,Pv i ys H→ys.length≤i)
  (hgo:∀ i ys H,i < n→Pv i ys H→J.go i H) (hstop:∀ ys H,Pv n ys H→J.stop n H)
  (hs:∀ i ys H x H',i < n→Pv i ys H→J.yld i H x H'→g x (dG sub σ) H' fun σ2 H2=>KeepSt (dG sub σ) σ2∧tt σ2 H2 fun b H3=>if b=true then te σ2 H3 fun y H4=>Pv (i+1) (ys ++ [y]) H4 else Pv (i+1) ys H3)
  (hd:∀ ys H,Pv n ys H→∀ D,H D=none→Q (.ref D) (upd H D (.lst ys))):uP sub g tt te σ Q J H:=by
 refine ⟨fun i m ys H=>m=n - i∧i≤n∧Pv i ys H,⟨n,by simp,Nat.zero_le _,h0⟩,?_⟩
 rintro i m ys H ⟨rfl,hi,p⟩
 have hl':=hl i ys H p
 by_cases hlt:i < n
 ·exact .inr ⟨hgo i ys H hlt p,by omega,fun ys' H'=>Pv (i+1) ys' H',fun ys' H' p'=>⟨n - (i+1),by omega,rfl,hlt,p'⟩,fun x H' y=>hs i ys H x H' hlt p y⟩
 ·have e:i=n:=by omega
  subst e
  exact .inl ⟨hstop ys H p,by omega,hd ys H p⟩
end L2
namespace L2
open PySem PySem.Spec PyProof.Rows
section
variable {κ:Type} [DecidableEq κ]
def lV (kvs:List (κ×V)) (k:κ):Option V:=(kvs.find? fun kv=>decide (kv.1=k)).map (·.2)
def putK (kvs:List (κ×V)) (k:κ) (v:V):List (κ×V):=
 if (kvs.any fun kv=>decide (kv.1=k))=true then kvs.map (fun kv=>if kv.1=k then (kv.1,v) else kv) else kvs ++ [(k,v)]
theorem sH {p:κ×V} {r:List (κ×V)} {k:κ} (e:p.1=k):lV (p :: r) k=some p.2:=by simp [lV,List.find?_cons,e]
theorem sI {p:κ×V} {r:List (κ×V)} {k:κ} (e:¬ p.1=k):lV (p :: r) k=lV r k:=by simp [lV,List.find?_cons,e]
theorem jV (k:κ):∀ kvs:List (κ×V),(kvs.any fun kv=>decide (kv.1=k))=(lV kvs k).isSome
 | []=>rfl
 | p :: r=>by
  rw [List.any_cons]
  by_cases e:p.1=k
  ·simp only [sH e,decide_eq_true e,Bool.true_or,Option.isSome_some]
  ·rw [sI e,decide_eq_false e,Bool.false_or];exact jV k r
theorem qK (kvs:List (κ×V)) (k:κ) (v:V):(putK kvs k v).length≤kvs.length+1:=by
 unfold putK
 split
 ·rw [List.length_map];omega
 ·rw [List.length_append,List.length_cons,List.length_nil];omega
theorem Fi {kvs:List (κ×V)} {k:κ} (v:V) (h:lV kvs k=none):putK kvs k v=kvs ++ [(k,v)]:=by
 unfold putK
 rw [jV,h]
 exact if_neg (by decide)
theorem RelO.isSome_eq {o:Option V} {u:Option Value} (r:RelO o u):o.isSome=u.isSome:=by
 cases o with
 | none=>cases u with
  | none=>rfl
  | some _=>exact (show False from r).elim
 | some _=>cases u with
  | none=>exact (show False from r).elim
  | some _=>rfl
theorem KV.val {kvs:List (κ×V)} {vs:List (κ×Value)} (r:KV kvs vs) (k:κ):RelO (lV kvs k) (valueAt vs k):=by
 unfold KV at r
 induction r with
 | nil=>exact True.intro
 | @cons p q ps qs h t ih=>
  obtain ⟨h1,h2⟩:=h
  by_cases e:p.1=k
  ·have e':q.1=k:=h1.symm.trans e
   have b:valueAt (q :: qs) k=some q.2:=by simp [valueAt,List.find?_cons,e']
   rw [sH e,b];exact h2
  ·have e':¬ q.1=k:=fun z=>e (h1.trans z)
   have b:valueAt (q :: qs) k=valueAt qs k:=by simp [valueAt,List.find?_cons,e']
   rw [sI e,b];exact ih
theorem KV.any {kvs:List (κ×V)} {vs:List (κ×Value)} (r:KV kvs vs) (k:κ):(kvs.any fun kv=>decide (kv.1=k))=vs.any fun kv=>decide (kv.1=k):=by
 unfold KV at r
 induction r with
 | nil=>rfl
 | cons h t ih=>rw [List.any_cons,List.any_cons,ih,h.1]
theorem KV.repl {kvs:List (κ×V)} {vs:List (κ×Value)} (r:KV kvs vs) (k:κ) {y:V} {u:Value} (ry:RelV y u):
  KV (kvs.map fun kv=>if kv.1=k then (kv.1,y) else kv) (vs.map fun kv=>if kv.1=k then (kv.1,u) else kv):=by
 unfold KV at r ⊢
 induction r with
 | nil=>exact .nil
 | @cons p q ps qs h t ih=>
  rw [List.map_cons,List.map_cons]
  refine .cons ?_ ih
  obtain ⟨h1,h2⟩:=h
  by_cases e:p.1=k
  ·rw [if_pos e,if_pos (h1.symm.trans e)];exact ⟨h1,ry⟩
  ·rw [if_neg e,if_neg (fun z=>e (h1.trans z))];exact ⟨h1,h2⟩
theorem KV.put {kvs:List (κ×V)} {vs:List (κ×Value)} (r:KV kvs vs) (k:κ) {y:V} {u:Value} (ry:RelV y u):KV (putK kvs k y) (stored vs k u):=by
 unfold putK stored
 rw [r.any k]
 by_cases e:(vs.any fun kv=>decide (kv.1=k))=true
 ·rw [if_pos e,if_pos e];exact r.repl k ry
 ·rw [if_neg e,if_neg e];exact Paired.snoc r ⟨rfl,ry⟩
theorem KV.length {kvs:List (κ×V)} {vs:List (κ×Value)} (r:KV kvs vs):kvs.length=vs.length:=Paired.length r
end
theorem Fj {P:Program} {w:World} {k:Key} {u:Value} (r:RelV (kV k) u):(bR P w).is k u=true:=by
 cases k with
 | inl i=>obtain ⟨t,e⟩:=(show ∃ t,u=Value.int i t from r);subst e;exact wU P w i t
 | inr x=>obtain ⟨t,e⟩:=(show ∃ t,u=Value.str x t from r);subst e;exact wV P w x t
theorem uQ {P:Program} {w:World}:∀ {ks:List Key} {us:List Value},Vals (ks.map kV) us→ItemsAre (bR P w) ks us
 | [],_,r=>by rw [List.map_nil] at r;cases r;exact .nil
 | k :: ks,_,r=>by
  rw [List.map_cons] at r
  cases r with
  | cons h t=>exact .cons (Fj h) (uQ t)
abbrev KT (H:Hp):List (List Key×V)→List (List Key×Addr×Value)→Prop:=Paired fun p q=>p.1=q.1∧H q.2.1=some (.tup (p.1.map kV))∧RelV p.2 q.2.2
theorem KT.val {H:Hp} {kvs:List (List Key×V)} {xs:List (List Key×Addr×Value)} (r:KT H kvs xs) (k:List Key):RelO (lV kvs k) ((atKey xs k).map (·.2)):=by
 induction r with
 | nil=>exact True.intro
 | @cons p q ps qs h t ih=>
  obtain ⟨h1,_,h2⟩:=h
  by_cases e:p.1=k
  ·have e':q.1=k:=h1.symm.trans e
   have b:atKey (q :: qs) k=some q.2:=by simp [atKey,List.find?_cons,e']
   rw [sH e,b];exact h2
  ·have e':¬ q.1=k:=fun z=>e (h1.trans z)
   have b:atKey (q :: qs) k=atKey qs k:=by simp [atKey,List.find?_cons,e']
   rw [sI e,b];exact ih
theorem KT.repl {H:Hp} {kvs:List (List Key×V)} {xs:List (List Key×Addr×Value)} (r:KT H kvs xs) (k:List Key) {y:V} {u:Value} (ry:RelV y u):
  KT H (kvs.map fun kv=>if kv.1=k then (kv.1,y) else kv) (xs.map (putAt k u)):=by
 induction r with
 | nil=>exact .nil
 | @cons p q ps qs h t ih=>
  rw [List.map_cons,List.map_cons]
  refine .cons ?_ ih
  obtain ⟨h1,h2,h3⟩:=h
  unfold putAt
  by_cases e:p.1=k
  ·rw [if_pos e,if_pos (h1.symm.trans e)];exact ⟨h1,h2,ry⟩
  ·rw [if_neg e,if_neg (fun z=>e (h1.trans z))];exact ⟨h1,h2,h3⟩
theorem KT.put {H:Hp} {kvs:List (List Key×V)} {xs:List (List Key×Addr×Value)} (r:KT H kvs xs) (k:List Key) {b:Addr} {y:V} {u:Value} (hb:H b=some (.tup (k.map kV))) (ry:RelV y u):
  KT H (putK kvs k y) (storedH xs k b u):=by
 have e:(kvs.any fun kv=>decide (kv.1=k))=(atKey xs k).isSome:=by
  rw [jV,(r.val k).isSome_eq,Option.isSome_map]
 unfold putK storedH
 rw [e]
 by_cases q:(atKey xs k).isSome=true
 ·rw [if_pos q,if_pos q];exact r.repl k ry
 ·rw [if_neg q,if_neg q];exact Paired.snoc r ⟨rfl,hb,ry⟩
theorem KT.keeps {H H':Hp} {kvs:List (List Key×V)} {xs:List (List Key×Addr×Value)} (r:KT H kvs xs) (ht:∀ b ys,H b=some (.tup ys)→H' b=some (.tup ys)):KT H' kvs xs:=
 Paired.mapP r fun _ _ z=>⟨z.1,ht _ _ z.2.1,z.2.2⟩
section
variable {P:Program} {w:World} {H:Hp} {h:Heap} {a:Addr}
theorem Mu {u:HO} (ok:HOk P w H h) (e:Rd H a u):ObjOk P w H h a u:=e.ok ok
theorem Mv {kvs:List (Key×V)} (ok:HOk P w H h) (e:Rd H a (.dK kvs)):kvs.length≤sizeLine∧(a == sysModules)=false∧∃ vs,KV kvs vs∧h.DictOf (bR P w) a vs:=
 show ObjOk P w H h a (.dK kvs) from Mu ok e
theorem Tv {kvs:List (Key×V)} (ok:HOk P w H h) (e:H a=some (.dK kvs)):kvs.length≤sizeLine∧(a == sysModules)=false∧∃ vs,KV kvs vs∧h.DictOf (bR P w) a vs:=Mv ok (.inl e)
theorem yQ {ks:List Key} (ok:HOk P w H h) (e:H a=some (.tup (ks.map kV))):(tupleKind (bR P w)).is h ks a:=by
 obtain ⟨_,its,r,o,h1,h2,n,h3⟩:=(show ObjOk P w H h a (.tup (ks.map kV)) from ok a _ e)
 exact ⟨o,its.toArray,n,h1,h2,h3,by simpa using uQ r⟩
theorem Mw {kvs:List (List Key×V)} (ok:HOk P w H h) (e:Rd H a (.dT kvs)):kvs.length≤sizeLine∧(a == sysModules)=false∧
  ∃ xs,KT H kvs xs∧h.DictOfH (tupleKind (bR P w)) a xs:=by
 obtain ⟨z,y,xs,r,o,es,ep,h1,h2,h3,h4,h5⟩:=(show ObjOk P w H h a (.dT kvs) from Mu ok e)
 refine ⟨z,y,xs,r,o,es,ep,h1,h2,h3,h4,fun x hx=>?_,h5⟩
 have all:∀ {l:List (List Key×V)} {m:List (List Key×Addr×Value)},KT H l m→∀ x∈m,(tupleKind (bR P w)).is h x.1 x.2.1:=by
  intro l m q
  induction q with
  | nil=>intro x hx;exact nomatch hx
  | @cons p q ps qs hq t ih=>
   intro x hx
   rcases List.mem_cons.mp hx with e | hx
   ·subst e
    exact yQ ok (by rw [← hq.1];exact hq.2.1)
   ·exact ih x hx
 exact all r x hx
theorem Tw {kvs:List (List Key×V)} (ok:HOk P w H h) (e:H a=some (.dT kvs)):kvs.length≤sizeLine∧(a == sysModules)=false∧
  ∃ xs,KT H kvs xs∧h.DictOfH (tupleKind (bR P w)) a xs:=Mw ok (.inl e)
end
def DGet (H:Hp) (a:Addr) (y:V) (r:Option V):Prop:=
 (∃ kvs k,Rd H a (.dK kvs)∧y=kV k∧r=lV kvs k)∨∃ kvs k b,Rd H a (.dT kvs)∧y= .ref b∧H b=some (.tup (k.map kV))∧r=lV kvs k
def DPut (H:Hp) (a:Addr) (y v:V) (H':Hp):Prop:=
 (∃ kvs k,H a=some (.dK kvs)∧y=kV k∧kvs.length < sizeLine∧H'=upd H a (.dK (putK kvs k v)))∨
 ∃ kvs k b,H a=some (.dT kvs)∧y= .ref b∧H b=some (.tup (k.map kV))∧kvs.length < sizeLine∧H'=upd H a (.dT (putK kvs k v))
theorem DGet.t {H:Hp} {a b:Addr} {kvs:List (List Key×V)} {k:List Key} (e:H a=some (.dT kvs)) (eb:H b=some (.tup (k.map kV))):DGet H a (.ref b) (lV kvs k):=.inr ⟨kvs,k,b,.inl e,rfl,eb,rfl⟩
theorem DPut.t {H:Hp} {a b:Addr} {kvs:List (List Key×V)} {k:List Key} {v:V} (e:H a=some (.dT kvs)) (eb:H b=some (.tup (k.map kV))) (hl:kvs.length < sizeLine):
  DPut H a (.ref b) v (upd H a (.dT (putK kvs k v))):=.inr ⟨kvs,k,b,e,rfl,eb,hl,rfl⟩
section
variable {X:Cx} {pins:List (Addr×Obj)} {σ:St} {H:Hp} {s:Shared} {a:Addr} {y v:V} {u r:Value} {o:Option V} {A:Around} {E:Value→Shared→Prop}
theorem Inv.big (I:Inv X pins σ H s):sysModules < s.heap.objs.size:=by
 have h:mainGlobals < s.heap.objs.size:=(I.mod.glob.keeps I.bk).lt
 exact Nat.lt_trans (by decide) h
theorem d_in {Q:Value→Shared→Prop} (hu:A.units+1 < cLine) (I:Inv X pins σ H s) (g:DGet H a y o) (ry:RelV y u) (h:∀ s',Inv X pins σ H s'→Q (.bool o.isSome) s'):
  wpAny (model X.prog X.w) A (compareOp .In u (.ref a)) Q E s:=by
 rcases g with ⟨kvs,k,e,ey,l⟩ | ⟨kvs,k,b,e,ey,eb,l⟩
 ·subst ey
  obtain ⟨z,hd,vs,rel,dd⟩:=Mv I.hok e
  refine wpAny_in_of (Fj ry) hd dd.mapOf ?_
  rw [← (rel.val k).isSome_eq,← l]
  exact h _ (I.tok _)
 ·subst ey
  cases (show u=Value.ref b from ry)
  obtain ⟨z,hd,xs,rel,dd⟩:=Mw I.hok e
  refine wpAny_in_heap (tupleKind_room_in1 hu) (yQ I.hok eb) hd dd ?_
  have q:=(rel.val k).isSome_eq
  rw [Option.isSome_map] at q
  rw [← q,← l]
  exact h _ (I.tok _)
theorem Ae {h':Heap} {t':Nat} {ob:HO} (I:Inv X pins σ H s) (mu:Ss (H a)) (hs:Heap.SameBut a s.heap h') (he:∃ q,h'.get? a=some q) (new:ObjOk X.prog X.w (upd H a ob) h' a ob):
  Inv X pins σ (upd H a ob) {s with heap:=h',toks:=t'}:=
 I.write (x:=a) (e:=a) mu (.inl rfl) (fun b q hb z=>(hs.2 b hb).trans z) he new
theorem O8 {P:Program} {w:World} {H':Hp} {h':Heap} {kvs:List (Key×V)} {vs:List (Key×Value)} (z:kvs.length≤sizeLine) (hd:(a == sysModules)=false) (rel:KV kvs vs) (dd:h'.DictOf (bR P w) a vs):
  ObjOk P w H' h' a (.dK kvs):=⟨z,hd,vs,rel,dd⟩
theorem Ck {H':Hp} {Q:Unit→Shared→Prop} (hu:A.units+1 < cLine) (I:Inv X pins σ H s) (g:DPut H a y v H') (ry:RelV y u) (rv:RelV v r) (h:∀ s',Inv X pins σ H' s'→Q () s'):
  wpAny (model X.prog X.w) A (setItem (.ref a) u r) Q E s:=by
 rcases g with ⟨kvs,k,e,ey,l,eH⟩ | ⟨kvs,k,b,e,ey,eb,l,eH⟩
 ·subst ey eH
  obtain ⟨z,hd,vs,rel,dd⟩:=Tv I.hok e
  have hz:vs.length≤sizeLine:=by rw [← rel.length];exact z
  have hl:(putK kvs k v).length≤sizeLine:=by have:=qK kvs k v;omega
  refine wpAny_setItem_pairs (hsz:=hz) (Fj ry) dd fun h' dd' hs=>h _ ?_
  have he:∃ q,h'.get? a=some q:=let ⟨q,_,_,hq,_⟩:=dd';⟨q,hq⟩
  exact Ae I (by rw [e];exact True.intro) hs he (O8 hl hd (rel.put k rv) dd')
 ·subst ey eH
  cases (show u=Value.ref b from ry)
  obtain ⟨z,hd,xs,rel,dd⟩:=Tw I.hok e
  have hz:xs.length≤sizeLine:=by rw [← Paired.length rel];exact z
  have hl:(putK kvs k v).length≤sizeLine:=by have:=qK kvs k v;omega
  refine wpAny_setItem_heap (hsz:=hz) (tupleKind_room_in1 hu) (yQ I.hok eb) dd fun h' dd' hs=>h _ ?_
  obtain ⟨q,es,ep,hq,h2,h3,h4,_,h5⟩:=dd'
  refine Ae I (by rw [e];exact True.intro) hs ⟨q,hq⟩ ⟨hl,hd,_,(rel.put k eb rv).keeps fun c ys ec=>?_,q,es,ep,hq,h2,h3,h4,h5⟩
  rw [aB (Sq ec e (fun z=>nomatch z))]
  exact ec
end
section
variable {X:Cx} {pins:List (Addr×Obj)} {σ:St} {H:Hp} {s:Shared} {a:Addr} {kvs:List (Key×V)} {k:Key} {u:Value} {A:Around} {E:Value→Shared→Prop}
end
section
variable {X:Cx} {o i e value:Expr} {pos pos' tpos:Pos} {td ty tv:TE}
end
theorem Fl {P:Program} {w:World} {H:Hp} (h:Heap) (hb:sysModules < h.objs.size):ObjOk P w H (h.push {cls:=.type "dict",data:=.dict #[]}) h.objs.size (.dK []):=
 ⟨Nat.zero_le _,beq_eq_false_iff_ne.mpr (Ne.symm (Nat.ne_of_lt hb)),[],.nil,Heap.DictOf.new h⟩
theorem Fo {P:Program} {w:World} {H:Hp} (h:Heap) (hb:sysModules < h.objs.size):ObjOk P w H (h.push {cls:=.type "dict",data:=.dict #[]}) h.objs.size (.dT []):=
 ⟨Nat.zero_le _,beq_eq_false_iff_ne.mpr (Ne.symm (Nat.ne_of_lt hb)),[],.nil,_,#[],0,Heap.get?_push_size _ rfl,⟨rfl,rfl,rfl⟩,rfl,rfl,List.nodup_nil⟩
def yR:TE:=fun _ H Q=>∀ p,H p=none→Q (.ref p) (upd H p (.dK []))
def yS:TE:=fun _ H Q=>∀ p,H p=none→Q (.ref p) (upd H p (.dT []))
section
variable {X:Cx} {pos:Pos}
theorem Fp:PE X (.Dict [] [] pos) yR:=fun pins s σ H Q I h=>
 wpAny_Dict_empty ⟨.ref s.heap.objs.size,_,I.laid (a:=s.heap.objs.size) (o:=.dK []) (t':=s.toks) (fun _ _ q=>Heap.get?_push_of_some _ q) (Nat.le_refl _) (Fl s.heap I.big),rfl,h _ (I.hok.fresh (Nat.le_refl _))⟩
theorem Fq:PE X (.Dict [] [] pos) yS:=fun pins s σ H Q I h=>
 wpAny_Dict_empty ⟨.ref s.heap.objs.size,_,I.laid (a:=s.heap.objs.size) (o:=.dT []) (t':=s.toks) (fun _ _ q=>Heap.get?_push_of_some _ q) (Nat.le_refl _) (Fo s.heap I.big),rfl,h _ (I.hok.fresh (Nat.le_refl _))⟩
end
def Ft:List (TE×TE)→St→Hp→(List (V×V)→Hp→Prop)→Prop
 | [],_,H,Q=>Q [] H
 | (tk,tv) :: r,σ,H,Q=>tk σ H fun x H1=>tv σ H1 fun y H2=>Ft r σ H2 fun ps H3=>Q ((x,y) :: ps) H3
abbrev VV:List (V×V)→List (Value×Value)→Prop:=Paired fun p q=>RelV p.1 q.1∧RelV p.2 q.2
def PPs (X:Cx) (pos:Pos) (keys:List (Option Expr)) (values:List Expr) (trs:List (TE×TE)):Prop:=
 ∀ (pins:List (Addr×Obj)) (s:Shared) (σ:St) (H:Hp) (Q:List (V×V)→Hp→Prop),Inv X pins σ H s→Ft trs σ H Q→
  wpAny (model X.prog X.w) X.A (evalPairs (pairTrees keys values X.env pos)) (fun vs s'=>∃ ps H',Inv X pins σ H' s'∧VV ps vs∧Q ps H') X.xe s
structure M1 (X:Cx) (o:Expr) (m:Str) (apos:Pos) (e:Expr) (cpos:Pos):Prop where
 base:attributeBase o m X.env (eval o X.env)=eval o X.env
 few:((backTo cpos (starEach [e] X.env)).all (fun x=>!x.1) && (backToKw cpos (keywordEach [] X.env)).all (fun x=>x.1.isSome)
  && decide (([e]:List Expr).length+([]:List Keyword).length+(if ([]:List Keyword).isEmpty then 0 else 1) < 30))=true
 line:(apos.endLine == cpos.line)=true
 trees:backTo cpos (starEach [e] X.env)=[(false,eval e X.env)]
structure M2 (X:Cx) (o:Expr) (m:Str) (apos:Pos) (e f:Expr) (cpos:Pos):Prop where
 base:attributeBase o m X.env (eval o X.env)=eval o X.env
 few:((backTo cpos (starEach [e,f] X.env)).all (fun x=>!x.1) && (backToKw cpos (keywordEach [] X.env)).all (fun x=>x.1.isSome)
  && decide (([e,f]:List Expr).length+([]:List Keyword).length+(if ([]:List Keyword).isEmpty then 0 else 1) < 30))=true
 line:(apos.endLine == cpos.line)=true
 trees:backTo cpos (starEach [e,f] X.env)=[(false,eval e X.env),(false,eval f X.env)]
section
variable {X:Cx} {pins:List (Addr×Obj)} {σ:St} {H:Hp} {s:Shared} {a:Addr} {y d:V} {u r:Value} {o:Option V} {A:Around} {E:Value→Shared→Prop}
end
section
variable {X:Cx} {o e f:Expr} {apos cpos:Pos} {td ty tx:TE}
end
section
variable {X:Cx} {pins:List (Addr×Obj)} {σ:St} {H:Hp} {s:Shared} {a:Addr} {kvs:List (Key×V)} {A:Around} {E:Value→Shared→Prop}
end
section
variable {X:Cx} {pins:List (Addr×Obj)} {σ:St} {H:Hp} {s:Shared} {a:Addr} {y:V} {u:Value} {A:Around} {E:Value→Shared→Prop}
end
end L2
namespace L2
open PySem PySem.Spec PyProof.Rows
section
variable {X:Cx}
section
variable {κ:Type} [DecidableEq κ]
theorem Fv {kvs:List (κ×V)} {k:κ} (h:lV kvs k=none):¬ k∈kvs.map (·.1):=by
 intro m
 obtain ⟨p,hp,e⟩:=List.mem_map.mp m
 have q:(kvs.any fun kv=>decide (kv.1=k))=true:=List.any_eq_true.mpr ⟨p,hp,decide_eq_true e⟩
 rw [jV,h] at q
 exact absurd q (by simp)
theorem JN {kvs:List (κ×V)} {k:κ} {v:V} (h:lV kvs k=some v):k∈kvs.map (·.1):=by
 have q:(kvs.any fun kv=>decide (kv.1=k))=true:=by
  rw [jV,h]
  all_goals rfl
 obtain ⟨p,hp,e⟩:=List.any_eq_true.mp q
 exact List.mem_map.mpr ⟨p,hp,of_decide_eq_true e⟩
end
end
end L2
namespace L2
open PySem PySem.Spec PyProof.Rows
def Mx (x:Str):It:=⟨fun i _=>i < x.cps.size,fun i H v H'=>H'=H∧∃ c,x.cps[i]?=some c∧v= .str ⟨#[c]⟩,fun i _=>i=x.cps.size⟩
theorem xq {P:Program} {w:World} {K:PySem.W.Frag} {tg:Expr} (it:Addr) (x:Str) (t:Tok) (ty:String)
  (hty:["enumerate","zip","dict_itemiterator","dict_reverseitemiterator","odict_iterator","itertools.zip_longest","itertools.pairwise"].contains ty=false)
  (W:∀ A:Around,A.handled=none→Walks P w A it [it] [it] x.cps.size (SignAt x) fun i h=>h.IsStrIter it ty x t i)
  (hself:∀ (A:Around) (i:Nat) (s:Shared) (Q:Value→Shared→Prop) (E:Value→Shared→Prop),s.heap.IsStrIter it ty x t i→Q (.ref it) s→wpAny (model P w) A (pyIter (.ref it)) Q E s):Turn P w K tg (Mx x) [it] it (fun i h=>h.IsStrIter it ty x t i) where
 mem:=by simp
 obj:=fun i h st b hb=>by
  have e:b=it:=by simpa using hb
  subst e
  obtain ⟨o,e,c,d⟩:=st
  exact ⟨o,e,fun v z=>by rw [d] at z;cases z⟩
 keep:=fun i h h' st k=>by
  obtain ⟨o,e,r⟩:=st
  exact ⟨o,k it (by simp) o e,r⟩
 item:=by
  intro X hP hw hK hc i pins s σ H E I hf st hg
  subst hP hw hK
  obtain ⟨f0,f1,f2,f3,f4,f5⟩:=hf it (by simp)
  refine (W X.A (I.ok.hd hc)).item i s _ _ hg st fun v h' tk hv st' kk=>?_
  obtain ⟨c,u,e1,rfl⟩:=hv
  have I1:Inv X pins σ H {s with heap:=h',toks:=tk}:=I.turned (fun b o hb e=>kk b o (by simpa using hb) e) f0 f1 f3 f4 f5
  obtain ⟨o,e,cl,d⟩:=id st'
  exact ⟨_,rfl,zV (s:={s with heap:=h',toks:=tk}) e cl d hty ⟨.str ⟨#[c]⟩,H,I1,⟨u,rfl⟩,⟨rfl,c,e1,rfl⟩,st',fun b hb=>(hf b hb).1⟩⟩
 done:=by
  intro X hP hw hK hc i pins s σ H E I hf st hg
  subst hP hw hK
  obtain ⟨f0,f1,f2,f3,f4,f5⟩:=hf it (by simp)
  have hg:i=x.cps.size:=hg
  subst hg
  exact (W X.A (I.ok.hd hc)).done s _ _ st fun h' tk kk=>⟨rfl,I.turned (fun b o hb e=>kk b o (by simpa using hb) e) f0 f1 f3 f4 f5⟩
 self:=hself
section
variable {X:Cx}
theorem all_range {bs:List Bool}:(List.range bs.length).all (fun i=>bs.getD i false)=bs.all id:=by
 rw [Bool.eq_iff_iff]
 simp only [List.all_eq_true,List.mem_range]
 constructor
 ·intro h b hb
  obtain ⟨i,hi,e⟩:=List.mem_iff_getElem.mp hb
  have:=h i hi
  rw [List.getD_eq_getElem?_getD,List.getElem?_eq_getElem hi] at this
  simp only [Option.getD_some] at this
  rw [← e];exact this
 ·intro h i hi
  rw [List.getD_eq_getElem?_getD,List.getElem?_eq_getElem hi]
  exact h _ (List.getElem_mem hi)
theorem any_range {bs:List Bool}:(List.range bs.length).any (fun i=>bs.getD i false)=bs.any id:=by
 rw [Bool.eq_iff_iff]
 simp only [List.any_eq_true,List.mem_range]
 constructor
 ·rintro ⟨i,hi,h⟩
  rw [List.getD_eq_getElem?_getD,List.getElem?_eq_getElem hi] at h
  exact ⟨_,List.getElem_mem hi,h⟩
 ·rintro ⟨b,hb,h⟩
  obtain ⟨i,hi,e⟩:=List.mem_iff_getElem.mp hb
  refine ⟨i,hi,?_⟩
  rw [List.getD_eq_getElem?_getD,List.getElem?_eq_getElem hi]
  simp only [Option.getD_some]
  rw [e];exact h
theorem jW:∀ {bs:List Bool} {us:List Value} {i:Nat} {v:Value},Vals (bs.map V.bl) us→us[i]?=some v→v= .bool (bs.getD i false)
 | [],_,i,v,.nil,e=>by simp at e
 | b :: bs,_,0,v,.cons r t,e=>by simp at e;subst e;exact r
 | b :: bs,_,i+1,v,.cons r t,e=>by
  simp at e
  have:=jW (bs:=bs) t e
  simpa using this
def rAll:List V→Hp→VK→Prop:=fun xs H Q=>∃ (p:Addr) (bs:List Bool),xs=[.ref p]∧H p=some (.lst (bs.map V.bl))∧Q (.bl (bs.all id)) H
theorem sJ (hc:X.calm=true):CallR X (.builtin "all") rAll:=by
 intro pins s σ H xs us Q I r h
 obtain ⟨p,bs,rfl,hp,q⟩:=h
 obtain ⟨u,rfl,ru⟩:=vals1 r
 cases ru
 obtain ⟨hz,its,n,rv,e⟩:=I.hok p _ hp
 refine call_all_walk (wpAny_pyIter_list (items:=its.toArray) ⟨_,e,rfl,n,rfl⟩ ?_)
 refine ⟨s.heap.objs.size,_,_,_,_,_,fun i=>bs.getD i false,rfl,Walks.list (A:=X.A.in1) (I.ok.hd hc) s.heap.objs.size p (Nat.ne_of_lt (Heap.lt_size e)) its.toArray,⟨⟨_,Heap.get?_push_size _ rfl,rfl,rfl⟩,⟨_,Heap.get?_push_of_some _ e,rfl,n,rfl⟩⟩,?_,fun h' tk hk=>?_⟩
 ·intro i v s' Q' E' hv hq
  have:=jW rv (by simpa using hv)
  subst this
  exact wpAny_truthy_bool hq
 ·have hl:its.toArray.size=bs.length:=by have:=rv.length;simpa using this.symm
  rw [hl,all_range]
  refine ⟨.bl _,H,?_,rfl,q⟩
  exact I.kept fun b o e=>hk b o (by simp;exact Nat.ne_of_lt (Heap.lt_size e)) (Heap.get?_push_of_some _ e)
def rAny:List V→Hp→VK→Prop:=fun xs H Q=>∃ (p:Addr) (bs:List Bool),xs=[.ref p]∧H p=some (.lst (bs.map V.bl))∧Q (.bl (bs.any id)) H
theorem Fw (hc:X.calm=true):CallR X (.builtin "any") rAny:=by
 intro pins s σ H xs us Q I r h
 obtain ⟨p,bs,rfl,hp,q⟩:=h
 obtain ⟨u,rfl,ru⟩:=vals1 r
 cases ru
 obtain ⟨hz,its,n,rv,e⟩:=I.hok p _ hp
 refine call_any_walk (wpAny_pyIter_list (items:=its.toArray) ⟨_,e,rfl,n,rfl⟩ ?_)
 refine ⟨s.heap.objs.size,_,_,_,_,_,fun i=>bs.getD i false,rfl,Walks.list (A:=X.A.in1) (I.ok.hd hc) s.heap.objs.size p (Nat.ne_of_lt (Heap.lt_size e)) its.toArray,⟨⟨_,Heap.get?_push_size _ rfl,rfl,rfl⟩,⟨_,Heap.get?_push_of_some _ e,rfl,n,rfl⟩⟩,?_,fun h' tk hk=>?_⟩
 ·intro i v s' Q' E' hv hq
  have:=jW rv (by simpa using hv)
  subst this
  exact wpAny_truthy_bool hq
 ·have hl:its.toArray.size=bs.length:=by have:=rv.length;simpa using this.symm
  rw [hl,any_range]
  refine ⟨.bl _,H,?_,rfl,q⟩
  exact I.kept fun b o e=>hk b o (by simp;exact Nat.ne_of_lt (Heap.lt_size e)) (Heap.get?_push_of_some _ e)
theorem sO:∀ {ys:List Str} {us:List Value},Vals (ys.map V.str) us→StrsAre us ys
 | [],_,.nil=>.nil
 | y :: ys,_,.cons r t=>by
  obtain ⟨k,e⟩:=(show ∃ t,_=Value.str y t from r)
  subst e
  exact .cons y k (sO t)
def rJoin:V→List V→Hp→VK→Prop:=fun x xs H Q=>∃ (sep:Str) (p:Addr) (ys:List Str),x= .str sep∧xs=[.ref p]∧H p=some (.lst (ys.map V.str))∧(ys.map (·.length)).sum+ys.length*sep.length≤16777216∧Q (.str (Txt.join sep ys)) H
theorem JP:JC X "str.join" rJoin:=by
 intro pins s σ H x xs v us Q I rx r h
 obtain ⟨sep,p,ys,rfl,rfl,hp,hz,q⟩:=h
 obtain ⟨u,rfl,ru⟩:=vals1 r
 cases ru
 obtain ⟨t,rfl⟩:=rx
 obtain ⟨hz',its,n,rv,e⟩:=I.hok p _ hp
 exact join_list (items:=its.toArray) ⟨_,e,rfl,n,rfl⟩ (by simpa using sO rv) hz fun t' k=>⟨.str _,H,I.tok _,⟨_,rfl⟩,q⟩
def Tz:V→Option Int→Option Int→Hp→VK→Prop:=fun v lo hi H Q=>∃ x,v= .str x∧x.length≤sizeLine∧Q (.str (Txt.slice x lo hi)) H
theorem O9:SlR X Tz:=by
 intro pins s σ H x v vl vu lo hi sl Q I rx hs pl pu h
 obtain ⟨z,rfl,hz,q⟩:=h
 obtain ⟨t,rfl⟩:=rx
 refine ⟨"str",_,F.slot_str_getitem.lookup,typeIs_str _ _ _,?_⟩
 have fin:∀ (t' k:Nat),EP X pins σ Q (.str (Txt.slice z lo hi) t') {s with toks:=k}:=fun t' k=>⟨.str _,H,I.tok _,⟨_,rfl⟩,q⟩
 have sz:=Nat.le_trans (Txt.slice_le z lo hi) hz
 obtain ⟨o,ho,hc,hd⟩:=hs
 cases pl with
 | none=>
  cases pu with
  | none=>exact wpAny_getItem_str_slice (l:=none) (u:=none) (st:=none) ⟨o,ho,hc,hd⟩ rfl (post_val_or_str ⟨sz,fin⟩)
  | int j tj=>exact wpAny_getItem_str_slice (l:=none) (u:=some (j,tj)) (st:=none) ⟨o,ho,hc,hd⟩ rfl (post_val_or_str ⟨sz,fin⟩)
 | int i ti=>
  cases pu with
  | none=>exact wpAny_getItem_str_slice (l:=some (i,ti)) (u:=none) (st:=none) ⟨o,ho,hc,hd⟩ rfl (post_val_or_str ⟨sz,fin⟩)
  | int j tj=>exact wpAny_getItem_str_slice (l:=some (i,ti)) (u:=some (j,tj)) (st:=none) ⟨o,ho,hc,hd⟩ rfl (post_val_or_str ⟨sz,fin⟩)
def Mz:R2:=fun x y H Q=>∃ i n,x= .str i∧y= .int n∧MulOk i n∧Q (.str (Txt.mul i n)) H
theorem yU:OpR X (binaryOp .Mult) Mz:=by
 intro pins s σ H x y v u Q I rx ry h
 obtain ⟨i,n,rfl,rfl,hk,q⟩:=h
 obtain ⟨t,rfl⟩:=rx
 obtain ⟨t',rfl⟩:=ry
 exact SB.mul hk fun t' k=>⟨.str _,H,I.tok _,⟨_,rfl⟩,q⟩
def sgn (x:Str):List V:=x.cps.toList.map fun c=>V.str ⟨#[c]⟩
theorem uR {x:Str} {acc:Array Value} (h:ItemsOf (SignAt x) acc x.cps.size):Vals (sgn x) acc.toList:=by
 obtain ⟨h1,h2⟩:=h
 have key:∀ (l:List Nat) (a:List Value),l.length=a.length→(∀ (j:Nat) (v:Value),a[j]?=some v→∃ (c:Nat) (u:Tok),l[j]?=some c∧v=Value.str ⟨#[c]⟩ u)→Vals (l.map fun c=>V.str ⟨#[c]⟩) a:=by
  intro l
  induction l with
  | nil=>intro a hl _;cases a with
   | nil=>exact .nil
   | cons _ _=>simp at hl
  | cons c l ih=>
   intro a hl hh
   cases a with
   | nil=>simp at hl
   | cons v a=>
    obtain ⟨c',u,e1,e2⟩:=hh 0 v (by simp)
    simp at e1;subst e1
    refine .cons ⟨u,e2⟩ (ih a (by simpa using hl) fun j v' e=>?_)
    obtain ⟨c',u,e1,e2⟩:=hh (j+1) v' (by simpa using e)
    exact ⟨c',u,by simpa using e1,e2⟩
 refine key x.cps.toList acc.toList (by simp [h1]) fun j v e=>?_
 obtain ⟨c,u,e1,e2⟩:=h2 j v (by simpa using e)
 exact ⟨c,u,by simpa using e1,e2⟩
theorem xr (hc:X.calm=true):CallR X (.type "list") (fun xs H Q=>∃ x,xs=[.str x]∧x.cps.size≤sizeLine∧∀ p,H p=none→Q (.ref p) (upd H p (.lst (sgn x)))):=by
 intro pins s σ H xs us Q I r h
 obtain ⟨x,rfl,hz,q⟩:=h
 obtain ⟨u,rfl,t,rfl⟩:=vals1 r
 refine call_list_str (I.ok.hd hc) x t (hn:=hz) fun h' tk acc' c' hk hS hacc=>?_
 refine ⟨.ref s.heap.objs.size,_,I.laid (o:=.lst (sgn x)) hk (Nat.le_refl _) ⟨by simp [sgn];exact hz,acc'.toList,c',uR hacc,by simpa using hS⟩,rfl,q _ I.fresh⟩
theorem vV (hc:X.calm=true):CallR X (.type "tuple") (fun xs H Q=>∃ x,xs=[.str x]∧x.cps.size≤sizeLine∧∀ p,H p=none→Q (.ref p) (upd H p (.tup (sgn x)))):=by
 intro pins s σ H xs us Q I r h
 obtain ⟨x,rfl,hz,q⟩:=h
 obtain ⟨u,rfl,t,rfl⟩:=vals1 r
 refine call_tuple_str (I.ok.hd hc) x t (hsz:=hz) fun h' tk acc hk hacc=>?_
 have J:Inv X pins σ H {s with heap:=h',toks:=tk}:=I.kept hk
 refine ⟨.ref h'.objs.size,_,J.laid (t':=tk) (o:=.tup (sgn x)) (fun b o e=>Heap.get?_push_of_some _ e) (Nat.le_refl _) ⟨by simp [sgn];exact hz,acc.toList,uR hacc,⟨_,Heap.get?_push_size _ rfl,rfl,0,by simp⟩⟩,rfl,q _ J.fresh⟩
def Pa (K:PySem.W.Frag):List V→Hp→VK→Prop:=fun xs H Q=>∃ x T t b,xs=[x,.ty T]∧jT K H x t∧PySem.W.kitOne K t (.type T)=some b∧Q (.bl b) H
theorem Fx:CallR X (.builtin "isinstance") (Pa X.K):=by
 intro pins s σ H xs us Q I r h
 obtain ⟨x,T,t,b,rfl,ty,e,q⟩:=h
 obtain ⟨u,v,rfl,ru,rv⟩:=vals2 r
 cases rv
 exact BX I ru ty e fun tk=>⟨.bl b,H,I.tok _,rfl,q⟩
def yV:List V→List V→Bool
 | [],[]=>true
 | x :: xs,y :: ys=>Ab x y && yV xs ys
 | _,_=>false
theorem sS:∀ (xs ys:List V),xs.length=ys.length→(List.range xs.length).all (fun j=>Ab (xs.getD j .non) (ys.getD j .non))=yV xs ys
 | [],[],_=>rfl
 | x :: xs,y :: ys,h=>by
  have ih:=sS xs ys (by simpa using h)
  rw [List.length_cons,List.range_succ_eq_map,List.all_cons,List.all_map]
  simp only [yV]
  rw [← ih]
  rfl
 | [],y :: ys,h=>by simp at h
 | x :: xs,[],h=>by simp at h
theorem xu:∀ {xs ys:List V},xs.length≠ys.length→yV xs ys=false
 | [],[],h=>absurd rfl h
 | [],y :: ys,_=>rfl
 | x :: xs,[],_=>rfl
 | x :: xs,y :: ys,h=>by simp [yV,xu (xs:=xs) (ys:=ys) (by simpa using h)]
def TF (K:PySem.W.Frag) (neg:Bool):R2:=fun x y H Q=>∃ a b xs ys,x= .ref a∧y= .ref b∧SqL K H a xs∧SqL K H b ys∧xs.all iI=true∧ys.all iI=true∧Q (.bl (if neg then !yV xs ys else yV xs ys)) H
theorem Cm (hu:X.A.units < cLine):OpR X (compareOp .Eq) (TF X.K false):=by
 intro pins s σ H x y v u Q I rx ry h
 obtain ⟨a,b,xs,ys,rfl,rfl,ha,hb,fx,fy,q⟩:=h
 cases rx
 cases ry
 obtain ⟨its,r1,p1,z1⟩:=I.list ha
 obtain ⟨jts,r2,p2,z2⟩:=I.list hb
 have l1:its.toArray.size=xs.length:=by simpa using r1.length.symm
 have l2:jts.toArray.size=ys.length:=by simpa using r2.length.symm
 by_cases hl:xs.length=ys.length
 ·refine SeqAt.eq_listAt (e:=fun j=>Ab (xs.getD j .non) (ys.getD j .non)) p1.isList p2.isList (by rw [l1,l2];exact hl) hu (fun j h1 h2=>?_) ?_
  ·have h1':j < xs.length:=by omega
   have h2':j < ys.length:=by omega
   obtain ⟨u1,e1,q1⟩:=r1.get (List.getElem?_eq_getElem h1')
   obtain ⟨u2,e2,q2⟩:=r2.get (List.getElem?_eq_getElem h2')
   have e1':its.toArray[j]=u1:=by
    have:=List.getElem?_eq_some_iff.mp e1
    obtain ⟨_,z⟩:=this
    simpa using z
   have e2':jts.toArray[j]=u2:=by
    have:=List.getElem?_eq_some_iff.mp e2
    obtain ⟨_,z⟩:=this
    simpa using z
   rw [e1',e2']
   have g1:xs.getD j .non=xs[j]:=by rw [List.getD_eq_getElem?_getD,List.getElem?_eq_getElem h1'];rfl
   have g2:ys.getD j .non=ys[j]:=by rw [List.getD_eq_getElem?_getD,List.getElem?_eq_getElem h2'];rfl
   show SeqAt.EqAt X.A.in1 s u1 u2 (Ab (xs.getD j .non) (ys.getD j .non))
   rw [g1,g2]
   exact rZ q1 q2 (List.all_eq_true.mp fx _ (List.getElem_mem h1')) (List.all_eq_true.mp fy _ (List.getElem_mem h2'))
  ·rw [l1,sS xs ys hl]
   exact ⟨.bl _,H,I,rfl,q⟩
 ·refine SeqAt.eq_list_lengthsAt p1.isList p2.isList (by rw [l1,l2];simpa using hl) hu ?_
  rw [if_neg (by simp),xu hl] at q
  exact ⟨.bl false,H,I,rfl,q⟩
end
end L2
namespace L2
open PySem PySem.Spec PyProof.Rows
def eO (K:PySem.W.Frag) (mg:Str→Option Value) (x:Str) (st:Stmt):Prop:=∃ f fd,Fun K x x st f fd∧mg x=some (.ref f)
theorem bK {K:PySem.W.Frag} {mg:Str→Option Value} {h:Heap} (X:K.In h) (G:h.Ns mainGlobals mg) {x:Str} {st:Stmt} {f:Addr} {oc:Value} {od an:Option Addr} {osl:Array (Option Value)} {kV doc pm cdv ct:Value}
  (a:PySem.W.nsIn K mainGlobals x=some (some (.ref f)))
  (l:K.lookup f=some ⟨oc,od,.func (PySem.W.fnOf x x (fW st) (cO st) (au st) .none kV doc pm an cdv ct),osl⟩)
  (c:PySem.W.codeIn K cdv x=true) (k:PySem.W.keepIn K (.ref f)=true):eO K mg x st:=⟨f,_,Fb l c k,PySem.W.mg_of X G a⟩
def nO (P:Program) (w:World) (K:PySem.W.Frag) (mg:Str→Option Value) (base:Heap) (k:Nat) (x:Str) (ps:List Str) (sp:Sp):Prop:=
 ∃ f fd,mg x=some (.ref f)∧PySem.W.keepIn K (.ref f)=true∧Binds K fd ps []∧pJ P w K mg base yP k f fd ps sp
section
variable {P:Program} {w:World} {K:PySem.W.Frag} {mg:Str→Option Value} {base:Heap}
theorem Pb {x:Str} {st:Stmt} {N ps:List Str} {k:Nat} {sp:Sp} (D:eO K mg x st) (S:aP N ps (au st))
  (hb:∀ (kV doc pm:Value) (an:Option Addr) (cdv ct:Value) (us:List Value),us.length=ps.length→bindArgs (PySem.W.fnOf x x (fW st) (cO st) (au st) .none kV doc pm an cdv ct) ⟨us,[]⟩=pure (ps.zip us))
  (len:∀ vs H Q E,sp vs H Q E→vs.length=ps.length)
  (hbody:∀ (f:Addr) (cdv:Value) (A:Around) (outer:List Env) (s:Shared) (H:Hp) (vs:List V) (Q:VK) (E:XK),Room k (A.deeper (envOfC x (au st) s.heap.objs.size f cdv))→sp vs H Q E→
   ∃ t,PSs (nQ yP P w K mg base N x (au st) f cdv A outer s H E).nox (cO st) t∧t {nx:=fun _ H'=>Q .non H',rt:=Q} (start N vs) H):nO P w K mg base (k+1) x ps sp:=by
 obtain ⟨f,fd,F,hm⟩:=D
 exact ⟨f,fd,hm,F.kp,F.binds hb,F.ok S len fun cdv A outer s H vs Q E hr h=>hbody f cdv A outer s H vs Q E hr h⟩
end
section
variable {X:Cx}
theorem Fy {k:Nat} {x:Str} {ps:List Str} {sp:Sp} {p pos:Pos} {e:Expr} {es:List Expr} {t:TA} (F:nO X.prog X.w X.K X.mg X.base k x ps sp) (hr:Room k X.A) (hg:Gl X x)
  (ha:PA X (e :: es) t) (hdb:autoParam ((x == ("__debug__":Str))=false) L2.auto2._auto_1) (he:autoParam (starEach (e :: es) X.env=(false,eval e X.env) :: starEach es X.env) L2.auto4._auto_1) (hpl:autoParam ((backTo pos (starEach es X.env)).any (·.1)=false) L2.auto4._auto_1):
  PE X (.Call (.Name x p) (e :: es) [] pos) (uG sp [] E0 t):=by
 obtain ⟨f,fd,a,b,c,d⟩:=F
 exact Jx d hr hg a b c .nil Tu ha hdb he hpl
def xx:R2:=fun x y H Q=>(∃ i j,x= .int i∧y= .int j∧Q (.int (i+j)) H)∨(∃ i j,x= .str i∧y= .str j∧i.length+j.length≤sizeLine∧Q (.str (i ++ j)) H)∨Tr x y H Q
theorem aH:OpR X (binaryOp .Add) xx:=Om.or (yH.or O6)
def Fz:R2:=fun x y H Q=>(∃ i j,x= .int i∧y= .int j∧CMul i j∧Q (.int (i*j)) H)∨Mz x y H Q∨Tt x y H Q
theorem ig:OpR X (binaryOp .Mult) Fz:=Oo.or (yU.or O7)
theorem FJ {x:Str} {z:Str} {pos:Pos} (hg:Gl X x) (hm:∃ t,X.mg x=some (.str z t)) (hd:autoParam ((x == ("__debug__":Str))=false) L2.auto2._auto_1):PE X (.Name x pos) (tC (.str z)):=
 let ⟨t,e⟩:=hm;zQ hg e ⟨t,rfl⟩ hd
theorem FN {x:Str} {z:Int} {pos:Pos} (hg:Gl X x) (hm:∃ t,X.mg x=some (.int z t)) (hd:autoParam ((x == ("__debug__":Str))=false) L2.auto2._auto_1):PE X (.Name x pos) (tC (.int z)):=
 let ⟨t,e⟩:=hm;zQ hg e ⟨t,rfl⟩ hd
theorem TJ {x:Str} {T:String} {pos:Pos} (hg:Gl X x) (hm:X.mg x=none) (hv:bootBuiltins x=some (.type T)) (hn:autoParam (x≠"__name__") L2.auto2._auto_1) (hd:autoParam ((x == ("__debug__":Str))=false) L2.auto2._auto_1):PE X (.Name x pos) (tC (.ty T)):=
 Jh hg hm hv rfl hn hd
def JQ (K:PySem.W.Frag):R2:=fun x y H Q=>(∃ i j,x= .str i∧y= .str j∧Q (.bl (!(Builtin.Str.occurrences j i 0 j.length 1).isEmpty)) H)∨rIn K false x y H Q
theorem Pg:OpR X (compareOp .In) (JQ X.K):=BP.or Cd
def Ph (K:PySem.W.Frag):R2:=fun x y H Q=>rEq x y H Q∨TF K false x y H Q
theorem Pj (hu:X.A.units < cLine):OpR X (compareOp .Eq) (Ph X.K):=SN.or (Cm hu)
def Wd (K:PySem.W.Frag):V→Option Int→Option Int→Hp→VK→Prop:=fun x lo hi H Q=>Tj K x lo hi H Q∨Td K x lo hi H Q∨Tz x lo hi H Q
theorem FP:SlR X (Wd X.K):=JF.or (OD.or O9)
def JR (K:PySem.W.Frag) (tl:TE):TI:=fun σ H R=>tl σ H fun x H1=>(∃ a,x= .ref a∧(∃ xs,SqL K H1 a xs)∧R (Oh K a) H1)∨(∃ a,x= .ref a∧(∃ xs,SqT K H1 a xs)∧R (Itt K a) H1)∨(∃ z,x= .str z∧R (Mx z) H1)
theorem Pk {tg l:Expr} {tl:TE} (hl:PE X l tl):PI X tg l (JR X.K tl):=by
 intro pins s σ H R I h
 refine d8 (hl pins s σ H _ I h) fun v s1 qq0=>?_
 obtain ⟨x,H1,I1,r1,q1⟩:=qq0
 rcases q1 with ⟨a,rfl,⟨xs,hq⟩,q⟩ | ⟨a,rfl,⟨xs,hq⟩,q⟩ | ⟨z,rfl,q⟩
 ·cases r1
  obtain ⟨its,rv,p,hz⟩:=I1.list hq
  refine wpAny_pyIter_list p.isList ?_
  refine ⟨s1.heap.objs.size,[s1.heap.objs.size],_,_,H1,rfl,I1.kept (t':=s1.toks) fun b o e=>Heap.get?_push_of_some _ e,BJ a _,⟨_,Heap.get?_push_size _ rfl,rfl,rfl⟩,fun b hb=>?_,q⟩
  have e:b=s1.heap.objs.size:=by simpa using hb
  subst e
  exact I1.fpOk (Nat.le_refl _) (I1.hok.fresh (Nat.le_refl _))
 ·cases r1
  obtain ⟨its,rv,p,hz⟩:=I1.tuple hq
  refine wpAny_pyIter_tuple (show s1.heap.IsTuple a its.toArray from p) ?_
  refine ⟨s1.heap.objs.size,[s1.heap.objs.size],_,_,H1,rfl,I1.kept (t':=s1.toks) fun b o e=>Heap.get?_push_of_some _ e,yE a _,⟨_,Heap.get?_push_size _ rfl,rfl,rfl⟩,fun b hb=>?_,q⟩
  have e:b=s1.heap.objs.size:=by simpa using hb
  subst e
  exact I1.fpOk (Nat.le_refl _) (I1.hok.fresh (Nat.le_refl _))
 ·obtain ⟨t,rfl⟩:=r1
  have fin:∀ (ty:String) (T:Turn X.prog X.w X.K tg (Mx z) [s1.heap.objs.size] s1.heap.objs.size (fun i h=>h.IsStrIter s1.heap.objs.size ty z t i)) (o:Obj),(s1.heap.push o).IsStrIter s1.heap.objs.size ty z t 0→PIE X pins σ tg R (.ref s1.heap.objs.size) {s1 with heap:=s1.heap.push o}:=
   fun ty T o st=>⟨s1.heap.objs.size,[s1.heap.objs.size],_,_,H1,rfl,I1.kept (t':=s1.toks) fun b o e=>Heap.get?_push_of_some _ e,T,st,fun b hb=>by
    have e:b=s1.heap.objs.size:=by simpa using hb
    subst e
    exact I1.fpOk (Nat.le_refl _) (I1.hok.fresh (Nat.le_refl _)),q⟩
  cases ha:z.cps.all (· < 128)
  ·exact wpAny_pyIter_wide ha (fin "str_iterator" (xq _ z t _ (by decide) (fun A' hA=>Walks.strWide hA _ z t) fun A i s Q E st h=>wpAny_pyIter_striter_wide st h) _ ⟨_,Heap.get?_push_size _ rfl,rfl,rfl⟩)
  ·exact wpAny_pyIter_ascii ha (fin "str_ascii_iterator" (xq _ z t _ (by decide) (fun A' hA=>Walks.strAscii hA _ z t) fun A i s Q E st h=>wpAny_pyIter_striter_ascii st h) _ ⟨_,Heap.get?_push_size _ rfl,rfl,rfl⟩)
end
section
variable {X:Cx} {K:PySem.W.Frag}
theorem JV (hK:X.K=K):IxR X (O2 K):=hK ▸ O3
theorem Pn (hK:X.K=K):OpR X (compareOp .In) (JQ K):=hK ▸ Pg
theorem Pq (hK:X.K=K) (hu:X.A.units < cLine):OpR X (compareOp .Eq) (Ph K):=hK ▸ Pj hu
theorem JX (hK:X.K=K):SlR X (Wd K):=hK ▸ FP
theorem JZ {tg l:Expr} {tl:TE} (hK:X.K=K) (hl:PE X l tl):PI X tg l (JR K tl):=hK ▸ Pk hl
def J6 (K:PySem.W.Frag):List V→Hp→VK→Prop:=fun xs H Q=>∃ x n,xs=[x]∧Tc K x H n∧Q (.int n) H
theorem bH (hK:X.K=K):CallR X (.builtin "len") (J6 K):=hK ▸ Ep
theorem cL (hK:X.K=K):CallR X (.builtin "isinstance") (Pa K):=hK ▸ Fx
def yW (K:PySem.W.Frag):List V→Hp→VK→Prop:=fun xs H Q=>(∃ p ys,xs=[.ref p]∧(SqL K H p ys∨SqT K H p ys)∧∀ l,H l=none→Q (.ref l) (upd H l (.lst ys)))∨(∃ x,xs=[.str x]∧x.cps.size≤sizeLine∧∀ p,H p=none→Q (.ref p) (upd H p (.lst (sgn x))))
theorem sU (hK:X.K=K) (hc:X.calm=true):CallR X (.type "list") (yW K):=hK ▸ vQ.or (xr hc)
def MF (K:PySem.W.Frag):List V→Hp→VK→Prop:=fun xs H Q=>(∃ p ys,xs=[.ref p]∧((SqL K H p ys∧∀ l,H l=none→Q (.ref l) (upd H l (.tup ys)))∨(SqT K H p ys∧Q (.ref p) H)))∨(∃ x,xs=[.str x]∧x.cps.size≤sizeLine∧∀ p,H p=none→Q (.ref p) (upd H p (.tup (sgn x))))
theorem qL (hK:X.K=K) (hc:X.calm=true):CallR X (.type "tuple") (MF K):=hK ▸ ux.or (vV hc)
variable {o e:Expr} {es:List Expr} {to:TE} {t:TA} {name:Str} {apos cpos:Pos} {T id:String} {r:V→List V→Hp→VK→Prop}
theorem J7 (hK:X.K=K) (pa:PlainAttrs T) (slot:Slot T name id) (hty:typeOf (.builtin id)=pure (.type "method_descriptor")) (hm:JC X id r) (ho:PE X o to)
  (hbase:autoParam (attributeBase o name X.env (eval o X.env)=eval o X.env) L2.auto4._auto_1) (hline:autoParam ((apos.endLine == cpos.line)=true) L2.auto4._auto_1):PE X (.Call (.Attribute o name apos) [] [] cpos) (Ey K T r to):=by
 subst hK;exact O5 pa slot hty hm ho hbase hline
theorem Pr (hK:X.K=K) (pa:PlainAttrs T) (slot:Slot T name id) (hty:typeOf (.builtin id)=pure (.type "method_descriptor")) (hm:JC X id r) (ho:PE X o to) (ha:PA X (e :: es) t)
  (hbase:autoParam (attributeBase o name X.env (eval o X.env)=eval o X.env) L2.auto4._auto_1)
  (hfew:((backTo cpos (starEach (e :: es) X.env)).all (fun x=>!x.1) && (backToKw cpos (keywordEach [] X.env)).all (fun x=>x.1.isSome)
   && decide ((e :: es).length+([]:List Keyword).length+(if ([]:List Keyword).isEmpty then 0 else 1) < 30))=true:=by rfl)
  (hline:autoParam ((apos.endLine == cpos.line)=true) L2.auto4._auto_1) (hs:autoParam (starEach (e :: es) X.env=(false,eval e X.env) :: starEach es X.env) L2.auto4._auto_1) (hplain:autoParam ((backTo cpos (starEach es X.env)).any (·.1)=false) L2.auto4._auto_1):
  PE X (.Call (.Attribute o name apos) (e :: es) [] cpos) (Tp K T r to t):=by
 subst hK;exact Tq pa slot hty hm ho ha hbase hfew hline hs hplain
theorem J8 {ts:List Expr} {k:Nat} {gs:yC} {n:Nat} {pos:Pos} (hK:X.K=K) (hc:X.calm=true) (h:RZ X ts gs)
  (hn:autoParam ((assignEach ts X.env).length=n) L2.auto4._auto_1) (hst:autoParam ((assignEach ts X.env).findIdx? (·.1)=none) L2.auto4._auto_1):PG X (.Tuple ts k pos) (Jp K n gs):=by
 subst hK;exact Ef hc h hn hst
end
section
variable {X:Cx} {sc scope:Scope} {N':List Str} {C:Addr} {s₀:Shared} {H₀:Hp} {ex:List Addr} {x:Str} {pos:Pos}
theorem pvL (i:Nat) (h:sc.names.lookup x=some .local) (hN:autoParam (X.N[i]?=some x) L2.auto4._auto_1) (hsc:autoParam (X.env.scope=sc) L2.auto4._auto_1) (hd:autoParam ((x == ("__debug__":Str))=false) L2.auto6._auto_1) (hcd:autoParam ((x == ("__classdict__":Str))=false) L2.auto6._auto_1):
  PE X (.Name x pos) (qW i):=vK hN (.inl (by rw [hsc];exact h)) hd hcd
theorem pvC (i:Nat) (h:sc.names.lookup x=some .cell) (hN:autoParam (X.N[i]?=some x) L2.auto4._auto_1) (hsc:autoParam (X.env.scope=sc) L2.auto4._auto_1) (hd:autoParam ((x == ("__debug__":Str))=false) L2.auto6._auto_1) (hcd:autoParam ((x == ("__classdict__":Str))=false) L2.auto6._auto_1):
  PE X (.Name x pos) (qW i):=vK hN (.inr (.inl (by rw [hsc];exact h))) hd hcd
theorem pvBL (i:Nat) (h:scope.names.lookup x=some .local) (hN:autoParam (N'[i]?=some x) L2.auto4._auto_1) (hd:autoParam ((x == ("__debug__":Str))=false) L2.auto6._auto_1) (hcd:autoParam ((x == ("__classdict__":Str))=false) L2.auto6._auto_1):
  PE (lU X N' scope C s₀ H₀ ex) (.Name x pos) (qW i):=vK hN (.inl (lookup_relabel_local h)) hd hcd
theorem pvBF (i:Nat) (h:scope.names.lookup x=some .free) (hN:autoParam (N'[i]?=some x) L2.auto4._auto_1) (hd:autoParam ((x == ("__debug__":Str))=false) L2.auto6._auto_1) (hcd:autoParam ((x == ("__classdict__":Str))=false) L2.auto6._auto_1):
  PE (lU X N' scope C s₀ H₀ ex) (.Name x pos) (qW i):=vK hN (by
   rcases oh (env:=X.env) h with z | z
   ·exact .inr (.inl z)
   ·exact .inr (.inr z)) hd hcd
theorem bL (h:sc.names.lookup x=some .globalImplicit) (hsc:autoParam (X.env.scope=sc) L2.auto4._auto_1):Gl X x:=by
 show X.env.scope.names.lookup x=_
 rw [hsc];exact h
theorem gZ {env:Env}:∀ {names:List (Str×NameKind)} {x:Str},names.lookup x=some .globalImplicit→
  (names.map fun (n,k)=>if (k == NameKind.free && env.scope.kind == .function && env.kindOf n == some .cell) then (n,NameKind.cell) else (n,k)).lookup x=some .globalImplicit
 | [],_,h=>by simp at h
 | (n,k) :: r,x,h=>by
  have ih:=@gZ env r x
  show List.lookup x ((if (k == NameKind.free && env.scope.kind == .function && env.kindOf n == some .cell)=true then (n,NameKind.cell) else (n,k)) :: _)=_
  cases hx:x == n with
  | true=>
   simp only [List.lookup_cons,hx] at h
   cases h
   simp [List.lookup_cons,hx]
  | false=>
   simp only [List.lookup_cons,hx] at h
   by_cases hc:(k == NameKind.free && env.scope.kind == .function && env.kindOf n == some .cell)=true
   ·rw [if_pos hc];simp only [List.lookup_cons,hx];exact ih h
   ·rw [if_neg hc];simp only [List.lookup_cons,hx];exact ih h
theorem J9 (h:scope.names.lookup x=some .globalImplicit):Gl (lU X N' scope C s₀ H₀ ex) x:=gZ h
theorem pgB (i:Nat) (h:scope.names.lookup x=some .local) (hN:N'.Nodup) (hi:autoParam (N'[i]?=some x) L2.auto4._auto_1):PG (lU X N' scope C s₀ H₀ ex) (.Name x pos) (lY i):=
 zU hN hi (.inl (lookup_relabel_local h)) (.inr (lookup_relabel_local h))
end
def iJ:Expr→Bool
 | .ListComp ..=>false | .SetComp ..=>false | .DictComp ..=>false | _=>true
theorem xF {value:Expr} {target:Option Expr} {line:Nat} {env:Env} (h:iJ value=true):swapsWith value target line env=pure false:=by
 cases value <;> first | rfl | cases h
def ou:Expr→Bool
 | .Slice ..=>false | _=>true
theorem pix {b:Expr} (h:ou b=true):Aa b:=by
 intro o i
 cases b <;> first | rfl | cases h
def pK:Expr→Bool
 | .Set ..=>false | _=>true
theorem FQ {e:Expr} {env:Env} (h:pK e=true):∀ x,foldedSetIterable e env x=pure x:=by
 intro x
 cases e <;> first | rfl | cases h
def notStar:Expr→Bool
 | .Starred ..=>false | _=>true
theorem eY {e:Expr} {es:List Expr} {env:Env} (h:notStar e=true):starEach (e :: es) env=(false,eval e env) :: starEach es env:=by
 cases e <;> first | rfl | cases h
theorem mD {env:Env} {pos:Pos}:∀ {es:List Expr},es.all notStar=true→(backTo pos (starEach es env)).any (·.1)=false
 | [],_=>rfl
 | e :: es,h=>by
  simp only [List.all_cons,Bool.and_eq_true] at h
  rw [eY h.1]
  show (false || (backTo pos (starEach es env)).any (·.1))=false
  rw [mD h.2];rfl
theorem FT {env:Env} {pos:Pos}:∀ {es:List Expr},es.all notStar=true→(backTo pos (starEach es env)).all (fun x=>!x.1)=true
 | [],_=>rfl
 | e :: es,h=>by
  simp only [List.all_cons,Bool.and_eq_true] at h
  rw [eY h.1]
  show (true && (backTo pos (starEach es env)).all (fun x=>!x.1))=true
  rw [FT h.2];rfl
section
variable {X:Cx} {K:PySem.W.Frag} {e:Expr} {es:List Expr} {te:TE} {t:TA} {pos p:Pos}
theorem paC (ha:PE X e te) (hr:PA X es t) (h:autoParam (notStar e=true) L2.auto4._auto_1):PA X (e :: es) (z6 te t):=Ju ha hr (eY h)
theorem TQ {k:Nat} {x:Str} {ps:List Str} {sp:Sp} (F:nO X.prog X.w X.K X.mg X.base k x ps sp) (hr:Room k X.A) (hg:Gl X x) (ha:PA X (e :: es) t) (hdb:(x == ("__debug__":Str))=false) (h:autoParam ((e :: es).all notStar=true) L2.auto4._auto_1):
  PE X (.Call (.Name x p) (e :: es) [] pos) (uG sp [] E0 t):=by
 simp only [List.all_cons,Bool.and_eq_true] at h
 exact Fy F hr hg ha hdb (eY h.1) (mD h.2)
theorem TV {x:Str} {id:String} {r:List V→Hp→VK→Prop} (hc:CallR X (.builtin id) r) (hg:Gl X x) (hm:X.mg x=none) (hv:bootBuiltins x=some (.builtin id)) (ha:PA X (e :: es) t) (hn:x≠"__name__") (hdb:(x == ("__debug__":Str))=false) (h:autoParam ((e :: es).all notStar=true) L2.auto4._auto_1):
  PE X (.Call (.Name x p) (e :: es) [] pos) (Ox r t):=by
 simp only [List.all_cons,Bool.and_eq_true] at h
 exact Er hc hg hm hv ha hn hdb (eY h.1) (mD h.2)
theorem Pu {x:Str} {T:String} {r:List V→Hp→VK→Prop} (hc:CallR X (.type T) r) (hg:Gl X x) (hm:X.mg x=none) (hv:bootBuiltins x=some (.type T)) (ha:PA X (e :: es) t) (hn:x≠"__name__") (hdb:(x == ("__debug__":Str))=false) (h:autoParam ((e :: es).all notStar=true) L2.auto4._auto_1):
  PE X (.Call (.Name x p) (e :: es) [] pos) (Ox r t):=by
 simp only [List.all_cons,Bool.and_eq_true] at h
 exact Ca hc hg hm hv ha hn hdb (eY h.1) (mD h.2)
def oA:Expr→Bool
 | .Call ..=>false | _=>true
theorem MJ {o:Expr} {f:Str} {env:Env} {w:Sem Value} (h:oA o=true):attributeBase o f env w=w:=by
 cases o <;> first | rfl | cases h
theorem TX {o:Expr} {to:TE} {name:Str} {apos cpos:Pos} {T id:String} {r:V→List V→Hp→VK→Prop} (hK:X.K=K) (pa:PlainAttrs T) (slot:Slot T name id) (hty:typeOf (.builtin id)=pure (.type "method_descriptor")) (hm:JC X id r) (ho:PE X o to) (ha:PA X (e :: es) t)
  (hbase:autoParam (oA o=true) L2.auto4._auto_1) (hl:autoParam (es.length < 20) L2.auto2._auto_1) (hline:autoParam ((apos.endLine == cpos.line)=true) L2.auto4._auto_1) (h:autoParam ((e :: es).all notStar=true) L2.auto4._auto_1):
  PE X (.Call (.Attribute o name apos) (e :: es) [] cpos) (Tp K T r to t):=by
 have hA:=FT (env:=X.env) (pos:=cpos) h
 simp only [List.all_cons,Bool.and_eq_true] at h
 refine Pr hK pa slot hty hm ho ha (MJ hbase) ?_ hline (eY h.1) (mD h.2)
 rw [hA]
 have:(e :: es).length+([]:List Keyword).length+(if ([]:List Keyword).isEmpty then 0 else 1) < 30:=by simp;omega
 rw [decide_eq_true this];rfl
theorem Px {o:Expr} {to:TE} {name:Str} {apos cpos:Pos} {T id:String} {r:V→List V→Hp→VK→Prop} (hK:X.K=K) (pa:PlainAttrs T) (slot:Slot T name id) (hty:typeOf (.builtin id)=pure (.type "method_descriptor")) (hm:JC X id r) (ho:PE X o to)
  (hbase:autoParam (oA o=true) L2.auto4._auto_1) (hline:autoParam ((apos.endLine == cpos.line)=true) L2.auto4._auto_1):PE X (.Call (.Attribute o name apos) [] [] cpos) (Ey K T r to):=
 J7 hK pa slot hty hm ho (MJ hbase) hline
theorem TY {i:Nat} {x:Str} {pos':Pos} (hN:X.N.Nodup) (hi:X.N[i]?=some x) (hx:Loc X.env.scope x) (he:PE X e te) (hf:X.fn x=true) (h:autoParam (iJ e=true) L2.auto4._auto_1):PS X (.Assign [.Name x pos'] e pos) (vL te (lY i)):=
 Eh hN hi hx he (xF h) (.inl hf)
theorem Py (he:PE X e te) (h:autoParam (iJ e=true) L2.auto4._auto_1):PS X (.Expr e pos) (zR te):=Jl he (xF h)
theorem ixE {a b:Expr} {ta tb:TE} (hK:X.K=K) (ha:PE X a ta) (hb:PE X b tb) (h:autoParam (ou b=true) L2.auto4._auto_1):PE X (.Subscript a b pos) (Jf (O2 K) ta tb):=Te (JV hK) ha hb (pix h)
theorem Ua {tg iter:Expr} {body:List Stmt} {wi:TI} {g:TG} {tb:TS} (hp:PassesOwn (model X.prog X.w) X.A X.env X.xe) (hc:X.calm=true) (hi:PI X tg iter wi) (hg:PG X tg g) (hb:PSs X body tb) (h:autoParam (pK iter=true) L2.auto4._auto_1):PS X (.For tg iter body [] pos) (Jq wi g tb):=
 Oi hp hc hi hg hb (FQ h)
end
section
variable {X:Cx} {tg iter elt:Expr} {ifs:List Expr} {scope:Scope} {pos:Pos} {N':List Str} {sub:List (Option Nat)} {wi:TI} {g:TG} {tt:TT} {te:TE} {N:List Str} {sc:Scope}
theorem Ub (S:qJ N sc N' scope sub) (hc:X.calm=true) (hN:X.N=N) (hsc:X.env.scope=sc) (hi:PI X tg iter wi)
  (hg:∀ (C:Addr) (s₀:Shared) (H₀:Hp) (ex:List Addr),PG (lU X N' scope C s₀ H₀ ex) tg g)
  (ht:∀ (C:Addr) (s₀:Shared) (H₀:Hp) (ex:List Addr),vR (lU X N' scope C s₀ H₀ ex) ifs tt)
  (he:∀ (C:Addr) (s₀:Shared) (H₀:Hp) (ex:List Addr),PE (lU X N' scope C s₀ H₀ ex) elt te) (h:autoParam (pK iter=true) L2.auto4._auto_1):
  PE X (.ListComp elt [⟨tg,iter,ifs,0⟩] scope pos) (sG sub wi g tt te):=Ad S hc hN hsc hi hg ht he (FQ h)
end
theorem dz:bootBuiltins "len"=some (.builtin "len"):=by decide+kernel
theorem FW:bootBuiltins "max"=some (.builtin "max"):=by decide+kernel
theorem Pz:bootBuiltins "min"=some (.builtin "min"):=by decide+kernel
theorem bw:bootBuiltins "isinstance"=some (.builtin "isinstance"):=by decide+kernel
theorem yX:bootBuiltins "all"=some (.builtin "all"):=by decide+kernel
theorem PJ:bootBuiltins "any"=some (.builtin "any"):=by decide+kernel
theorem uT:bootBuiltins "sorted"=some (.builtin "sorted"):=by decide+kernel
theorem Af:bootBuiltins "repr"=some (.builtin "repr"):=by decide+kernel
theorem kZ:bootBuiltins "list"=some (.type "list"):=by decide+kernel
theorem oE:bootBuiltins "tuple"=some (.type "tuple"):=by decide+kernel
theorem FZ:bootBuiltins "int"=some (.type "int"):=by decide+kernel
theorem PK:bootBuiltins "str"=some (.type "str"):=by decide+kernel
theorem oF:bootBuiltins "enumerate"=some (.type "enumerate"):=by decide+kernel
theorem vW:bootBuiltins "bool"=some (.type "bool"):=by decide+kernel
theorem jM {c A B:Prop} [Decidable c] (h1:c→A) (h2:¬ c→B):if decide c=true then A else B:=by
 by_cases h:c
 ·rw [if_pos (decide_eq_true h)];exact h1 h
 ·rw [if_neg (by rw [decide_eq_false h];exact Bool.false_ne_true)];exact h2 h
theorem dW {α:Type} {xs:List α} {k:Int} {v:α} (h0:0≤k) (h:xs[k.toNat]?=some v):nR xs k=some v:=by
 have e:((k.toNat:Nat):Int)=k:=by omega
 rw [← e]
 exact rB h
end L2
namespace L2
open PySem PySem.Spec PyProof.Rows
section
variable {σ:St} {H:Hp} {D:Ends} {ta tb te tc:TE} {tt tu:TT} {Q:VK} {t u:TS} {g:TG}
theorem Ga (h:t {D with nx:=u D} σ H):N8 t u D σ H:=h
theorem pL (h:D.nx σ H):Ea D σ H:=h
theorem uU (h:te σ H fun x H1=>g x σ H1 D.nx):vL te g D σ H:=h
theorem pM {i:Nat} {v:V} {R:St→Hp→Prop} (h:R (σ.set i (some v)) H):lY i v σ H R:=h
theorem uV {to ti:TE} {ts:yD} {v:V} {R:St→Hp→Prop} (h:to σ H fun o H1=>ti σ H1 fun i H2=>ts o i v H2 fun H3=>R σ H3):Oe to ti ts v σ H R:=h
theorem uW (h:te σ H D.rt):Oa te D σ H:=h
theorem pN (h:te σ H fun _ H1=>D.nx σ H1):zR te D σ H:=h
theorem Cp (h:tt σ H fun b H1=>if b=true then t D σ H1 else u D σ H1):Oc tt t u D σ H:=h
theorem pO {R:Bool→Hp→Prop} (h:te σ H fun x H1=>∃ k,x= .bl k∧R k H1):En te σ H R:=h
theorem Cq {R:Bool→Hp→Prop} (h:te σ H fun x H1=>∃ k,x= .bl k∧R k H1):tB te σ H R:=h
theorem uX {R:Bool→Hp→Prop} (h:tt σ H fun c H1=>R (!c) H1):NP tt σ H R:=h
theorem uY {R:Bool→Hp→Prop} (h:tt σ H fun c H1=>if c=true then tu σ H1 R else R false H1):NK tt tu σ H R:=h
theorem Cr {R:Bool→Hp→Prop} (h:tt σ H fun c H1=>if c=true then R true H1 else tu σ H1 R):tOr tt tu σ H R:=h
theorem pP (h:ta σ H fun x H1=>∃ c,x= .bl c∧if c=true then tb σ H1 Q else Q (.bl false) H1):DX ta tb σ H Q:=h
theorem pQ (h:ta σ H fun x H1=>∃ c,x= .bl c∧Q (.bl (!c)) H1):DY ta σ H Q:=h
theorem uZ {i:Nat} {v:V} (e:σ[i]?=some (some v)) (h:Q v H):qW i σ H Q:=⟨v,e,h⟩
theorem R0 {v:V} (h:Q v H):tC v σ H Q:=h
theorem Cu {r:R2} (h:ta σ H fun x H1=>tb σ H1 fun y H2=>r x y H2 Q):Jf r ta tb σ H Q:=h
theorem Cv {r:V→Hp→VK→Prop} (h:ta σ H fun x H1=>r x H1 Q):tUn r ta σ H Q:=h
theorem Cw {r:List V→Hp→VK→Prop} {a:TA} (h:a σ H fun vs H1=>r vs H1 Q):Ox r a σ H Q:=h
theorem pR {a:TA} {R:List V→Hp→Prop} (h:te σ H fun x H1=>a σ H1 fun xs H2=>R (x :: xs) H2):z6 te a σ H R:=h
theorem u0 {R:List V→Hp→Prop} (h:R [] H):Oq σ H R:=h
theorem pU {sp:Sp} {E:XK} {a:TA} (h:a σ H fun vs H1=>sp vs H1 Q E):uG sp [] E a σ H Q:=by
 unfold uG
 simpa only [List.append_nil] using h
theorem Ag {a:TA} (h:a σ H fun xs H1=>xs.length≤sizeLine∧∀ p,H1 p=none→Q (.ref p) (upd H1 p (.tup xs))):Jv a σ H Q:=h
theorem Ai {a:TA} (h:a σ H fun xs H1=>xs.length≤sizeLine∧∀ p,H1 p=none→Q (.ref p) (upd H1 p (.lst xs))):Jw a σ H Q:=h
theorem Cy {K:PySem.W.Frag} {T:String} {r:V→List V→Hp→VK→Prop} {a:TA} (h:te σ H fun x H1=>Tn K T x H1∧a σ H1 fun xs H2=>r x xs H2 Q):Tp K T r te a σ H Q:=h
theorem u5 {K:PySem.W.Frag} {T:String} {r:V→List V→Hp→VK→Prop} (h:te σ H fun x H1=>Tn K T x H1∧r x [] H1 Q):Ey K T r te σ H Q:=h
theorem Cz {r:V→Option Int→Option Int→Hp→VK→Prop} {tl th:TO} (h:te σ H fun x H1=>tl σ H1 fun l H2=>th σ H2 fun u H3=>r x l u H3 Q):tSl r te tl th σ H Q:=h
theorem u6 {R:Option Int→Hp→Prop} (h:R none H):vM σ H R:=h
theorem pW {R:Option Int→Hp→Prop} (h:te σ H fun x H1=>∃ i,x= .int i∧R (some i) H1):Et te σ H R:=h
theorem pX {R:Bool→Hp→Prop} (h:R true H):Fe σ H R:=h
theorem pY {a:TA} {R:It→Hp→Prop} (h:a σ H fun vs H1=>∃ j:Int,vs=[.int j]∧-(2 ^ 62)≤j∧j < 2 ^ 62∧R (Mp 0 j.toNat) H1):Ej a σ H R:=h
theorem pZ {K:PySem.W.Frag} {R:It→Hp→Prop} (h:te σ H fun x H1=>(∃ a,x= .ref a∧(∃ xs,SqL K H1 a xs)∧R (Oh K a) H1)∨(∃ a,x= .ref a∧(∃ xs,SqT K H1 a xs)∧R (Itt K a) H1)∨(∃ z,x= .str z∧R (Mx z) H1)):JR K te σ H R:=h
theorem p6 {sub:List (Option Nat)} {wi:TI} (h:wi σ H fun J H1=>uP sub g tt te σ Q J H1):sG sub wi g tt te σ H Q:=h
theorem u9 {wi:TI} {tbd:TS} (h:wi σ H fun J H1=>∃ W:Nat→Nat→St→Hp→Prop,(∃ m,W 0 m σ H1)∧∀ i m σ H,W i m σ H→
 (J.stop i H∧D.nx σ H)∨(J.go i H∧∃ N:St→Hp→Prop,(∀ σ' H',N σ' H'→∃ m',m' < m∧W (i+1) m' σ' H')∧∀ x H',J.yld i H x H'→g x σ H' fun σ2 H2=>tbd {D with nx:=N,ct:=N,bk:=D.nx} σ2 H2)):Jq wi g tbd D σ H:=h
variable {i j:Int} {x y:Str} {f:Int→Int→V} {C:Int→Int→Prop} {K:PySem.W.Frag}
theorem CJ (h:Q (f i j) H):Mq f (.int i) (.int j) H Q:=⟨_,_,rfl,rfl,h⟩
theorem R5 (c:C i j) (h:Q (f i j) H):rI C f (.int i) (.int j) H Q:=⟨_,_,rfl,rfl,c,h⟩
theorem p7 (h:Q (.int (i+j)) H):xx (.int i) (.int j) H Q:=.inl ⟨_,_,rfl,rfl,h⟩
theorem PN (c:x.length+y.length≤sizeLine) (h:Q (.str (x ++ y)) H):xx (.str x) (.str y) H Q:=.inr (.inl ⟨_,_,rfl,rfl,c,h⟩)
theorem yZ {a b:Addr} {xs ys:List V} (ha:H a=some (.lst xs)) (hb:H b=some (.lst ys)) (c:xs.length+ys.length≤sizeLine) (h:∀ p,H p=none→Q (.ref p) (upd H p (.lst (xs ++ ys)))):xx (.ref a) (.ref b) H Q:=
 .inr (.inr ⟨a,b,xs,ys,rfl,rfl,ha,hb,c,h⟩)
theorem p8 (c:CMul i j) (h:Q (.int (i*j)) H):Fz (.int i) (.int j) H Q:=.inl ⟨_,_,rfl,rfl,c,h⟩
theorem bh {p:Addr} {xs:List V} {v:V} (s:SqL K H p xs) (e:nR xs i=some v) (h:Q v H):O2 K (.ref p) (.int i) H Q:=.inl ⟨p,xs,i,v,rfl,rfl,s,e,h⟩
theorem vd {p:Addr} {xs:List V} {v:V} (s:SqT K H p xs) (e:nR xs i=some v) (h:Q v H):O2 K (.ref p) (.int i) H Q:=.inr (.inl ⟨p,xs,i,v,rfl,rfl,s,e,h⟩)
theorem vf {c:Nat} (s:x.length≤sizeLine) (e:nR x.cps.toList i=some c) (h:Q (.str ⟨#[c]⟩) H):O2 K (.str x) (.int i) H Q:=.inr (.inr ⟨x,i,c,rfl,rfl,s,e,h⟩)
theorem mF {p:Addr} {xs:List V} {n:Nat} {v:V} {R:Hp→Prop} (hp:H p=some (.lst xs)) (e:z8 xs.length i=some n) (h:R (upd H p (.lst (xs.set n v)))):xf (.ref p) (.int i) v H R:=⟨p,xs,i,n,rfl,rfl,hp,e,h⟩
theorem sV (h:Q (.bl (!(Builtin.Str.occurrences y x 0 y.length 1).isEmpty)) H):JQ K (.str x) (.str y) H Q:=.inl ⟨_,_,rfl,rfl,h⟩
theorem CK {b:Bool} {R:Bool→Prop} (h:R b):∃ k,V.bl b= .bl k∧R k:=⟨b,rfl,h⟩
theorem qd {n:Int} {R:Int→Prop} (h:R n):∃ k,V.int n= .int k∧R k:=⟨n,rfl,h⟩
end
theorem Same.upd {H H':Hp} {p:Addr} {o:HO} (s:Same H H') (hn:H' p=none):Same H (upd H' p o):=fun b u e=>by
 have q:=s b u e
 rw [aB (fun z=>by rw [z,hn] at q;cases q)]
 exact q
end L2
namespace L2
open PySem PySem.Spec PyProof.Rows
def Chg (p:Addr) (H H':Hp):Prop:=∀ b o,b≠p→H b=some o→H' b=some o
def Pur (H:Hp) (p:Addr):Prop:=∃ a b c:Int,H p=some (.lst [.int a,.int b,.int c])∧0≤a∧0≤b∧b < 2147483629
theorem Chg.refl (p:Addr) (H:Hp):Chg p H H:=fun _ _ _ e=>e
theorem Chg.trans {p:Addr} {H H1 H2:Hp} (a:Chg p H H1) (b:Chg p H1 H2):Chg p H H2:=fun c o n e=>b c o n (a c o n e)
theorem Chg.of_same {p:Addr} {H H':Hp} (s:Same H H'):Chg p H H':=fun b o _ e=>s b o e
theorem Chg.new {p q:Addr} {H H1:Hp} {o:HO} (a:Chg p H H1) (hn:H1 q=none):Chg p H (upd H1 q o):=fun b u n e=>by
 have z:=a b u n e
 rw [aB (fun k=>by rw [k,hn] at z;cases z)]
 exact z
theorem Chg.at_ {p q:Addr} {H H':Hp} {o:HO} (a:Chg p H H') (hq:H q=some o) (hn:q≠p):H' q=some o:=a q o hn hq
theorem Chg.none_ {p q:Addr} {H H':Hp} (a:Chg p H H') (hq:H' q=none) (hn:q≠p):H q=none:=by
 cases e:H q with
 | none=>rfl
 | some o=>rw [a q o hn e] at hq;cases hq
theorem Pur.ne {H:Hp} {p q:Addr} (h:Pur H p) (hq:H q=none):q≠p:=by
 obtain ⟨a,b,c,e,_⟩:=h
 intro z;subst z;rw [e] at hq;cases hq
theorem Pur.new {H:Hp} {p q:Addr} {o:HO} (h:Pur H p) (hq:H q=none):Pur (upd H q o) p:=by
 have n:=h.ne hq
 obtain ⟨a,b,c,e,r⟩:=h
 exact ⟨a,b,c,by rw [aB (Ne.symm n)];exact e,r⟩
theorem eZ {H:Hp} {q b:Addr} {o u:HO} (hq:H q=none) (hb:H b=some u):upd H q o b=some u:=by
 rw [aB (fun z=>by rw [z,hq] at hb;cases hb)];exact hb
theorem Gb {ns:List Int} {d:Int} (h0:0≤d) (h1:d < ns.length):∃ n,n∈ns∧nR (ns.map V.int) d=some (.int n):=by
 have hl:d.toNat < ns.length:=by omega
 refine ⟨ns[d.toNat],List.getElem_mem hl,dW h0 ?_⟩
 rw [List.getElem?_map,List.getElem?_eq_getElem hl];rfl
theorem Uc {ns:List Str} {d:Int} (h0:0≤d) (h1:d < ns.length):∃ n,n∈ns∧nR (ns.map V.str) d=some (.str n):=by
 have hl:d.toNat < ns.length:=by omega
 refine ⟨ns[d.toNat],List.getElem_mem hl,dW h0 ?_⟩
 rw [List.getElem?_map,List.getElem?_eq_getElem hl];rfl
theorem Ud {ns:List Nat} {d:Int} (h0:0≤d) (h1:d < ns.length):∃ n,n∈ns∧nR ns d=some n:=by
 have hl:d.toNat < ns.length:=by omega
 exact ⟨ns[d.toNat],List.getElem_mem hl,dW h0 (List.getElem?_eq_getElem hl)⟩
theorem Gd {vs:List V} {d:Int} (h0:0≤d) (h1:d < vs.length):∃ v,v∈vs∧nR vs d=some v:=by
 have hl:d.toNat < vs.length:=by omega
 exact ⟨vs[d.toNat],List.getElem_mem hl,dW h0 (List.getElem?_eq_getElem hl)⟩
theorem za (sep:Str) (ys:List Str):Txt.join sep ys=Str.join sep ys:=by
 show Builtin.Str.glued sep ys=Str.join sep ys
 exact PySem.StrLaws.glued_eq_join sep ys
theorem xG (ys:List Str):(Txt.join (Str.ofString "") ys).cps.toList=(ys.map fun y=>y.cps.toList).flatten:=by
 rw [za]
 have e0:(Str.ofString "").cps= #[]:=by decide+kernel
 have key:∀ ys:List Str,(Str.join (Str.ofString "") ys).cps.toList=(ys.map fun y=>y.cps.toList).flatten:=by
  intro ys
  induction ys with
  | nil=>rfl
  | cons y r ih=>
   cases r with
   | nil=>simp [Str.join]
   | cons z r=>
    show ((y ++ Str.ofString "") ++ Str.join (Str.ofString "") (z :: r)).cps.toList=_
    rw [Str.cps_append,Str.cps_append,e0]
    simp only [Array.append_empty,Array.toList_append,ih,List.map_cons,List.flatten_cons]
 exact key ys
theorem dj (x:Str):x.length=x.cps.toList.length:=by simp [Str.length]
theorem Ge {ys:List Str} (h:∀ y∈ys,y.length=1):(Txt.join (Str.ofString "") ys).length=ys.length:=by
 rw [dj,xG]
 induction ys with
 | nil=>rfl
 | cons y r ih=>
  have h1:=h y (by simp)
  rw [dj] at h1
  simp only [List.map_cons,List.flatten_cons,List.length_append,List.length_cons,h1]
  rw [ih fun z hz=>h z (by simp [hz])]
  omega
theorem Gf {ys:List Str} (h:∀ y∈ys,y.length=1):(ys.map (·.length)).sum=ys.length:=by
 induction ys with
 | nil=>rfl
 | cons y r ih=>
  simp only [List.map_cons,List.sum_cons,List.length_cons,h y (by simp),ih fun z hz=>h z (by simp [hz])]
  omega
theorem len1 (c:Nat):(⟨#[c]⟩:Str).length=1:=by simp [Str.length]
section
variable {H:Hp} {Q:VK} {K:PySem.W.Frag}
theorem mG {p:Addr} {xs:List V} (s:SqL K H p xs) (h:Q (.int xs.length) H):J6 K [V.ref p] H Q:=⟨_,_,rfl,.inl ⟨_,s,rfl⟩,h⟩
theorem Gg {p:Addr} {xs:List V} (s:SqT K H p xs) (h:Q (.int xs.length) H):J6 K [V.ref p] H Q:=⟨_,_,rfl,.inr ⟨_,s,rfl⟩,h⟩
theorem mH {z:Str} (s:z.length≤sizeLine) (h:Q (.int z.length) H):J6 K [V.str z] H Q:=⟨_,_,rfl,⟨s,rfl⟩,h⟩
theorem CN {i j:Int} {R:Int→Int→Prop} (h:R i j):∃ a b,[V.int i,V.int j]=[.int a,.int b]∧R a b:=⟨_,_,rfl,h⟩
theorem cB {x:V} {T:String} {t:Value} {b:Bool} (ty:jT K H x t) (e:PySem.W.kitOne K t (.type T)=some b) (h:Q (.bl b) H):Pa K [x,.ty T] H Q:=⟨x,T,t,b,rfl,ty,e,h⟩
theorem PQ {sep:Str} {p:Addr} {ys:List Str} (hp:H p=some (.lst (ys.map V.str))) (hz:(ys.map (·.length)).sum+ys.length*sep.length≤16777216) (h:Q (.str (Txt.join sep ys)) H):rJoin (.str sep) [.ref p] H Q:=⟨sep,p,ys,rfl,rfl,hp,hz,h⟩
theorem Gh {p:Addr} {xs:List V} {lo hi:Option Int} (s:SqL K H p xs) (h:∀ q,H q=none→Q (.ref q) (upd H q (.lst (lR xs lo hi)))):Wd K (.ref p) lo hi H Q:=.inl ⟨p,xs,rfl,s,h⟩
end
section
variable {σ:St} {H:Hp} {Q:VK}
theorem Aj {K:PySem.W.Frag} {a:Addr} {xs:List V} (s:SqL K H a xs) (h:∀ p,H p=none→Q (.ref p) (upd H p (.lst xs))):yW K [.ref a] H Q:=.inl ⟨a,xs,rfl,.inl s,h⟩
end
theorem oG {sub:List (Option Nat)} {g:TG} {tt:TT} {te:TE} {σ:St} {Q:VK} {H:Hp} {lo:Int} {n:Nat} (Pv:Nat→List V→Hp→Prop) (hn:n≤sizeLine) (h0:Pv 0 [] H) (hl:∀ i ys H,Pv i ys H→ys.length≤i)
  (hs:∀ i ys H,i < n→Pv i ys H→g (.int (lo+i)) (dG sub σ) H fun σ2 H2=>KeepSt (dG sub σ) σ2∧tt σ2 H2 fun b H3=>if b=true then te σ2 H3 fun y H4=>Pv (i+1) (ys ++ [y]) H4 else Pv (i+1) ys H3)
  (hd:∀ ys H,Pv n ys H→∀ D,H D=none→Q (.ref D) (upd H D (.lst ys))):uP sub g tt te σ Q (Mp lo n) H:=
 rC (n:=n) Pv hn h0 hl (fun i ys H hi _=>hi) (fun ys H _=>Nat.le_refl _) (fun i ys H x H' hi p y=>by
  obtain ⟨e1,e2⟩:=y
  subst e1 e2
  exact hs i ys _ hi p) hd
theorem Gi {sub:List (Option Nat)} {g:TG} {tt:TT} {te:TE} {σ:St} {Q:VK} {H:Hp} {z:Str} (Pv:Nat→List V→Hp→Prop) (hn:z.cps.size≤sizeLine) (h0:Pv 0 [] H) (hl:∀ i ys H,Pv i ys H→ys.length≤i)
  (hs:∀ i ys H c,z.cps.toList[i]?=some c→Pv i ys H→g (.str ⟨#[c]⟩) (dG sub σ) H fun σ2 H2=>KeepSt (dG sub σ) σ2∧tt σ2 H2 fun b H3=>if b=true then te σ2 H3 fun y H4=>Pv (i+1) (ys ++ [y]) H4 else Pv (i+1) ys H3)
  (hd:∀ ys H,Pv z.cps.size ys H→∀ D,H D=none→Q (.ref D) (upd H D (.lst ys))):uP sub g tt te σ Q (Mx z) H:=
 rC (n:=z.cps.size) Pv hn h0 hl (fun i ys H hi _=>hi) (fun ys H _=>rfl) (fun i ys H x H' hi p y=>by
  obtain ⟨e1,c,e2,e3⟩:=y
  subst e1 e3
  exact hs i ys _ c (by simpa using e2) p) hd
theorem fJ {sub:List (Option Nat)} {g:TG} {tt:TT} {te:TE} {σ:St} {Q:VK} {H:Hp} {K:PySem.W.Frag} {a:Addr} {xs:List V} (Pv:Nat→List V→Hp→Prop) (hn:xs.length≤sizeLine) (h0:Pv 0 [] H) (hl:∀ i ys H,Pv i ys H→ys.length≤i)
  (hq:∀ i ys H,Pv i ys H→SqL K H a xs)
  (hs:∀ i ys H x,xs[i]?=some x→Pv i ys H→g x (dG sub σ) H fun σ2 H2=>KeepSt (dG sub σ) σ2∧tt σ2 H2 fun b H3=>if b=true then te σ2 H3 fun y H4=>Pv (i+1) (ys ++ [y]) H4 else Pv (i+1) ys H3)
  (hd:∀ ys H,Pv xs.length ys H→∀ D,H D=none→Q (.ref D) (upd H D (.lst ys))):uP sub g tt te σ Q (Oh K a) H:=
 rC (n:=xs.length) Pv hn h0 hl (fun i ys H hi p=>⟨xs,xs[i],hq i ys H p,List.getElem?_eq_getElem hi⟩) (fun ys H p=>⟨xs,hq _ ys H p,Nat.le_refl _⟩) (fun i ys H x H' hi p y=>by
  obtain ⟨e1,e2⟩:=y
  subst e1
  exact hs i ys _ x (e2 xs (hq i ys _ p)) p) hd
end L2
namespace L2
open PySem PySem.Spec PyProof.Rows
structure JE (X:Cx) (e:Expr) (t:TE):Prop where
 run:PE X e t
structure JT (X:Cx) (e:Expr) (t:TT):Prop where
 run:PT X e t
structure JW (X:Cx) (e:Expr) (t:TT):Prop where
 run:PW X e t
structure JA (X:Cx) (es:List Expr) (t:TA):Prop where
 run:PA X es t
structure JS (X:Cx) (s:Stmt) (t:TS):Prop where
 run:PS X s t
structure JB (X:Cx) (s:List Stmt) (t:TS):Prop where
 run:PSs X s t
structure JI (X:Cx) (tg iter:Expr) (t:TI):Prop where
 run:PI X tg iter t
structure JG (X:Cx) (tg:Expr) (t:TG):Prop where
 run:PG X tg t
structure Ue (X:Cx) (tg:List Expr) (t:yC):Prop where
 run:RZ X tg t
structure JO (X:Cx) (e:Option Expr) (t:TO):Prop where
 run:PO X e t
structure JPs (X:Cx) (pos:Pos) (keys:List (Option Expr)) (values:List Expr) (t:List (TE×TE)):Prop where
 run:PPs X pos keys values t
structure Ka (X:Cx) (ifs:List Expr) (t:TT):Prop where
 run:vR X ifs t
section
variable {X:Cx} {K:PySem.W.Frag} {sc scope:Scope} {N':List Str} {C:Addr} {s₀:Shared} {H₀:Hp} {ex:List Addr} {x:Str} {pos p p2 pos' apos cpos tpos:Pos} {a b c e o:Expr} {es:List Expr} {ta tb tc te to ti:TE} {t:TA} {tA tB' tt:TT} {rest:List Expr}
theorem ak (i:Nat) (h:sc.names.lookup x=some .local) (hN:autoParam (X.N[i]?=some x) L2.auto4._auto_1) (hsc:autoParam (X.env.scope=sc) L2.auto4._auto_1) (hd:autoParam ((x == ("__debug__":Str))=false) L2.auto6._auto_1) (hcd:autoParam ((x == ("__classdict__":Str))=false) L2.auto6._auto_1):JE X (.Name x pos) (qW i):=⟨pvL i h hN hsc hd hcd⟩
theorem gH (i:Nat) (h:sc.names.lookup x=some .cell) (hN:autoParam (X.N[i]?=some x) L2.auto4._auto_1) (hsc:autoParam (X.env.scope=sc) L2.auto4._auto_1) (hd:autoParam ((x == ("__debug__":Str))=false) L2.auto6._auto_1) (hcd:autoParam ((x == ("__classdict__":Str))=false) L2.auto6._auto_1):JE X (.Name x pos) (qW i):=⟨pvC i h hN hsc hd hcd⟩
theorem g8 (i:Nat) (h:scope.names.lookup x=some .local) (hN:autoParam (N'[i]?=some x) L2.auto4._auto_1) (hd:autoParam ((x == ("__debug__":Str))=false) L2.auto6._auto_1) (hcd:autoParam ((x == ("__classdict__":Str))=false) L2.auto6._auto_1):JE (lU X N' scope C s₀ H₀ ex) (.Name x pos) (qW i):=⟨pvBL i h hN hd hcd⟩
theorem ie (i:Nat) (h:scope.names.lookup x=some .free) (hN:autoParam (N'[i]?=some x) L2.auto4._auto_1) (hd:autoParam ((x == ("__debug__":Str))=false) L2.auto6._auto_1) (hcd:autoParam ((x == ("__classdict__":Str))=false) L2.auto6._auto_1):JE (lU X N' scope C s₀ H₀ ex) (.Name x pos) (qW i):=⟨pvBF i h hN hd hcd⟩
theorem az {i j}:JE X (.Constant (.int i) j pos) (tC (.int i)):=⟨Nv⟩
theorem gJ {i j}:JE X (.Constant (.bool i) j pos) (tC (.bl i)):=⟨Su⟩
theorem Ak {j}:JE X (.Constant .none j pos) (tC .non):=⟨Ny⟩
theorem xH {i j}:JE X (.Constant (.str i) j pos) (tC (.str i)):=⟨Nz⟩
theorem Gj {z:Str} (hg:Gl X x) (hm:∃ t,X.mg x=some (.str z t)) (hd:(x == ("__debug__":Str))=false):JE X (.Name x pos) (tC (.str z)):=⟨FJ hg hm hd⟩
theorem PX {z:Int} (hg:Gl X x) (hm:∃ t,X.mg x=some (.int z t)) (hd:(x == ("__debug__":Str))=false):JE X (.Name x pos) (tC (.int z)):=⟨FN hg hm hd⟩
theorem qZ {T:String} (hg:Gl X x) (hm:X.mg x=none) (hv:bootBuiltins x=some (.type T)) (hn:x≠"__name__") (hd:(x == ("__debug__":Str))=false):JE X (.Name x pos) (tC (.ty T)):=⟨TJ hg hm hv hn hd⟩
theorem bu {op:Operator} {r:R2} (ho:OpR X (binaryOp op) r) (ha:JE X a ta) (hb:JE X b tb):JE X (.BinOp a op b pos) (Jf r ta tb):=⟨Sx ho ha.run hb.run⟩
theorem xJ {op:UnaryOp} {r:V→Hp→VK→Prop} (ho:Wb X (unaryOp op) r) (ha:JE X a ta):JE X (.UnaryOp op a pos) (tUn r ta):=⟨Sy ho ha.run⟩
theorem jX {op:CmpOp} {r:R2} (ho:OpR X (compareOp op) r) (ha:JE X a ta) (hb:JE X b tb) (hm:behindInMarks op b=false):JE X (.Compare a [op] [b] pos) (Jf r ta tb):=⟨Jr ho ha.run hb.run hm⟩
theorem bW {op:CmpOp} {r:R2} (ho:OpR X (compareOp op) r) (ha:JE X a ta) (hb:JE X b tb) (hm:behindInMarks op b=false):JT X (.Compare a [op] [b] pos) (En (Jf r ta tb)):=⟨Js ho ha.run hb.run hm⟩
theorem Kc (ha:JT X a tA):JW X (.BoolOp .And [a] pos) tA:=⟨Ji ha.run⟩
theorem jo (ha:JT X a tA):JW X (.BoolOp .Or [a] pos) tA:=⟨NQ ha.run⟩
theorem P0 (ha:JT X a tA) (hb:JW X (.BoolOp .And (b :: rest) pos) tB'):JW X (.BoolOp .And (a :: b :: rest) pos) (NK tA tB'):=⟨NT ha.run hb.run⟩
theorem jH (ha:JT X a tA) (hb:JW X (.BoolOp .Or (b :: rest) pos) tB'):JW X (.BoolOp .Or (a :: b :: rest) pos) (tOr tA tB'):=⟨Sv ha.run hb.run⟩
theorem mj (h:JW X e tt):JT X e tt:=⟨h.run.pt⟩
theorem c7 (ha:JT X a tA):JT X (.UnaryOp .Not a pos) (NP tA):=⟨NZ ha.run⟩
def plainT:Expr→Bool
 | .BoolOp ..=>false | .UnaryOp ..=>false | .Compare ..=>false | .IfExp ..=>false | _=>true
theorem cG (h:JE X e te) (hp:autoParam (plainT e=true) L2.auto4._auto_1):JT X e (tB te):=⟨NB h.run (by
 intro whole
 cases e <;> first | rfl | cases hp)⟩
theorem xK {op} (h:JE X a te):JE X (.BoolOp op [a] pos) te:=⟨N5 h.run⟩
theorem qM (ha:JE X a ta) (hb:JE X (.BoolOp .And (b :: rest) pos) tb):JE X (.BoolOp .And (a :: b :: rest) pos) (DX ta tb):=⟨N6 ha.run hb.run⟩
theorem Gk (ha:JE X a ta):JE X (.UnaryOp .Not a pos) (DY ta):=⟨N7 ha.run⟩
theorem gr {x1} (h:JA X es t):JE X (.Tuple es x1 pos) (Jv t):=⟨Ou h.run⟩
theorem bU (h:JA X es t):JE X (.List es pos) (Jw t):=⟨Ov h.run⟩
theorem aj:JA X [] Oq:=⟨Ot⟩
theorem aa (ha:JE X e te) (hr:JA X es t) (h:autoParam (notStar e=true) L2.auto4._auto_1):JA X (e :: es) (z6 te t):=⟨paC ha.run hr.run h⟩
theorem bT:JO X none vM:=⟨Jy⟩
theorem b7 (h:JE X e te):JO X (some e) (Et te):=⟨Jz h.run⟩
theorem cI {r:V→Option Int→Option Int→Hp→VK→Prop} {lo hi:Option Expr} {tl th:TO} (hr:SlR X r) (he:JE X e te) (hl:JO X lo tl) (hu:JO X hi th):JE X (.Subscript e (.Slice lo hi none p2) pos) (tSl r te tl th):=⟨Eu hr he.run hl.run hu.run⟩
theorem bB (hK:X.K=K) (ha:JE X a ta) (hb:JE X b tb) (h:autoParam (ou b=true) L2.auto4._auto_1):JE X (.Subscript a b pos) (Jf (O2 K) ta tb):=⟨ixE hK ha.run hb.run h⟩
theorem aL {k:Nat} {ps:List Str} {sp:Sp} (F:nO X.prog X.w X.K X.mg X.base k x ps sp) (hr:Room k X.A) (hg:Gl X x) (ha:JA X (e :: es) t) (hdb:(x == ("__debug__":Str))=false) (h:autoParam ((e :: es).all notStar=true) L2.auto4._auto_1):
  JE X (.Call (.Name x p) (e :: es) [] pos) (uG sp [] E0 t):=⟨TQ F hr hg ha.run hdb h⟩
theorem aM {id:String} {r:List V→Hp→VK→Prop} (hc:CallR X (.builtin id) r) (hg:Gl X x) (hm:X.mg x=none) (hv:bootBuiltins x=some (.builtin id)) (ha:JA X (e :: es) t) (hn:x≠"__name__") (hdb:(x == ("__debug__":Str))=false) (h:autoParam ((e :: es).all notStar=true) L2.auto4._auto_1):
  JE X (.Call (.Name x p) (e :: es) [] pos) (Ox r t):=⟨TV hc hg hm hv ha.run hn hdb h⟩
theorem oH {T:String} {r:List V→Hp→VK→Prop} (hc:CallR X (.type T) r) (hg:Gl X x) (hm:X.mg x=none) (hv:bootBuiltins x=some (.type T)) (ha:JA X (e :: es) t) (hn:x≠"__name__") (hdb:(x == ("__debug__":Str))=false) (h:autoParam ((e :: es).all notStar=true) L2.auto4._auto_1):
  JE X (.Call (.Name x p) (e :: es) [] pos) (Ox r t):=⟨Pu hc hg hm hv ha.run hn hdb h⟩
theorem jq {name:Str} {T id:String} {r:V→List V→Hp→VK→Prop} (hK:X.K=K) (pa:PlainAttrs T) (slot:Slot T name id) (hty:typeOf (.builtin id)=pure (.type "method_descriptor")) (hm:JC X id r) (ho:JE X o to) (ha:JA X (e :: es) t)
  (hbase:autoParam (oA o=true) L2.auto4._auto_1) (hl:autoParam (es.length < 20) L2.auto2._auto_1) (hline:autoParam ((apos.endLine == cpos.line)=true) L2.auto4._auto_1) (h:autoParam ((e :: es).all notStar=true) L2.auto4._auto_1):JE X (.Call (.Attribute o name apos) (e :: es) [] cpos) (Tp K T r to t):=⟨TX hK pa slot hty hm ho.run ha.run hbase hl hline h⟩
theorem Al {name:Str} {T id:String} {r:V→List V→Hp→VK→Prop} (hK:X.K=K) (pa:PlainAttrs T) (slot:Slot T name id) (hty:typeOf (.builtin id)=pure (.type "method_descriptor")) (hm:JC X id r) (ho:JE X o to)
  (hbase:autoParam (oA o=true) L2.auto4._auto_1) (hline:autoParam ((apos.endLine == cpos.line)=true) L2.auto4._auto_1):JE X (.Call (.Attribute o name apos) [] [] cpos) (Ey K T r to):=⟨Px hK pa slot hty hm ho.run hbase hline⟩
theorem fc:Ka X [] Fe:=⟨Ff⟩
theorem Am (hc:JT X c tt):Ka X [c] tt:=⟨Fg hc.run⟩
variable {tg iter elt:Expr} {ifs:List Expr} {sub:List (Option Nat)} {wi:TI} {g:TG} {N:List Str}
theorem fK {ta:TA} (hg:Gl X "range") (hm:X.mg "range"=none) (ha:JA X [a] ta) (h:autoParam (notStar a=true) L2.auto4._auto_1):JI X tg (.Call (.Name "range" p) [a] [] pos) (Ej ta):=⟨BK hg hm ha.run (eY h)⟩
theorem dB (hK:X.K=K) (hl:JE X e te):JI X tg e (JR K te):=⟨JZ hK hl.run⟩
theorem bO {i:Nat} (hN:X.N.Nodup) (hi:X.N[i]?=some x) (hx:Loc X.env.scope x) (hf:X.fn x=true):JG X (.Name x pos) (lY i):=⟨zU hN hi hx (.inl hf)⟩
theorem mJ (i:Nat) (h:scope.names.lookup x=some .local) (hN:N'.Nodup) (hi:autoParam (N'[i]?=some x) L2.auto4._auto_1):JG (lU X N' scope C s₀ H₀ ex) (.Name x pos) (lY i):=⟨pgB i h hN hi⟩
theorem jr:Ue X [] Od:=⟨Jo⟩
theorem cR {gs:yC} (h1:JG X e g) (h2:Ue X es gs) (hs:autoParam ((assignEach (e :: es) X.env).map (·.2)=assign e X.env :: (assignEach es X.env).map (·.2)) L2.auto4._auto_1):Ue X (e :: es) (Ec g gs):=⟨Ed h1.run h2.run hs⟩
theorem qe {ts:List Expr} {k:Nat} {gs:yC} {n:Nat} (hK:X.K=K) (hc:X.calm=true) (h:Ue X ts gs) (hn:autoParam ((assignEach ts X.env).length=n) L2.auto4._auto_1) (hst:autoParam ((assignEach ts X.env).findIdx? (·.1)=none) L2.auto4._auto_1):JG X (.Tuple ts k pos) (Jp K n gs):=⟨J8 hK hc h.run hn hst⟩
theorem jY {ts:yD} (ho:JE X a ta) (hi:JE X b tb) (hs:Jm X ts) (h:autoParam (ou b=true) L2.auto4._auto_1):JG X (.Subscript a b pos) (Oe ta tb ts):=⟨Og ho.run hi.run hs (by
 intro v
 cases b <;> first | rfl | cases h)⟩
theorem iZ (S:qJ N sc N' scope sub) (hc:X.calm=true) (hN:X.N=N) (hsc:X.env.scope=sc) (hi:JI X tg iter wi)
  (hg:∀ (C:Addr) (s₀:Shared) (H₀:Hp) (ex:List Addr),JG (lU X N' scope C s₀ H₀ ex) tg g)
  (ht:∀ (C:Addr) (s₀:Shared) (H₀:Hp) (ex:List Addr),Ka (lU X N' scope C s₀ H₀ ex) ifs tt)
  (he:∀ (C:Addr) (s₀:Shared) (H₀:Hp) (ex:List Addr),JE (lU X N' scope C s₀ H₀ ex) elt te) (h:autoParam (pK iter=true) L2.auto4._auto_1):
  JE X (.ListComp elt [⟨tg,iter,ifs,0⟩] scope pos) (sG sub wi g tt te):=⟨Ub S hc hN hsc hi.run (fun C s₀ H₀ ex=>(hg C s₀ H₀ ex).run) (fun C s₀ H₀ ex=>(ht C s₀ H₀ ex).run) (fun C s₀ H₀ ex=>(he C s₀ H₀ ex).run) h⟩
variable {st:Stmt} {sts:List Stmt} {u v:TS}
theorem aR {i:Nat} (hN:X.N.Nodup) (hi:X.N[i]?=some x) (hx:Loc X.env.scope x) (he:JE X e te) (hf:X.fn x=true) (h:autoParam (iJ e=true) L2.auto4._auto_1):JS X (.Assign [.Name x pos'] e pos) (vL te (lY i)):=⟨TY hN hi hx he.run hf h⟩
theorem iM {ts:yD} (he:JE X e te) (hg:JG X (.Subscript a b pos') g) (h:autoParam (iJ e=true) L2.auto4._auto_1):JS X (.Assign [.Subscript a b pos'] e pos) (vL te g):=⟨Eg he.run hg.run (by show swapsWith e (some (.Subscript a b pos')) pos.line X.env=pure false;exact xF h) (by cases e <;> rfl) rfl⟩
theorem aG (he:JE X e te):JS X (.Return (some e) pos) (Oa te):=⟨Ob he.run⟩
theorem dX (he:JE X e te) (h:autoParam (iJ e=true) L2.auto4._auto_1):JS X (.Expr e pos) (zR te):=⟨Py he.run h⟩
theorem bZ {sa sb:List Stmt} (hc:JT X c tt) (ha:JB X sa u) (hb:JB X sb v):JS X (.If c sa sb pos) (Oc tt u v):=⟨Sw hc.run ha.run hb.run⟩
theorem d9 {body:List Stmt} (hp:PassesOwn (model X.prog X.w) X.A X.env X.xe) (hc:X.calm=true) (hi:JI X tg iter wi) (hg:JG X tg g) (hb:JB X body u) (h:autoParam (pK iter=true) L2.auto4._auto_1):JS X (.For tg iter body [] pos) (Jq wi g u):=⟨Ua hp hc hi.run hg.run hb.run h⟩
theorem bC:JB X [] Ea:=⟨Jj⟩
theorem aA (h:JS X st u):JB X [st] u:=⟨Jk h.run⟩
theorem aq (h:JS X st u) (h2:JB X sts v):JB X (st :: sts) (N8 u v):=⟨Eb h.run h2.run⟩
end
section
variable {P:Program} {w:World} {K:PySem.W.Frag} {mg:Str→Option Value} {base:Heap}
theorem gR {x:Str} {st:Stmt} {N ps:List Str} {k:Nat} {sp:Sp} (D:eO K mg x st) (S:aP N ps (au st))
  (hb:∀ (kV doc pm:Value) (an:Option Addr) (cdv ct:Value) (us:List Value),us.length=ps.length→bindArgs (PySem.W.fnOf x x (fW st) (cO st) (au st) .none kV doc pm an cdv ct) ⟨us,[]⟩=pure (ps.zip us))
  (len:∀ vs H Q E,sp vs H Q E→vs.length=ps.length)
  (hbody:∀ (f:Addr) (cdv:Value) (A:Around) (outer:List Env) (s:Shared) (H:Hp) (vs:List V) (Q:VK) (E:XK),Room k (A.deeper (envOfC x (au st) s.heap.objs.size f cdv))→sp vs H Q E→
   ∃ t,JB (nQ yP P w K mg base N x (au st) f cdv A outer s H E).nox (cO st) t∧t {nx:=fun _ H'=>Q .non H',rt:=Q} (start N vs) H):nO P w K mg base (k+1) x ps sp:=
 Pb D S hb len fun f cdv A outer s H vs Q E hr h=>let ⟨t,j,q⟩:=hbody f cdv A outer s H vs Q E hr h;⟨t,j.run,q⟩
theorem okJ {x:Str} {st:Stmt} {N ps:List Str} {k:Nat} {sp:Sp} {f:Addr} {fd:FuncData} (F:Fun K x x st f fd) (S:aP N ps (au st)) (len:∀ vs H Q E,sp vs H Q E→vs.length=ps.length)
  (hbody:∀ (f:Addr) (cdv:Value) (A:Around) (outer:List Env) (s:Shared) (H:Hp) (vs:List V) (Q:VK) (E:XK),Room k (A.deeper (envOfC x (au st) s.heap.objs.size f cdv))→sp vs H Q E→
   ∃ t,JB (nQ yP P w K mg base N x (au st) f cdv A outer s H E).nox (cO st) t∧t {nx:=fun _ H'=>Q .non H',rt:=Q} (start N vs) H):pJ P w K mg base yP (k+1) f fd ps sp:=
 F.ok S len fun cdv A outer s H vs Q E hr h=>let ⟨t,j,q⟩:=hbody f cdv A outer s H vs Q E hr h;⟨t,j.run,q⟩
end
theorem sW {K:PySem.W.Frag} {mg:Str→Option Value} {h:Heap} (X:K.In h) (G:h.Ns mainGlobals mg) {x:Str} {v:Value} {f:Tok→Value} (a:PySem.W.nsIn K mainGlobals x=some (some v)) (e:∃ t,v=f t):∃ t,mg x=some (f t):=by
 obtain ⟨t,rfl⟩:=e
 exact ⟨t,PySem.W.mg_of X G a⟩
theorem Ug {l:PySem.W.OpenLaw} {q:Program} {loose:List Str} {XP:(Str→Option Value)→Heap→Prop} {YP:World→Heap→Prop} {d:DefRec} {K:Params→PySem.W.Frag} {st:Stmt} {k:Nat} {sp:PySem.W.Frag→Sp} {x:Str}
  (hn:l.most=some 63) (hdf:d.params.defaults=[]) (hdn:d.name="law") (hk:Room k callerA) (hY:∀ (w:World) (h:Heap),YP w h→(K w.params).In h)
  (hb:∀ (kV doc pm:Value) (an:Option Addr) (cdv ct:Value) (us:List Value),us.length=[x].length→bindArgs (PySem.W.fnOf "law" "law" (fW st) (cO st) (au st) .none kV doc pm an cdv ct) ⟨us,[]⟩=pure ([x].zip us))
  (F:∀ (w:World) (mg:Str→Option Value) (h:Heap),(K w.params).In h→h.Ns mainGlobals mg→eO (K w.params) mg "law" st∧∀ (base:Heap) (f:Addr) (fd:FuncData),Fun (K w.params) "law" "law" st f fd→pJ l.prog w (K w.params) mg base yP k f fd [x] (sp (K w.params)))
  (hsp:∀ (K:PySem.W.Frag) (H:Hp) (a:Addr) (ns:List Int),ns.length≤63→SqL K H a (ns.map V.int)→sp K [.ref a] H (fun v _=>v= .bl true) fun _ _ _=>False) (him:autoParam (importsNone q=true) L2.auto6._auto_1):
  PySem.W.WalkO q loose XP YP l.row.toRowW d [] (fun f vs=>PySem.call f vs):=
 L2.JM (n:=63) (k:=k) (x:=x) (CX:=fun _=>yP) (sp:=fun w=>sp (K w.params)) hn (by decide) hdf hk hY (fun w mg fa h X G e=>by
  obtain ⟨⟨f,fd,Fn,hm⟩,ok⟩:=F w mg h X G
  rw [hdn,hm] at e
  have ef:f=fa:=by injection (Option.some.inj e)
  subst ef
  refine ⟨fd,fun s u=>?_,fun base _ _=>ok base f fd Fn⟩
  obtain ⟨oc,od,kV,doc,pm,an,cdv,ct,osl,rfl,lk,hcd⟩:=Fn.ex
  exact .of_eq (hb kV doc pm an cdv ct [u] rfl)) (fun w H a ns hl _ hS=>hsp _ H a ns hl hS) (fun _ _ _ _ _ z=>z) him
end L2
namespace L2
open PySem PySem.Spec PyProof.Rows
def Kd (xs:Nat→List V) (n:Nat):It:=⟨fun i _=>i < n,fun i H v H'=>∃ T,H T=none∧v= .ref T∧H'=upd H T (.tup (xs i)),fun i _=>i=n⟩
theorem Qa {P:Program} {w:World} {K:PySem.W.Frag} {elts:List Expr} {k:Nat} {pos:Pos} {it:Addr} {fp wr:List Addr} {n:Nat} {xs:Nat→List V} {Pt:Nat→Array Value→Prop} {St:Nat→Heap→Prop} {Mid:Nat→Addr→Heap→Prop}
  (W:∀ A:Around,A.handled=none→WalksT P w A it fp wr n Pt St Mid) (hxs:∀ i,(xs i).length≤sizeLine) (hPt:∀ i vals,Pt i vals→Vals (xs i) vals.toList) (hmem:it∈fp)
  (hobj:∀ i h,St i h→∀ b∈fp,∃ o,h.get? b=some o∧∀ v,o.data≠.cell v)
  (hself:∀ (A:Around) (i:Nat) (s:Shared) (Q:Value→Shared→Prop) (E:Value→Shared→Prop),St i s.heap→Q (.ref it) s→wpAny (model P w) A (pyIter (.ref it)) Q E s):
  Turn P w K (.Tuple elts k pos) (Kd xs n) fp it St where
 mem:=hmem
 obj:=hobj
 keep:=fun i h h' st kk=>(W {} rfl).frame i h h' st kk
 item:=by
  intro X hP hw hK hc i pins s σ H E I hf st hg
  subst hP hw hK
  have W':=W X.A (I.ok.hd hc)
  refine W'.item i s _ _ hg st fun T vals h' tk hPv hT isT mid kk=>?_
  refine ⟨.ref T,rfl,W'.go elts k pos i T _ _ _ mid fun h'' st'' kk2=>?_⟩
  have hTn:H T=none:=I.hok.fresh hT
  have hTw:T ∉ wr:=W'.apart i T h' mid
  have kall:∀ b o,b ∉ wr→s.heap.get? b=some o→h''.get? b=some o:=fun b o hb e=>kk2 b o hb (kk b o hb e)
  have nT:∀ b o,s.heap.get? b=some o→b≠T:=fun b o e=>Nat.ne_of_lt (Nat.lt_of_lt_of_le (Heap.lt_size e) hT)
  have nTH:∀ b u,H b=some u→b≠T:=fun b u e z=>by rw [z,hTn] at e;cases e
  have nW:∀ b u,H b=some u→b ∉ wr:=fun b u e hb=>by rw [(hf b (W'.sub b hb)).1] at e;cases e
  have isT':h''.IsTuple T vals:=by
   obtain ⟨o,ho,r⟩:=isT
   exact ⟨o,kk2 T o hTw ho,r⟩
  have hlT:∃ o,h''.get? T=some o:=let ⟨o,ho,_⟩:=isT';⟨o,ho⟩
  have I':Inv X pins σ (upd H T (.tup (xs i))) {s with heap:=h'',toks:=tk}:=by
   refine I.step (g':=s.gens) (d':=s.drawn) (ch:=wr) (fun b hb=>?_) (fun b o _ _ hc e _=>kall b o hc e) (fun b o _ _ hc e _=>⟨o.slots,kall b o hc e⟩) (fun b o _ e hn=>by rw [aB (nT b o e)];exact hn)
    (fun b o hc e=>⟨o,kall b o hc e⟩) (fun b ys e=>by rw [aB (nTH b _ e)];exact e) (fun b o u e=>by rw [aB (nTH b _ e)];exact e) (fun b ps e=>⟨#[],by rw [aB (nTH b _ e),e];simp⟩) (fun m hm=>?_) (fun b u e=>?_) I.bare
   ·obtain ⟨f0,f1,f2,f3,f4,f5⟩:=hf b (W'.sub b hb)
    exact ⟨f3,f1,f4,f5⟩
   ·obtain ⟨o,es,ep,ho,r⟩:=hm
    exact ⟨o,es,ep,kall _ o (fun hb=>(hf _ (W'.sub _ hb)).2.1 rfl) ho,r⟩
   ·by_cases hb:b=T
    ·subst hb
     rw [ao] at e;cases e
     obtain ⟨o,ho,hcl,nn,hd⟩:=isT'
     exact ⟨hxs i,vals.toList,hPt i vals hPv,o,ho,hcl,nn,by simpa using hd⟩
    ·rw [aB hb] at e
     refine (I.hok b u e).stay (fun c v hc' q=>kall c v ?_ q) (fun c q=>by rw [aB (nTH c _ q)];exact q) fun c ys q=>by rw [aB (nTH c _ q)];exact q
     rcases hc' with z | z
     ·rw [z];exact nW b u e
     ·exact nW c _ z
  refine ⟨.ref T,upd H T (.tup (xs i)),I',rfl,⟨T,hTn,rfl,rfl⟩,st'',fun b hb=>?_⟩
  obtain ⟨o,e,_⟩:=hobj i _ st b hb
  rw [aB (nT b o e)]
  exact (hf b hb).1
 done:=by
  intro X hP hw hK hc i pins s σ H E I hf st hg
  subst hP hw hK
  have W':=W X.A (I.ok.hd hc)
  have hg:i=n:=hg
  subst hg
  refine W'.done s _ _ st fun h' tk kk=>⟨rfl,?_⟩
  have nW:∀ b u,H b=some u→b ∉ wr:=fun b u e hb=>by rw [(hf b (W'.sub b hb)).1] at e;cases e
  refine I.step (g':=s.gens) (d':=s.drawn) (ch:=wr) (fun b hb=>?_) (fun b o _ _ hc e _=>kk b o hc e) (fun b o _ _ hc e _=>⟨o.slots,kk b o hc e⟩) (fun b o _ e hn=>hn)
    (fun b o hc e=>⟨o,kk b o hc e⟩) (fun b ys e=>e) (fun b o u e=>e) (fun b ps e=>⟨#[],by rw [e];simp⟩) (fun m hm=>?_) (fun b u e=>?_) I.bare
  ·obtain ⟨f0,f1,f2,f3,f4,f5⟩:=hf b (W'.sub b hb)
   exact ⟨f3,f1,f4,f5⟩
  ·obtain ⟨o,es,ep,ho,r⟩:=hm
   exact ⟨o,es,ep,kk _ o (fun hb=>(hf _ (W'.sub _ hb)).2.1 rfl) ho,r⟩
  ·refine (I.hok b u e).stay (fun c v hc' q=>kk c v ?_ q) (fun c q=>q) fun c ys q=>q
   rcases hc' with z | z
   ·rw [z];exact nW b u e
   ·exact nW c _ z
 self:=hself
def jZ (x:Str) (i:Nat):List V:=[.int i,.str ⟨#[x.cps.getD i 0]⟩]
end L2
namespace L2
open PySem PySem.Spec PyProof.Rows
section
variable {prog:Program} {w:World} {A:Around} {E:Value→Shared→Prop} {s:Shared}
theorem sX {it l:Addr} {items:Array Value} (hne:l≠it):∀ (n i:Nat) (s:Shared) (Q:List Value→Shared→Prop),s.heap.IsListIter it l i→s.heap.IsList l items→i+n≤items.size→
  (∀ h',h'.IsListIter it l (i+n)→Heap.SameBut it s.heap h'→Q ((items.toList.drop i).take n) {s with heap:=h'})→wpAny (model prog w) A (draw (.ref it) n) Q E s
 | 0,i,s,Q,hit,_,_,hQ=>by
  show wpAny _ _ (pure []) Q E s
  exact wpAny_pure (by simpa using hQ s.heap hit (Heap.SameBut.refl ..))
 | n+1,i,s,Q,hit,ht,hle,hQ=>by
  have hlt:i < items.size:=by omega
  show wpAny _ _ (pyNext (.ref it) >>=_) Q E s
  refine wpAny_bind (wpAny_pyNext_list_item hit ht (x:=items[i]) (by simp [hlt]) fun h₁ hit₁ hs₁=>?_)
  refine wpAny_bind (wpAny_holding (sX hne n (i+1) _ _ hit₁ (ht.extBut hs₁.extBut hne) (by omega) fun h₂ hit₂ hs₂=>wpAny_pure ?_))
  have hd:items.toList.drop i=items[i] :: items.toList.drop (i+1):=by simp [List.drop_eq_getElem_cons,hlt]
  have:=hQ h₂ (by rw [show i+(n+1)=i+1+n by omega];exact hit₂) (hs₁.trans hs₂)
  rw [hd,List.take_succ_cons] at this
  exact this
theorem oJ {l:Addr} {items:Array Value} {Q:List Value→Shared→Prop} (hh:A.handled=none) (ht:s.heap.IsList l items)
  (hQ:∀ h',Heap.ExtBut s.heap.objs.size s.heap h'→Q items.toList {s with heap:=h'}):wpAny (model prog w) A (unpackItems (.ref l) items.size none) Q E s:=by
 have hlt:l≠s.heap.objs.size:=by obtain ⟨o,ho,_⟩:=ht;exact Nat.ne_of_lt (Heap.lt_size ho)
 unfold unpackItems
 refine wpAny_bind ?_
 ·unfold notIterableAtAll
  refine wpAny_bind (wpAny_specialOf ht.typeIs slot_list_iter.lookup ?_)
  refine wpAny_pure ?_
  simp only [Bool.false_eq_true,if_false]
  refine wpAny_bind (wpAny_holding (wpAny_pyIter_list ht ?_))
  refine wpAny_bind (wpAny_holding (sX hlt items.size 0 _ _ ⟨_,Heap.get?_push_size _ rfl,rfl,rfl⟩ (let ⟨o,ho,r⟩:=ht;⟨o,Heap.get?_push_of_some _ ho,r⟩) (by omega) fun h₁ hit₁ hs₁=>?_))
  have hall:List.take items.size (List.drop 0 items.toList)=items.toList:=by
   rw [List.drop_zero];exact List.take_of_length_le (by simp)
  rw [hall]
  rw [if_neg (by simp)]
  have ht₁:h₁.IsList l items:=by
   have:(s.heap.push {cls:=.type "list_iterator",data:=.fields #[.ref l,.int 0 0]}).IsList l items:=let ⟨o,ho,r⟩:=ht;⟨o,Heap.get?_push_of_some _ ho,r⟩
   exact this.extBut hs₁.extBut hlt
  refine wpAny_bind (wpAny_holding (wpAny_pyNext_list_end hh hit₁ ht₁ (by simp) fun h₂ he₂=>?_))
  simp only [Option.isSome_none,Bool.false_eq_true,if_false]
  refine wpAny_pure (hQ h₂ fun b o hb e=>he₂ b o hb (hs₁.extBut b o hb (Heap.get?_push_of_some _ e)))
theorem mK {env:Env} {elts:List Expr} {x1} {pos:Pos} {l:Addr} {items:Array Value} {Q:Unit→Shared→Prop} (hh:A.handled=none) (ht:s.heap.IsList l items)
  (hn:(assignEach elts env).length=items.size) (hstar:(assignEach elts env).findIdx? (·.1)=none)
  (h:∀ h',Heap.ExtBut s.heap.objs.size s.heap h'→wpAny (model prog w) A (assignInOrder ((assignEach elts env).map (·.2)) items.toList) Q E {s with heap:=h'}):
  wpAny (model prog w) A (assign (.Tuple elts x1 pos) env (.ref l)) Q E s:=by
 rw [assign_Tuple]
 refine wpAny_bind (wpAny_standAt ?_)
 unfold unpack
 rw [hn,hstar]
 exact wpAny_bind (wpAny_holding (oJ hh ht h))
end
def Uh (K:PySem.W.Frag) (n:Nat) (t:yC):TG:=fun v σ H Q=>∃ a xs,v= .ref a∧(SqT K H a xs∨SqL K H a xs)∧xs.length=n∧t xs σ H Q
theorem Ke {X:Cx} {K:PySem.W.Frag} {ts:List Expr} {k:Nat} {gs:yC} {n:Nat} {pos:Pos} (hK:X.K=K) (hc:X.calm=true) (h:Ue X ts gs) (hn:autoParam ((assignEach ts X.env).length=n) L2.auto4._auto_1) (hst:autoParam ((assignEach ts X.env).findIdx? (·.1)=none) L2.auto4._auto_1):JG X (.Tuple ts k pos) (Uh K n gs):=⟨by
 subst hK
 intro pins s σ H v u Q I r hw
 obtain ⟨a,xs,e1,hq,hl,hw⟩:=hw
 subst e1
 cases r
 rcases hq with hq | hq
 ·exact (Ef hc h.run hn hst) pins s σ H (.ref a) (.ref a) Q I (show RelV (.ref a) (Value.ref a) from rfl) ⟨a,xs,rfl,hq,hl,hw⟩
 ·obtain ⟨its,rv,ht,hz⟩:=I.list hq
  refine mK (I.ok.hd hc) ht.isList (by simp [hn,← hl,rv.length]) hst fun h' hx=>?_
  have I1:Inv X pins σ H {s with heap:=h'}:=I.kept (t':=s.toks) fun b o e=>hx b o (Nat.ne_of_lt (Heap.lt_size e)) e
  exact h.run pins _ σ H xs _ Q I1 (by simpa using rv) hw⟩
theorem Kf {X:Cx} {ts:List Expr} {k:Nat} {e:Expr} {te:TE} {g:TG} {pos pos':Pos} (he:JE X e te) (hg:JG X (.Tuple ts k pos') g) (h:autoParam (iJ e=true) L2.auto4._auto_1) (h2:autoParam ((match e with | .Tuple ..=>false | _=>true)=true) L2.auto4._auto_1):JS X (.Assign [.Tuple ts k pos'] e pos) (vL te g):=
 ⟨Eg he.run hg.run (by show swapsWith e (some (.Tuple ts k pos')) pos.line X.env=pure false;exact xF h) (by cases e <;> first | rfl | cases h2) rfl⟩
def Ui (K:PySem.W.Frag):R2:=fun x y H Q=>rNe x y H Q∨∃ (a b:Addr) (ns ms:List Int),x= .ref a∧y= .ref b∧SqL K H a (ns.map V.int)∧SqL K H b (ms.map V.int)∧Q (.bl (!decide (ns=ms))) H
theorem Qc {X:Cx} {K:PySem.W.Frag} (hK:X.K=K) (hu:X.A.units+64 < cLine):OpR X (compareOp .NotEq) (Ui K):=by
 subst hK
 intro pins s σ H x y v u Q I rx ry h
 rcases h with h | ⟨a,b,ns,ms,rfl,rfl,ha,hb,q⟩
 ·exact SQ pins s σ H x y v u Q I rx ry h
 ·cases rx
  cases ry
  obtain ⟨its,r1,p1,z1⟩:=I.list ha
  obtain ⟨jts,r2,p2,z2⟩:=I.list hb
  exact PySem.W.ne_intsK p1.isList (intsAre_of r1) p2.isList (intsAre_of r2) hu ⟨.bl _,H,I,rfl,q⟩
section
variable {H:Hp} {Q:VK} {K:PySem.W.Frag} {σ:St}
theorem gU {n:Nat} {gs:yC} {p:Addr} {xs:List V} {R:St→Hp→Prop} (s:SqT K H p xs) (hl:xs.length=n) (h:gs xs σ H R):Jp K n gs (.ref p) σ H R:=⟨p,xs,rfl,s,hl,h⟩
theorem lg {t:TG} {u:yC} {v:V} {vs:List V} {R:St→Hp→Prop} (h:t v σ H fun σ' H'=>u vs σ' H' R):Ec t u (v :: vs) σ H R:=⟨v,vs,rfl,h⟩
theorem qg {R:St→Hp→Prop} (h:R σ H):Od [] σ H R:=⟨rfl,h⟩
theorem iz {p:Addr} {xs:List V} {y:V} (hp:H p=some (.lst xs)) (c:xs.length < sizeLine) (h:Q .non (upd H p (.lst (xs ++ [y])))):Ac (.ref p) [y] H Q:=⟨p,xs,y,rfl,rfl,hp,c,h⟩
theorem Gm {xs:Nat→List V} {n:Nat} {g:TG} {tb:TS} {D:Ends} {H:Hp} (Pv:Nat→St→Hp→Prop) (h0:Pv 0 σ H)
  (hs:∀ i σ H T,i < n→Pv i σ H→H T=none→g (.ref T) σ (upd H T (.tup (xs i))) fun σ2 H2=>tb {D with nx:=Pv (i+1),ct:=Pv (i+1),bk:=D.nx} σ2 H2) (hd:∀ σ H,Pv n σ H→D.nx σ H):
  ∃ W:Nat→Nat→St→Hp→Prop,(∃ m,W 0 m σ H)∧∀ i m σ H,W i m σ H→
   ((Kd xs n).stop i H∧D.nx σ H)∨((Kd xs n).go i H∧∃ N:St→Hp→Prop,(∀ σ' H',N σ' H'→∃ m',m' < m∧W (i+1) m' σ' H')∧∀ x H',(Kd xs n).yld i H x H'→g x σ H' fun σ2 H2=>tb {D with nx:=N,ct:=N,bk:=D.nx} σ2 H2):=by
 refine ⟨fun i m σ H=>m=n - i∧i≤n∧Pv i σ H,⟨n,by simp,Nat.zero_le _,h0⟩,?_⟩
 rintro i m σ H ⟨rfl,hi,p⟩
 by_cases hlt:i < n
 ·refine .inr ⟨hlt,Pv (i+1),fun σ' H' p'=>⟨n - (i+1),by omega,rfl,hlt,p'⟩,fun x H' y=>?_⟩
  obtain ⟨T,hT,e1,e2⟩:=y
  subst e1 e2
  exact hs i σ H T hlt p hT
 ·have e:i=n:=by omega
  subst e
  exact .inl ⟨rfl,hd σ H p⟩
theorem R6 {f:Int→V} {i:Int} (h:Q (f i) H):rU f (.int i) H Q:=⟨i,rfl,h⟩
theorem Qd {a:Addr} {xs:List V} {k:Int} (ha:H a=some (.lst xs)) (h0: -(2 ^ 63)≤k) (h1:k < 2 ^ 63) (hz:xs.length*k.toNat≤sizeLine) (h:∀ p,H p=none→Q (.ref p) (upd H p (.lst (List.replicate k.toNat xs).flatten))):Fz (.ref a) (.int k) H Q:=
 .inr (.inr ⟨a,k,xs,rfl,rfl,ha,h0,h1,hz,h⟩)
theorem Kg {z:Str} {g:TG} {tb:TS} {D:Ends} {H:Hp} (Pv:Nat→St→Hp→Prop) (h0:Pv 0 σ H)
  (hs:∀ i σ H c,z.cps.toList[i]?=some c→Pv i σ H→g (.str ⟨#[c]⟩) σ H fun σ2 H2=>tb {D with nx:=Pv (i+1),ct:=Pv (i+1),bk:=D.nx} σ2 H2) (hd:∀ σ H,Pv z.length σ H→D.nx σ H):
  ∃ W:Nat→Nat→St→Hp→Prop,(∃ m,W 0 m σ H)∧∀ i m σ H,W i m σ H→
   ((Mx z).stop i H∧D.nx σ H)∨((Mx z).go i H∧∃ N:St→Hp→Prop,(∀ σ' H',N σ' H'→∃ m',m' < m∧W (i+1) m' σ' H')∧∀ x H',(Mx z).yld i H x H'→g x σ H' fun σ2 H2=>tb {D with nx:=N,ct:=N,bk:=D.nx} σ2 H2):=by
 refine ⟨fun i m σ H=>m=z.cps.size - i∧i≤z.cps.size∧Pv i σ H,⟨z.cps.size,by simp,Nat.zero_le _,h0⟩,?_⟩
 rintro i m σ H ⟨rfl,hi,p⟩
 by_cases hlt:i < z.cps.size
 ·refine .inr ⟨hlt,Pv (i+1),fun σ' H' p'=>⟨z.cps.size - (i+1),by omega,rfl,hlt,p'⟩,fun x H' y=>?_⟩
  obtain ⟨e1,c,e2,e3⟩:=y
  subst e1 e3
  exact hs i σ _ c (by simpa using e2) p
 ·have e:i=z.cps.size:=by omega
  subst e
  exact .inl ⟨rfl,hd σ H p⟩
end
end L2
namespace L2
open PySem PySem.Spec PyProof.Rows
section
variable {X:Cx} {tg iter elt:Expr} {ifs:List Expr} {scope:Scope} {pos:Pos} {N':List Str} {sub:List (Option Nat)} {wi:TI} {g:TG} {tt:TT} {te:TE}
theorem Gn {N:List Str} {sc:Scope} {use:Option (Value→Sem Unit)} {R:Value→Shared→Prop} {p0:Pos} (S:qJ N sc N' scope sub) (hc:X.calm=true) (hN:X.N=N) (hsc:X.env.scope=sc) (hi:PI X tg iter wi)
  (hg:∀ (C:Addr) (s₀:Shared) (H₀:Hp) (ex:List Addr),PG (lU X N' scope C s₀ H₀ ex) tg g)
  (ht:∀ (C:Addr) (s₀:Shared) (H₀:Hp) (ex:List Addr),vR (lU X N' scope C s₀ H₀ ex) ifs tt)
  (he:∀ (C:Addr) (s₀:Shared) (H₀:Hp) (ex:List Addr),PE (lU X N' scope C s₀ H₀ ex) elt te)
  (hs:∀ x,foldedSetIterable iter X.env x=pure x) (pins:List (Addr×Obj)) (s:Shared) (σ:St) (H:Hp) (Q:VK) (I:Inv X pins σ H s) (h:sG sub wi g tt te σ H Q)
  (hend:∀ (D C:Addr) (s5:Shared) (H5:Hp) (m:Str→Option Value),Inv X pins σ H5 s5→iH X pins H5 C→s5.heap.Ns C m→Q (.ref D) H5→compPost (model X.prog X.w) X.A X.xe use R (.ref D) C (.ok .next) s5):
  wpAny (model X.prog X.w) X.A (comprehension (.ListComp elt [⟨tg,iter,ifs,0⟩] scope pos) scope X.env p0 (newList []) false (eval iter X.env) use) R X.xe s:=by
 have hcl:∀ x∈scope.names,x.2=NameKind.free→∃ c,X.env.cells.lookup x.1=some c:=fun x hx hk=>I.ok.has x.1 (by have:=S.free x hx hk;rw [← hsc] at this;exact this)
 refine wpAny_comprehension_free (use:=use) rfl hs (lZ hcl) S.kind S.loc ?_
 refine d8 (hi pins s σ H _ I h) fun v s1 h1=>d8 h1 fun itv s2 h2=>?_
 obtain ⟨it,fp,tn,J,H2,e,I2,T,st2,f2,W,⟨m0,w0⟩,turn⟩:=h2
 subst e
 refine wpAny_newObj_type (fH fun h₁ hns₁ hk31 hcl₁=>?_)
 dsimp only at hns₁ hk31 hcl₁ ⊢
 generalize hs3:({s2 with heap:=s2.heap.push {cls:=.type "list",dict:=none,data:=.seq ([]:List Value).toArray}}:Shared)=s3
 have e3:s2.heap.push {cls:=.type "list",dict:=none,data:=.seq ([]:List Value).toArray}=s3.heap:=by rw [← hs3]
 rw [e3] at hns₁ hk31 hcl₁ ⊢
 have hD3:s3.heap.get? s2.heap.objs.size=some {cls:=.type "list",dict:=none,data:=.seq ([]:List Value).toArray}:=by rw [← e3];exact Heap.get?_push_size _ rfl
 have I3:Inv X pins σ H2 s3:=by
  rw [← hs3]
  exact I2.kept (t':=s2.toks) fun b o e=>Heap.get?_push_of_some _ e
 have k23:∀ b o,s2.heap.get? b=some o→s3.heap.get? b=some o:=fun b o e=>by rw [← e3];exact Heap.get?_push_of_some _ e
 have hsz:s3.heap.objs.size=s2.heap.objs.size+1:=by rw [← e3,Heap.size_push]
 have hDn:H2 s2.heap.objs.size=none:=I2.hok.fresh (Nat.le_refl _)
 have fD:iH X pins H2 s2.heap.objs.size:=I2.fpOk (Nat.le_refl _) hDn
 have hfo:∀ b∈fp,b < s2.heap.objs.size:=fun b hb=>let ⟨o,e,_⟩:=T.obj _ _ st2 b hb;Heap.lt_size e
 have hDfp:s2.heap.objs.size ∉ fp:=fun z=>absurd (hfo _ z) (Nat.lt_irrefl _)
 have I4:=uO (tk:=s3.toks+([]:List (Str×Value)).length) S hN hsc I3 f2 (fun b hb=>by rw [hsz];exact Nat.lt_succ_of_lt (hfo b hb)) (D:=s2.heap.objs.size) (by rw [hsz];exact Nat.lt_succ_self _) fD hns₁ hk31 hcl₁
 have stat:∀ {H':Hp} {ob:Obj},(∀ b∈fp,H' b=none)→∀ b∈fp,iH (lU X N' scope s3.heap.objs.size s3 H2 (s2.heap.objs.size :: fp)) [(s2.heap.objs.size,ob)] H' b:=fun {H' ob} hn b hb=>by
  obtain ⟨q1,q2⟩:=I4.ok.exf b (List.mem_cons_of_mem _ hb)
  refine ⟨hn b hb,q1,I4.ok.exfs b (List.mem_cons_of_mem _ hb),.inl (List.mem_cons_of_mem _ hb),q2,fun p hp z=>?_⟩
  have hp':p=(s2.heap.objs.size,ob):=by simpa [lU] using hp
  subst hp'
  have z':s2.heap.objs.size=b:=z
  exact hDfp (by rw [z'];exact hb)
 generalize hXC:lU X N' scope s3.heap.objs.size s3 H2 (s2.heap.objs.size :: fp)=XC at I4 stat
 have eP:XC.prog=X.prog:=by rw [← hXC];rfl
 have eW:XC.w=X.w:=by rw [← hXC];rfl
 have eK:XC.K=X.K:=by rw [← hXC];rfl
 have eA:XC.A=X.A:=by rw [← hXC];rfl
 have eE:XC.env=compEnvC scope (Cj X scope s3.heap.objs.size) s3.heap.objs.size X.env:=by rw [← hXC];rfl
 have eC:XC.calm=true:=by rw [← hXC];exact hc
 have eX:XC.xe=fun _ _=>False:=by rw [← hXC];rfl
 have eH:XC.H₀=H2:=by rw [← hXC];rfl
 have eS:XC.s₀=s3:=by rw [← hXC];rfl
 have eF:XC.fs=frs X.stack:=by rw [← hXC];rfl
 have eEx:XC.ex=s2.heap.objs.size :: fp:=by rw [← hXC];rfl
 have ePn:XC.pn=[]:=by rw [← hXC];rfl
 have hgC:PG XC tg g:=by rw [← hXC];exact hg _ _ _ _
 have htC:vR XC ifs tt:=by rw [← hXC];exact ht _ _ _ _
 have heC:PE XC elt te:=by rw [← hXC];exact he _ _ _ _
 have pinD:∀ {σ':St} {H':Hp} {s':Shared} {ob:Obj},Inv XC [] σ' H' s'→H' s2.heap.objs.size=none→s'.heap.get? s2.heap.objs.size=some ob→(∀ v,ob.data≠.cell v)→Inv XC [(s2.heap.objs.size,ob)] σ' H' s':=fun {σ' H' s' ob} J hn hg hd=>
  J.pins_of fun p hp=>by
   have hp':p=(s2.heap.objs.size,ob):=by simpa using hp
   subst hp'
   refine ⟨hg,hn,(J.ok.exf _ (by rw [eEx];exact List.mem_cons_self)).1,J.ok.exfs _ (by rw [eEx];exact List.mem_cons_self),hd⟩
 have loop:codeAny (model X.prog X.w) X.A (.compLoop (.ListComp elt [⟨tg,iter,ifs,0⟩] scope pos) 0 (.ref it) (.ref s2.heap.objs.size) (compEnvC scope (Cj X scope s3.heap.objs.size) s3.heap.objs.size X.env))
   (compPost (model X.prog X.w) X.A X.xe use R (.ref s2.heap.objs.size) s3.heap.objs.size) {s3 with heap:=h₁,toks:=s3.toks+([]:List (Str×Value)).length}:=by
  refine uN (fun n s'=>∃ (i:Nat) (ys:List V) (its:List Value) (nn:Nat) (H':Hp),Inv XC [] (dG sub σ) H' s'∧tn i s'.heap∧(∀ b∈fp,H' b=none)∧H' s2.heap.objs.size=none∧
   s'.heap.get? s2.heap.objs.size=some {cls:=.type "list",data:=.seq its.toArray nn}∧Vals ys its∧W i n ys H') ?_ m0
   ⟨0,[],[],_,H2,I4,T.keep _ _ _ st2 fun b _ o e=>hk31 b o (k23 b o e),fun b hb=>(f2 b hb).1,hDn,hk31 _ _ hD3,.nil,w0⟩
  rintro n s4 ⟨i,ys,its,nn,H4,J4,st4,fr4,dn4,dg4,rv4,w4⟩
  have P4:=pinD J4 dn4 dg4 (fun v z=>by cases z)
  rcases turn i n ys H4 w4 with ⟨stop,hyl,qn⟩ | ⟨go,hyl,N,hN,step⟩
  ·have hdone:=T.done XC eP eW eK eC i _ s4 _ H4 (fun _ _=>False) P4 (stat fr4) st4 stop
   rw [eA] at hdone
   refine wpAny_mono hdone (fun r s5 ⟨hr,I5⟩=>?_) fun _ _ z=>z
   subst hr
   obtain ⟨m,hn,_⟩:=id I5.loc
   have hCe:XC.env.locals=s3.heap.objs.size:=by rw [eE];rfl
   rw [hCe] at hn
   have hDg:=(I5.pin (s2.heap.objs.size,_) (by rw [ePn];exact List.mem_cons_self)).1
   have hDne:s2.heap.objs.size≠s3.heap.objs.size:=by rw [hsz];exact Nat.ne_of_lt (Nat.lt_succ_self _)
   have hHC:H4 s3.heap.objs.size=none:=by have:=I5.free;rw [hCe] at this;exact this
   have k56:∀ b o,b≠s3.heap.objs.size→s5.heap.get? b=some o→s5.heap.get? b=some o:=fun b o hb e=>e
   have un:=I5.base
   rw [eF,eEx,eH,eS] at un
   have nC:∀ b o,s3.heap.get? b=some o→b≠s3.heap.objs.size:=fun b o e=>Nat.ne_of_lt (Heap.lt_size e)
   have hok6:HOk X.prog X.w (upd H4 s2.heap.objs.size (.lst ys)) s5.heap:=by
    have h5:=I5.hok
    rw [eP,eW] at h5
    have Je:∀ b u,H4 b=some u→b≠s3.heap.objs.size:=fun b u e z=>by rw [z,hHC] at e;cases e
    intro b u e
    by_cases hb:b=s2.heap.objs.size
    ·subst hb
     rw [ao] at e;cases e
     exact ⟨hyl,its,nn,rv4,k56 _ _ hDne hDg⟩
    ·rw [aB hb] at e
     have nD:∀ c u,H4 c=some u→c≠s2.heap.objs.size:=fun c u e z=>by rw [z,dn4] at e;cases e
     refine (h5 b u e).stay (fun c v hc' q=>k56 c v ?_ q) (fun c q=>by rw [aB (nD c _ q)];exact q) fun c xs q=>by rw [aB (nD c _ q)];exact q
     rcases hc' with z | z
     ·rw [z];exact Je b u e
     ·exact Je c _ z
   have nD2:∀ c u,H4 c=some u→c≠s2.heap.objs.size:=fun c u e z=>by rw [z,dn4] at e;cases e
   have un6:Un (frs X.stack) (s2.heap.objs.size :: fp) H2 (upd H4 s2.heap.objs.size (.lst ys)) s3.heap s5.heap:=
    ⟨fun b o e nn' hb hx=>k56 b o (nC b o e) (un.keep b o e nn' hb hx),fun b o e nn' hb hx=>let ⟨sl,q⟩:=un.slot b o e nn' hb hx;⟨sl,k56 b _ (nC b o e) q⟩,
     fun b o e nn' hx=>by rw [aB (fun z=>hx (by rw [z];exact List.mem_cons_self))];exact un.free b o e nn' hx,
     fun b o e hx=>let ⟨o',q⟩:=un.there b o e hx;⟨o',k56 b o' (nC b o e) q⟩,
     fun b xs e=>by have q:=un.tups b xs e;rw [aB (nD2 b _ q)];exact q,
     fun b o u e=>by have q:=un.frzs b o u e;rw [aB (nD2 b _ q)];exact q,
     fun b ps e=>let ⟨more,q⟩:=un.tbls b ps e;⟨more,by rw [aB (nD2 b _ q)];exact q⟩⟩
   have I6:Inv X pins σ (upd H4 s2.heap.objs.size (.lst ys)) s5:=by
    refine I3.call' (s':=s5) (ch:=s2.heap.objs.size :: fp) ?_ un6 hok6 I5.bare fun b hb=>?_
    ·show s5.os=s3.os
     have:=I5.os
     rw [eS] at this
     exact this
    ·have q:iH X pins H2 b:=by
      rcases List.mem_cons.mp hb with rfl | z
      ·exact fD
      ·exact f2 b z
     obtain ⟨f0,f1,f2',f3,f4,f5⟩:=q
     exact ⟨f3,f1,f4,f5⟩
   have dC:upd H4 s2.heap.objs.size (.lst ys) s3.heap.objs.size=none:=by rw [aB (Ne.symm hDne)];exact hHC
   exact hend _ _ s5 _ m I6 (I3.fpOk (Nat.le_refl _) dC) hn (qn _ dn4)
  ·have hitem:=T.item XC eP eW eK eC i _ s4 _ H4 (fun _ _=>False) P4 (stat fr4) st4 go
   rw [eA] at hitem
   refine wpAny_mono hitem (fun r s5 ⟨u,hr,h5⟩=>?_) fun _ _ z=>z
   subst hr
   dsimp only
   refine wpAny_mono h5 (fun _ s6 ⟨x,H6,I6,r6,y6,st6,fr6⟩=>?_) fun _ _ z=>z
   have P6:=I6.pinned (stat fr6) (T.obj _ _ st6)
   rw [← eE,← eP,← eW,← eA]
   refine wpAny_mono (hgC _ s6 _ H6 x u _ P6 r6 (step x H6 y6)) (fun _ s7 ⟨σ7,H7,I7,kp7,q7⟩=>?_) fun _ _ z=>by rw [eX] at z;exact z
   refine wpAny_mono (htC _ s7 σ7 H7 _ I7 q7) (fun ok s8 ⟨H8,I8,q8⟩=>?_) fun _ _ z=>by rw [eX] at z;exact z
   have fin:∀ {H9:Hp} {s9:Shared},Inv XC ([(s2.heap.objs.size,({cls:=.type "list",data:=.seq its.toArray nn}:Obj))] ++ pG fp s6.heap) σ7 H9 s9→Inv XC [] (dG sub σ) H9 s9∧tn (i+1) s9.heap∧(∀ b∈fp,H9 b=none)∧H9 s2.heap.objs.size=none∧
     s9.heap.get? s2.heap.objs.size=some {cls:=.type "list",data:=.seq its.toArray nn}:=fun {H9 s9} J=>by
    have pD:=J.pin (s2.heap.objs.size,({cls:=.type "list",data:=.seq its.toArray nn}:Obj)) (by rw [ePn];simp)
    have pF:∀ b∈fp,∀ o,s6.heap.get? b=some o→s9.heap.get? b=some o∧H9 b=none:=fun b hb o e=>by
     have q:=J.pin (b,o) (by rw [ePn];exact List.mem_append_right _ (List.mem_append_right _ (jm hb e)))
     exact ⟨q.1,q.2.1⟩
    refine ⟨?_,T.keep _ _ _ st6 fun b hb o e=>(pF b hb o e).1,fun b hb=>?_,pD.2.1,pD.1⟩
    ·have J0:Inv XC [] σ7 H9 s9:=J.pins_of fun p hp=>nomatch hp
     exact J0.weak kp7.1.symm fun j v e=>kp7.2 j v e
    ·obtain ⟨o,e,_⟩:=T.obj _ _ st6 b hb
     exact (pF b hb o e).2
   cases ok with
   | false=>
    rw [if_neg (by simp)]
    rw [if_neg (by simp)] at q8
    obtain ⟨m',hm,w8⟩:=hN _ _ q8
    obtain ⟨a1,a2,a3,a4,a5⟩:=fin I8
    exact ⟨m',hm,i+1,ys,its,nn,H8,a1,a2,a3,a4,a5,rv4,w8⟩
   | true=>
    rw [if_pos rfl]
    rw [if_pos rfl] at q8
    refine wpAny_mono (heC _ s8 σ7 H8 _ I8 q8) (fun xv s9 ⟨y,H9,I9,r9,n9⟩=>?_) fun _ _ z=>by rw [eX] at z;exact z
    obtain ⟨m',hm,w9⟩:=hN _ _ n9
    obtain ⟨a1,a2,a3,a4,a5⟩:=fin I9
    refine wpAny_list_append_plain (items:=its.toArray) ⟨nn,a5⟩ (fun h' ⟨n',hp'⟩ sb=>?_) (by simp;rw [← rv4.length];omega)
    obtain ⟨q1,q2⟩:=I4.ok.exf s2.heap.objs.size (by rw [eEx];exact List.mem_cons_self)
    have a1':Inv XC [] (dG sub σ) H9 {s9 with heap:=h'}:=a1.turned (t':=s9.toks) (fun b o hb e=>(sb.2 b hb).trans e) a4 q1 (.inl (by rw [eEx];exact List.mem_cons_self)) q2 (fun p hp=>by rw [ePn] at hp;exact nomatch hp)
    refine ⟨m',hm,i+1,ys ++ [y],its ++ [xv],n',H9,a1',T.keep _ _ _ a2 fun b hb o e=>(sb.2 b (fun z=>hDfp (by rw [← z];exact hb))).trans e,a3,a4,?_,rv4.append (.cons r9 .nil),w9⟩
    rw [hp']
    simp
 subst hs3
 exact codeAny_compStart_list loop (T.self _ 0 _ _ _ (T.keep _ _ _ st2 fun b _ o e=>hk31 b o (k23 b o e)) loop)
theorem zb {N:List Str} {sc:Scope} {i:Nat} {x:Str} {pos' spos:Pos} (hNd:X.N.Nodup) (hxi:X.N[i]?=some x) (hx:Loc X.env.scope x) (hf:X.fn x=true) (S:qJ N sc N' scope sub) (hc:X.calm=true) (hN:X.N=N) (hsc:X.env.scope=sc) (hi:PI X tg iter wi)
  (hg:∀ (C:Addr) (s₀:Shared) (H₀:Hp) (ex:List Addr),PG (lU X N' scope C s₀ H₀ ex) tg g)
  (ht:∀ (C:Addr) (s₀:Shared) (H₀:Hp) (ex:List Addr),vR (lU X N' scope C s₀ H₀ ex) ifs tt)
  (he:∀ (C:Addr) (s₀:Shared) (H₀:Hp) (ex:List Addr),PE (lU X N' scope C s₀ H₀ ex) elt te)
  (hs:∀ x,foldedSetIterable iter X.env x=pure x):PS X (.Assign [.Name x pos'] (.ListComp elt [⟨tg,iter,ifs,0⟩] scope pos) spos) (vL (sG sub wi g tt te) (lY i)):=by
 intro pins s σ H D I h
 have hsw:∃ b,swapsWith (.ListComp elt [⟨tg,iter,ifs,0⟩] scope pos) (some (.Name x pos')) spos.line X.env=pure b:=⟨_,rfl⟩
 obtain ⟨b,hsw⟩:=hsw
 cases b with
 | false=>exact Eh hNd hxi hx (Ad S hc hN hsc hi hg ht he hs) hsw (.inl hf) pins s σ H D I h
 | true=>
  rw [exec_Assign_Name_used _ _ _ _ hsw]
  refine wpAny_bind (wpAny_standAt (wpAny_bind ?_))
  show wpAny _ X.A (do let _ ← comprehension (.ListComp elt [⟨tg,iter,ifs,0⟩] scope pos) scope X.env _ (newList []) false (eval iter X.env) (some (assign (.Name x pos') X.env))) _ _ s
  refine wpAny_bind (wpAny_mono (Gn (use:=some (assign (.Name x pos') X.env)) (R:=fun _ s'=>SP X pins D .next s') S hc hN hsc hi hg ht he hs pins s σ H _ I h ?_) (fun _ s' hq=>wpAny_pure (wpAny_pure hq)) fun _ _ e=>e)
  intro Da C s5 H5 m I5 fC hn q
  show wpAny _ X.A (assign (.Name x pos') X.env (.ref Da)) _ _ _
  refine wpAny_assign_Name (uE I5 hNd hxi hx (v:=.ref Da) rfl (fun s6 I6 qq0=>?_) (.inl hf))
  obtain ⟨a,sb,ha⟩:=qq0
  obtain ⟨f0,f1,f2,f3,f4,f5⟩:=fC
  have hCa:C≠a:=fun z=>by
   rcases ha with e | e
   ·exact f1 (z.trans e)
   ·exact f4 x a e z.symm
  exact ⟨m,hn.sameBut sb hCa,fun h' hs'=>⟨_,H5,I6.turned (t':=s6.toks) (fun b o hb e=>hs'.extBut b o hb e) f0 f1 f3 f4 f5,q⟩⟩
end
section
variable {X:Cx} {tg iter elt:Expr} {ifs:List Expr} {scope:Scope} {pos:Pos} {N':List Str} {sub:List (Option Nat)} {wi:TI} {g:TG} {tt:TT} {te:TE} {N:List Str} {sc:Scope}
theorem rD {i:Nat} {x:Str} {pos' spos:Pos} (hNd:X.N.Nodup) (hxi:X.N[i]?=some x) (hx:Loc X.env.scope x) (S:qJ N sc N' scope sub) (hc:X.calm=true) (hN:X.N=N) (hsc:X.env.scope=sc) (hi:JI X tg iter wi)
  (hg:∀ (C:Addr) (s₀:Shared) (H₀:Hp) (ex:List Addr),JG (lU X N' scope C s₀ H₀ ex) tg g)
  (ht:∀ (C:Addr) (s₀:Shared) (H₀:Hp) (ex:List Addr),Ka (lU X N' scope C s₀ H₀ ex) ifs tt)
  (he:∀ (C:Addr) (s₀:Shared) (H₀:Hp) (ex:List Addr),JE (lU X N' scope C s₀ H₀ ex) elt te) (hf:X.fn x=true) (h:autoParam (pK iter=true) L2.auto4._auto_1):
  JS X (.Assign [.Name x pos'] (.ListComp elt [⟨tg,iter,ifs,0⟩] scope pos) spos) (vL (sG sub wi g tt te) (lY i)):=
 ⟨zb hNd hxi hx hf S hc hN hsc hi.run (fun C s₀ H₀ ex=>(hg C s₀ H₀ ex).run) (fun C s₀ H₀ ex=>(ht C s₀ H₀ ex).run) (fun C s₀ H₀ ex=>(he C s₀ H₀ ex).run) (FQ h)⟩
end
end L2
namespace L2
open PySem PySem.Spec PyProof.Rows
section
variable {X:Cx} {pins:List (Addr×Obj)} {σ:St} {H:Hp} {s:Shared}
theorem Inv.newtup {wr:List Addr} {T:Addr} {vals:Array Value} {xs:List V} {h'':Heap} {tk:Nat} (I:Inv X pins σ H s) (hf:∀ b∈wr,iH X pins H b) (hT:s.heap.objs.size≤T)
  (kall:∀ b o,b ∉ wr→s.heap.get? b=some o→h''.get? b=some o) (isT':h''.IsTuple T vals) (hv:Vals xs vals.toList) (hx:xs.length≤sizeLine):Inv X pins σ (upd H T (.tup xs)) {s with heap:=h'',toks:=tk}:=by
 have hTn:H T=none:=I.hok.fresh hT
 have nT:∀ b o,s.heap.get? b=some o→b≠T:=fun b o e=>Nat.ne_of_lt (Nat.lt_of_lt_of_le (Heap.lt_size e) hT)
 have nTH:∀ b u,H b=some u→b≠T:=fun b u e z=>by rw [z,hTn] at e;cases e
 have nW:∀ b u,H b=some u→b ∉ wr:=fun b u e hb=>by rw [(hf b hb).1] at e;cases e
 refine I.step (g':=s.gens) (d':=s.drawn) (ch:=wr) (fun b hb=>?_) (fun b o _ _ hc e _=>kall b o hc e) (fun b o _ _ hc e _=>⟨o.slots,kall b o hc e⟩) (fun b o _ e hn=>by rw [aB (nT b o e)];exact hn)
  (fun b o hc e=>⟨o,kall b o hc e⟩) (fun b ys e=>by rw [aB (nTH b _ e)];exact e) (fun b o u e=>by rw [aB (nTH b _ e)];exact e) (fun b ps e=>⟨#[],by rw [aB (nTH b _ e),e];simp⟩) (fun m hm=>?_) (fun b u e=>?_) I.bare
 ·obtain ⟨f0,f1,f2,f3,f4,f5⟩:=hf b hb
  exact ⟨f3,f1,f4,f5⟩
 ·obtain ⟨o,es,ep,ho,r⟩:=hm
  exact ⟨o,es,ep,kall _ o (fun hb=>(hf _ hb).2.1 rfl) ho,r⟩
 ·by_cases hb:b=T
  ·subst hb
   rw [ao] at e;cases e
   obtain ⟨o,ho,hcl,nn,hd⟩:=isT'
   exact ⟨hx,vals.toList,hv,o,ho,hcl,nn,by simpa using hd⟩
  ·rw [aB hb] at e
   refine (I.hok b u e).stay (fun c v hc' q=>kall c v ?_ q) (fun c q=>by rw [aB (nTH c _ q)];exact q) fun c ys q=>by rw [aB (nTH c _ q)];exact q
   rcases hc' with z | z
   ·rw [z];exact nW b u e
   ·exact nW c _ z
theorem Inv.only {wr:List Addr} {h':Heap} {tk:Nat} (I:Inv X pins σ H s) (hf:∀ b∈wr,iH X pins H b) (kk:∀ b o,b ∉ wr→s.heap.get? b=some o→h'.get? b=some o):Inv X pins σ H {s with heap:=h',toks:=tk}:=by
 have nW:∀ b u,H b=some u→b ∉ wr:=fun b u e hb=>by rw [(hf b hb).1] at e;cases e
 refine I.step (g':=s.gens) (d':=s.drawn) (ch:=wr) (fun b hb=>?_) (fun b o _ _ hc e _=>kk b o hc e) (fun b o _ _ hc e _=>⟨o.slots,kk b o hc e⟩) (fun b o _ e hn=>hn)
   (fun b o hc e=>⟨o,kk b o hc e⟩) (fun b ys e=>e) (fun b o u e=>e) (fun b ps e=>⟨#[],by rw [e];simp⟩) (fun m hm=>?_) (fun b u e=>?_) I.bare
 ·obtain ⟨f0,f1,f2,f3,f4,f5⟩:=hf b hb
  exact ⟨f3,f1,f4,f5⟩
 ·obtain ⟨o,es,ep,ho,r⟩:=hm
  exact ⟨o,es,ep,kk _ o (fun hb=>(hf _ hb).2.1 rfl) ho,r⟩
 ·refine (I.hok b u e).stay (fun c v hc' q=>kk c v ?_ q) (fun c q=>q) fun c ys q=>q
  rcases hc' with z | z
  ·rw [z];exact nW b u e
  ·exact nW c _ z
end
def Kh (K:PySem.W.Frag) (a:Addr):It:=
 ⟨fun i H=>∃ xs x,SqL K H a xs∧xs[i]?=some x,
  fun i H v H'=>∃ T x,H T=none∧v= .ref T∧(∀ xs,SqL K H a xs→xs[i]?=some x)∧H'=upd H T (.tup [.int i,x]),
  fun i H=>∃ xs,SqL K H a xs∧xs.length≤i⟩
theorem sY {P:Program} {w:World} {K:PySem.W.Frag} {elts:List Expr} {k:Nat} {pos:Pos} {e it a:Addr} (hne:e≠it):
  Turn P w K (.Tuple elts k pos) (Kh K a) [e,it] e (fun i h=>(∃ old,IsEnum h e it i old)∧h.IsListIter it a i) where
 mem:=by simp
 obj:=fun i h st c hc=>by
  obtain ⟨⟨old,he⟩,⟨o1,e1,c1,d1⟩⟩:=st
  simp only [List.mem_cons,List.mem_nil_iff,or_false] at hc
  rcases hc with rfl | rfl
  ·exact ⟨_,he,fun v z=>by cases z⟩
  ·exact ⟨_,e1,fun v z=>by rw [d1] at z;cases z⟩
 keep:=fun i h h' st kk=>by
  obtain ⟨⟨old,he⟩,h1⟩:=st
  exact ⟨⟨old,kk e (by simp) _ he⟩,h1.at fun o q=>kk it (by simp) o q⟩
 item:=by
  intro X hP hw hK hc i pins s σ H E I hf st hg
  subst hP hw hK
  obtain ⟨⟨old,he⟩,h1⟩:=st
  obtain ⟨xs,x,hq,hx⟩:=hg
  obtain ⟨its,rv,p,_⟩:=I.list hq
  obtain ⟨u,hu,ru⟩:=rv.get hx
  refine wpAny_pyNext_enum_item he h1 p.isList (x:=u) (by simpa using hu) hne fun h' a1 a2 a3 a4 hk=>?_
  refine ⟨_,rfl,wpAny_letOwnedTupleGo_enum a1 fun h'' a1' sb=>?_⟩
  have lt:∀ {c o},s.heap.get? c=some o→s.heap.objs.size≠c:=fun e=>Nat.ne_of_gt (Heap.lt_size e)
  have lti:s.heap.objs.size≠it:=by obtain ⟨o,q,_⟩:=h1;exact lt q
  have isT:h''.IsTuple s.heap.objs.size #[.int i s.toks,u]:=⟨_,sb.extBut _ _ (lt he) a3,rfl,_,rfl⟩
  have kall:∀ b o,b ∉ [e,it]→s.heap.get? b=some o→h''.get? b=some o:=fun b o hb q=>by
   simp only [List.mem_cons,List.mem_nil_iff,or_false,not_or] at hb
   exact sb.extBut _ _ hb.1 (hk b o hb.1 hb.2 q)
  have hTn:H s.heap.objs.size=none:=I.hok.fresh (Nat.le_refl _)
  refine ⟨.ref s.heap.objs.size,_,I.newtup (tk:=s.toks+1) hf (Nat.le_refl _) kall isT (xs:=[.int i,x]) (.cons ⟨_,rfl⟩ (.cons ru .nil)) (by simp;decide),rfl,⟨_,x,hTn,rfl,fun zs hs=>by rw [I.list_inj hs hq];exact hx,rfl⟩,?_,fun b hb=>?_⟩
  ·exact ⟨⟨_,a1'⟩,a2.extBut sb.extBut (Ne.symm hne)⟩
  ·have:s.heap.objs.size≠b:=by
    simp only [List.mem_cons,List.mem_nil_iff,or_false] at hb
    rcases hb with rfl | rfl
    ·exact lt he
    ·exact lti
   rw [aB (Ne.symm this)]
   exact (hf b hb).1
 done:=by
  intro X hP hw hK hc i pins s σ H E I hf st hg
  subst hP hw hK
  obtain ⟨⟨old,he⟩,h1⟩:=st
  obtain ⟨xs,hq,hx⟩:=hg
  obtain ⟨its,rv,p,_⟩:=I.list hq
  have l1:=rv.length
  refine wpAny_pyNext_enum_end (I.ok.hd hc) he h1 p.isList (by simp;omega) fun h' hk=>⟨rfl,I.only (tk:=s.toks) hf fun b o hb q=>?_⟩
  simp only [List.mem_cons,List.mem_nil_iff,or_false,not_or] at hb
  exact hk b o hb.2 q
 self:=fun _ _ _ _ _ st h=>let ⟨⟨_,he⟩,_⟩:=st;wpAny_pyIter_enum he h
theorem vg {X:Cx} {elts:List Expr} {k:Nat} {tp:Pos} {pins:List (Addr×Obj)} {σ:St} {H1:Hp} {s1:Shared} {x:Str} {t:Tok} {R:It→Hp→Prop} (hc:X.calm=true) (I1:Inv X pins σ H1 s1) (q:R (Kd (jZ x) x.cps.size) H1):
  wpAny (model X.prog X.w) X.A (call (.type "enumerate") [.str x t]) (fun v s1=>wpAny (model X.prog X.w) X.A (pyIter v) (PIE X pins σ (.Tuple elts k tp) R) X.xe s1) X.xe s1:=by
 refine call_enumerate_str fun h' he hit hsz hk=>?_
 have J1:Inv X pins σ H1 {s1 with heap:=h'}:=I1.kept (t':=s1.toks) hk
 have ne1:s1.heap.objs.size+1≠s1.heap.objs.size:=Nat.succ_ne_self _
 have nm:s1.heap.objs.size+1 ∉ [s1.heap.objs.size]:=fun z=>ne1 (List.mem_singleton.mp z)
 have hPt:∀ (i:Nat) (vals:Array Value),(∃ t y,SignAt x i y∧vals= #[.int i t,y])→Vals (jZ x i) vals.toList:=by
  rintro i vals ⟨t,y,⟨c,u,e1,rfl⟩,rfl⟩
  refine .cons ⟨t,rfl⟩ (.cons ⟨u,?_⟩ .nil)
  rw [show x.cps.getD i 0=c by simp [Array.getD_eq_getD_getElem?,e1]]
 have fin:∀ (ty:String) (Dr:∀ A:Around,A.handled=none→Draws X.prog X.w A s1.heap.objs.size [s1.heap.objs.size] x.cps.size (SignAt x) fun i h=>h.IsStrIter s1.heap.objs.size ty x t i),h'.IsStrIter s1.heap.objs.size ty x t 0→
   wpAny (model X.prog X.w) X.A (pyIter (.ref (s1.heap.objs.size+1))) (PIE X pins σ (.Tuple elts k tp) R) X.xe {s1 with heap:=h'}:=by
  intro ty Dr hit'
  have W:∀ A:Around,A.handled=none→WalksT X.prog X.w A (s1.heap.objs.size+1) [s1.heap.objs.size+1,s1.heap.objs.size] [s1.heap.objs.size+1,s1.heap.objs.size] x.cps.size
    (fun i vals=>∃ t y,SignAt x i y∧vals= #[.int i t,y]) (fun i h=>(∃ old,IsEnum h (s1.heap.objs.size+1) s1.heap.objs.size i old)∧h.IsStrIter s1.heap.objs.size ty x t i)
    (fun i T h=>(∃ y,IsEnumOut h (s1.heap.objs.size+1) s1.heap.objs.size ((i:Int)+1) y T)∧h.IsStrIter s1.heap.objs.size ty x t (i+1)∧T≠s1.heap.objs.size+1∧T≠s1.heap.objs.size):=
   fun A hA=>WalksT.enumerateD (Dr A.in1 hA) (s1.heap.objs.size+1) ne1 nm (by simp)
  have hself:∀ (A:Around) (i:Nat) (s:Shared) (Q:Value→Shared→Prop) (E:Value→Shared→Prop),((∃ old,IsEnum s.heap (s1.heap.objs.size+1) s1.heap.objs.size i old)∧s.heap.IsStrIter s1.heap.objs.size ty x t i)→Q (.ref (s1.heap.objs.size+1)) s→wpAny (model X.prog X.w) A (pyIter (.ref (s1.heap.objs.size+1))) Q E s:=by
   rintro A i s Q E ⟨⟨old,he⟩,_⟩ hQ
   exact wpAny_pyIter_enum he hQ
  refine hself _ 0 _ _ _ ⟨⟨_,he⟩,hit'⟩ ?_
  refine ⟨s1.heap.objs.size+1,[s1.heap.objs.size+1,s1.heap.objs.size],_,_,H1,rfl,J1,Qa W (fun i=>by simp [jZ];decide) hPt (by simp) ?_ hself,⟨⟨_,he⟩,hit'⟩,fun b hb=>?_,q⟩
  ·rintro i h ⟨⟨old,he⟩,o,ho,hcl,hd⟩ b hb
   rcases List.mem_cons.mp hb with rfl | hb
   ·exact ⟨_,he,fun v z=>by cases z⟩
   ·rw [List.mem_singleton.mp hb]
    exact ⟨o,ho,fun v z=>by rw [hd] at z;cases z⟩
  ·have hb':s1.heap.objs.size≤b:=by
    rcases List.mem_cons.mp hb with rfl | hb
    ·exact Nat.le_succ _
    ·rw [List.mem_singleton.mp hb];exact Nat.le_refl _
   exact I1.fpOk hb' (I1.hok.fresh hb')
 cases hx:x.cps.all (· < 128)
 ·exact fin "str_iterator" (fun A hA=>Draws.strWide hA _ x t) (by simpa [strIterType,hx] using hit)
 ·exact fin "str_ascii_iterator" (fun A hA=>Draws.strAscii hA _ x t) (by simpa [strIterType,hx] using hit)
def MK (K:PySem.W.Frag) (ta:TA):TI:=fun σ H R=>ta σ H fun vs H1=>(∃ x:Str,vs=[.str x]∧R (Kd (jZ x) x.cps.size) H1)∨∃ a xs,vs=[.ref a]∧SqL K H1 a xs∧R (Kh K a) H1
theorem vX {X:Cx} {K:PySem.W.Frag} {a:Expr} {ta:TA} {elts:List Expr} {k:Nat} {tp p pos:Pos} (hK:X.K=K) (hc:X.calm=true) (hg:Gl X "enumerate") (hm:X.mg "enumerate"=none) (ha:JA X [a] ta) (h:autoParam (notStar a=true) L2.auto4._auto_1):
  JI X (.Tuple elts k tp) (.Call (.Name "enumerate" p) [a] [] pos) (MK K ta):=⟨by
 subst hK
 intro pins s σ H R I hq
 refine Call_ (pC I hg hm oF (PyProof.Rows.callWith_type1 (d8 (ha.run pos pins s σ H _ I hq) fun us s1 qq0=>?_) (eY h) rfl))
 obtain ⟨vs,H1,I1,r1,q1⟩:=qq0
 rcases q1 with ⟨x,e,q⟩ | ⟨l,xs,e,hl,q⟩
 ·subst e
  obtain ⟨u,rfl,t,rfl⟩:=vals1 r1
  exact vg hc I1 q
 ·subst e
  obtain ⟨u,rfl,ru⟩:=vals1 r1
  cases ru
  obtain ⟨its,rv,p1,_⟩:=I1.list hl
  refine call_enumerate_list p1.isList fun h' z1 z2 z3 hk=>?_
  have J1:Inv X pins σ H1 {s1 with heap:=h'}:=I1.kept (t':=s1.toks) hk
  refine wpAny_pyIter_enum z1 ?_
  refine ⟨s1.heap.objs.size+1,_,_,_,H1,rfl,J1,sY (Nat.succ_ne_self _),⟨⟨_,z1⟩,z2⟩,fun b hb=>?_,q⟩
  have hb':s1.heap.objs.size≤b:=by
   simp only [List.mem_cons,List.mem_nil_iff,or_false] at hb
   have key:∀ n c:Nat,(c=n+1∨c=n)→n≤c:=fun n c h=>by omega
   exact key _ _ hb
  exact I1.fpOk hb' (I1.hok.fresh hb')⟩
end L2
namespace L2
open PySem PySem.Spec PyProof.Rows PySem.SeqAt
mutual
def DR (H:Hp):PyData→V→Prop
 | .none,v=>v= .non
 | .bool b,v=>v= .bl b
 | .int n,v=>v= .int n
 | .str x,v=>v= .str x
 | .list ds,v=>∃ a vs,v= .ref a∧H a=some (.lst vs)∧DRs H ds vs
 | .tuple ds,v=>∃ a vs,v= .ref a∧H a=some (.tup vs)∧DRs H ds vs
 | .dict _,_=>False
def DRs (H:Hp):List PyData→List V→Prop
 | [],vs=>vs=[]
 | d :: ds,vs=>∃ v r,vs=v :: r∧DR H d v∧DRs H ds r
end
theorem vY {H:Hp} {n:Int} {v:V}:DR H (.int n) v↔v= .int n:=by rw [DR]
theorem lu {H:Hp} {ds:List PyData} {v:V}:DR H (.list ds) v↔∃ a vs,v= .ref a∧H a=some (.lst vs)∧DRs H ds vs:=by rw [DR]
theorem sZ {H:Hp} {ds:List PyData} {v:V}:DR H (.tuple ds) v↔∃ a vs,v= .ref a∧H a=some (.tup vs)∧DRs H ds vs:=by rw [DR]
theorem cJ {H:Hp} {vs:List V}:DRs H [] vs↔vs=[]:=by rw [DRs]
theorem cT {H:Hp} {d:PyData} {ds:List PyData} {vs:List V}:DRs H (d :: ds) vs↔∃ v r,vs=v :: r∧DR H d v∧DRs H ds r:=by rw [DRs]
theorem jt {H:Hp}:∀ {ds es:List PyData} {vs ws:List V},DRs H ds vs→DRs H es ws→DRs H (ds ++ es) (vs ++ ws)
 | [],_,_,_,h,q=>by rw [cJ] at h;subst h;exact q
 | d :: ds,_,_,_,h,q=>by
  rw [cT] at h
  obtain ⟨v,r,rfl,hd,hr⟩:=h
  exact cT.mpr ⟨v,r ++ _,rfl,hd,jt hr q⟩
theorem vZ {H:Hp} {d:PyData} {v:V} (h:DR H d v):DRs H [d] [v]:=cT.mpr ⟨v,[],rfl,h,cJ.mpr rfl⟩
theorem oK {H:Hp}:∀ {ds:List PyData} {vs:List V},DRs H ds vs→vs.length=ds.length
 | [],_,h=>by rw [cJ] at h;subst h;rfl
 | d :: ds,_,h=>by rw [cT] at h;obtain ⟨v,r,rfl,_,hr⟩:=h;simp [oK hr]
theorem Gp {H:Hp}:∀ {ds:List PyData} {vs:List V} {i:Nat} {d:PyData},DRs H ds vs→ds[i]?=some d→∃ v,vs[i]?=some v∧DR H d v
 | [],_,_,_,_,e=>by simp at e
 | d :: ds,_,i,d',h,e=>by
  rw [cT] at h
  obtain ⟨v,r,rfl,hd,hr⟩:=h
  cases i with
  | zero=>simp at e;subst e;exact ⟨v,rfl,hd⟩
  | succ i=>simp at e;obtain ⟨u,h1,h2⟩:=Gp hr e;exact ⟨u,by simpa using h1,h2⟩
theorem xM {H:Hp}:∀ (ns:List Int),DRs H (ns.map PyData.int) (ns.map V.int)
 | []=>cJ.mpr rfl
 | n :: ns=>cT.mpr ⟨_,_,rfl,vY.mpr rfl,xM ns⟩
mutual
theorem DR.reads {P:Program} {w:World} {H:Hp} {h:Heap} (ok:HOk P w H h):∀ (d:PyData) (v:V) (u:Value),DR H d v→RelV v u→∃ as,Reads h u d as
 | .none,_,u,q,r=>by rw [DR] at q;subst q;cases r;exact ⟨_,.none⟩
 | .bool b,_,u,q,r=>by rw [DR] at q;subst q;cases r;exact ⟨_,.bool _⟩
 | .int n,_,u,q,r=>by rw [DR] at q;subst q;obtain ⟨t,rfl⟩:=r;exact ⟨_,.int _ _⟩
 | .str n,_,u,q,r=>by rw [DR] at q;subst q;obtain ⟨t,rfl⟩:=r;exact ⟨_,.str _ _⟩
 | .list ds,v,u,q,r=>by
  rw [DR] at q
  obtain ⟨a,vs,rfl,e,t⟩:=q
  cases r
  obtain ⟨_,its,n,rv,g⟩:=ok a _ e
  obtain ⟨as,ra⟩:=DRs.reads ok ds vs its t rv
  exact ⟨_,.list g rfl rfl (by simpa using ra)⟩
 | .tuple ds,v,u,q,r=>by
  rw [DR] at q
  obtain ⟨a,vs,rfl,e,t⟩:=q
  cases r
  obtain ⟨_,its,rv,g⟩:=ok a _ e
  obtain ⟨as,ra⟩:=DRs.reads ok ds vs its t rv
  obtain ⟨o,ho,hc,n,hd⟩:=g
  exact ⟨_,.tuple ho hc hd (by simpa using ra)⟩
 | .dict _,_,_,q,_=>by rw [DR] at q;exact q.elim
theorem DRs.reads {P:Program} {w:World} {H:Hp} {h:Heap} (ok:HOk P w H h):∀ (ds:List PyData) (vs:List V) (us:List Value),DRs H ds vs→Vals vs us→∃ as,ReadsAll h us ds as
 | [],_,us,q,r=>by rw [DRs] at q;subst q;cases r;exact ⟨_,.nil⟩
 | d :: ds,_,us,q,r=>by
  rw [DRs] at q
  obtain ⟨v,r',rfl,q1,q2⟩:=q
  cases r with
  | cons a b=>
   obtain ⟨as,h1⟩:=DR.reads ok d v _ q1 a
   obtain ⟨bs,h2⟩:=DRs.reads ok ds r' _ q2 b
   exact ⟨_,.cons h1 h2⟩
end
def Uj:R2:=fun x y H Q=>∃ d e,DR H d x∧DR H e y∧shaped d=true∧shaped e=true∧Q (.bl (PyData.eqv d e)) H
def Uk:R2:=fun x y H Q=>∃ d e,DR H d x∧DR H e y∧shaped d=true∧shaped e=true∧Q (.bl (!PyData.eqv d e)) H
section
variable {X:Cx}
theorem Qe (hu:X.A.units+64 < cLine):OpR X (compareOp .Eq) Uj:=by
 intro pins s σ H x y v u Q I rx ry h
 obtain ⟨d,e,h1,h2,h3,h4,q⟩:=h
 obtain ⟨as,r1⟩:=DR.reads I.hok d x v h1 rx
 obtain ⟨bs,r2⟩:=DR.reads I.hok e y u h2 ry
 exact eq_dataH r1 r2 h3 h4 hu ⟨.bl _,H,I,rfl,q⟩
theorem Qf (hu:X.A.units+64 < cLine):OpR X (compareOp .NotEq) Uk:=by
 intro pins s σ H x y v u Q I rx ry h
 obtain ⟨d,e,h1,h2,h3,h4,q⟩:=h
 obtain ⟨as,r1⟩:=DR.reads I.hok d x v h1 rx
 obtain ⟨bs,r2⟩:=DR.reads I.hok e y u h2 ry
 exact ne_dataH r1 r2 h3 h4 hu ⟨.bl _,H,I,rfl,q⟩
def Gq (K:PySem.W.Frag):R2:=fun x y H Q=>Ph K x y H Q∨Uj x y H Q
def Gr (K:PySem.W.Frag):R2:=fun x y H Q=>Ui K x y H Q∨Uk x y H Q
theorem ju {K:PySem.W.Frag} (hK:X.K=K) (hu:X.A.units+64 < cLine):OpR X (compareOp .Eq) (Gq K):=(Pq hK (Nat.lt_of_le_of_lt (Nat.le_add_right _ _) hu)).or (Qe hu)
theorem Qg {K:PySem.W.Frag} (hK:X.K=K) (hu:X.A.units+64 < cLine):OpR X (compareOp .NotEq) (Gr K):=(Qc hK hu).or (Qf hu)
end
section
variable {H:Hp} {Q:VK} {K:PySem.W.Frag} {σ:St}
theorem mL {i j:Int} (h:Q (.bl (decide (V.int i=V.int j))) H):Gq K (.int i) (.int j) H Q:=.inl (.inl ⟨rfl,h⟩)
theorem qi {i j:Str} (h:Q (.bl (decide (V.str i=V.str j))) H):Gq K (.str i) (.str j) H Q:=.inl (.inl ⟨rfl,h⟩)
theorem mO {i j:Int} (h:Q (.bl (!decide (V.int i=V.int j))) H):Gr K (.int i) (.int j) H Q:=.inl (.inl ⟨rfl,h⟩)
theorem mQ {i j:Str} (h:Q (.bl (!decide (V.str i=V.str j))) H):Gr K (.str i) (.str j) H Q:=.inl (.inl ⟨rfl,h⟩)
theorem mR {i j:Bool} (h:Q (.bl (!decide (V.bl i=V.bl j))) H):Gr K (.bl i) (.bl j) H Q:=.inl (.inl ⟨rfl,h⟩)
theorem Gs {x y:V} {d e:PyData} (h1:DR H d x) (h2:DR H e y) (hs:shaped d=true) (hs2:shaped e=true) (h:Q (.bl (PyData.eqv d e)) H):Gq K x y H Q:=.inr ⟨d,e,h1,h2,hs,hs2,h⟩
theorem lw {a:TA} {R:It→Hp→Prop} (h:a σ H fun vs H1=>(∃ x:Str,vs=[.str x]∧R (Kd (jZ x) x.cps.size) H1)∨∃ a xs,vs=[.ref a]∧SqL K H1 a xs∧R (Kh K a) H1):MK K a σ H R:=h
theorem CP {a:Addr} {xs:List V} {g:TG} {tb:TS} {D:Ends} (Pv:Nat→St→Hp→Prop) (h0:Pv 0 σ H) (hq:∀ i σ H,i≤xs.length→Pv i σ H→SqL K H a xs)
  (hs:∀ i σ H T x,xs[i]?=some x→Pv i σ H→H T=none→g (.ref T) σ (upd H T (.tup [.int i,x])) fun σ2 H2=>tb {D with nx:=Pv (i+1),ct:=Pv (i+1),bk:=D.nx} σ2 H2) (hd:∀ σ H,Pv xs.length σ H→D.nx σ H):
  ∃ W:Nat→Nat→St→Hp→Prop,(∃ m,W 0 m σ H)∧∀ i m σ H,W i m σ H→
   ((Kh K a).stop i H∧D.nx σ H)∨((Kh K a).go i H∧∃ N:St→Hp→Prop,(∀ σ' H',N σ' H'→∃ m',m' < m∧W (i+1) m' σ' H')∧∀ x H',(Kh K a).yld i H x H'→g x σ H' fun σ2 H2=>tb {D with nx:=N,ct:=N,bk:=D.nx} σ2 H2):=by
 refine ⟨fun i m σ H=>m=xs.length - i∧i≤xs.length∧Pv i σ H,⟨xs.length,by simp,Nat.zero_le _,h0⟩,?_⟩
 rintro i m σ H ⟨rfl,hi,p⟩
 have q1:=hq i σ H hi p
 by_cases hlt:i < xs.length
 ·refine .inr ⟨⟨xs,xs[i],q1,List.getElem?_eq_getElem hlt⟩,Pv (i+1),fun σ' H' p'=>⟨xs.length - (i+1),by omega,rfl,hlt,p'⟩,fun x H' y=>?_⟩
  obtain ⟨T,u,hT,e1,e2,e4⟩:=y
  subst e1 e4
  exact hs i σ H T u (e2 xs q1) p hT
 ·have e:i=xs.length:=by omega
  subst e
  exact .inl ⟨⟨xs,q1,Nat.le_refl _⟩,hd σ H p⟩
end
end L2
namespace L2
open PySem PySem.Spec PyProof.Rows
section
variable {prog:Program} {w:World} {A:Around} {E:Value→Shared→Prop} {s:Shared}
end
end L2
namespace L2
open PySem PySem.Spec PyProof.Rows
section
variable {X:Cx} {K:PySem.W.Frag} {a b c e:Expr} {ta tb tc te:TE} {pos p p2 p3:Pos}
theorem An {op op':CmpOp} {r r':R2} (ho:OpR X (compareOp op) r) (ho':OpR X (compareOp op') r') (ha:JE X a ta) (hb:JE X b tb) (hc:JE X c tc) (hm:autoParam (lastMarks [op,op'] [b,c]=false) L2.auto5._auto_1):
  JE X (.Compare a [op,op'] [b,c] pos) (yG r r' ta tb tc):=⟨Eo ho ho' ha.run hb.run hc.run hm⟩
end
end L2
namespace L2
open PySem PySem.Spec PyProof.Rows
def CQ (h:Heap) (T:Addr):Prop:=∃ oT ts,h.get? T=some oT∧oT.data= .fields ts∧3 < ts.size
def fj (C:Addr) (dd:Option Addr) (vs:Array Value):Obj:={cls:=.ref C,dict:=dd,data:=.fields vs}
def Kl (l:List Env):List Addr:=l.filterMap (·.frame)
section
variable {M:Model} {A:Around} {E:Value→Shared→Prop}
theorem vh {base:Heap} {env:Env} {outer:List Env} {L x C:Addr} {dd:Option Addr} {vs:Array Value} {hd:Value} {had:Bool} {Q:Unit→Shared→Prop} {s:Shared}
  (fr:A.frames=some (env :: outer)) (ff:s.heap.FunFrames base (env :: outer)) (fL:env.frame=some L) (ex:s.heap.get? x=some (fj C dd vs)) (sz:1 < vs.size) (nx:x ∉ Kl (env :: outer))
  (k:∀ h' T,h'.get? x=some (fj C dd (vs.setIfInBounds 1 (.ref T)))→s.heap.objs.size≤T→CQ h' T→(∀ b o,b≠x→b ∉ Kl (env :: outer)→s.heap.get? b=some o→h'.get? b=some o)→
   (∀ b o,b≠x→s.heap.get? b=some o→∃ sl,h'.get? b=some {o with slots:=sl})→Q () {s with heap:=h'}):
  wpAny M A (do let c ← frameOf env;let pl ← entryPlaceOf L had;let t ← EntryCells.newEntry hd c .none (rawInt L) .none pl;setField (.ref x) 1 t) Q E s:=by
 refine wpAny_bind (wpAny_frameOf_fun fr ff fL fun g1 so=>?_)
 refine wpAny_bind (wpAny_entryPlaceOf fun pl isp=>?_)
 unfold EntryCells.newEntry newFields
 refine wpAny_bind (wpAny_newObj_type ?_ (isp.sizeOk5 _ _ _ _ _))
 have x1:g1.get? x=some (fj C dd vs):=(so.2.1 x nx).trans ex
 have lts:([hd,Value.ref L,.none,rawInt L,.none] ++ (if pl.isEmpty then List.replicate 6 Value.none else pl)).toArray.size > 3:=by
  simp only [List.size_toArray,List.length_append,List.length_cons,List.length_nil];omega
 generalize ([hd,Value.ref L,.none,rawInt L,.none] ++ (if pl.isEmpty then List.replicate 6 Value.none else pl)).toArray=tv at lts
 have x2:(g1.push {cls:=.type "traceback",dict:=none,data:=.fields tv}).get? x=some (fj C dd vs):=Heap.get?_push_of_some _ x1
 have nTx:g1.objs.size≠x:=Nat.ne_of_gt (Heap.lt_size x1)
 have t2:(g1.push {cls:=.type "traceback",dict:=none,data:=.fields tv}).get? g1.objs.size=some {cls:=.type "traceback",dict:=none,data:=.fields tv}:=Heap.get?_push_size _ rfl
 have o2:∀ b o,g1.get? b=some o→(g1.push {cls:=.type "traceback",dict:=none,data:=.fields tv}).get? b=some o:=fun b o e=>Heap.get?_push_of_some _ e
 refine wpAny_setField (vs:=vs) x2 rfl sz ?_
 have e3:=Heap.get?_update_self (Obj.mapFields (·.setIfInBounds 1 (Value.ref g1.objs.size))) x2 rfl
 have ot:∀ b,b≠x→((g1.push {cls:=.type "traceback",dict:=none,data:=.fields tv}).update x (Obj.mapFields (·.setIfInBounds 1 (Value.ref g1.objs.size)))).get? b=(g1.push {cls:=.type "traceback",dict:=none,data:=.fields tv}).get? b:=fun b hb=>Heap.get?_update_other _ _ (Ne.symm hb)
 refine k _ g1.objs.size e3 (by rw [so.1];exact Nat.le_refl _) ⟨_,tv,(ot _ nTx).trans t2,rfl,lts⟩ (fun b o hb hf e=>?_) (fun b o hb e=>?_)
 ·rw [ot b hb];exact o2 b o ((so.2.1 b hf).trans e)
 ·obtain ⟨sl,q⟩:=so.2.2 b o e
  exact ⟨sl,by rw [ot b hb];exact o2 b _ q⟩
structure Ao (fs:List Addr) (x C:Addr) (dd:Option Addr) (hd:Option Addr) (h h':Heap) (T:Addr):Prop where
 obj:∃ vs,h'.get? x=some (fj C dd vs)∧vs[1]?=some (.ref T)∧vs[2]?=some .none
 tb:CQ h' T
 ne:T≠x
 new:h.objs.size≤T∨hd=some T
 keep:∀ b o,b≠x→some b≠hd→b ∉ fs→h.get? b=some o→h'.get? b=some o
 slot:∀ b o,b≠x→some b≠hd→h.get? b=some o→∃ sl,h'.get? b=some {o with slots:=sl}
 tail:∀ b o,hd=some b→h.get? b=some o→∃ o',h'.get? b=some o'
theorem Ul {base:Heap} {env:Env} {outer:List Env} {L x C:Addr} {dd:Option Addr} {vs:Array Value} {Q:Unit→Shared→Prop} {s:Shared}
  (fr:A.frames=some (env :: outer)) (ff:s.heap.FunFrames base (env :: outer)) (fL:env.frame=some L) (ex:s.heap.get? x=some (fj C dd vs)) (h1:vs[1]?=some .none∧vs[2]?=some .none) (nx:x ∉ Kl (env :: outer))
  (k:∀ h' T,Ao (Kl (env :: outer)) x C dd none s.heap h' T→Q () {s with heap:=h'}):wpAny M A (noteFrame (.ref x) env) Q E s:=by
 unfold noteFrame
 simp only [fL]
 refine wpAny_bind (wpAny_field ex rfl h1.1 ?_)
 rw [if_neg (by decide)]
 have sz:1 < vs.size:=(Array.getElem?_eq_some_iff.mp h1.1).1
 refine vh fr ff fL ex sz nx fun h' T a1 a2 a3 a4 a5=>k h' T ⟨⟨_,a1,by simp [sz],by rw [Array.getElem?_setIfInBounds_ne (by decide)];exact h1.2⟩,a3,?_,.inl a2,fun b o hb _ hf e=>a4 b o hb hf e,fun b o hb _ e=>a5 b o hb e,fun b o z=>by cases z⟩
 exact Nat.ne_of_gt (Nat.lt_of_lt_of_le (Heap.lt_size ex) a2)
theorem Um {base:Heap} {env:Env} {outer:List Env} {L x C T0:Addr} {dd:Option Addr} {vs:Array Value} {Q:Unit→Shared→Prop} {s:Shared}
  (fr:A.frames=some (env :: outer)) (ff:s.heap.FunFrames base (env :: outer)) (fL:env.frame=some L) (ex:s.heap.get? x=some (fj C dd vs)) (h1:vs[1]?=some (.ref T0)∧vs[2]?=some .none) (t0:CQ s.heap T0) (ne:T0≠x) (nx:x ∉ Kl (env :: outer)) (nT:T0 ∉ Kl (env :: outer))
  (k:∀ h' T,Ao (Kl (env :: outer)) x C dd (some T0) s.heap h' T→Q () {s with heap:=h'}):wpAny M A (noteFrame (.ref x) env) Q E s:=by
 obtain ⟨oT,ts,g,d,l3⟩:=id t0
 unfold noteFrame
 simp only [fL]
 refine wpAny_bind (wpAny_field ex rfl h1.1 ?_)
 rw [if_pos (show (Value.ref T0 != Value.none)=true from by simp)]
 refine wpAny_bind (wpAny_field g d (Array.getElem?_eq_getElem l3) ?_)
 by_cases q:(ts[3] == rawInt L)=true
 ·rw [if_pos q]
  exact wpAny_pure (k _ T0 ⟨⟨vs,ex,h1⟩,t0,ne,.inr rfl,fun b o _ _ _ e=>e,fun b o _ _ e=>⟨o.slots,e⟩,fun b o _ e=>⟨o,e⟩⟩)
 ·rw [if_neg q]
  refine wpAny_bind (wpAny_setField g d l3 ?_)
  have tT:=Heap.get?_update_self (Obj.mapFields (·.setIfInBounds 3 Value.none)) g (Obj.isFreed_of_fields (Obj.data_mapFields d _))
  have ot:∀ b,b≠T0→(s.heap.update T0 (Obj.mapFields (·.setIfInBounds 3 Value.none))).get? b=s.heap.get? b:=fun b hb=>Heap.get?_update_other _ _ (Ne.symm hb)
  have sz:1 < vs.size:=(Array.getElem?_eq_some_iff.mp h1.1).1
  have ff2:(s.heap.update T0 (Obj.mapFields (·.setIfInBounds 3 Value.none))).FunFrames base (env :: outer):=ff.of_keeps fun b o hb hn=>by
   refine ⟨o,(ot b (fun z=>?_)).trans hb,rfl⟩
   rw [z,g] at hb;cases hb;exact hn _ d
  refine vh (s:={s with heap:=s.heap.update T0 (Obj.mapFields (·.setIfInBounds 3 Value.none))}) fr ff2 fL ((ot x (Ne.symm ne)).trans ex) sz nx fun h' T a1 a2 a3 a4 a5=>k h' T ⟨⟨_,a1,by simp [sz],by rw [Array.getElem?_setIfInBounds_ne (by decide)];exact h1.2⟩,a3,?_,.inl (by rw [Heap.size_update] at a2;exact a2),fun b o hb h0 hf e=>a4 b o hb hf ((ot b (fun z=>h0 (by rw [z]))).trans e),fun b o hb h0 e=>a5 b o hb ((ot b (fun z=>h0 (by rw [z]))).trans e),fun b o hb e=>?_⟩
  ·exact Nat.ne_of_gt (Nat.lt_of_lt_of_le (Heap.lt_size ex) (by rw [Heap.size_update] at a2;exact a2))
  ·cases hb
   obtain ⟨sl,z⟩:=a5 T0 _ ne tT
   exact ⟨_,z⟩
theorem Uo {x C T0:Addr} {dd:Option Addr} {vs:Array Value} {Q:Unit→Shared→Prop} {s:Shared} (ex:s.heap.get? x=some (fj C dd vs)) (h1:vs[1]?=some (.ref T0)∧vs[2]?=some .none) (t0:CQ s.heap T0) (ne:T0≠x)
  (k:∀ h',Ao [] x C dd (some T0) s.heap h' T0→Q () {s with heap:=h'}):wpAny M A (setFlight (.ref x) none) Q E s:=by
 obtain ⟨oT,ts,g,d,l3⟩:=id t0
 unfold setFlight
 refine wpAny_bind (wpAny_field ex rfl h1.1 ?_)
 rw [if_pos (show (Value.ref T0 != Value.none)=true from by simp)]
 refine wpAny_setField g d l3 (k _ ?_)
 have d2:=Obj.data_mapFields d (·.setIfInBounds 3 ((none:Option Addr).elim Value.none fun f=>rawInt f))
 have tT:=Heap.get?_update_self (Obj.mapFields (·.setIfInBounds 3 ((none:Option Addr).elim Value.none fun f=>rawInt f))) g (Obj.isFreed_of_fields d2)
 have ot:∀ b,b≠T0→(s.heap.update T0 (Obj.mapFields (·.setIfInBounds 3 ((none:Option Addr).elim Value.none fun f=>rawInt f)))).get? b=s.heap.get? b:=fun b hb=>Heap.get?_update_other _ _ (Ne.symm hb)
 exact ⟨⟨vs,(ot x (Ne.symm ne)).trans ex,h1⟩,⟨_,_,tT,d2,by simpa using l3⟩,ne,.inr rfl,fun b o _ h0 _ e=>(ot b (fun z=>h0 (by rw [z]))).trans e,fun b o _ h0 e=>⟨o.slots,(ot b (fun z=>h0 (by rw [z]))).trans e⟩,fun b o hb e=>by cases hb;exact ⟨_,tT⟩⟩
end
end L2
namespace L2
open PySem PySem.Spec PyProof.Rows
def We:List Value:=[.type "ValueError",.type "Exception",.type "BaseException",.type "object"]
def R9 (K:PySem.W.Frag) (D:Addr):Bool:=match K.lookup D with
 | some ⟨.type "type",_,.cls cd,sl⟩=>(match cd.mro,sl.toList with
  | .ref E :: bm,[_,_,_,_,some (.builtin n),_]=>E == D && n == "ValueError.__new__" && cd.hasDel == false && cd.hasDict && PySem.W.tailIn K We bm
  | _,_=>false)
 | _=>false
theorem zc {K:PySem.W.Frag} {D:Addr} (q:R9 K D=true):∃ nm qn N bs bm sn sub ab col dd k0 k1 k2 k3 k5,K.lookup D=some (excClassObj nm qn D N bs bm true sn sub ab col dd k0 k1 k2 k3 k5 "ValueError.__new__")∧∀ h,K.In h→OwnTail h We bm:=by
 unfold R9 at q
 split at q
 ·rename_i dd cd sl ho
  split at q
  ·rename_i D' bm k0 k1 k2 k3 n k5 hm hs
   simp only [Bool.and_eq_true,beq_iff_eq] at q
   obtain ⟨⟨⟨⟨e1,e2⟩,e3⟩,e4⟩,e5⟩:=q
   subst e1 e2
   obtain ⟨nm,bs,mro,ns,qn,hd,sn,sub,ab,col,del⟩:=cd
   dsimp only at hm e3 e4
   subst hm e3 e4
   have hsl:sl= #[k0,k1,k2,k3,some (.builtin "ValueError.__new__"),k5]:=by
    obtain ⟨l⟩:=sl
    dsimp only at hs
    rw [hs]
   subst hsl
   exact ⟨nm,qn,ns,bs,bm,sn,sub,ab,col,dd,k0,k1,k2,k3,k5,ho,fun h X=>PySem.W.tail_of_in X e5⟩
  ·cases q
 ·cases q
section
variable {prog:Program} {w:World} {A:Around} {K:PySem.W.Frag} {D f:Addr} {E:Value→Shared→Prop}
theorem xN {h:Heap} {g:Array GenState} {d:Drawn} {t:Nat} {os:OsState} {us:List Value} {Q:Fin→Shared→Prop} (X:K.In h) (hx:R9 K D=true)
  (hi:PySem.W.findIn K (.ref D) "__init__"=some (some (.ref f))) (hf:PySem.W.typeIn K (.ref f)=some (.type "function")) (hl:us.length≤sizeLine)
  (k:wpAny (model prog w) A (call (.ref f) (.ref (h.objs.size+1) :: us)) (fun r s'=>r= .none∧Q (.done (.ret (.ref (h.objs.size+1)))) s') E
   ⟨(h.push {cls:=.type "tuple",data:=.seq us.toArray}).push (fj D none #[.ref h.objs.size,.none,.none,.none,.bool false,.none]),g,d,t,os⟩):
  wpAny (model prog w) A (Builtin.«type.__call__» ⟨.ref D :: us,[]⟩) Q E ⟨h,g,d,t,os⟩:=by
 obtain ⟨nm,qn,N,bs,bm,sn,sub,ab,col,dd,k0,k1,k2,k3,k5,lk0,tl⟩:=zc hx
 have T:=tl h X
 have hD:=X _ _ lk0
 have L3:=PySem.W.looks_findIn (M:=model prog w) X hi
 have L4:=PySem.W.bind_fn (M:=model prog w) X (.ref (h.objs.size+1)) hf
 repeat (first | with_reducible refine wpAny_loadPart_at hD ?_ | with_reducible refine wpAny_madeBy_exc hD ?_ | wp_step)
 refine codeAny_call_builtin_code (Code.quiet_builtin _ F.excBase_ValueError.quiet) (wpAny_check_new_subT F.excBase_ValueError T hD (codeAny_exc_new_subT F.excBase_ValueError T hD ?_ hl))
 show wpAny _ _ _ _ _ _
 have keep:∀ b o,h.get? b=some o→((h.push {cls:=.type "tuple",data:=.seq us.toArray}).push (fj D none #[.ref h.objs.size,.none,.none,.none,.bool false,.none])).get? b=some o:=fun b o q=>Heap.get?_push_of_some _ (Heap.get?_push_of_some _ q)
 have gx:((h.push {cls:=.type "tuple",data:=.seq us.toArray}).push (fj D none #[.ref h.objs.size,.none,.none,.none,.bool false,.none])).get? (h.objs.size+1)=some (fj D none #[.ref h.objs.size,.none,.none,.none,.bool false,.none]):=by
  have:=Heap.get?_push_size (h.push {cls:=.type "tuple",data:=.seq us.toArray}) (o:=fj D none #[.ref h.objs.size,.none,.none,.none,.bool false,.none]) rfl
  rwa [Heap.size_push] at this
 have hD1:=keep _ _ hD
 have M3:=L3.keeps keep
 have M4:=L4.keeps keep
 have cD:(Value.ref D :: bm).contains (.ref D)=true:=by simp
 unfold fj at gx M3 M4 hD1 k
 unfold isInstance
 repeat (first | with_reducible refine wpAny_loadPart_at gx ?_ | (with_reducible refine wpAny_isSubtype_exc hD1 ?_;rw [cD]) | wp_step)
 show wpAny _ _ (typeLookup (.ref D) _) _ _ _
 refine M3.at ?_
 refine wpAny_holding (wpAny_bind (M4.at ?_))
 dsimp only
 refine wpAny_bind (wpAny_mono k (fun r s' hr=>?_) fun _ _ z=>z)
 obtain ⟨rfl,z⟩:=hr
 wp_walk
 exact z
theorem Qh {s:Shared} {us:List Value} {Q:Value→Shared→Prop} (X:K.In s.heap) (hx:R9 K D=true)
  (hi:PySem.W.findIn K (.ref D) "__init__"=some (some (.ref f))) (hf:PySem.W.typeIn K (.ref f)=some (.type "function")) (hl:us.length≤sizeLine)
  (k:wpAny (model prog w) (A.under (.builtin "type.__call__" ⟨.ref D :: us,[]⟩)) (call (.ref f) (.ref (s.heap.objs.size+1) :: us)) (fun r s'=>r= .none∧Q (.ref (s.heap.objs.size+1)) s') E
   {s with heap:=(s.heap.push {cls:=.type "tuple",data:=.seq us.toArray}).push (fj D none #[.ref s.heap.objs.size,.none,.none,.none,.bool false,.none])}):
  wpAny (model prog w) A (call (.ref D) us) Q E s:=by
 obtain ⟨h,g,d,t,os⟩:=s
 obtain ⟨nm,qn,N,bs,bm,sn,sub,ab,col,dd,k0,k1,k2,k3,k5,lk0,tl⟩:=zc hx
 have hD:=X _ _ lk0
 have f1:=tc_lookup
 have f2:=tc_bind (.ref D)
 have hT:(⟨h,g,d,t,os⟩:Shared).TypeIs (.ref D) "type":=⟨_,hD,rfl⟩
 refine wpAny_call (codeAny_of_tree ?_)
 show wpAny _ _ (callAny (.ref D) _) _ _ _
 repeat (any_goals (first | assumption | with_reducible refine wpAny_loadPart_at hD ?_ | wp_step))
 refine ⟨rfl,codeAny_call_builtin_at (Code.quiet_builtin _ (by decide+kernel)) entry_typeCall (wpAny_check_type_call_sub hD (xN X hx hi hf hl ?_))⟩
 exact k
end
end L2
namespace L2
open PySem PySem.Spec PyProof.Rows
def tD (x C dx:Addr):HO:=.ext fun h=>∃ vs,h.get? x=some (fj C (some dx) vs)∧vs[2]?=some .none
def iB (x C:Addr):HO:=.ext fun h=>∃ t,h.get? x=some (fj C none #[.ref t,.none,.none,.none,.bool false,.none])
theorem Aq {P:Program} {w:World} {H:Hp} {h:Heap} {x C dx:Addr} {vs:Array Value} (e:h.get? x=some (fj C (some dx) vs)) (h2:vs[2]?=some .none):ObjOk P w H h x (tD x C dx):=
 ⟨⟨vs,e,h2⟩,⟨_,e⟩,fun h1 h2 ⟨vs,e,z⟩ k=>⟨vs,k _ e,z⟩⟩
structure Head (X:Cx) (pins:List (Addr×Obj)) (H:Hp) (x C dx T:Addr) (h:Heap):Prop where
 obj:∃ vs,h.get? x=some (fj C (some dx) vs)∧vs[1]?=some (.ref T)∧vs[2]?=some .none
 tb:CQ h T
 fp:iH X pins H T
 tr:H x=some (tD x C dx)
theorem Head.ne {X:Cx} {pins:List (Addr×Obj)} {H:Hp} {x C dx T:Addr} {h:Heap} (a:Head X pins H x C dx T h):T≠x:=fun z=>by
 have:=a.fp.1
 rw [z,a.tr] at this;cases this
def Fly (X:Cx) (pins:List (Addr×Obj)) (H:Hp) (x C dx:Addr) (h:Heap):Prop:=
 H x=some (tD x C dx)∧((∃ vs,h.get? x=some (fj C (some dx) vs)∧vs[1]?=some .none∧vs[2]?=some .none)∨∃ T,Head X pins H x C dx T h)
section
variable {X:Cx} {pins:List (Addr×Obj)} {σ:St} {H:Hp} {s:Shared} {x C dx:Addr} {h':Heap} {T:Addr} {hd:Option Addr}
theorem Inv.noted {fs:List Addr} (I:Inv X pins σ H s) (hx:H x=some (tD x C dx)) (hh:∀ b,hd=some b→iH X pins H b) (hf:∀ b∈fs,b∈X.env.locals :: X.fs) (N:Ao fs x C (some dx) hd s.heap h' T):Inv X pins σ H {s with heap:=h'}:=by
 obtain ⟨m,⟨oL,esL,epL,hoL,rL⟩,_⟩:=id I.loc
 have fsF:∀ b∈fs,H b=none:=fun b hb=>by
  rcases List.mem_cons.mp (hf b hb) with e | hb
  ·rw [e];exact I.free
  ·obtain ⟨_,o,ho,_⟩:=I.ok.funs.mem hb
   exact I.base.free b o ho (I.ok.frf b hb) fun z=>I.ok.exfs b z hb
 have nx:∀ b,H b=none→b≠x:=fun b n z=>by rw [z,hx] at n;cases n
 have hdF:∀ b,hd=some b→H b=none:=fun b e=>(hh b e).1
 have mem:∀ b,b ∉ hd.toList→some b≠hd:=fun b nb z=>nb (by rw [← z];simp)
 refine I.step (g':=s.gens) (d':=s.drawn) (t':=s.toks) (ch:=hd.toList) (fun b hb=>?_) (fun b o hL hb hc e n=>?_) (fun b o hL hb hc e n=>?_) (fun _ _ _ _ n=>n) (fun b o hc e=>?_) (fun _ _ e=>e) (fun _ _ _ e=>e) (fun b ps e=>⟨#[],by rw [e];simp⟩) (fun m hm=>?_) (fun b u e=>?_) I.bare
 ·have e:hd=some b:=by cases hd <;> simp_all
  obtain ⟨_,a2,_,a4,a5,a6⟩:=hh b e
  exact ⟨a4,a2,a5,a6⟩
 ·refine N.keep b o (nx b n) (mem b hc) (fun z=>?_) e
  rcases List.mem_cons.mp (hf b z) with q | q
  ·exact hL q
  ·exact hb q
 ·exact N.slot b o (nx b n) (mem b hc) e
 ·by_cases q:b=x
  ·obtain ⟨vs,z,_⟩:=N.obj
   exact ⟨_,by rw [q];exact z⟩
  ·obtain ⟨sl,z⟩:=N.slot b o q (mem b hc) e
   exact ⟨_,z⟩
 ·obtain ⟨o,es,ep,ho,r⟩:=hm
  obtain ⟨sl,z⟩:=N.slot _ o (nx _ I.free) (fun q=>(hh _ q.symm).2.1 rfl) ho
  exact ⟨_,es,ep,z,r⟩
 ·by_cases q:b=x
  ·subst q
   rw [hx] at e;cases e
   obtain ⟨vs,z,_,z2⟩:=N.obj
   exact Aq z z2
  ·refine (I.hok b u e).stay (fun c v hc z=>?_) (fun _ q=>q) fun _ _ q=>q
   have tc:∃ u,H c=some u:=by
    rcases hc with rfl | hc
    ·exact ⟨_,e⟩
    ·exact ⟨_,hc⟩
   obtain ⟨uc,tc⟩:=tc
   refine N.keep c v (fun zz=>?_) (fun zz=>?_) (fun zz=>?_) z
   ·rcases hc with rfl | hc
    ·exact q zz
    ·rw [zz,hx] at hc;cases hc
   ·rw [hdF c zz.symm] at tc;cases tc
   ·rw [fsF c zz] at tc;cases tc
theorem Gu {A:Around} {E:Value→Shared→Prop} {Q:Unit→Shared→Prop} (I:Inv X pins σ H s) (hst:X.stack=X.env :: X.outer) (hfr:X.env.frame=some X.env.locals) (hA:A.frames=some X.stack) (F:Fly X pins H x C dx s.heap)
  (k:∀ h' T,Inv X pins σ H {s with heap:=h'}→Head X pins H x C dx T h'→Q () {s with heap:=h'}):wpAny (model X.prog X.w) A (noteFrame (.ref x) X.env) Q E s:=by
 have ff:s.heap.FunFrames X.base (X.env :: X.outer):=hst ▸ I.stack
 have sub:∀ b∈Kl (X.env :: X.outer),b∈X.env.locals :: X.fs:=fun b hb=>I.stkSub b (by rw [hst];exact hb)
 have nf:∀ b u,H b=some u→b ∉ Kl (X.env :: X.outer):=fun b u e z=>by
  rw [I.stkFree b (by rw [hst];exact z)] at e;cases e
 obtain ⟨hx,⟨vs,e,h1⟩ | ⟨T0,hT⟩⟩:=F
 ·refine Ul (hst ▸ hA) ff hfr e h1 (nf x _ hx) fun h' T N=>?_
  have J:=I.noted hx (fun b z=>by cases z) sub N
  refine k h' T J ⟨N.obj,N.tb,?_,hx⟩
  have zT:s.heap.objs.size≤T:=by rcases N.new with z | z;exact z;cases z
  exact I.fpOk zT (I.hok.fresh zT)
 ·obtain ⟨vs,e,h1⟩:=hT.obj
  refine Um (hst ▸ hA) ff hfr e h1 hT.tb hT.ne (nf x _ hx) (fun z=>?_) fun h' T N=>?_
  ·rcases List.mem_cons.mp (sub T0 z) with q | q
   ·exact hT.fp.2.1 q
   ·exact hT.fp.2.2.1 q
  ·have J:=I.noted hx (fun b z=>by cases z;exact hT.fp) sub N
   refine k h' T J ⟨N.obj,N.tb,?_,hx⟩
   rcases N.new with z | z
   ·exact I.fpOk z (I.hok.fresh z)
   ·cases z;exact hT.fp
theorem Gv {A:Around} {E:Value→Shared→Prop} {Q:Unit→Shared→Prop} (I:Inv X pins σ H s) (F:Head X pins H x C dx T s.heap)
  (k:∀ h',Inv X pins σ H {s with heap:=h'}→Head X pins H x C dx T h'→Q () {s with heap:=h'}):wpAny (model X.prog X.w) A (setFlight (.ref x) none) Q E s:=by
 obtain ⟨vs,e,h1⟩:=F.obj
 refine Uo e h1 F.tb F.ne fun h' N=>?_
 exact k h' (I.noted F.tr (fun b z=>by cases z;exact F.fp) (fun b z=>absurd z (by simp)) N) ⟨N.obj,N.tb,F.fp,F.tr⟩
def Qi (P:Program) (w:World):DQ:=fun outer H s E e s'=>∃ x C dx T H',e= .ref x∧s'.os=s.os∧AllBare s'.gens∧Un (frs outer) [] H H' s.heap s'.heap∧HOk P w H' s'.heap∧H' x=some (tD x C dx)∧H' T=none∧s.heap.objs.size≤T∧
 (∃ vs,s'.heap.get? x=some (fj C (some dx) vs)∧vs[1]?=some (.ref T)∧vs[2]?=some .none)∧CQ s'.heap T∧E (.ref C) (some x) H'
def XE (X:Cx) (pins:List (Addr×Obj)) (R:St→XK) (e:Value) (s':Shared):Prop:=∃ x C dx σ H',e= .ref x∧Inv X pins σ H' s'∧Fly X pins H' x C dx s'.heap∧R σ (.ref C) (some x) H'
theorem Km {R:St→XK} {e:Value} {s':Shared} (I:Inv X pins σ H s) (c:Qi X.prog X.w X.stack H s (R σ) e s'):XE X pins R e s':=by
 obtain ⟨x,C,dx,T,H',rfl,os,bare,un,hok,tx,tT,zT,ob,tb,r⟩:=c
 obtain ⟨hh,g,d,t,os'⟩:=s'
 obtain rfl:os'=s.os:=os
 have J:=I.call (h':=hh) (g':=g) (d':=d) (t':=t) (ch:=[]) un hok bare (fun b z=>absurd z (by simp))
 exact ⟨x,C,dx,σ,H',rfl,J,⟨tx,.inr ⟨T,ob,tb,I.fpOk zT tT,tx⟩⟩,r⟩
def qN (X:Cx) (R:St→XK):Prop:=∀ (pins:List (Addr×Obj)) (e:Value) (s':Shared),XE X pins R e s'→X.xe e s'
end
theorem j0 {P:Program} {w:World} {K:PySem.W.Frag} {mg:Str→Option Value} {base:Heap} {N:List Str} {qual:Str} {scope:Scope} {f:Addr} {cd:Value} {A:Around} {outer:List Env} {s:Shared} {H:Hp} {E:XK}:
  qN (nQ (Qi P w) P w K mg base N qual scope f cd A outer s H E) (fun _=>E):=by
 rintro pins e s' ⟨x,C,dx,σ,H',he,I,F,r⟩
 subst he
 show wpAny _ _ (leaving _ _) _ _ _
 unfold leaving
 refine wpAny_bind (Gu (X:=nQ (Qi P w) P w K mg base N qual scope f cd A outer s H E) I rfl rfl I.ok.frames F fun h1 T J1 F1=>?_)
 refine Gv (X:=nQ (Qi P w) P w K mg base N qual scope f cd A outer s H E) J1 F1 fun h2 J2 F2=>?_
 refine ⟨x,C,dx,T,H',rfl,J2.os,J2.bare,J2.base,J2.hok,F2.tr,F2.fp.1,?_,F2.obj,F2.tb,r⟩
 rcases F2.fp.2.2.2.1 with z | z
 ·exact absurd (show T∈([]:List Addr) from z) (by simp)
 ·exact z
end L2
namespace L2
open PySem PySem.Spec PyProof.Rows
def jw (d:Addr) (fs:List (Str×V)):HO:=.ext fun h=>∃ mA,h.Ns1 d mA∧∀ f,RelO (fs.lookup f) (mA f)
theorem v4 {P:Program} {w:World} {H:Hp} {h:Heap} {d:Addr} {fs:List (Str×V)} {mA:Str→Option Value} (n:h.Ns1 d mA) (r:∀ f,RelO (fs.lookup f) (mA f)):ObjOk P w H h d (jw d fs):=by
 refine ⟨⟨mA,n,r⟩,let ⟨o,_,_,e,_⟩:=n;⟨o,e⟩,fun h1 h2 ⟨m,n,r⟩ k=>⟨m,?_,r⟩⟩
 obtain ⟨o,es,ep,e,q⟩:=n
 exact ⟨o,es,ep,k _ e,q⟩
theorem Ar {P:Program} {w:World} {H:Hp} {h:Heap} {d:Addr} {fs:List (Str×V)} (ok:HOk P w H h) (e:H d=some (jw d fs)):∃ mA,h.Ns1 d mA∧∀ f,RelO (fs.lookup f) (mA f):=(ok _ _ e).1
def fu (x C d:Addr):HO:=.ext fun h=>∃ t,h.get? x=some (fj C (some d) #[.ref t,.none,.none,.none,.bool false,.none])
theorem CT {P:Program} {w:World} {H:Hp} {h:Heap} {x C d t:Addr} (e:h.get? x=some (fj C (some d) #[.ref t,.none,.none,.none,.bool false,.none])):ObjOk P w H h x (fu x C d):=
 ⟨⟨t,e⟩,⟨_,e⟩,fun h1 h2 ⟨t,e⟩ k=>⟨t,k _ e⟩⟩
theorem ql {P:Program} {w:World} {H:Hp} {h:Heap} {x C d:Addr} (ok:HOk P w H h) (e:H x=some (fu x C d)):∃ t,h.get? x=some (fj C (some d) #[.ref t,.none,.none,.none,.bool false,.none]):=(ok _ _ e).1
def eQ:List Value→Bool
 | [.type a,.type b,.type c,.type d]=>a == "ValueError" && b == "Exception" && c == "BaseException" && d == "object"
 | .ref _ :: r=>eQ r
 | _=>false
theorem qO {l:List Value} (e:eQ l=true):(∃ a r,l= .ref a :: r∧eQ r=true)∨l=We:=by
 unfold eQ at e
 split at e
 ·simp only [Bool.and_eq_true,beq_iff_eq] at e
  obtain ⟨⟨⟨rfl,rfl⟩,rfl⟩,rfl⟩:=e
  exact .inr rfl
 ·exact .inl ⟨_,_,rfl,e⟩
 ·cases e
theorem qP (self:Value):∀ (l:List Value),eQ l=true→refuseLoop self "__setattr__" l=pure ()
 | [],e=>by cases e
 | v :: r,e=>by
  rcases qO e with ⟨a,r',q,e'⟩ | q
  ·cases q
   rw [refuseLoop_ref]
   exact qP self r e'
  ·rw [q]
   exact F.store_ValueError.passes self
theorem xO:∀ (l:List Value),eQ l=true→l.contains (.type "object")=true∧l.contains (.type "BaseException")=true
 | [],e=>by cases e
 | v :: r,e=>by
  rcases qO e with ⟨a,r',q,e'⟩ | q
  ·cases q
   obtain ⟨h1,h2⟩:=xO r e'
   exact ⟨by rw [List.contains_cons,h1,Bool.or_true],by rw [List.contains_cons,h2,Bool.or_true]⟩
  ·rw [q]
   decide
def Qj (K:PySem.W.Frag) (C:Addr):Bool:=R9 K C && (PySem.W.clsIn K C).any (fun cd=>eQ cd.mro && cd.hasDict) && PySem.W.findIn K (.ref C) "__setattr__" == some (some (.builtin "object.__setattr__")) &&
 PySem.W.findIn K (.ref C) "__getattribute__" == some (some (.builtin "BaseException.__getattribute__")) && PySem.W.findIn K (.ref C) "__getattr__" == some none
structure XCls (K:PySem.W.Frag) (C:Addr):Prop where
 xi:R9 K C=true
 ov:∃ cd,PySem.W.clsIn K C=some cd∧eQ cd.mro=true∧cd.hasDict=true
 sa:PySem.W.findIn K (.ref C) "__setattr__"=some (some (.builtin "object.__setattr__"))
 ga:PySem.W.findIn K (.ref C) "__getattribute__"=some (some (.builtin "BaseException.__getattribute__"))
 gh:PySem.W.findIn K (.ref C) "__getattr__"=some none
theorem Ko {K:PySem.W.Frag} {C:Addr} (h:Qj K C=true):XCls K C:=by
 unfold Qj at h
 simp only [Bool.and_eq_true,beq_iff_eq] at h
 obtain ⟨⟨⟨⟨h1,h2⟩,h3⟩,h4⟩,h5⟩:=h
 obtain ⟨cd,a,b⟩:=PySem.W.any_some h2
 simp only [Bool.and_eq_true] at b
 exact ⟨h1,⟨cd,a,b.1,b.2⟩,h3,h4,h5⟩
theorem Kp {l:List Value} (e:eQ l=true):l.isEmpty=false:=by
 cases l with
 | nil=>cases e
 | cons _ _=>rfl
section
variable {prog:Program} {w:World} {A:Around} {s:Shared} {K:PySem.W.Frag} {x C:Addr} {R:Result→Shared→Prop}
theorem XCls.mro {c:Value} {b:Bool} (k:XCls K C) (h:∀ cd,PySem.W.clsIn K C=some cd→eQ cd.mro=true→cd.mro.contains c=b):PySem.W.mroIn K C c=some b:=by
 obtain ⟨cd,a,o,_⟩:=k.ov
 unfold PySem.W.mroIn
 rw [a,Option.bind_some,if_neg (by rw [Kp o];decide),h cd a o]
theorem XCls.isObj (k:XCls K C):PySem.W.mroIn K C (.type "object")=some true:=k.mro fun cd _ o=>(xO _ o).1
theorem MN {ox:Obj} {od:Option Obj} {name:Str} {tk:Tok} {v:Value} (X:K.In s.heap) (I:PySem.W.InstAt s.heap x ox C od) (c:XCls K C) (ht:mz K C name)
  (h:wpAny (model prog w) A.in1 (Builtin.ObjectAttr.storeInOwnDict (.ref x) (.ref C) (.str name tk) name v false)
   (fun fin s'=>match fin with | .done f=>R (.ok f) s' | .again c'=>c'.quiet=true∧codeAny (model prog w) A c' R s') (fun e s'=>R (.error e) s') s):
  codeAny (model prog w) A (.call (.builtin "object.__setattr__") ⟨[.ref x,.str name tk,v],[]⟩) R s:=by
 obtain ⟨cd,hc,ho,_⟩:=c.ov
 have sub:PySem.W.Looks (model prog w) s.heap (isInstance (.ref x) (.type "object")) true:=I.type.andThen (PySem.W.looks_mroIn X c.isObj)
 refine codeAny_call_builtin F.store_object.slot.plain F.store_object.entry (@PySem.W.check_slot (model prog w) _ _ s "object.__setattr__" "object" "__setattr__" (.ref x) [.str name tk,v] [] _ F.store_object.kind F.store_object.split sub (F.store_object.args (.ref x) (.str name tk) v) ?_)
 have hm:PySem.W.Looks (model prog w) s.heap (mroOf (.ref C)) cd.mro:=(PySem.W.looks_clsIn X hc).andThen .now
 have L3:PySem.W.Looks (model prog w) s.heap (Builtin.ObjectAttr.storeTaker? none) none:=.now
 rw [PySem.W.osa_eq,refuse_eq]
 refine wpAny_bind (wpAny_bind (I.type.here (wpAny_bind (hm.here ?_))))
 rw [qP _ _ ho]
 refine wpAny_pure (wpAny_bind (I.type.here (wpAny_bind ((PySem.W.looks_findIn X ht).here (wpAny_bind (L3.here ?_))))))
 exact h
end
theorem Gw {H:Hp} {d x:Addr} {a b c:HO} (n:d≠x):upd (upd (upd H d a) x b) d c=upd (upd H x b) d c:=by
 funext y
 unfold upd
 by_cases h:y=d
 ·simp [h]
 ·simp [h]
section
variable {X:Cx} {pins:List (Addr×Obj)} {σ:St} {H:Hp} {s:Shared} {x C d:Addr} {fs:List (Str×V)} {f:Str} {v y:V} {u:Value} {A:Around} {E:Value→Shared→Prop}
theorem Up {Q:Unit→Shared→Prop} (I:Inv X pins σ H s) (e:H x=some (iB x C)) (c:XCls X.K C) (n:mz X.K C f) (ry:RelV y u)
  (h:∀ s' d,H d=none→d≠x→Inv X pins σ (upd (upd H x (fu x C d)) d (jw d [(f,y)])) s'→Q () s'):wpAny (model X.prog X.w) A (setAttr (.ref x) f u) Q E s:=by
 obtain ⟨⟨t,hx⟩,-,-⟩:ObjOk X.prog X.w H s.heap x (iB x C):=I.hok x _ e
 obtain ⟨cd,hc,ho,hd⟩:=c.ov
 have J:PySem.W.InstAt s.heap x (fj C none #[.ref t,.none,.none,.none,.bool false,.none]) C none:=⟨hx,rfl,rfl,True.intro⟩
 refine PySem.W.set_plain I.kIn J c.sa (MN (s:={s with toks:=s.toks+1}) I.kIn J c n ?_)
 refine wpAny_bind (wpAny_pure (wpAny_bind (wpAny_bind (wpAny_loadPart hx (wpAny_bind ((PySem.W.looks_clsIn (M:=model X.prog X.w) I.kIn hc).here (s:={s with toks:=s.toks+1}) ?_))))))
 rw [hd]
 have hp:s.heap.objs.size≠x:=Nat.ne_of_gt (Heap.lt_size hx)
 have hx1:(s.heap.push {cls:=.type "dict",data:=.dict #[]}).get? x=some (fj C none #[.ref t,.none,.none,.none,.bool false,.none]):=Heap.get?_push_of_some _ hx
 have d1:(s.heap.push {cls:=.type "dict",data:=.dict #[]}).get? s.heap.objs.size=some {cls:=.type "dict",data:=.dict #[]}:=Heap.get?_push_size _ rfl
 have n1:∀ {hh:Heap},hh.get? s.heap.objs.size=some {cls:=.type "dict",data:=.dict #[]}→hh.Ns1 s.heap.objs.size (fun _=>none):=fun q=>Heap.Ns1.of_empty ⟨_,#[],_,q,rfl,fun e he=>absurd he (by simp),fun _=>rfl⟩
 have I1:Inv X pins σ (upd H s.heap.objs.size (jw s.heap.objs.size [])) {s with heap:=s.heap.push {cls:=.type "dict",data:=.dict #[]},toks:=s.toks+1}:=
  I.laid (t':=s.toks+1) (fun b o q=>Heap.get?_push_of_some _ q) (Nat.le_refl _) (v4 (n1 d1) fun g=>True.intro)
 refine wpAny_bind (wpAny_alloc' ?_)
 refine wpAny_bind (wpAny_update' hx1 ?_)
 have hx2:=Heap.get?_update_self (fun o:Obj=>({o with dict:=some s.heap.objs.size}:Obj)) hx1 rfl
 have ot:∀ b,b≠x→((s.heap.push {cls:=.type "dict",data:=.dict #[]}).update x fun o=>{o with dict:=some s.heap.objs.size}).get? b=(s.heap.push {cls:=.type "dict",data:=.dict #[]}).get? b:=fun b hb=>Heap.get?_update_other _ _ (Ne.symm hb)
 have e1:upd H s.heap.objs.size (jw s.heap.objs.size []) x=some (iB x C):=(aB (Ne.symm hp)).trans e
 have I2:Inv X pins σ (upd (upd H s.heap.objs.size (jw s.heap.objs.size [])) x (fu x C s.heap.objs.size)) {s with heap:=(s.heap.push {cls:=.type "dict",data:=.dict #[]}).update x fun o=>{o with dict:=some s.heap.objs.size},toks:=s.toks+1}:=
  I1.write (t':=s.toks+1) (x:=x) (e:=x) (by rw [e1];exact True.intro) (.inl rfl) (fun b o hb q=>(ot b hb).trans q) ⟨_,hx2⟩ (CT hx2)
 refine wpAny_pure (wpAny_bind (wpAny_pure (wpAny_bind ?_)))
 refine wpAny_nsSet1 (n1 ((ot _ hp).trans d1)) fun h' hn' hs=>?_
 obtain ⟨oD,esD,epD,hoD,hdD,hcD⟩:=hn'.count (PySem.Within.cons f u PySem.Within.nil)
 refine wpAny_bind (wpAny_lookBehind hoD (by rw [hdD];exact pastItsLine_dict (Nat.le_trans hcD (by rw [List.length_cons,List.length_nil,sizeLine_eq];omega))) ?_)
 refine wpAny_pure (h _ s.heap.objs.size (I.hok.fresh (Nat.le_refl _)) hp ?_)
 rw [← Gw (a:=jw s.heap.objs.size []) hp]
 refine I2.write (x:=s.heap.objs.size) (e:=s.heap.objs.size) (by rw [aB hp,ao];exact True.intro) (.inl rfl) (fun b o hb q=>(hs.2 b hb).trans q) ⟨_,hoD⟩ (v4 hn' fun g=>?_)
 by_cases q:g=f
 ·have qb:(g == f)=true:=beq_iff_eq.mpr q
  simp only [List.lookup,qb,if_pos q]
  exact ry
 ·have qb:(g == f)=false:=beq_eq_false_iff_ne.mpr q
  simp only [List.lookup,qb,if_neg q]
  exact True.intro
end
end L2
namespace L2
open PySem PySem.Spec PyProof.Rows
section
variable {X:Cx} {pins:List (Addr×Obj)} {σ:St} {H:Hp} {s:Shared} {x C d:Addr} {fs:List (Str×V)} {f:Str} {v y:V} {u:Value} {A:Around} {E:Value→Shared→Prop}
theorem Kq {h:Heap} {P:Program} {w:World} (ok:HOk P w H h) (e:H x=some (fu x C d)) (e2:H d=some (jw d fs)):d≠x:=fun z=>by
 subst z
 obtain ⟨t,a⟩:=ql ok e
 obtain ⟨mA,⟨o,es,ep,b,q,_⟩,_⟩:=Ar ok e2
 rw [a] at b;cases b;cases q
theorem Uq {Q:Unit→Shared→Prop} (I:Inv X pins σ H s) (e:H x=some (fu x C d)) (e2:H d=some (jw d fs)) (hl:fs.length < 1000) (c:XCls X.K C) (n:mz X.K C f) (ry:RelV y u)
  (h:∀ s',Inv X pins σ (upd H d (jw d (BW f y fs))) s'→Q () s'):wpAny (model X.prog X.w) A (setAttr (.ref x) f u) Q E s:=by
 have ne:=Kq I.hok e e2
 obtain ⟨vs,hx⟩:=ql I.hok e
 obtain ⟨mA,nA,rA⟩:=Ar I.hok e2
 obtain ⟨cd,hc,ho,hd⟩:=c.ov
 have J:PySem.W.InstAt s.heap x (fj C (some d) #[.ref vs,.none,.none,.none,.bool false,.none]) C (some (Classical.choose nA)):=⟨hx,rfl,rfl,let ⟨_,_,q,_⟩:=Classical.choose_spec nA;q⟩
 refine PySem.W.set_plain I.kIn J c.sa (MN (s:={s with toks:=s.toks+1}) I.kIn J c n ?_)
 refine wpAny_bind (wpAny_pure (wpAny_bind (wpAny_bind (wpAny_loadPart hx (wpAny_bind ((PySem.W.looks_clsIn (M:=model X.prog X.w) I.kIn hc).here (s:={s with toks:=s.toks+1}) ?_))))))
 rw [hd]
 refine wpAny_pure (a:=some d) (wpAny_bind (wpAny_pure (wpAny_bind ?_)))
 refine wpAny_nsSet1 (s:={s with toks:=s.toks+1}) nA fun h' hn' hs=>?_
 have wi:PySem.Within mA (fs.map (·.1)):=fun z hz=>by
  have r:=rA z
  cases q:fs.lookup z with
  | none=>rw [q] at r;exact absurd (RelO.none_of r) hz
  | some a=>exact List.mem_map.mpr ⟨(z,a),PySem.mem_of_lookup q,rfl⟩
 obtain ⟨oD,esD,epD,hoD,hdD,hcD⟩:=hn'.count (PySem.Within.cons f u wi)
 refine wpAny_bind (wpAny_lookBehind hoD (by rw [hdD];exact pastItsLine_dict (Nat.le_trans hcD (by rw [List.length_cons,List.length_map,sizeLine_eq];omega))) ?_)
 refine wpAny_pure (h _ ?_)
 refine I.write (x:=d) (e:=d) (by rw [e2];exact True.intro) (.inl rfl) (fun b o hb q=>(hs.2 b hb).trans q) ⟨_,hoD⟩ (v4 hn' fun g=>?_)
 rw [qI]
 by_cases q:g=f
 ·rw [if_pos q,if_pos q];exact ry
 ·rw [if_neg q,if_neg q];exact rA g
end
end L2
namespace L2
open PySem PySem.Spec PyProof.Rows
def Av (K:PySem.W.Frag) (C:Addr):Bool:=Qj K C && PySem.W.findIn K (.ref C) "__class__" == some (some (.builtin "object.__class__")) && PySem.W.specialIn K (.builtin "object.__class__") "__get__" == some (some (.builtin "getset_descriptor.__get__")) && PySem.W.takesIn K (.builtin "object.__class__") == some true
structure Wf (K:PySem.W.Frag) (C:Addr):Prop where
 cls:XCls K C
 ca:PySem.W.findIn K (.ref C) "__class__"=some (some (.builtin "object.__class__"))
 cg:PySem.W.specialIn K (.builtin "object.__class__") "__get__"=some (some (.builtin "getset_descriptor.__get__"))
 ct:PySem.W.takesIn K (.builtin "object.__class__")=some true
theorem Gx {K:PySem.W.Frag} {C:Addr} (h:Av K C=true):Wf K C:=by
 unfold Av at h
 simp only [Bool.and_eq_true,beq_iff_eq] at h
 exact ⟨Ko h.1.1.1,h.1.1.2,h.1.2,h.2⟩
section
variable {prog:Program} {w:World} {A:Around} {E:Value→Shared→Prop} {s:Shared} {K:PySem.W.Frag} {x C:Addr} {ox od:Obj}
end
def Sg (H:Hp) (x C:Addr) (fs:List (Str×V)):Prop:=∃ d,H x=some (tD x C d)∧H d=some (jw d fs)
section
variable {X:Cx} {pins:List (Addr×Obj)} {σ:St} {H:Hp} {s:Shared} {A:Around} {E:Value→Shared→Prop} {Q:Value→Shared→Prop} {c:Value} {b:Bool}
end
end L2
namespace L2
open PySem PySem.Spec PyProof.Rows
def zf (P:Program) (w:World) (K:PySem.W.Frag) (mg:Str→Option Value) (base:Heap) (k:Nat) (x:Str) (ps:List Str) (sp:Sp):Prop:=
 ∃ f fd,mg x=some (.ref f)∧PySem.W.keepIn K (.ref f)=true∧Binds K fd ps []∧pJ P w K mg base (Qi P w) k f fd ps sp
def zg (sp:Sp) (R:St→XK) (t:TA):TE:=fun σ H Q=>t σ H fun vs H1=>sp vs H1 Q (R σ)
theorem MP {X:Cx} (h:∀ (e:Value) (s:Shared),X.xe e s=False):qN X (fun _ _ _ _=>False):=fun _ _ _ ⟨_,_,_,_,_,_,_,_,z⟩=>z.elim
section
variable {X:Cx} {k:Nat} {f C:Addr} {fd:FuncData} {ps:List Str} {sp:Sp} {R:St→XK} {x:Str} {p pos:Pos} {e:Expr} {es:List Expr} {t:TA} {pins:List (Addr×Obj)} {σ:St} {H:Hp} {s:Shared} {Q:VK} {us:List Value} {vs:List V}
theorem Ks (F:pJ X.prog X.w X.K X.mg X.base (Qi X.prog X.w) k f fd ps sp) (hr:Room k X.A) (hb:Binds X.K fd ps []) (hx:qN X R) (I:Inv X pins σ H s) (r:Vals vs us) (h:sp vs H Q (R σ)):
  wpAny (model X.prog X.w) X.A (call (.ref f) us) (EP X pins σ Q) X.xe s:=by
 have hl:(us ++ []).length=ps.length:=by rw [List.append_nil,← r.length];exact F.len _ _ _ _ h
 have bd:=hb s us I.kIn hl
 rw [List.append_nil] at bd
 refine wpAny_call (codeAny_mono (F.run X.A X.stack s H ⟨us,[]⟩ us vs Q (R σ) hr I.env0 bd r h) fun rr s' hq=>?_)
 cases rr with
 | error e=>exact hx pins e s' (Km I hq)
 | ok fl=>
  cases fl with
  | ret u=>exact I.after hq
  | next=>exact False.elim hq
  | brk=>exact False.elim hq
  | cont=>exact False.elim hq
theorem Gy (F:zf X.prog X.w X.K X.mg X.base k x ps sp) (hr:Room k X.A) (hg:Gl X x) (hx:qN X R) (ha:PA X (e :: es) t) (hdb:(x == ("__debug__":Str))=false)
  (he:starEach (e :: es) X.env=(false,eval e X.env) :: starEach es X.env) (hpl:(backTo pos (starEach es X.env)).any (·.1)=false):PE X (.Call (.Name x p) (e :: es) [] pos) (zg sp R t):=by
 obtain ⟨f,fd,a,b,c,d⟩:=F
 intro pins s σ H Q I h
 refine wpAny_Call_Name_kw (rz I hg a ?_ hdb)
 refine PySem.W.callWith_K (h₀:=X.base) I.ok.mod.kin b (d8 (ha pos pins s σ H _ I h) fun us s1 ⟨vs,H1,I1,r,q⟩=>⟨I1.kIn,?_⟩) he hpl
 exact Ks d hr c hx I1 r q
def Gz (K:PySem.W.Frag) (ta tv:TE) (f:Str):TS:=fun D σ H=>tv σ H fun y H1=>ta σ H1 fun x H2=>∃ a C,x= .ref a∧XCls K C∧mz K C f∧
 ((H2 a=some (iB a C)∧∀ d,H2 d=none→d≠a→D.nx σ (upd (upd H2 a (fu a C d)) d (jw d [(f,y)])))∨
  (∃ d fs,H2 a=some (fu a C d)∧H2 d=some (jw d fs)∧fs.length < 1000∧D.nx σ (upd H2 d (jw d (BW f y fs)))))
theorem Ku {o value:Expr} {ta tv:TE} {fn:Str} {pos':Pos} (ha:PE X o ta) (hv:PE X value tv) (hs:swapsWith value (some (.Attribute o fn pos')) pos.line X.env=pure false):PS X (.Assign [.Attribute o fn pos'] value pos) (Gz X.K ta tv fn):=by
 intro pins s σ H D I h
 refine plainObj_wpAny_Assign_Attribute (d8 (hv pins s σ H _ I h) fun u s1 ⟨y,H1,I1,ry,q⟩=>d8 (ha pins s1 σ H1 _ I1 q) fun ov s2 qq0=>?_) hs
 obtain ⟨x,H2,I2,rx,a,C,ex,c,n,q2⟩:=qq0
 subst ex
 obtain rfl:ov=Value.ref a:=rx
 rcases q2 with ⟨e,q2⟩ | ⟨d,fs,e,e2,hl,q2⟩
 ·exact Up I2 e c n ry fun s3 d z1 z2 I3=>⟨σ,_,I3,q2 d z1 z2⟩
 ·exact Uq I2 e e2 hl c n ry fun s3 I3=>⟨σ,_,I3,q2⟩
def v5 (C:Addr) (fl:List Str):Sp:=fun vs H Q E=>∃ x ws,vs= .ref x :: ws∧ws.length=fl.length∧H x=some (iB x C)∧∀ d,H d=none→d≠x→Q .non (upd (upd H x (fu x C d)) d (jw d (fl.zip ws)))
structure Ur (P:Program) (w:World) (K:PySem.W.Frag) (mg:Str→Option Value) (base:Heap) (k:Nat) (x:Str) (C:Addr) (fl:List Str):Prop where
 at_:mg x=some (.ref C)
 cl:Wf K C
 kp:PySem.W.keepIn K (.ref C)=true
 na:∀ f∈fl,mz K C f
 run:∃ f fd ps,PySem.W.findIn K (.ref C) "__init__"=some (some (.ref f))∧PySem.W.typeIn K (.ref f)=some (.type "function")∧Binds K fd ps []∧pJ P w K mg base yP k f fd ps (v5 C fl)
def zj (C:Addr) (fl:List Str) (R:St→XK) (t:TA):TS:=fun _ σ H=>t σ H fun vs H1=>vs.length=fl.length∧vs.length≤sizeLine∧∀ x H2,Same H1 H2→Sg H2 x C (fl.zip vs)→R σ (.ref C) (some x) H2
theorem Qk {Q:Value→Shared→Prop} {E:Value→Shared→Prop} {fl:List Str} (M:Ur X.prog X.w X.K X.mg X.base k x C fl) (hr:Room (k+1) X.A) (I:Inv X pins σ H s) (r:Vals vs us) (hl:vs.length=fl.length) (hz:vs.length≤sizeLine)
  (q:∀ a d s',H a=none→H d=none→d≠a→Inv X pins σ (upd (upd (upd H a (iB a C)) a (fu a C d)) d (jw d (fl.zip vs))) s'→Q (.ref a) s'):wpAny (model X.prog X.w) X.A (call (.ref C) us) Q E s:=by
 obtain ⟨f,fd,ps,hi,hf,hb,F⟩:=M.run
 refine Qh I.kIn M.cl.cls.xi hi hf (by rw [← r.length];exact hz) ?_
 have I1:Inv X pins σ H {s with heap:=s.heap.push {cls:=.type "tuple",data:=.seq us.toArray}}:=I.kept (t':=s.toks) fun b o e=>Heap.get?_push_of_some _ e
 have sz1:(s.heap.push {cls:=.type "tuple",data:=.seq us.toArray}).objs.size=s.heap.objs.size+1:=Heap.size_push _ _
 have hfr:H (s.heap.objs.size+1)=none:=I.hok.fresh (Nat.le_succ _)
 have gx:((s.heap.push {cls:=.type "tuple",data:=.seq us.toArray}).push (fj C none #[.ref s.heap.objs.size,.none,.none,.none,.bool false,.none])).get? (s.heap.objs.size+1)=some (fj C none #[.ref s.heap.objs.size,.none,.none,.none,.bool false,.none]):=by
  rw [← sz1];exact Heap.get?_push_size _ rfl
 have I2:Inv X pins σ (upd H (s.heap.objs.size+1) (iB (s.heap.objs.size+1) C)) {s with heap:=(s.heap.push {cls:=.type "tuple",data:=.seq us.toArray}).push (fj C none #[.ref s.heap.objs.size,.none,.none,.none,.bool false,.none])}:=
  I1.laid (t':=s.toks) (fun b o e=>Heap.get?_push_of_some _ e) (by show (s.heap.push _).objs.size≤_;rw [sz1];exact Nat.le_refl _) ⟨⟨_,gx⟩,⟨_,gx⟩,fun h1 h2 ⟨t,z⟩ kk=>⟨t,kk _ z⟩⟩
 have r2:Vals (V.ref (s.heap.objs.size+1) :: vs) (Value.ref (s.heap.objs.size+1) :: us):=.cons rfl r
 have sp0:v5 C fl (V.ref (s.heap.objs.size+1) :: vs) (upd H (s.heap.objs.size+1) (iB (s.heap.objs.size+1) C)) (fun v H2=>v= .non∧∃ d,H d=none∧d≠s.heap.objs.size+1∧H2=upd (upd (upd H (s.heap.objs.size+1) (iB (s.heap.objs.size+1) C)) (s.heap.objs.size+1) (fu (s.heap.objs.size+1) C d)) d (jw d (fl.zip vs))) E0:=
  ⟨_,_,rfl,hl,ao,fun d hd ne=>⟨rfl,d,by rw [aB ne] at hd;exact hd,ne,rfl⟩⟩
 have hl2:((Value.ref (s.heap.objs.size+1) :: us) ++ []).length=ps.length:=by rw [List.append_nil,← r2.length];exact F.len _ _ _ _ sp0
 have bd:=hb _ (Value.ref (s.heap.objs.size+1) :: us) I2.kIn hl2
 rw [List.append_nil] at bd
 refine wpAny_call (codeAny_mono (F.run _ X.stack _ _ ⟨Value.ref (s.heap.objs.size+1) :: us,[]⟩ (Value.ref (s.heap.objs.size+1) :: us) _ _ E0 (hr.make C us []) (I2.env0.make C us []) bd r2 sp0) fun rr s' hq=>?_)
 cases rr with
 | error e=>exact False.elim hq
 | ok fl=>
  cases fl with
  | ret u=>
   obtain ⟨v,H',I3,rv,ev,d,hd,ne,eH⟩:=I2.after hq
   subst ev
   rw [eH] at I3
   exact ⟨rv,q _ d s' hfr hd ne I3⟩
  | next=>exact False.elim hq
  | brk=>exact False.elim hq
  | cont=>exact False.elim hq
theorem thrown {env:Env} {C:Addr} {Q:Flow→Shared→Prop} {m:Sem Value} (hc:X.calm=true) (c:Wf X.K C) (hx:qN X R)
  (h:wpAny (model X.prog X.w) X.A m (fun v s1=>∃ x d H1,v= .ref x∧Inv X pins σ H1 s1∧H1 x=some (fu x C d)∧R σ (.ref C) (some x) (upd H1 x (tD x C d))) X.xe s):
  wpAny (model X.prog X.w) X.A (raiseStmt env (some m) none) Q X.xe s:=by
 obtain ⟨nm,qn,N,bs,bm,sn,sub,ab,col,dd,k0,k1,k2,k3,k5,lk0,tl⟩:=zc c.cls.xi
 unfold raiseStmt
 refine wpAny_bind (d8 h fun v s1 qq0=>?_)
 obtain ⟨x,d,H1,ev,I1,e1,r1⟩:=qq0
 subst ev
 have KI:=I1.kIn
 obtain ⟨t,he⟩:=ql I1.hok e1
 have hh:X.A.handled=none:=I1.ok.hd hc
 have hcB:(Value.ref C :: bm).contains (.type "BaseException")=true:=by
  rw [List.contains_cons,(tl _ KI).hasType (show We.contains (.type "BaseException")=true from by decide)];rfl
 have fin:X.xe (.ref x) s1:=by
  have I2:Inv X pins σ (upd H1 x (tD x C d)) s1:=I1.write (t':=s1.toks) (x:=x) (e:=x) (h':=s1.heap) (by rw [e1];exact True.intro) (.inl rfl) (fun b o _ z=>z) ⟨_,he⟩ (Aq he rfl)
  exact hx pins _ s1 ⟨x,C,d,σ,_,rfl,I2,⟨ao,.inl ⟨_,he,rfl,rfl⟩⟩,r1⟩
 have hD:=KI _ _ lk0
 obtain ⟨hp,g,dr,tk,os⟩:=s1
 unfold fj at he
 repeat (first | with_reducible refine wpAny_loadPart_at he ?_ | with_reducible refine wpAny_loadPart_at hD ?_ | (with_reducible refine wpAny_isSubtype_exc hD ?_;rw [hcB]) | wp_step)
 exact wpAny_raiseNew_none hh fin
end
end L2
namespace L2
open PySem PySem.Spec PyProof.Rows
section
variable {X:Cx} {k:Nat} {C:Addr} {R:St→XK} {x:Str} {p cpos pos:Pos} {e:Expr} {es:List Expr} {t:TA} {fl:List Str}
theorem xP {H:Hp} {a d:Addr} {vs:List V} (ha:H a=none) (hd:H d=none) (ne:d≠a):Same H (upd (upd (upd (upd H a (iB a C)) a (fu a C d)) d (jw d (fl.zip vs))) a (tD a C d))∧
  Sg (upd (upd (upd (upd H a (iB a C)) a (fu a C d)) d (jw d (fl.zip vs))) a (tD a C d)) a C (fl.zip vs):=by
 refine ⟨fun b o h=>?_,d,ao,by rw [aB ne,ao]⟩
 have na:b≠a:=fun z=>by rw [z,ha] at h;cases h
 have nd:b≠d:=fun z=>by rw [z,hd] at h;cases h
 rw [aB na,aB nd,aB na,aB na]
 exact h
theorem GC (M:Ur X.prog X.w X.K X.mg X.base k x C fl) (hr:Room (k+1) X.A) (hc:X.calm=true) (hg:Gl X x) (hx:qN X R) (ha:PA X (e :: es) t) (hdb:(x == ("__debug__":Str))=false)
  (he:starEach (e :: es) X.env=(false,eval e X.env) :: starEach es X.env) (hpl:(backTo cpos (starEach es X.env)).any (·.1)=false):PS X (.Raise (some (.Call (.Name x p) (e :: es) [] cpos)) none pos) (zj C fl R t):=by
 intro pins s σ H D I h
 rw [arm_exec_Raise]
 refine wpAny_bind (wpAny_standAt (thrown (pins:=pins) (σ:=σ) (C:=C) hc M.cl hx (wpAny_bind (d8 (Q:=fun v s1=>∃ x d H1,v= .ref x∧Inv X pins σ H1 s1∧H1 x=some (fu x C d)∧R σ (.ref C) (some x) (upd H1 x (tD x C d))) ?_ fun v s3 h3=>wpAny_bind (wpAny_standAt (wpAny_pure h3))))))
 refine wpAny_Call_Name_kw (rz I hg M.at_ ?_ hdb)
 refine PySem.W.callWith_K (h₀:=X.base) I.ok.mod.kin M.kp (d8 (ha cpos pins s σ H _ I h) fun us s1 ⟨vs,H1,I1,r,hl,hz,q⟩=>⟨I1.kIn,?_⟩) he hpl
 refine Qk M hr I1 r hl hz fun a d s2 z1 z2 ne I2=>⟨a,d,_,rfl,I2,?_,?_⟩
 ·rw [aB (Ne.symm ne),ao]
 ·obtain ⟨w1,w2⟩:=xP (C:=C) (fl:=fl) (vs:=vs) z1 z2 ne
  exact q a _ w1 w2
theorem PS.nox {st:Stmt} {t:TS} (h:PS X.nox st t):PS X st t:=fun pins s σ H D I hw=>
 wpAny_mono (h pins s σ H D (I.wish _) hw) (fun _ _ q=>q.unwish) fun _ _ z=>False.elim z
end
section
variable {X:Cx} {pins:List (Addr×Obj)} {σ σ':St} {H:Hp} {s:Shared} {h':Heap}
end
end L2
namespace L2
open PySem PySem.Spec PyProof.Rows
section
variable {X:Cx} {pins pins':List (Addr×Obj)} {σ:St} {H:Hp} {s:Shared} {x C d T:Addr} {R:St→XK} {D:Ends}
abbrev TH:=Ends→St→Addr→Addr→Hp→Prop
def PH (X:Cx) (hs:List ExceptHandler) (th:TH):Prop:=∀ (pins:List (Addr×Obj)) (s:Shared) (σ:St) (H:Hp) (D:Ends) (x C d T:Addr),Inv X pins σ H s→Head X pins H x C d T s.heap→th D σ x C H→
 wpAny (model X.prog X.w) X.A (handleBy (.ref x) X.env hs) (SP X pins D) X.xe s
variable {nm n:Str} {P:Addr} {i:Nat} {p pos:Pos} {b0:Stmt} {suite:List Stmt} {ts:TS} {th:TH} {hs:List ExceptHandler}
end
end L2
namespace L2
open PySem PySem.Spec PyProof.Rows
def fX (mg:Str→Option Value) (x:Str):Addr:=match mg x with
 | some (.ref a)=>a
 | _=>0
theorem Aw {mg:Str→Option Value} {x:Str} {C:Addr} (h:mg x=some (.ref C)):fX mg x=C:=by unfold fX;rw [h]
structure Ql (K:PySem.W.Frag) (mg:Str→Option Value) (x:Str):Prop where
 at_:mg x=some (.ref (fX mg x))
 cl:Wf K (fX mg x)
theorem Us {K:PySem.W.Frag} {mg:Str→Option Value} {h:Heap} (X:K.In h) (G:h.Ns mainGlobals mg) {x:Str} {C:Addr} (a:PySem.W.nsIn K mainGlobals x=some (some (.ref C))) (b:Av K C=true):Ql K mg x:=by
 have m:=PySem.W.mg_of X G a
 have e:=Aw m
 exact ⟨by rw [e];exact m,by rw [e];exact Gx b⟩
structure Kv (K:PySem.W.Frag) (mg:Str→Option Value) (x:Str) (fl:List Str) (qual:Str) (st:Stmt):Prop where
 c:Ql K mg x
 kp:PySem.W.keepIn K (.ref (fX mg x))=true
 na:∀ f∈fl,mz K (fX mg x) f
 ini:∃ f fd,PySem.W.findIn K (.ref (fX mg x)) "__init__"=some (some (.ref f))∧PySem.W.typeIn K (.ref f)=some (.type "function")∧Fun K "__init__" qual st f fd
def Qm (K:PySem.W.Frag) (C:Addr) (fl:List Str):Bool:=fl.all fun n=>PySem.W.findIn K (.ref C) n == some none
theorem Ut {K:PySem.W.Frag} {mg:Str→Option Value} {h:Heap} (X:K.In h) (G:h.Ns mainGlobals mg) {x qual:Str} {C f:Addr} {fl:List Str} {st:Stmt} {oc:Value} {od an:Option Addr} {osl:Array (Option Value)} {kV doc pm cdv ct:Value}
  (a:PySem.W.nsIn K mainGlobals x=some (some (.ref C))) (b:Av K C=true) (kp:PySem.W.keepIn K (.ref C)=true) (na:Qm K C fl=true)
  (i:PySem.W.findIn K (.ref C) "__init__"=some (some (.ref f))) (t:PySem.W.typeIn K (.ref f)=some (.type "function"))
  (l:K.lookup f=some ⟨oc,od,.func (PySem.W.fnOf "__init__" qual (fW st) (cO st) (au st) .none kV doc pm an cdv ct),osl⟩) (c:PySem.W.codeIn K cdv qual=true) (k:PySem.W.keepIn K (.ref f)=true):Kv K mg x fl qual st:=by
 have m:=PySem.W.mg_of X G a
 have e:=Aw m
 refine ⟨Us X G a b,by rw [e];exact kp,fun n hn=>?_,f,_,by rw [e];exact i,t,Fb l c k⟩
 rw [e]
 have:=List.all_eq_true.mp na n hn
 exact beq_iff_eq.mp this
structure Sub (K:PySem.W.Frag) (mg:Str→Option Value) (x y:Str) (b:Bool):Prop where
 mro:PySem.W.mroIn K (fX mg x) (.ref (fX mg y))=some b
 one:PySem.W.kitOne K (.ref (fX mg x)) (.ref (fX mg y))=some b
structure JH (X:Cx) (hs:List ExceptHandler) (th:TH):Prop where
 run:PH X hs th
section
variable {X:Cx} {K:PySem.W.Frag} {k:Nat} {x n fn:Str} {ps:List Str} {sp:Sp} {R:St→XK} {p pos cpos pos':Pos} {e o value:Expr} {es:List Expr} {t:TA} {ta tv:TE} {st:Stmt} {u ts:TS} {th:TH} {hs:List ExceptHandler} {i:Nat}
theorem lB (F:zf X.prog X.w X.K X.mg X.base k x ps sp) (hr:Room k X.A) (hg:Gl X x) (hx:qN X R) (ha:JA X (e :: es) t) (hdb:(x == ("__debug__":Str))=false) (h:autoParam ((e :: es).all notStar=true) L2.auto4._auto_1):
  JE X (.Call (.Name x p) (e :: es) [] pos) (zg sp R t):=by
 have h1:notStar e=true:=by simp only [List.all_cons,Bool.and_eq_true] at h;exact h.1
 have h2:es.all notStar=true:=by simp only [List.all_cons,Bool.and_eq_true] at h;exact h.2
 exact ⟨Gy F hr hg hx ha.run hdb (eY h1) (mD h2)⟩
theorem Qn (h:JS X.nox st u):JS X st u:=⟨h.run.nox⟩
theorem Kw (hK:X.K=K) (ha:JE X o ta) (hv:JE X value tv) (h:autoParam (iJ value=true) L2.auto4._auto_1):JS X (.Assign [.Attribute o fn pos'] value pos) (Gz K ta tv fn):=by
 subst hK
 exact ⟨Ku ha.run hv.run (xF h)⟩
theorem GD {fl:List Str} (M:Ur X.prog X.w X.K X.mg X.base k x (fX X.mg x) fl) (hr:Room (k+1) X.A) (hc:X.calm=true) (hg:Gl X x) (hx:qN X R) (ha:JA X (e :: es) t) (hdb:(x == ("__debug__":Str))=false) (h:autoParam ((e :: es).all notStar=true) L2.auto4._auto_1):
  JS X (.Raise (some (.Call (.Name x p) (e :: es) [] cpos)) none pos) (zj (fX X.mg x) fl R t):=by
 have h1:notStar e=true:=by simp only [List.all_cons,Bool.and_eq_true] at h;exact h.1
 have h2:es.all notStar=true:=by simp only [List.all_cons,Bool.and_eq_true] at h;exact h.2
 exact ⟨GC M hr hc hg hx ha.run hdb (eY h1) (mD h2)⟩
end
section
variable {P:Program} {w:World} {K:PySem.W.Frag} {mg:Str→Option Value} {base:Heap}
theorem Ax {x:Str} {st:Stmt} {N ps:List Str} {k:Nat} {sp:Sp} (D:eO K mg x st) (S:aP N ps (au st))
  (hb:∀ (kV doc pm:Value) (an:Option Addr) (cdv ct:Value) (us:List Value),us.length=ps.length→bindArgs (PySem.W.fnOf x x (fW st) (cO st) (au st) .none kV doc pm an cdv ct) ⟨us,[]⟩=pure (ps.zip us))
  (len:∀ vs H Q E,sp vs H Q E→vs.length=ps.length)
  (hbody:∀ (f:Addr) (cdv:Value) (A:Around) (outer:List Env) (s:Shared) (H:Hp) (vs:List V) (Q:VK) (E:XK),Room k (A.deeper (envOfC x (au st) s.heap.objs.size f cdv))→sp vs H Q E→
   ∃ t,JB (nQ (Qi P w) P w K mg base N x (au st) f cdv A outer s H E) (cO st) t∧t {nx:=fun _ H'=>Q .non H',rt:=Q} (start N vs) H):zf P w K mg base (k+1) x ps sp:=by
 obtain ⟨f,fd,F,hm⟩:=D
 refine ⟨f,fd,hm,F.kp,F.binds hb,?_⟩
 obtain ⟨oc,od,kV,doc,pm,an,cdv,ct,osl,rfl,lk,hcd⟩:=F.ex
 exact Ms lk hcd S len fun A outer s H vs Q E hr h=>let ⟨t,j,q⟩:=hbody f cdv A outer s H vs Q E hr h;⟨t,j.run,q⟩
theorem mkX {x qual:Str} {st:Stmt} {N ps:List Str} {fl:List Str} {k:Nat} (D:Kv K mg x fl qual st) (S:aP N ps (au st))
  (hb:∀ (kV doc pm:Value) (an:Option Addr) (cdv ct:Value) (us:List Value),us.length=ps.length→bindArgs (PySem.W.fnOf "__init__" qual (fW st) (cO st) (au st) .none kV doc pm an cdv ct) ⟨us,[]⟩=pure (ps.zip us))
  (hl:ps.length=fl.length+1)
  (hbody:∀ (f:Addr) (cdv:Value) (A:Around) (outer:List Env) (s:Shared) (H:Hp) (vs:List V) (Q:VK) (E:XK),Room k (A.deeper (envOfC qual (au st) s.heap.objs.size f cdv))→v5 (fX mg x) fl vs H Q E→
   ∃ t,JB (nQ yP P w K mg base N qual (au st) f cdv A outer s H E).nox (cO st) t∧t {nx:=fun _ H'=>Q .non H',rt:=Q} (start N vs) H):Ur P w K mg base (k+1) x (fX mg x) fl:=by
 obtain ⟨f,fd,a,b,F⟩:=D.ini
 refine ⟨D.c.at_,D.c.cl,D.kp,D.na,f,fd,ps,a,b,F.binds hb,F.ok S (fun vs H Q E h=>?_) fun cdv A outer s H vs Q E hr h=>let ⟨t,j,q⟩:=hbody f cdv A outer s H vs Q E hr h;⟨t,j.run,q⟩⟩
 obtain ⟨y,ws,rfl,hw,_⟩:=h
 rw [List.length_cons,hw,hl]
end
end L2
namespace L2
open PySem PySem.Spec PyProof.Rows
def initOf:Stmt→Stmt
 | .ClassDef _ _ _ (s :: _) _ _ _ _ _ _ _=>s
 | s=>s
section
variable {σ:St} {H:Hp} {D:Ends} {Q:VK} {sp:Sp} {R:St→XK} {a:TA} {K:PySem.W.Frag} {C P:Addr} {fl:List Str} {th:TH} {ts:TS} {i:Nat} {ta:TE} {f:Str}
theorem lC (h:a σ H fun vs H1=>sp vs H1 Q (R σ)):zg sp R a σ H Q:=h
theorem lD (h:a σ H fun vs H1=>vs.length=fl.length∧vs.length≤sizeLine∧∀ x H2,Same H1 H2→Sg H2 x C (fl.zip vs)→R σ (.ref C) (some x) H2):zj C fl R a D σ H:=h
theorem rd1 {f1 p0 p1:Str} {vs:List V} {E:XK} (c:XCls K C) (n:mz K C f1) (h:v5 C [f1] vs H Q E):Gz K (qW 0) (qW 1) f1 {nx:=fun _ H'=>Q .non H',rt:=Q} (start [p0,p1] vs) H:=by
 obtain ⟨x,ws,rfl,hw,hx,q⟩:=h
 match ws,hw with
 | [v],_=>exact ⟨v,rfl,.ref x,rfl,x,C,rfl,c,n,.inl ⟨hx,fun d hd ne=>q d hd ne⟩⟩
end
end L2
namespace L2
open PySem PySem.Spec PyProof.Rows
section
variable {X:Cx} {tg:Expr}
end
section
variable {σ:St} {H:Hp} {Q:VK}
end
section
variable {X:Cx} {e:Expr} {te:TE} {lo hi:Option Expr} {st:Expr} {tl th ts:TO} {pos p2:Pos}
theorem Ky:JE X (.Dict [] [] pos) yR:=⟨Fp⟩
end
section
variable {σ:St} {H:Hp} {Q:VK} {te:TE}
theorem qm (h:∀ p,H p=none→Q (.ref p) (upd H p (.dK []))):yR σ H Q:=h
end
def Uu (K:PySem.W.Frag) (neg:Bool):R2:=fun x y H Q=>∃ a b xs,x= .ref a∧y= .ref b∧SqL K H a xs∧SqL K H b xs∧(∀ v∈xs,iI v=true∨∃ r,v= .ref r)∧Q (.bl (!neg)) H
theorem tE {v:V} (f:iI v=true):Ab v v=true:=by
 cases v <;> first | (cases f;done) | rfl | (simp [Ab])
section
variable {X:Cx}
theorem Qo (hu:X.A.units < cLine):OpR X (compareOp .Eq) (Uu X.K false):=by
 intro pins s σ H x y v u Q I rx ry h
 obtain ⟨a,b,xs,rfl,rfl,ha,hb,fx,q⟩:=h
 cases rx
 cases ry
 obtain ⟨its,r1,p1,z1⟩:=I.list ha
 obtain ⟨jts,r2,p2,z2⟩:=I.list hb
 have l1:its.toArray.size=xs.length:=by simpa using r1.length.symm
 have l2:jts.toArray.size=xs.length:=by simpa using r2.length.symm
 refine SeqAt.eq_listAt (e:=fun _=>true) p1.isList p2.isList (by rw [l1,l2]) hu (fun j h1 h2=>?_) ?_
 ·have hj:j < xs.length:=by omega
  obtain ⟨u1,e1,q1⟩:=r1.get (List.getElem?_eq_getElem hj)
  obtain ⟨u2,e2,q2⟩:=r2.get (List.getElem?_eq_getElem hj)
  have f1:its.toArray[j]=u1:=by
   obtain ⟨_,z⟩:=List.getElem?_eq_some_iff.mp e1
   simpa using z
  have f2:jts.toArray[j]=u2:=by
   obtain ⟨_,z⟩:=List.getElem?_eq_some_iff.mp e2
   simpa using z
  rw [f1,f2]
  rcases fx _ (List.getElem_mem hj) with f | ⟨r,f⟩
  ·rw [← tE f]
   exact rZ q1 q2 f f
  ·rw [f] at q1 q2
   cases (show u1=Value.ref r from q1)
   cases (show u2=Value.ref r from q2)
   exact SeqAt.EqAt.same _
 ·have e:(List.range its.toArray.size).all (fun _=>true)=true:=by simp
  rw [e]
  exact ⟨.bl true,H,I,rfl,q⟩
def Qp (K:PySem.W.Frag):R2:=fun x y H Q=>Gq K x y H Q∨Uu K false x y H Q
theorem Qq {K:PySem.W.Frag} (hK:X.K=K) (hu:X.A.units+64 < cLine):OpR X (compareOp .Eq) (Qp K):=by
 subst hK
 exact (ju rfl hu).or (Qo (Nat.lt_of_le_of_lt (Nat.le_add_right _ _) hu))
end
section
variable {H:Hp} {Q:VK} {K:PySem.W.Frag}
theorem mU {i j:Int} (h:Q (.bl (decide (V.int i=V.int j))) H):Qp K (.int i) (.int j) H Q:=.inl (mL h)
end
end L2
namespace L2
open PySem PySem.Spec PyProof.Rows
open AutoSeq1 (wpAny_loadPart')
theorem v6:isSubtype (.type "dict") (.type "dict")=pure true:=by rw [isSubtype_type];kernel_rfl
theorem CV {prog:Program} {w:World} {A:Around} {E:Value→Shared→Prop} {s:Shared} {Q:Value→Shared→Prop} {a:Addr} {o:Obj} {e:DictEntry} {ep:Nat} {k:Key} (ho:s.heap.get? a=some o) (hc:o.cls= .type "dict") (hd:o.data= .dict #[e] ep)
  (hkey:(bR prog w).is k e.key=true) (hh:e.hash=(bR prog w).hash k) (hsm:(a == sysModules)=false) (hu:A.units < cLine) (h:Q (.bool true) s):wpAny (model prog w) A (compareOp .Eq (.ref a) (.ref a)) Q E s:=by
 show wpAny _ _ (richCompare .Eq (.ref a) (.ref a)) _ _ _
 refine wpAny_richCompare_same_room ⟨o,ho,hc⟩ ⟨o,ho,hc⟩ F.slot_dict_eq (wpAny_call (codeAny_call_builtin F.slot_dict_eq.plain F.entry_dict_eq (F.slot_dict_eq.check _ _ _ _ _ _ _ _ ⟨o,ho,hc⟩ (F.args_dict_eq_2 _ _) ?_))) hu
 have ko:KeysOf (bR prog w) #[e]:=fun x hx=>by
  simp at hx
  subst hx
  exact ⟨k,hkey,hh⟩
 have f2:=v6
 obtain ⟨hp,g,d,tk,os⟩:=s
 have hT:(⟨hp,g,d,tk,os⟩:Shared).TypeIs (.ref a) "dict":=⟨_,ho,hc⟩
 unfold Builtin.«dict.__eq__»
 wp_walk using wpAny_loadPart' ho
 have en:∀ (Q:Array DictEntry→Shared→Prop) (E:Value→Shared→Prop),Q #[e] ⟨hp,g,d,tk,os⟩→wpAny (model prog w) A.in1 (dictEntries a) Q E ⟨hp,g,d,tk,os⟩:=fun Q E q=>by
  unfold dictEntries
  refine wpAny_bind (wpAny_loadPart ho ?_)
  simp only [hd]
  exact wpAny_pure q
 have eo:∀ (Q:Nat→Shared→Prop) (E:Value→Shared→Prop),Q ep ⟨hp,g,d,tk,os⟩→wpAny (model prog w) A.in1 (dictEpoch a) Q E ⟨hp,g,d,tk,os⟩:=fun Q E q=>by
  unfold dictEpoch
  refine wpAny_bind (wpAny_loadPart ho ?_)
  simp only [hd]
  exact wpAny_pure q
 simp only [hd]
 refine wpAny_pure ?_
 refine wpAny_bind (en _ _ ?_)
 rw [if_neg (by simp)]
 refine wpAny_bind (eo _ _ ?_)
 refine wpAny_bind ?_
 rw [Std.Legacy.Range.forIn_eq_forIn_range']
 simp only [Std.Legacy.Range.size,Nat.sub_zero,Nat.add_sub_cancel,Nat.div_one]
 show wpAny _ _ (forIn [0] _ _) _ _ _
 rw [List.forIn_cons]
 refine wpAny_bind (wpAny_bind (en _ _ ?_))
 show wpAny _ _ (holding [e.key,e.val] _ >>=_) _ _ _
 refine wpAny_bind (wpAny_holding ?_)
 refine wpAny_bind (show wpAny (model prog w) A.in1 (dictFind a e.key e.hash) _ _ _ from ?_)
 rw [hh]
 refine wpAny_dictFind_of hkey ho hd ko ?_
 have fi:(#[e]:Array DictEntry).findIdx? (fun e=>(bR prog w).is k e.key)=some 0:=by simp [hkey]
 rw [fi]
 refine wpAny_bind (en _ _ ?_)
 show wpAny _ _ (holding [e.val] (eqBool e.val e.val)) _ _ _
 refine wpAny_holding (SeqAt.EqAt.same e.val prog w _ _ ?_)
 rw [if_neg (by simp)]
 refine wpAny_bind (eo _ _ ?_)
 rw [if_neg (by simp)]
 refine wpAny_pure ?_
 show wpAny _ _ (forIn [] _ _) _ _ _
 rw [List.forIn_nil]
 refine wpAny_pure (wpAny_pure ?_)
 exact wpAny_pure ⟨(fun z=>nomatch z),h⟩
section
variable {X:Cx}
def MT (K:PySem.W.Frag):R2:=fun x y H Q=>∃ a b xs,x= .ref a∧y= .ref b∧SqT K H a xs∧SqT K H b xs∧(∀ v∈xs,iI v=true∨∃ r,v= .ref r)∧Q (.bl true) H
theorem Kz (hu:X.A.units < cLine):OpR X (compareOp .Eq) (MT X.K):=by
 intro pins s σ H x y v u Q I rx ry h
 obtain ⟨a,b,xs,rfl,rfl,ha,hb,fx,q⟩:=h
 cases rx
 cases ry
 obtain ⟨its,r1,p1,z1⟩:=I.tuple ha
 obtain ⟨jts,r2,p2,z2⟩:=I.tuple hb
 have l1:its.toArray.size=xs.length:=by simpa using r1.length.symm
 have l2:jts.toArray.size=xs.length:=by simpa using r2.length.symm
 refine SeqAt.eq_tupleAt (e:=fun _=>true) p1 p2 hu (fun j h1 h2=>?_) ?_
 ·have hj:j < xs.length:=by omega
  obtain ⟨u1,e1,q1⟩:=r1.get (List.getElem?_eq_getElem hj)
  obtain ⟨u2,e2,q2⟩:=r2.get (List.getElem?_eq_getElem hj)
  have f1:its.toArray[j]=u1:=by
   obtain ⟨_,z⟩:=List.getElem?_eq_some_iff.mp e1
   simpa using z
  have f2:jts.toArray[j]=u2:=by
   obtain ⟨_,z⟩:=List.getElem?_eq_some_iff.mp e2
   simpa using z
  rw [f1,f2]
  rcases fx _ (List.getElem_mem hj) with f | ⟨r,f⟩
  ·rw [← tE f]
   exact rZ q1 q2 f f
  ·rw [f] at q1 q2
   cases (show u1=Value.ref r from q1)
   cases (show u2=Value.ref r from q2)
   exact SeqAt.EqAt.same _
 ·have e:((List.range (min its.toArray.size jts.toArray.size)).all (fun _=>true) && its.toArray.size == jts.toArray.size)=true:=by rw [l1,l2];simp
  rw [e]
  exact ⟨.bl true,H,I,rfl,q⟩
def M5:R2:=fun x y H Q=>∃ a k v,x= .ref a∧y= .ref a∧H a=some (.dK [(k,v)])∧Q (.bl true) H
theorem KC (hu:X.A.units < cLine):OpR X (compareOp .Eq) M5:=by
 intro pins s σ H x y v u Q I rx ry h
 obtain ⟨a,k,z,rfl,rfl,ha,q⟩:=h
 cases rx
 cases ry
 obtain ⟨_,hsm,vs,kv,o,es,ep,h1,h2,h3,h4,h5,h6⟩:=(show ObjOk X.prog X.w H s.heap a (.dK [(k,z)]) from I.hok a _ ha)
 cases kv with
 | cons a1 a2=>
  cases a2
  obtain ⟨l⟩:=es
  dsimp only at h5
  cases h5 with
  | @cons en _ _ _ p1 p2 p3=>
   cases p3
   obtain ⟨k',b1,b2⟩:=h4 en (by simp)
   exact CV (e:=en) h1 h2.1 h3 b1 b2 hsm hu ⟨.bl true,H,I,rfl,q⟩
def Qs (K:PySem.W.Frag):R2:=fun x y H Q=>Qp K x y H Q∨MT K x y H Q∨M5 x y H Q
theorem Qt {K:PySem.W.Frag} (hK:X.K=K) (hu:X.A.units+64 < cLine):OpR X (compareOp .Eq) (Qs K):=by
 subst hK
 exact (Qq rfl hu).or ((Kz (Nat.lt_of_le_of_lt (Nat.le_add_right _ _) hu)).or (KC (Nat.lt_of_le_of_lt (Nat.le_add_right _ _) hu)))
end
section
variable {H:Hp} {Q:VK} {K:PySem.W.Frag}
theorem lE {σ:St} {r r':R2} {ta tb tc:TE} (h:ta σ H fun x H1=>tb σ H1 fun y H2=>r x y H2 fun z H3=>∃ k,z= .bl k∧if k=true then tc σ H3 fun w H4=>r' y w H4 Q else Q (.bl false) H3):yG r r' ta tb tc σ H Q:=h
theorem mV {i j:Int} (h:Q (.bl (decide (V.int i=V.int j))) H):Qs K (.int i) (.int j) H Q:=.inl (mU h)
end
end L2
namespace L2
open PySem PySem.Spec PyProof.Rows PySem.SeqAt
theorem zm {n:Nat}:∀ {ds:List PyData},(∀ d∈ds,d.canLay0=true∧d.depth≤n)→PyData.canLayAll0 ds=true∧PyData.depthAll ds≤n
 | [],_=>⟨rfl,by simp [PyData.depthAll]⟩
 | d :: ds,h=>by
  obtain ⟨a,b⟩:=zm fun e he=>h e (List.mem_cons_of_mem _ he)
  obtain ⟨c,e⟩:=h d (by simp)
  rw [PyData.canLayAll0,PyData.depthAll,a,c]
  exact ⟨rfl,by omega⟩
theorem tG {n:Nat} {ds:List PyData} (h:∀ d∈ds,d.canLay0=true∧d.depth≤n):(PyData.list ds).canLay0=true∧(PyData.list ds).depth≤n+1:=by
 obtain ⟨a,b⟩:=zm h
 rw [PyData.canLay0,PyData.depth]
 exact ⟨a,by omega⟩
theorem vm {n:Nat} {ds:List PyData} (h:∀ d∈ds,d.canLay0=true∧d.depth≤n):(PyData.tuple ds).canLay0=true∧(PyData.tuple ds).depth≤n+1:=by
 obtain ⟨a,b⟩:=zm h
 rw [PyData.canLay0,PyData.depth]
 exact ⟨a,by omega⟩
theorem KD (s:Int):(PyData.int s).canLay0=true∧(PyData.int s).depth≤0:=by simp [PyData.canLay0,PyData.depth]
theorem jx {d:PyData} {n:Nat} (h:d.canLay0=true∧d.depth≤n) (hn:n≤64):shaped d=true:=by
 unfold shaped
 rw [h.1,decide_eq_true (by omega)];rfl
theorem vo {A B:Prop} (h:A):if (!false)=true then A else B:=(if_pos (show (!false)=true from rfl)).mpr h
theorem vp {A B:Prop} (h:B):if (!true)=true then A else B:=by rw [if_neg (by simp)];exact h
theorem qp {A B:Prop} (h:A):if (!!true)=true then A else B:=(if_pos (show (!!true)=true from rfl)).mpr h
theorem qt {A B:Prop} (h:B):if (!!false)=true then A else B:=by rw [if_neg (by simp)];exact h
end L2
namespace L2
open PySem PySem.Spec PyProof.Rows PySem.SeqAt
open AutoSeq1 (wpAny_loadPart')
section
variable {X:Cx}
end
theorem zp {prog:Program} {w:World} {A:Around} {E:Value→Shared→Prop} {s:Shared} {Q:Value→Shared→Prop} {a:Addr} {o:Obj} {e:DictEntry} {ep:Nat} {k:Key} (ho:s.heap.get? a=some o) (hc:o.cls= .type "dict") (hd:o.data= .dict #[e] ep)
  (hkey:(bR prog w).is k e.key=true) (hh:e.hash=(bR prog w).hash k) (hsm:(a == sysModules)=false) (hu:A.units < cLine) (h:Q (.bool false) s):wpAny (model prog w) A (compareOp .NotEq (.ref a) (.ref a)) Q E s:=by
 show wpAny _ _ (richCompare .NotEq (.ref a) (.ref a)) _ _ _
 refine wpAny_richCompare_same_room ⟨o,ho,hc⟩ ⟨o,ho,hc⟩ F.slot_dict_ne (wpAny_call (codeAny_call_builtin F.slot_dict_ne.plain F.entry_dict_ne (F.slot_dict_ne.check _ _ _ _ _ _ _ _ ⟨o,ho,hc⟩ (F.args_dict_ne_2 _ _) ?_))) hu
 have ko:KeysOf (bR prog w) #[e]:=fun x hx=>by
  simp at hx
  subst hx
  exact ⟨k,hkey,hh⟩
 have f2:=v6
 obtain ⟨hp,g,d,tk,os⟩:=s
 have hT:(⟨hp,g,d,tk,os⟩:Shared).TypeIs (.ref a) "dict":=⟨_,ho,hc⟩
 unfold Builtin.«dict.__ne__»
 wp_walk using wpAny_loadPart' ho
 have en:∀ (Q:Array DictEntry→Shared→Prop) (E:Value→Shared→Prop),Q #[e] ⟨hp,g,d,tk,os⟩→wpAny (model prog w) A.in1 (dictEntries a) Q E ⟨hp,g,d,tk,os⟩:=fun Q E q=>by
  unfold dictEntries
  refine wpAny_bind (wpAny_loadPart ho ?_)
  simp only [hd]
  exact wpAny_pure q
 have eo:∀ (Q:Nat→Shared→Prop) (E:Value→Shared→Prop),Q ep ⟨hp,g,d,tk,os⟩→wpAny (model prog w) A.in1 (dictEpoch a) Q E ⟨hp,g,d,tk,os⟩:=fun Q E q=>by
  unfold dictEpoch
  refine wpAny_bind (wpAny_loadPart ho ?_)
  simp only [hd]
  exact wpAny_pure q
 simp only [hd]
 refine wpAny_pure ?_
 refine wpAny_bind (en _ _ ?_)
 rw [if_neg (by simp)]
 refine wpAny_bind (eo _ _ ?_)
 refine wpAny_bind ?_
 rw [Std.Legacy.Range.forIn_eq_forIn_range']
 simp only [Std.Legacy.Range.size,Nat.sub_zero,Nat.add_sub_cancel,Nat.div_one]
 show wpAny _ _ (forIn [0] _ _) _ _ _
 rw [List.forIn_cons]
 refine wpAny_bind (wpAny_bind (en _ _ ?_))
 show wpAny _ _ (holding [e.key,e.val] _ >>=_) _ _ _
 refine wpAny_bind (wpAny_holding ?_)
 refine wpAny_bind (show wpAny (model prog w) A.in1 (dictFind a e.key e.hash) _ _ _ from ?_)
 rw [hh]
 refine wpAny_dictFind_of hkey ho hd ko ?_
 have fi:(#[e]:Array DictEntry).findIdx? (fun e=>(bR prog w).is k e.key)=some 0:=by simp [hkey]
 rw [fi]
 refine wpAny_bind (en _ _ ?_)
 show wpAny _ _ (holding [e.val] (eqBool e.val e.val)) _ _ _
 refine wpAny_holding (SeqAt.EqAt.same e.val prog w _ _ ?_)
 rw [if_neg (by simp)]
 refine wpAny_bind (eo _ _ ?_)
 rw [if_neg (by simp)]
 refine wpAny_pure ?_
 show wpAny _ _ (forIn [] _ _) _ _ _
 rw [List.forIn_nil]
 refine wpAny_pure (wpAny_pure ?_)
 exact wpAny_pure ⟨(fun z=>nomatch z),h⟩
theorem xQ {prog:Program} {w:World} {A:Around} {E:Value→Shared→Prop} {s:Shared} {Q:Value→Shared→Prop} {a:Addr} {o:Obj} {ep:Nat} (ho:s.heap.get? a=some o) (hc:o.cls= .type "dict") (hd:o.data= .dict #[] ep)
  (hsm:(a == sysModules)=false) (hu:A.units < cLine) (h:Q (.bool false) s):wpAny (model prog w) A (compareOp .NotEq (.ref a) (.ref a)) Q E s:=by
 show wpAny _ _ (richCompare .NotEq (.ref a) (.ref a)) _ _ _
 refine wpAny_richCompare_same_room ⟨o,ho,hc⟩ ⟨o,ho,hc⟩ F.slot_dict_ne (wpAny_call (codeAny_call_builtin F.slot_dict_ne.plain F.entry_dict_ne (F.slot_dict_ne.check _ _ _ _ _ _ _ _ ⟨o,ho,hc⟩ (F.args_dict_ne_2 _ _) ?_))) hu
 have f2:=v6
 obtain ⟨hp,g,d,tk,os⟩:=s
 have hT:(⟨hp,g,d,tk,os⟩:Shared).TypeIs (.ref a) "dict":=⟨_,ho,hc⟩
 unfold Builtin.«dict.__ne__»
 wp_walk using wpAny_loadPart' ho
 have en:∀ (Q:Array DictEntry→Shared→Prop) (E:Value→Shared→Prop),Q #[] ⟨hp,g,d,tk,os⟩→wpAny (model prog w) A.in1 (dictEntries a) Q E ⟨hp,g,d,tk,os⟩:=fun Q E q=>by
  unfold dictEntries
  refine wpAny_bind (wpAny_loadPart ho ?_)
  simp only [hd]
  exact wpAny_pure q
 have eo:∀ (Q:Nat→Shared→Prop) (E:Value→Shared→Prop),Q ep ⟨hp,g,d,tk,os⟩→wpAny (model prog w) A.in1 (dictEpoch a) Q E ⟨hp,g,d,tk,os⟩:=fun Q E q=>by
  unfold dictEpoch
  refine wpAny_bind (wpAny_loadPart ho ?_)
  simp only [hd]
  exact wpAny_pure q
 simp only [hd]
 refine wpAny_pure ?_
 refine wpAny_bind (en _ _ ?_)
 rw [if_neg (by simp)]
 refine wpAny_bind (eo _ _ ?_)
 refine wpAny_bind ?_
 rw [Std.Legacy.Range.forIn_eq_forIn_range']
 simp only [Std.Legacy.Range.size,Nat.sub_zero,Nat.add_sub_cancel,Nat.div_one]
 show wpAny _ _ (forIn [] _ _) _ _ _
 rw [List.forIn_nil]
 refine wpAny_pure (wpAny_pure ?_)
 exact wpAny_pure ⟨(fun z=>nomatch z),h⟩
def M6:R2:=fun x y H Q=>∃ a kvs,x= .ref a∧y= .ref a∧H a=some (.dK kvs)∧kvs.length≤1∧Q (.bl false) H
section
variable {X:Cx}
theorem KH (hu:X.A.units < cLine):OpR X (compareOp .NotEq) M6:=by
 intro pins s σ H x y v u Q I rx ry h
 obtain ⟨a,kvs,rfl,rfl,ha,hl,q⟩:=h
 cases rx
 cases ry
 obtain ⟨_,hsm,vs,kv,o,es,ep,h1,h2,h3,h4,h5,h6⟩:=(show ObjOk X.prog X.w H s.heap a (.dK kvs) from I.hok a _ ha)
 match kvs,hl with
 | [],_=>
  cases kv
  obtain ⟨l⟩:=es
  dsimp only at h5
  cases h5
  exact xQ h1 h2.1 h3 hsm hu ⟨.bl false,H,I,rfl,q⟩
 | [(k,z)],_=>
  cases kv with
  | cons a1 a2=>
   cases a2
   obtain ⟨l⟩:=es
   dsimp only at h5
   cases h5 with
   | @cons en _ _ _ p1 p2 p3=>
    cases p3
    obtain ⟨k',b1,b2⟩:=h4 en (by simp)
    exact zp (e:=en) h1 h2.1 h3 b1 b2 hsm hu ⟨.bl false,H,I,rfl,q⟩
def GF (K:PySem.W.Frag):R2:=fun x y H Q=>Gr K x y H Q∨M6 x y H Q
theorem Qu {K:PySem.W.Frag} (hK:X.K=K) (hu:X.A.units+64 < cLine):OpR X (compareOp .NotEq) (GF K):=(Qg hK hu).or (KH (Nat.lt_of_le_of_lt (Nat.le_add_right _ _) hu))
end
section
variable {H:Hp} {Q:VK} {K:PySem.W.Frag} {σ:St} {D:Ends}
theorem Qv {i j:Int} (h:Q (.bl (!decide (V.int i=V.int j))) H):GF K (.int i) (.int j) H Q:=.inl (mO h)
theorem Qw {i j:Str} (h:Q (.bl (!decide (V.str i=V.str j))) H):GF K (.str i) (.str j) H Q:=.inl (mQ h)
theorem Qx {i j:Bool} (h:Q (.bl (!decide (V.bl i=V.bl j))) H):GF K (.bl i) (.bl j) H Q:=.inl (mR h)
end
end L2
namespace L2
open PySem PySem.Spec PyProof.Rows
section
variable {X:Cx}
theorem CW:∀ {us:List Value} {ns:List Int},IntsAre us ns→Vals (ns.map V.int) us:=by
 intro us
 induction us with
 | nil=>intro ns h;cases h;exact .nil
 | cons u us ih=>
  intro ns h
  cases h with
  | cons a b=>exact .cons ⟨_,rfl⟩ (ih (by assumption))
end
section
variable {σ:St} {H:Hp} {Q:VK} {D:Ends}
end
end L2
namespace L2
open PySem PySem.Spec PyProof.Rows
def Qy (K:PySem.W.Frag):R2:=fun x y H Q=>JQ K x y H Q∨∃ a o,y= .ref a∧DGet H a x o∧Q (.bl o.isSome) H
def oM:yD:=fun o i v H R=>xf o i v H R∨∃ a H4,o= .ref a∧DPut H a i v H4∧R H4
section
variable {X:Cx}
end
section
variable {X:Cx}
theorem GJ {K:PySem.W.Frag} (hK:X.K=K) (hu:X.A.units+64 < cLine):OpR X (compareOp .In) (Qy K):=(Pn hK).or (by
 intro pins s σ H x y v u Q I rx ry h
 obtain ⟨a,o,rfl,g,q⟩:=h
 obtain rfl:u=Value.ref a:=ry
 exact d_in (by omega) I g rx fun s3 I3=>⟨.bl o.isSome,H,I3,rfl,q⟩)
theorem lF (hu:X.A.units+64 < cLine):Jm X oM:=by
 intro pins s σ H o i v ov iv u Q I ro ri rv h
 rcases h with h | ⟨a,H4,rfl,g,q⟩
 ·exact set_list pins s σ H o i v ov iv u Q I ro ri rv h
 ·obtain rfl:ov=Value.ref a:=ro
  exact Ck (by omega) I g ri rv fun s4 I4=>⟨H4,I4,q⟩
end
section
variable {σ:St} {H:Hp} {Q:VK} {K:PySem.W.Frag}
theorem v7 {x y:Str} (h:Q (.bl (!(Builtin.Str.occurrences y x 0 y.length 1).isEmpty)) H):Qy K (.str x) (.str y) H Q:=.inl (sV h)
theorem oN {p:Addr} {xs:List V} {i:Int} {n:Nat} {v:V} {R:Hp→Prop} (hp:H p=some (.lst xs)) (e:z8 xs.length i=some n) (h:R (upd H p (.lst (xs.set n v)))):oM (.ref p) (.int i) v H R:=.inl (mF hp e h)
end
end L2
namespace L2
open PySem PySem.Spec PyProof.Rows
section
variable {X:Cx}
end
end L2
namespace L2
open PySem PySem.Spec PyProof.Rows
open PySem.Sem (wp)
open PySem.AutoSeq1 (wpAny_loadPart')
theorem j4 (l:Addr) (items:Array Value) (n:Nat) (dct:Option Addr) (sl:Array (Option Value)):
  Meets (Builtin.«enumerate.__new__» ⟨[.type "enumerate",.ref l],[]⟩) (fun _ R s=>s.heap.get? l=some {cls:=.type "tuple",dict:=dct,data:=.seq items n,slots:=sl}∧
   R (.ok (.ret (.ref (s.heap.push {cls:=.type "tuple_iterator",data:=.fields #[.ref l,.int 0 0]}).objs.size)))
    {s with heap:=(s.heap.push {cls:=.type "tuple_iterator",data:=.fields #[.ref l,.int 0 0]}).push {cls:=.type "enumerate",data:=.fields #[.none,.bool false,.ref s.heap.objs.size,rawInt 0,.none,.none]}}):=
 .of_wp fun prog w A R s h=>by
  obtain ⟨hp,g,d,tk,os⟩:=s;obtain ⟨hl,h⟩:=h
  have hsub:=sub_enumerate
  have hL:Heap.IsTuple (Shared.heap ⟨hp,g,d,tk,os⟩) l items:=⟨_,hl,rfl,n,rfl⟩
  wp_walk using wpAny_loadPart' hl
  refine wpAny_stack_any fun st=>wpAny_pure ?_
  split
  ·rename_i c _ _ _ _ _
   cases (c == Value.type "enumerate")
   ·wp_walk using wpAny_loadPart' hl,wpAny_pyIter_tuple hL
    exact ⟨_,rfl,h⟩
   ·wp_walk using wpAny_loadPart' hl,wpAny_pyIter_tuple hL
    exact ⟨_,rfl,h⟩
  ·wp_walk using wpAny_loadPart' hl,wpAny_pyIter_tuple hL
   exact ⟨_,rfl,h⟩
section
variable {prog:Program} {w:World} {A:Around} {E:Value→Shared→Prop} {s:Shared}
theorem j5 {l:Addr} {items:Array Value} {Q:Value→Shared→Prop} (hL:s.heap.IsTuple l items)
  (h:∀ h',IsEnum h' (s.heap.objs.size+1) s.heap.objs.size 0 .none→h'.IsTupleIter s.heap.objs.size l 0→h'.objs.size=s.heap.objs.size+2→
   (∀ b o,s.heap.get? b=some o→h'.get? b=some o)→Q (.ref (s.heap.objs.size+1)) {s with heap:=h'}):
  wpAny (model prog w) A (call (.type "enumerate") [.ref l]) Q E s:=by
 obtain ⟨⟨c,dct,dt,sl⟩,hl,hc,n,hd⟩:=hL
 replace hc:c= .type "tuple":=hc
 replace hd:dt= .seq items n:=hd
 subst hc hd
 refine callType_new F.called_enumerate (by decide) (F.typeCall_enumerate_1 _) (F.newCall_enumerate_1 _) (fun obj=>F.args_object_init_2 obj _) F.entry_enumerate_new
  (j4 l items n dct sl) ⟨hl,?_⟩
 have hz:(s.heap.push {cls:=.type "tuple_iterator",data:=.fields #[.ref l,.int 0 0]}).objs.size=s.heap.objs.size+1:=Heap.size_push ..
 show _∧_
 rw [hz]
 have he:IsEnum ((s.heap.push {cls:=.type "tuple_iterator",data:=.fields #[.ref l,.int 0 0]}).push
   {cls:=.type "enumerate",data:=.fields #[.none,.bool false,.ref s.heap.objs.size,rawInt 0,.none,.none]}) (s.heap.objs.size+1) s.heap.objs.size 0 .none:=by
  have:=Heap.get?_push_size (s.heap.push {cls:=.type "tuple_iterator",data:=.fields #[.ref l,.int 0 0]})
   (o:={cls:=.type "enumerate",data:=.fields #[.none,.bool false,.ref s.heap.objs.size,rawInt 0,.none,.none]}) rfl
  rw [hz] at this;exact this
 refine ⟨⟨_,he,rfl⟩,h _ he ⟨_,Heap.get?_push_of_some _ (Heap.get?_push_size _ rfl),rfl,rfl⟩ (by rw [Heap.size_push,hz]) fun b o x=>Heap.get?_push_of_some _ (Heap.get?_push_of_some _ x)⟩
theorem oO {it t:Addr} {i:Nat} {items} {x:Value} {Q:Value→Shared→Prop} (hit:s.heap.IsTupleIter it t i)
  (ht:s.heap.IsTuple t items) (hx:items[i]?=some x)
  (hQ:∀ h',h'.IsTupleIter it t (i+1)→Heap.SameBut it s.heap h'→Q x {s with heap:=h'}):
  wpAny (model prog w) A (Builtin.SmallTypes.nextOf (.ref it)) Q E s:=by
 obtain ⟨o,ho,hc,hd⟩:=id hit
 obtain ⟨ol,hol,_,nl,hdl⟩:=ht
 unfold Builtin.SmallTypes.nextOf
 refine wpAny_bind (wpAny_callSpecial?_slot (name:=Str.ofString "__next__") hit.typeIs F.slot_tuple_iterator_next
  (wpAny_call_entry F.slot_tuple_iterator_next hit.typeIs F.entry_tuple_iterator_next ?_ (F.args_tuple_iterator_next_1 _)))
 show wpAny _ _ (field (.ref it) 0 >>=_) _ _ s
 refine wpAny_bind (wpAny_field ho hd (x:=.ref t) rfl ?_)
 show wpAny _ _ (if (Value.ref t == Value.none)=true then _ else _) _ _ s
 rw [if_neg (show ¬ ((Value.ref t == Value.none)=true) from Bool.false_ne_true)]
 show wpAny _ _ (field (.ref it) 1 >>=_) _ _ s
 refine wpAny_bind (wpAny_field ho hd (x:=.int i 0) rfl ?_)
 show wpAny _ _ (seqItems? (.ref t) >>=_) _ _ s
 refine wpAny_bind (wpAny_seqItems hol hdl ?_)
 simp only [Int.toNat_natCast,hx]
 refine wpAny_bind (wpAny_setField ho hd (by simp) (wpAny_pure ⟨x,rfl,wpAny_pure (hQ _ ?_ (Heap.SameBut.update ..))⟩))
 exact ⟨_,Heap.get?_update_self _ ho (Obj.isFreed_of_fields (Obj.data_mapFields hd _)),(Obj.cls_mapFields ..).trans hc,by
  rw [Obj.data_mapFields hd];simp [rawInt]⟩
theorem jj {it t:Addr} {i:Nat} {items} {Q:Value→Shared→Prop} (hh:A.handled=none)
  (hit:s.heap.IsTupleIter it t i) (ht:s.heap.IsTuple t items) (hx:items[i]?=none)
  (hE:∀ h' e,Heap.ExtBut it s.heap h'→(∃ o,h'.get? e=some o∧o.cls= .type "StopIteration")→E (.ref e) {s with heap:=h'}):
  wpAny (model prog w) A (Builtin.SmallTypes.nextOf (.ref it)) Q E s:=by
 obtain ⟨o,ho,hc,hd⟩:=id hit
 obtain ⟨ol,hol,_,nl,hdl⟩:=ht
 unfold Builtin.SmallTypes.nextOf
 refine wpAny_bind (wpAny_callSpecial?_slot (name:=Str.ofString "__next__") hit.typeIs F.slot_tuple_iterator_next
  (wpAny_call_entry F.slot_tuple_iterator_next hit.typeIs F.entry_tuple_iterator_next ?_ (F.args_tuple_iterator_next_1 _)))
 show wpAny _ _ (field (.ref it) 0 >>=_) _ _ s
 refine wpAny_bind (wpAny_field ho hd (x:=.ref t) rfl ?_)
 show wpAny _ _ (if (Value.ref t == Value.none)=true then _ else _) _ _ s
 rw [if_neg (show ¬ ((Value.ref t == Value.none)=true) from Bool.false_ne_true)]
 show wpAny _ _ (field (.ref it) 1 >>=_) _ _ s
 refine wpAny_bind (wpAny_field ho hd (x:=.int i 0) rfl ?_)
 show wpAny _ _ (seqItems? (.ref t) >>=_) _ _ s
 refine wpAny_bind (wpAny_seqItems hol hdl ?_)
 simp only [Int.toNat_natCast,hx]
 refine wpAny_bind (wpAny_rule (wpAny_bind (wpAny_setField ho hd (by simp) ?_)))
 show wpAny _ _ (newExc (.type "StopIteration") [] >>=_) _ _ _
 refine wpAny_bind ?_
 simp only [newExc,newTuple]
 refine wpAny_bind (wpAny_newObj_type ?_ (by size_fits))
 refine wpAny_bind (m:=firstArgMember _ _) (wpAny_of_eq (a:=Value.none) (by first | rfl | (simp only [firstArgMember];rfl)) ?_)
 refine wpAny_newObj_type ?_ (by size_fits)
 simp only [raiseNew]
 refine wpAny_bind (wpAny_handled ?_)
 first | rw [show A.in1.handled=none from hh] | rw [hh]
 refine wpAny_bind (wpAny_pure (wpAny_throw ?_))
 exact hE _ _ (((Heap.SameBut.update ..).extBut.push _).push _) ⟨_,Heap.get?_push_size _ rfl,rfl⟩
end
theorem xR {prog:Program} {w:World} {A:Around} (hh:A.handled=none) (it l:Addr) (hne:l≠it) (items:Array Value):
  Draws prog w A it [it,l] items.size (fun i v=>items[i]?=some v) (fun i h=>h.IsTupleIter it l i∧h.IsTuple l items) where
 live:=fun _ _ st=>let ⟨o,ho,_⟩:=st.1;⟨o,ho⟩
 frame:=fun _ _ _ st hk=>by
  obtain ⟨⟨o,ho,r⟩,⟨o2,ho2,r2⟩⟩:=st
  exact ⟨⟨o,hk it (by simp) o ho,r⟩,⟨o2,hk l (by simp) o2 ho2,r2⟩⟩
 item:=fun i s Q E hi st hQ=>by
  refine oO st.1 st.2 (x:=items[i]) (by simp [hi]) fun h' hit' hs'=>?_
  exact hQ _ h' s.toks (by simp [hi]) ⟨hit',st.2.extBut hs'.extBut hne⟩ hs'
 done:=fun s Q E st hE=>jj hh st.1 st.2 (by simp) hE
def Qz (K:PySem.W.Frag) (a:Addr):It:=
 ⟨fun i H=>∃ xs x,SqT K H a xs∧xs[i]?=some x,
  fun i H v H'=>∃ T x,H T=none∧v= .ref T∧(∀ xs,SqT K H a xs→xs[i]?=some x)∧H'=upd H T (.tup [.int i,x]),
  fun i H=>∃ xs,SqT K H a xs∧xs.length≤i⟩
end L2
namespace L2
open PySem PySem.Spec PyProof.Rows
theorem zq {P:Program} {w:World} {K:PySem.W.Frag} {elts:List Expr} {k:Nat} {pos:Pos} {e it a:Addr} (hne:e≠it) (hea:e≠a) (hai:a≠it):
  Turn P w K (.Tuple elts k pos) (Qz K a) [e,it] e (fun i h=>(∃ old,IsEnum h e it i old)∧h.IsTupleIter it a i) where
 mem:=by simp
 obj:=fun i h st c hc=>by
  obtain ⟨⟨old,he⟩,⟨o1,e1,c1,d1⟩⟩:=st
  simp only [List.mem_cons,List.mem_nil_iff,or_false] at hc
  rcases hc with rfl | rfl
  ·exact ⟨_,he,fun v z=>by cases z⟩
  ·exact ⟨_,e1,fun v z=>by rw [d1] at z;cases z⟩
 keep:=fun i h h' st kk=>by
  obtain ⟨⟨old,he⟩,⟨o1,e1,r1⟩⟩:=st
  exact ⟨⟨old,kk e (by simp) _ he⟩,⟨o1,kk it (by simp) _ e1,r1⟩⟩
 item:=by
  intro X hP hw hK hc i pins s σ H E I hf st hg
  subst hP hw hK
  obtain ⟨⟨old,he⟩,h1⟩:=st
  obtain ⟨xs,x,hq,hx⟩:=hg
  obtain ⟨its,rv,p,_⟩:=I.tuple hq
  obtain ⟨u,hu,ru⟩:=rv.get hx
  have p':s.heap.IsTuple a its.toArray:=p
  refine wpAny_pyNext_enum_itemD (xR (A:=X.A.in1) (I.ok.hd hc) it a hai its.toArray) he ⟨h1,p'⟩ (by have:=(List.getElem?_eq_some_iff.mp hu).1;simpa using this) hne (by simp [hne,hea]) fun x' h' tk hx' a1 a2 a3 a4 hk=>?_
  have ex:x'=u:=by
   have h2:its[i]?=some x':=by simpa using hx'
   rw [hu] at h2
   exact (Option.some.inj h2).symm
  subst ex
  refine ⟨_,rfl,wpAny_letOwnedTupleGo_enum a1 fun h'' a1' sb=>?_⟩
  have lt:∀ {c o},s.heap.get? c=some o→s.heap.objs.size≠c:=fun e=>Nat.ne_of_gt (Heap.lt_size e)
  have lti:s.heap.objs.size≠it:=by obtain ⟨o,q,_⟩:=h1;exact lt q
  have isT:h''.IsTuple s.heap.objs.size #[.int i tk,x']:=⟨_,sb.extBut _ _ (lt he) a3,rfl,_,rfl⟩
  have kall:∀ b o,b ∉ [e,it]→s.heap.get? b=some o→h''.get? b=some o:=fun b o hb q=>by
   simp only [List.mem_cons,List.mem_nil_iff,or_false,not_or] at hb
   exact sb.extBut _ _ hb.1 (hk b o hb.1 hb.2 q)
  have hTn:H s.heap.objs.size=none:=I.hok.fresh (Nat.le_refl _)
  refine ⟨.ref s.heap.objs.size,_,I.newtup (tk:=tk+1) hf (Nat.le_refl _) kall isT (xs:=[.int i,x]) (.cons ⟨_,rfl⟩ (.cons ru .nil)) (by simp;decide),rfl,⟨_,x,hTn,rfl,fun zs hs=>by rw [I.tuple_inj hs hq];exact hx,rfl⟩,?_,fun b hb=>?_⟩
  ·exact ⟨⟨_,a1'⟩,a2.1.extBut sb.extBut (Ne.symm hne)⟩
  ·have:s.heap.objs.size≠b:=by
    simp only [List.mem_cons,List.mem_nil_iff,or_false] at hb
    rcases hb with rfl | rfl
    ·exact lt he
    ·exact lti
   rw [aB (Ne.symm this)]
   exact (hf b hb).1
 done:=by
  intro X hP hw hK hc i pins s σ H E I hf st hg
  subst hP hw hK
  obtain ⟨⟨old,he⟩,h1⟩:=st
  obtain ⟨xs,hq,hx⟩:=hg
  obtain ⟨its,rv,p,_⟩:=I.tuple hq
  have l1:=rv.length
  have p':s.heap.IsTuple a its.toArray:=p
  have pn:(its.toArray)[i]?=none:=by simp;omega
  have ht:s.TypeIs (.ref e) "enumerate":=⟨_,he,rfl⟩
  unfold pyNext
  refine wpAny_bind (wpAny_attempt (wpAny_callSpecial?_slot (name:=Str.ofString "__next__") ht F.slot_enumerate_next
   (wpAny_call_entry F.slot_enumerate_next ht F.entry_enumerate_next ?_ (F.args_enumerate_next_1 _))))
  show wpAny _ _ (field (.ref e) 2 >>=_) _ _ _
  refine wpAny_bind (wpAny_field he rfl (x:=.ref it) rfl ?_)
  refine wpAny_bind (jj (A:=X.A.in1) (I.ok.hd hc) h1 p' pn fun h' x he' hx'=>?_)
  obtain ⟨o,ho,hc'⟩:=hx'
  refine wpAny_bind (wpAny_isInstance (T:="StopIteration") (b:=true) ⟨o,ho,hc'⟩ isSubtype_stop ?_)
  refine wpAny_pure ⟨rfl,I.only (tk:=s.toks) hf fun b o hb q=>?_⟩
  simp only [List.mem_cons,List.mem_nil_iff,or_false,not_or] at hb
  exact he' b o hb.2 q
 self:=fun _ _ _ _ _ st h=>let ⟨⟨_,he⟩,_⟩:=st;wpAny_pyIter_enum he h
def GK (K:PySem.W.Frag) (ta:TA):TI:=fun σ H R=>ta σ H fun vs H1=>(∃ x:Str,vs=[.str x]∧R (Kd (jZ x) x.cps.size) H1)∨(∃ a xs,vs=[.ref a]∧SqL K H1 a xs∧R (Kh K a) H1)∨∃ a xs,vs=[.ref a]∧SqT K H1 a xs∧R (Qz K a) H1
theorem GP {X:Cx} {K:PySem.W.Frag} {a:Expr} {ta:TA} {elts:List Expr} {k:Nat} {tp p pos:Pos} (hK:X.K=K) (hc:X.calm=true) (hg:Gl X "enumerate") (hm:X.mg "enumerate"=none) (ha:JA X [a] ta) (h:autoParam (notStar a=true) L2.auto4._auto_1):
  JI X (.Tuple elts k tp) (.Call (.Name "enumerate" p) [a] [] pos) (GK K ta):=⟨by
 subst hK
 intro pins s σ H R I hq
 refine Call_ (pC I hg hm oF (PyProof.Rows.callWith_type1 (d8 (ha.run pos pins s σ H _ I hq) fun us s1 qq0=>?_) (eY h) rfl))
 obtain ⟨vs,H1,I1,r1,q1⟩:=qq0
 rcases q1 with ⟨x,e,q⟩ | ⟨l,xs,e,hl,q⟩ | ⟨l,xs,e,hl,q⟩
 ·subst e
  obtain ⟨u,rfl,t,rfl⟩:=vals1 r1
  exact vg hc I1 q
 ·subst e
  obtain ⟨u,rfl,ru⟩:=vals1 r1
  cases ru
  obtain ⟨its,rv,p1,_⟩:=I1.list hl
  refine call_enumerate_list p1.isList fun h' z1 z2 z3 hk=>?_
  have J1:Inv X pins σ H1 {s1 with heap:=h'}:=I1.kept (t':=s1.toks) hk
  refine wpAny_pyIter_enum z1 ?_
  refine ⟨s1.heap.objs.size+1,_,_,_,H1,rfl,J1,sY (Nat.succ_ne_self _),⟨⟨_,z1⟩,z2⟩,fun b hb=>?_,q⟩
  have hb':s1.heap.objs.size≤b:=by
   simp only [List.mem_cons,List.mem_nil_iff,or_false] at hb
   have key:∀ n c:Nat,(c=n+1∨c=n)→n≤c:=fun n c h=>by omega
   exact key _ _ hb
  exact I1.fpOk hb' (I1.hok.fresh hb')
 ·subst e
  obtain ⟨u,rfl,ru⟩:=vals1 r1
  cases ru
  obtain ⟨its,rv,p1,_⟩:=I1.tuple hl
  have p':s1.heap.IsTuple l its.toArray:=p1
  have lt1:l < s1.heap.objs.size:=by obtain ⟨o,ho,_⟩:=p';exact Heap.lt_size ho
  refine j5 p' fun h' z1 z2 z3 hk=>?_
  have J1:Inv X pins σ H1 {s1 with heap:=h'}:=I1.kept (t':=s1.toks) hk
  refine wpAny_pyIter_enum z1 ?_
  have key2:∀ n l:Nat,l < n→n+1≠l∧l≠n:=fun n l h=>⟨by omega,by omega⟩
  refine ⟨s1.heap.objs.size+1,_,_,_,H1,rfl,J1,zq (Nat.succ_ne_self _) (key2 _ _ lt1).1 (key2 _ _ lt1).2,⟨⟨_,z1⟩,z2⟩,fun b hb=>?_,q⟩
  have hb':s1.heap.objs.size≤b:=by
   simp only [List.mem_cons,List.mem_nil_iff,or_false] at hb
   have key:∀ n c:Nat,(c=n+1∨c=n)→n≤c:=fun n c h=>by omega
   exact key _ _ hb
  exact I1.fpOk hb' (I1.hok.fresh hb')⟩
section
variable {K:PySem.W.Frag} {σ:St} {H:Hp}
theorem Ay {a:TA} {R:It→Hp→Prop} (h:a σ H fun vs H1=>(∃ x:Str,vs=[.str x]∧R (Kd (jZ x) x.cps.size) H1)∨(∃ a xs,vs=[.ref a]∧SqL K H1 a xs∧R (Kh K a) H1)∨∃ a xs,vs=[.ref a]∧SqT K H1 a xs∧R (Qz K a) H1):GK K a σ H R:=h
end
def mW (xs:List V) (lo hi:Option Int) (c:Int):List V:=
 (sliceRange (sliceBounds lo hi (some c) xs.length).1 (sliceBounds lo hi (some c) xs.length).2.1 (sliceBounds lo hi (some c) xs.length).2.2).filterMap (xs[·]?)
theorem Vals.places {xs:List V} {us:List Value} (h:Vals xs us):∀ ps:List Nat,Vals (ps.filterMap (xs[·]?)) (ps.filterMap (us[·]?))
 | []=>.nil
 | p :: ps=>by
  have ih:=Vals.places h ps
  have hl:=h.length
  rw [List.filterMap_cons,List.filterMap_cons]
  cases e:xs[p]? with
  | none=>
   have:us[p]?=none:=by rw [List.getElem?_eq_none_iff] at e ⊢;omega
   rw [this]
   exact ih
  | some x=>
   obtain ⟨u,hu,r⟩:=h.get e
   rw [hu]
   exact .cons r ih
def M7 (K:PySem.W.Frag) (te:TE) (tl th ts:TO):TE:=fun σ H Q=>te σ H fun x H1=>tl σ H1 fun l H2=>th σ H2 fun u H3=>ts σ H3 fun c H4=>∃ a xs c',x= .ref a∧c=some c'∧c'≠0∧SqL K H4 a xs∧(mW xs l u c').length≤sizeLine∧∀ q,H4 q=none→Q (.ref q) (upd H4 q (.lst (mW xs l u c')))
section
variable {X:Cx} {e:Expr} {te:TE} {lo hi:Option Expr} {st:Expr} {tl th ts:TO} {pos p2:Pos}
theorem vq {K:PySem.W.Frag} (hK:X.K=K) (he:JE X e te) (hl:JO X lo tl) (hu:JO X hi th) (hs:JO X (some st) ts):JE X (.Subscript e (.Slice lo hi (some st) p2) pos) (M7 K te tl th ts):=⟨by
 subst hK
 intro pins s σ H Q I h
 refine Subscript_ (d8 (he.run pins s σ H _ I h) fun v s1 qq0=>?_)
 obtain ⟨x,H1,I1,r1,q1⟩:=qq0
 refine wpAny_Slice (d8 (hl.run pins s1 σ H1 _ I1 q1) fun vl s2 ⟨l,H2,I2,pl,q2⟩=>d8 (hu.run pins s2 σ H2 _ I2 q2) fun vu s3 ⟨u,H3,I3,pu,q3⟩=>d8 (hs.run pins s3 σ H3 _ I3 q3) fun vc s4 qq0=>?_)
 obtain ⟨c,H4,I4,pc,q4⟩:=qq0
 obtain ⟨a,xs,c',rfl,rfl,hc0,hq,hz,q⟩:=q4
 cases r1
 have I5:Inv X pins σ H4 {s4 with heap:=s4.heap.push {cls:=.type "slice",data:=.fields #[vl,vu,vc]}}:=I4.kept (t':=s4.toks) fun b ob q=>Heap.get?_push_of_some _ q
 obtain ⟨its,rv,p,hz2⟩:=I5.list hq
 have hlen:its.toArray.size=xs.length:=by rw [List.size_toArray];exact rv.length.symm
 show wpAny (model X.prog X.w) X.A (subscriptTail e (.Slice lo hi (some st) p2) (.ref a) (.ref s4.heap.objs.size)) (EP X pins σ Q) X.xe _
 refine tail_any (T:="list") (ops:=[.ref a,.ref s4.heap.objs.size]) p.isList.typeIs list_getitem_lookup ?_ (by with_unfolding_all rfl)
 refine wpAny_getItem_list_slice p.isList (Heap.IsSliceOf.new ..) pl pu pc (fun z=>hc0 (Option.some.inj z)) ?_ (by rw [hlen];exact hz2)
 refine ⟨.ref _,_,I5.laid (t':=s4.toks) (o:=.lst (mW xs l u c')) (fun b ob q=>Heap.get?_push_of_some _ q) (Nat.le_refl _) ?_,rfl,q _ (I5.hok.fresh (Nat.le_refl _))⟩
 have e1:slicePick its.toArray l u (some c')=((sliceRange (sliceBounds l u (some c') xs.length).1 (sliceBounds l u (some c') xs.length).2.1 (sliceBounds l u (some c') xs.length).2.2).filterMap (its[·]?)).toArray:=by
  unfold slicePick
  rw [hlen]
  simp
 rw [e1]
 exact ⟨hz,_,0,rv.places _,Heap.get?_push_size _ rfl⟩⟩
end
theorem GQ {K:PySem.W.Frag} {σ:St} {H:Hp} {Q:VK} {te:TE} {tl th ts:TO} (h:te σ H fun x H1=>tl σ H1 fun l H2=>th σ H2 fun u H3=>ts σ H3 fun c H4=>∃ a xs c',x= .ref a∧c=some c'∧c'≠0∧SqL K H4 a xs∧(mW xs l u c').length≤sizeLine∧∀ q,H4 q=none→Q (.ref q) (upd H4 q (.lst (mW xs l u c')))):M7 K te tl th ts σ H Q:=h
theorem oR (xs:List V):mW xs none none (-1)=xs.reverse:=by
 have e:∀ n:Nat,sliceRange (sliceBounds none none (some (-1)) n).1 (sliceBounds none none (some (-1)) n).2.1 (sliceBounds none none (some (-1)) n).2.2=(List.range n).map fun k=>n - 1 - k:=fun n=>by
  show sliceRange ((n:Int) - 1) (-1) (-1)=_
  unfold sliceRange
  rw [if_neg (by decide)]
  have ec:(if (n:Int) - 1 > -1 then ((n:Int) - 1 - -1 - -1 - 1) / (- -1) else 0).toNat=n:=by
   by_cases h:(n:Int) - 1 > -1
   ·rw [if_pos h]
    have:((n:Int) - 1 - -1 - -1 - 1) / (- -1)=n:=by
     rw [show (- -1:Int)=1 from rfl,Int.ediv_one];omega
    rw [this];simp
   ·rw [if_neg h]
    show 0=n
    omega
  show List.map _ (List.range (if (n:Int) - 1 > -1 then ((n:Int) - 1 - -1 - -1 - 1) / (- -1) else 0).toNat)=_
  rw [ec]
  refine List.map_congr_left fun k hk=>?_
  have:=List.mem_range.mp hk
  omega
 unfold mW
 rw [e,List.filterMap_map]
 have e2:((List.range xs.length).filterMap ((fun x=>xs[x]?) ∘ fun k=>xs.length - 1 - k))=(List.range xs.length).filterMap (fun k=>xs.reverse[k]?):=by
  have gen:∀ (l:List Nat) (f g:Nat→Option V),(∀ k∈l,f k=g k)→l.filterMap f=l.filterMap g:=fun l f g h=>by
   induction l with
   | nil=>rfl
   | cons a l ih=>rw [List.filterMap_cons,List.filterMap_cons,h a (by simp),ih fun k hk=>h k (by simp [hk])]
  refine gen _ _ _ fun k hk=>?_
  have:=List.mem_range.mp hk
  show xs[xs.length - 1 - k]?=xs.reverse[k]?
  rw [List.getElem?_reverse (by omega)]
 rw [e2]
 have key:∀ ys:List V,(List.range ys.length).filterMap (fun k=>ys[k]?)=ys:=fun ys=>by
  induction ys with
  | nil=>rfl
  | cons y ys ih=>
   rw [List.length_cons,List.range_succ_eq_map,List.filterMap_cons,List.filterMap_map]
   exact congrArg (y :: ·) ih
 have k2:=key xs.reverse
 rw [List.length_reverse] at k2
 exact k2
end L2
namespace L2
open PySem PySem.Spec PyProof.Rows
end L2
namespace L2
open PySem PySem.Spec PyProof.Rows
open PySem.Sem (wp)
open PySem.AutoSeq1 (wpAny_loadPart')
section
variable {prog:Program} {w:World} {A:Around} {E:Value→Shared→Prop} {s:Shared}
end
end L2
namespace L2
open PySem PySem.Spec PyProof.Rows
section
variable {prog:Program} {w:World} {A:Around} {E:Value→Shared→Prop} {s:Shared}
end
end L2
namespace L2
open PySem PySem.Spec PyProof.Rows
section
variable {K:PySem.W.Frag} {σ:St} {H:Hp}
end
end L2
namespace L2
open PySem PySem.Spec PyProof.Rows
theorem Inv.nosys {X:Cx} {pins:List (Addr×Obj)} {σ:St} {H:Hp} {s:Shared} (I:Inv X pins σ H s):H sysModules=none:=
 let ⟨_,o,_,_,e,_⟩:=I.mod.sysm
 (I.bs _ o e).2
def CZ:V→Option PyData
 | .non=>some .none
 | .bl b=>some (.bool b)
 | .int n=>some (.int n)
 | .str z=>some (.str z)
 | _=>none
def QB:Key→PyData
 | .inl i=>.int i
 | .inr x=>.str x
mutual
def RD (H:Hp):PyData→V→Prop
 | .none,v=>v= .non
 | .bool b,v=>v= .bl b
 | .int n,v=>v= .int n
 | .str z,v=>v= .str z
 | .list ds,v=>∃ a vs,v= .ref a∧H a=some (.lst vs)∧RDs H ds vs
 | .tuple ds,v=>∃ a vs,v= .ref a∧H a=some (.tup vs)∧RDs H ds vs
 | .dict kvs,v=>∃ a ks,v= .ref a∧H a=some (.dK ks)∧ks.map (fun p=>(QB p.1,CZ p.2))=kvs.map (fun q=>(q.1,some q.2))
def RDs (H:Hp):List PyData→List V→Prop
 | [],vs=>vs=[]
 | d :: ds,vs=>∃ v r,vs=v :: r∧RD H d v∧RDs H ds r
end
mutual
theorem RD.same {H H':Hp} (s:Same H H'):∀ (d:PyData) (v:V),RD H d v→RD H' d v
 | .none,_,h=>by rw [RD] at h ⊢;exact h
 | .bool _,_,h=>by rw [RD] at h ⊢;exact h
 | .int _,_,h=>by rw [RD] at h ⊢;exact h
 | .str _,_,h=>by rw [RD] at h ⊢;exact h
 | .list ds,v,h=>by rw [RD] at h ⊢;obtain ⟨a,vs,e,q,r⟩:=h;exact ⟨a,vs,e,s _ _ q,RDs.same s ds vs r⟩
 | .tuple ds,v,h=>by rw [RD] at h ⊢;obtain ⟨a,vs,e,q,r⟩:=h;exact ⟨a,vs,e,s _ _ q,RDs.same s ds vs r⟩
 | .dict _,_,h=>by rw [RD] at h ⊢;obtain ⟨a,vs,e,q,r⟩:=h;exact ⟨a,vs,e,s _ _ q,r⟩
theorem RDs.same {H H':Hp} (s:Same H H'):∀ (ds:List PyData) (vs:List V),RDs H ds vs→RDs H' ds vs
 | [],_,h=>by rw [RDs] at h ⊢;exact h
 | d :: ds,vs,h=>by rw [RDs] at h ⊢;obtain ⟨v,r,e,q,t⟩:=h;exact ⟨v,r,e,RD.same s d v q,RDs.same s ds r t⟩
end
theorem qu {H:Hp} {n:Int} {v:V}:RD H (.int n) v↔v= .int n:=by rw [RD]
theorem v8 {H:Hp} {n:Str} {v:V}:RD H (.str n) v↔v= .str n:=by rw [RD]
theorem v9 {H:Hp} {n:Bool} {v:V}:RD H (.bool n) v↔v= .bl n:=by rw [RD]
theorem lG {H:Hp} {v:V}:RD H .none v↔v= .non:=by rw [RD]
theorem aJ {H:Hp} {ds:List PyData} {v:V}:RD H (.list ds) v↔∃ a vs,v= .ref a∧H a=some (.lst vs)∧RDs H ds vs:=by rw [RD]
theorem fY {H:Hp} {ds:List PyData} {v:V}:RD H (.tuple ds) v↔∃ a vs,v= .ref a∧H a=some (.tup vs)∧RDs H ds vs:=by rw [RD]
theorem Az {H:Hp} {kvs:List (PyData×PyData)} {v:V}:RD H (.dict kvs) v↔∃ a ks,v= .ref a∧H a=some (.dK ks)∧ks.map (fun p=>(QB p.1,CZ p.2))=kvs.map (fun q=>(q.1,some q.2)):=by rw [RD]
theorem aK {H:Hp} {vs:List V}:RDs H [] vs↔vs=[]:=by rw [RDs]
theorem cH {H:Hp} {d:PyData} {ds:List PyData} {vs:List V}:RDs H (d :: ds) vs↔∃ v r,vs=v :: r∧RD H d v∧RDs H ds r:=by rw [RDs]
theorem aZ {H:Hp} {d:PyData} {v:V} {ds:List PyData} {vs:List V} (h:RD H d v) (t:RDs H ds vs):RDs H (d :: ds) (v :: vs):=cH.mpr ⟨v,vs,rfl,h,t⟩
theorem Dc {h:Heap} {v:V} {d:PyData} {u:Value} (e:CZ v=some d) (r:RelV v u):Reads h u d []:=by
 cases v <;> simp only [CZ,Option.some.injEq,reduceCtorEq] at e
 ·subst e;cases r;exact .none
 ·subst e;cases r;exact .bool _
 ·subst e;obtain ⟨t,rfl⟩:=r;exact .int _ _
 ·subst e;obtain ⟨t,rfl⟩:=r;exact .str _ _
theorem qQ {P:Program} {w:World} {h:Heap}:∀ {es:List DictEntry} {vs:List (Key×Value)} {ks:List (Key×V)} {kvs:List (PyData×PyData)},Pairs (bR P w) es vs→KV ks vs→
  ks.map (fun p=>(QB p.1,CZ p.2))=kvs.map (fun q=>(q.1,some q.2))→ReadsAll h (es.map (·.key)) (kvs.map (·.1)) []∧ReadsAll h (es.map (·.val)) (kvs.map (·.2)) []
 | _,_,_,kvs,.nil,r,e=>by
  cases r
  cases kvs with
  | nil=>exact ⟨.nil,.nil⟩
  | cons _ _=>simp at e
 | _,_,_,kvs,.cons (e:=en) (kv:=kv) h1 h2 t,r,e=>by
  cases r with
  | cons a b=>
   rename_i p ks'
   cases kvs with
   | nil=>simp at e
   | cons q kvs=>
    simp only [List.map_cons,List.cons.injEq,Prod.mk.injEq] at e
    obtain ⟨⟨e1,e2⟩,e3⟩:=e
    obtain ⟨i1,i2⟩:=qQ t b e3
    obtain ⟨a1,a2⟩:=a
    have k1:Reads h en.key q.1 []:=by
     rcases cA h1 with ⟨i,t',ek,ev⟩ | ⟨x,t',ek,ev⟩
     ·rw [ev,← e1,a1,ek];exact .int _ _
     ·rw [ev,← e1,a1,ek];exact .str _ _
    have k2:Reads h en.val q.2 []:=by rw [h2];exact Dc e2 a2
    exact ⟨.cons (as:=[]) (bs:=[]) k1 i1,.cons (as:=[]) (bs:=[]) k2 i2⟩
mutual
theorem RD.reads {P:Program} {w:World} {H:Hp} {h:Heap} (ok:HOk P w H h):∀ (d:PyData) (v:V) (u:Value),RD H d v→RelV v u→∃ as,Reads h u d as∧∀ b∈as,∃ o,H b=some o
 | .none,_,u,q,r=>by rw [RD] at q;subst q;cases r;exact ⟨_,.none,by simp⟩
 | .bool b,_,u,q,r=>by rw [RD] at q;subst q;cases r;exact ⟨_,.bool _,by simp⟩
 | .int n,_,u,q,r=>by rw [RD] at q;subst q;obtain ⟨t,rfl⟩:=r;exact ⟨_,.int _ _,by simp⟩
 | .str n,_,u,q,r=>by rw [RD] at q;subst q;obtain ⟨t,rfl⟩:=r;exact ⟨_,.str _ _,by simp⟩
 | .list ds,v,u,q,r=>by
  rw [RD] at q
  obtain ⟨a,vs,rfl,e,t⟩:=q
  cases r
  obtain ⟨_,its,n,rv,g⟩:=ok a _ e
  obtain ⟨as,ra,ha⟩:=RDs.reads ok ds vs its t rv
  refine ⟨_,.list g rfl rfl (by simpa using ra),fun b hb=>?_⟩
  rcases List.mem_cons.mp hb with rfl | hb
  ·exact ⟨_,e⟩
  ·exact ha b hb
 | .tuple ds,v,u,q,r=>by
  rw [RD] at q
  obtain ⟨a,vs,rfl,e,t⟩:=q
  cases r
  obtain ⟨_,its,rv,g⟩:=ok a _ e
  obtain ⟨as,ra,ha⟩:=RDs.reads ok ds vs its t rv
  obtain ⟨o,ho,hc,n,hd⟩:=g
  exact ⟨_,.tuple ho hc hd (by simpa using ra),ha⟩
 | .dict kvs,v,u,q,r=>by
  rw [RD] at q
  obtain ⟨a,ks,rfl,e,t⟩:=q
  cases r
  obtain ⟨_,_,vs,kv,o,es,ep,ho,xd,hd,_,prs,_⟩:=ok a _ e
  obtain ⟨i1,i2⟩:=qQ (h:=h) prs kv t
  refine ⟨_,.dict ho xd.1 hd i1 i2,fun b hb=>?_⟩
  simp only [List.append_nil,List.mem_singleton] at hb
  subst hb
  exact ⟨_,e⟩
theorem RDs.reads {P:Program} {w:World} {H:Hp} {h:Heap} (ok:HOk P w H h):∀ (ds:List PyData) (vs:List V) (us:List Value),RDs H ds vs→Vals vs us→∃ as,ReadsAll h us ds as∧∀ b∈as,∃ o,H b=some o
 | [],_,us,q,r=>by rw [RDs] at q;subst q;cases r;exact ⟨_,.nil,by simp⟩
 | d :: ds,_,us,q,r=>by
  rw [RDs] at q
  obtain ⟨v,r',rfl,q1,q2⟩:=q
  cases r with
  | cons a b=>
   obtain ⟨as,h1,t1⟩:=RD.reads ok d v _ q1 a
   obtain ⟨bs,h2,t2⟩:=RDs.reads ok ds r' _ q2 b
   exact ⟨_,.cons h1 h2,fun b hb=>(List.mem_append.mp hb).elim (t1 b) (t2 b)⟩
end
def GR:List V→Hp→VK→Prop:=fun xs H Q=>∃ (x:V) (d:PyData),xs=[x]∧RD H d x∧d.showable=true∧d.depth≤60∧d.shown.length≤sizeLine∧Q (.str d.shown) H
theorem tH {X:Cx} (hg:X.A.guards=some []) (hu:X.A.units+64 < cLine):CallR X (.builtin "repr") GR:=by
 intro pins s σ H xs us Q I r h
 obtain ⟨x,d,rfl,hd,hs,hdp,hz,q⟩:=h
 obtain ⟨u,rfl,ru⟩:=vals1 r
 obtain ⟨as,rd,ha⟩:=RD.reads I.hok d x u hd ru
 have nsy:d.hasDict=true→sysModules ∉ as:=fun _ hm=>by
  obtain ⟨o,e⟩:=ha _ hm
  rw [I.nosys] at e;cases e
 have key:∀ (a:Addr),u= .ref a→wpAny (model X.prog X.w) X.A (call (.builtin "repr") [u]) (EP X pins σ Q) X.xe s:=fun a e=>by
  subst e
  refine repr_of_reads' rd hs nsy hg (by omega) (fun _ _ e=>e) (fun h' u tk hk=>?_) hz
  exact ⟨.str d.shown,H,I.kept (t':=tk) hk,⟨u,rfl⟩,q⟩
 cases rd with
 | none=>
  simp only [PyData.shown] at q
  exact P.repr_of_none ⟨.str _,H,I.tok _,⟨_,rfl⟩,q⟩
 | bool b=>
  simp only [PyData.shown] at q
  exact P.repr_of_bool ⟨.str _,H,I.tok _,⟨_,rfl⟩,q⟩
 | int i t=>
  simp only [PyData.shown] at q
  exact P.repr_of_int (by simpa [PyData.showable] using hs) ⟨.str _,H,I.tok _,⟨_,rfl⟩,q⟩
 | str z t=>
  simp only [PyData.shown] at q hz
  exact P.repr_of_str ⟨.str _,H,I.tok _,⟨_,rfl⟩,q⟩ hz
 | list h1 h2 h3 h4=>exact key _ rfl
 | tuple h1 h2 h3 h4=>exact key _ rfl
 | dict h1 h2 h3 h4 h5=>exact key _ rfl
theorem Ba {H:Hp} {Q:VK} {x:V} {d:PyData} (hd:RD H d x) (hs:d.showable=true) (hp:d.depth≤60) (hz:d.shown.length≤sizeLine) (h:Q (.str d.shown) H):GR [x] H Q:=⟨x,d,rfl,hd,hs,hp,hz,h⟩
structure Sml (d:PyData):Prop where
 sh:d.showable=true
 dp:d.depth≤58
 lv:d.leavesShort 60=true
 bk:d.bulk≤10000
end L2
namespace L2
open PySem PySem.Spec PyProof.Rows
open PySem.Sem (wp)
theorem uz {prog:Program} {w:World} {d:Addr} (hd:(d == sysModules)=false):
  MeetsIn prog w (Builtin.«dict.__len__» ⟨[.ref d],[]⟩) (fun _ R s=>∃ o es ep,s.heap.get? d=some o∧o.data= .dict es ep∧R (.ok (.ret (.int es.size s.toks))) {s with toks:=s.toks+1}):=
 .of_wp fun A R s ⟨o,es,ep,ho,hdat,h⟩=>by
  show wpAny _ _ (dictSize d >>=_) _ _ s
  unfold dictSize
  refine wpAny_bind (wpAny_bind (wpAny_dictEntries ho hdat (wpAny_pure ?_)))
  show wpAny _ _ (Builtin.Dict.pendingCount d >>=_) _ _ s
  refine wpAny_bind (wpAny_pendingCount_other hd ?_)
  refine wpAny_ret_mkInt ?_
  rw [Nat.add_zero];exact h
theorem wg {prog:Program} {w:World} {A:Around} {E:Value→Shared→Prop} {s:Shared} {d:Addr} {o:Obj} {es:Array DictEntry} {ep:Nat} {Q:Value→Shared→Prop} (hd:(d == sysModules)=false)
  (ho:s.heap.get? d=some o) (hc:o.cls= .type "dict") (hdat:o.data= .dict es ep) (hfit:(es.size:Int) < 2 ^ 63)
  (h:Q (.int es.size (s.toks+1)) {s with toks:=s.toks+1+1}):wpAny (model prog w) A (call (.builtin "len") [.ref d]) Q E s:=by
 have ht:s.TypeIs (.ref d) "dict":=⟨o,ho,hc⟩
 refine Calls.call_function_entry kind_len plain_len entry_len (args_len1 _) ?_
 unfold Builtin.«len»
 refine wpAny_bind (m:=oneArg "len" _) (wpAny_pure ?_)
 refine wpAny_bind (m:=callSpecial? (.ref d) (Str.ofString "__len__")) (wpAny_callSpecial?_slot (name:=Str.ofString "__len__") ht F.slot_dict_len
  (call_meetsIn F.slot_dict_len ht F.entry_dict_len (F.args_dict_len_1 _) (uz hd) ⟨o,es,ep,ho,hdat,?_⟩))
 show wpAny _ _ _ _ _ {s with toks:=s.toks+1}
 refine wpAny_bind (wpAny_holding (wpAny_pure ?_))
 refine wpAny_bind (wpAny_letGo ?_)
 show wpAny _ _ (if ((es.size:Nat):Int) < 0 then _ else _) _ _ _
 rw [if_neg (by omega)]
 show wpAny _ _ (if ((es.size:Nat):Int)≥2 ^ 63 then _ else _) _ _ _
 rw [if_neg (by omega)]
 exact wpAny_bind (wpAny_mkInt (wpAny_pure ⟨_,rfl,h⟩))
def M8:List V→Hp→VK→Prop:=fun xs H Q=>∃ a kvs,xs=[.ref a]∧H a=some (.dT kvs)∧Q (.int kvs.length) H
theorem Dd {X:Cx}:CallR X (.builtin "len") M8:=by
 intro pins s σ H xs us Q I r h
 obtain ⟨a,kvs,rfl,ha,q⟩:=h
 obtain ⟨u,rfl,ru⟩:=vals1 r
 cases ru
 obtain ⟨z,hS,xs,rel,o,es,ep,ho,xd,hd,he,_⟩:=I.hok a _ ha
 have e1:es.size=kvs.length:=by
  have a1:=congrArg List.length he
  simp at a1
  rw [a1];exact (Paired.length rel).symm
 refine wg hS ho xd.1 hd (by rw [e1];rw [sizeLine_eq] at z;omega) ?_
 rw [e1]
 exact ⟨.int kvs.length,H,I.tok _,⟨_,rfl⟩,q⟩
section
variable {X:Cx} {pos:Pos} {σ:St} {H:Hp} {Q:VK} {K:PySem.W.Frag}
theorem KJ:JE X (.Dict [] [] pos) yS:=⟨Fq⟩
theorem rE (h:∀ p,H p=none→Q (.ref p) (upd H p (.dT []))):yS σ H Q:=h
theorem KN {a:Addr} {kvs:List (List Key×V)} (ha:H a=some (.dT kvs)) (h:Q (.int kvs.length) H):M8 [.ref a] H Q:=⟨a,kvs,rfl,ha,h⟩
theorem Uv {a b:Addr} {kvs:List (List Key×V)} {k:List Key} (ha:H a=some (.dT kvs)) (hb:H b=some (.tup (k.map kV))) (h:Q (.bl (lV kvs k).isSome) H):Qy K (.ref b) (.ref a) H Q:=.inr ⟨a,_,rfl,DGet.t ha hb,h⟩
theorem QC {a b:Addr} {kvs:List (List Key×V)} {k:List Key} {v:V} {R:Hp→Prop} (ha:H a=some (.dT kvs)) (hb:H b=some (.tup (k.map kV))) (hl:kvs.length < sizeLine) (h:R (upd H a (.dT (putK kvs k v)))):oM (.ref a) (.ref b) v H R:=
 .inr ⟨a,_,rfl,DPut.t ha hb hl,h⟩
end
end L2
namespace L2
open PySem PySem.Spec PyProof.Rows
end L2
namespace L2
open PySem PySem.Spec PyProof.Rows
structure M9 (k:Nat) (A:Around):Prop where
 dp:A.depth+3*k+5 < recursionLimit
 un:A.units+16*k+200 < cLine
 gd:A.guards=some []
structure FnU (P:Program) (w:World) (K:PySem.W.Frag) (mg:Str→Option Value) (base:Heap) (k:Nat) (f:Addr) (fd:FuncData) (ps:List Str) (sp:Sp):Prop where
 len:∀ vs H Q E,sp vs H Q E→vs.length=ps.length
 run:∀ (A:Around) (outer:List Env) (s:Shared) (H:Hp) (args:Args) (us:List Value) (vs:List V) (Q:VK) (E:XK),M9 k A→Env0 P w K mg base A outer s H→BindsTo s fd args (ps.zip us)→Vals vs us→sp vs H Q E→
  codeAny (model P w) A (.call (.ref f) args) (CR yP outer P w H s Q E) s
end L2
namespace L2
open PySem PySem.Spec PyProof.Rows
section
variable {prog:Program} {w:World} {A:Around} {E:Value→Shared→Prop} {s:Shared} {K:PySem.W.Frag} {x C:Addr} {ox:Obj} {od:Option Obj}
end
section
variable {prog:Program} {w:World} {A:Around} {K:PySem.W.Frag} {D:Addr} {E:Value→Shared→Prop}
end
structure X0 (K:PySem.W.Frag) (mg:Str→Option Value) (x:Str):Prop where
 c:Ql K mg x
 ini:PySem.W.findIn K (.ref (fX mg x)) "__init__"=some (some (.builtin "ValueError.__init__"))
 kp:PySem.W.keepIn K (.ref (fX mg x))=true
section
variable {X:Cx} {x:Str} {p pos:Pos} {e:Expr} {es:List Expr} {t:TA}
end
end L2
namespace L2
open PySem PySem.Spec PyProof.Rows
open PySem.Sem (wp)
structure QD (z TI TO i1 i2:Addr) (fp1 fp2:List Addr):Prop where
 TIz:TI≠z
 TOz:TO≠z
 i1z:i1≠z
 i2z:i2≠z
 TITO:TI≠TO
 TIi1:TI≠i1
 TIi2:TI≠i2
 TOi1:TO≠i1
 TOi2:TO≠i2
 i12:i1≠i2
 f1:∀ b∈fp1,b≠z∧b≠TO∧b≠i2
 f2:∀ b∈fp2,b≠z∧b≠TO∧b≠i1
section
variable {prog:Program} {w:World} {A:Around} {E:Value→Shared→Prop} {s:Shared} {z TI TO i1 i2:Addr} {fp1 fp2:List Addr} {n1 n2 k1 k2:Nat} {P1 P2:Nat→Value→Prop} {St1 St2:Nat→Heap→Prop} {a b:Value}
end
end L2
namespace L2
open PySem PySem.Spec PyProof.Rows
open PySem.Sem (wp)
section
variable {σ:St} {H:Hp} {K:PySem.W.Frag}
end
end L2
namespace L2
open PySem PySem.Spec PyProof.Rows
open PySem.Sem (wp)
open AutoSeq1 (wpAny_loadPart')
theorem QF:isSubtype (.type "dict") (.type "list")=pure false:=by rw [isSubtype_type];kernel_rfl
theorem GX:isSubtype (.type "list") (.type "dict")=pure false:=by rw [isSubtype_type];kernel_rfl
theorem zr {prog:Program} {w:World} {A:Around} {E:Value→Shared→Prop} {s:Shared} {Q:Value→Shared→Prop} {a:Addr} {o:Obj} {ep:Nat} (ho:s.heap.get? a=some o) (hc:o.cls= .type "dict") (hd:o.data= .dict #[] ep)
  (hsm:(a == sysModules)=false) (hu:A.units < cLine) (h:Q (.bool true) s):wpAny (model prog w) A (compareOp .Eq (.ref a) (.ref a)) Q E s:=by
 show wpAny _ _ (richCompare .Eq (.ref a) (.ref a)) _ _ _
 refine wpAny_richCompare_same_room ⟨o,ho,hc⟩ ⟨o,ho,hc⟩ F.slot_dict_eq (wpAny_call (codeAny_call_builtin F.slot_dict_eq.plain F.entry_dict_eq (F.slot_dict_eq.check _ _ _ _ _ _ _ _ ⟨o,ho,hc⟩ (F.args_dict_eq_2 _ _) ?_))) hu
 have f2:=v6
 obtain ⟨hp,g,d,tk,os⟩:=s
 have hT:(⟨hp,g,d,tk,os⟩:Shared).TypeIs (.ref a) "dict":=⟨_,ho,hc⟩
 unfold Builtin.«dict.__eq__»
 wp_walk using wpAny_loadPart' ho
 have en:∀ (Q:Array DictEntry→Shared→Prop) (E:Value→Shared→Prop),Q #[] ⟨hp,g,d,tk,os⟩→wpAny (model prog w) A.in1 (dictEntries a) Q E ⟨hp,g,d,tk,os⟩:=fun Q E q=>by
  unfold dictEntries
  refine wpAny_bind (wpAny_loadPart ho ?_)
  simp only [hd]
  exact wpAny_pure q
 have eo:∀ (Q:Nat→Shared→Prop) (E:Value→Shared→Prop),Q ep ⟨hp,g,d,tk,os⟩→wpAny (model prog w) A.in1 (dictEpoch a) Q E ⟨hp,g,d,tk,os⟩:=fun Q E q=>by
  unfold dictEpoch
  refine wpAny_bind (wpAny_loadPart ho ?_)
  simp only [hd]
  exact wpAny_pure q
 simp only [hd]
 refine wpAny_pure ?_
 refine wpAny_bind (en _ _ ?_)
 rw [if_neg (by simp)]
 refine wpAny_bind (eo _ _ ?_)
 refine wpAny_bind ?_
 rw [Std.Legacy.Range.forIn_eq_forIn_range']
 simp only [Std.Legacy.Range.size,Nat.sub_zero,Nat.add_sub_cancel,Nat.div_one]
 show wpAny _ _ (forIn [] _ _) _ _ _
 rw [List.forIn_nil]
 refine wpAny_pure (wpAny_pure ?_)
 exact wpAny_pure ⟨(fun z=>nomatch z),h⟩
theorem jN (l b:Addr) (items:Array DictEntry) (ep:Nat) (items2:Array Value) (n2:Nat) (dd dd2:Option Addr) (sl sl2:Array (Option Value)):
  Meets (Builtin.«dict.__eq__» ⟨[.ref l,.ref b],[]⟩) (fun _ R s=>s.heap.get? l=some {cls:=.type "dict",dict:=dd,data:=.dict items ep,slots:=sl}∧s.heap.get? b=some {cls:=.type "list",dict:=dd2,data:=.seq items2 n2,slots:=sl2}∧R (.ok (.ret .notImplemented)) s):=
 .of_wp fun prog w A R s h=>by obtain ⟨hp,g,d,tk,os⟩:=s;obtain ⟨hl,hb,h⟩:=h;have f1:=GX;wp_walk using wpAny_loadPart' hl,wpAny_loadPart' hb;exact ⟨_,rfl,h⟩
theorem jO (l b:Addr) (items:Array DictEntry) (ep:Nat) (items2:Array Value) (n2:Nat) (dd dd2:Option Addr) (sl sl2:Array (Option Value)):
  Meets (Builtin.«list.__eq__» ⟨[.ref b,.ref l],[]⟩) (fun _ R s=>s.heap.get? b=some {cls:=.type "list",dict:=dd2,data:=.seq items2 n2,slots:=sl2}∧s.heap.get? l=some {cls:=.type "dict",dict:=dd,data:=.dict items ep,slots:=sl}∧R (.ok (.ret .notImplemented)) s):=
 .of_wp fun prog w A R s h=>by obtain ⟨hp,g,d,tk,os⟩:=s;obtain ⟨hb,hl,h⟩:=h;have f1:=QF;wp_walk using wpAny_loadPart' hb,wpAny_loadPart' hl;exact ⟨_,rfl,h⟩
theorem dict_list {prog:Program} {w:World} {A:Around} {E:Value→Shared→Prop} {s:Shared} {Q:Value→Shared→Prop} {a b:Addr} {o:Obj} {items:Array DictEntry} {ep:Nat} {ys:Array Value} (ho:s.heap.get? a=some o) (hc:o.cls= .type "dict") (hd:o.data= .dict items ep)
  (hl:s.heap.IsList b ys) (hu:A.units < cLine) (h:Q (.bool false) s):wpAny (model prog w) A (compareOp .Eq (.ref a) (.ref b)) Q E s:=by
 show wpAny _ _ (richCompare .Eq (.ref a) (.ref b)) _ _ _
 obtain ⟨cls,dd,data,sl⟩:=o
 obtain ⟨⟨cls2,dd2,data2,sl2⟩,ho2,hc2,n2,hd2⟩:=id hl
 simp only at hc hd hc2 hd2
 subst hc hd hc2 hd2
 have hne:a≠b:=fun z=>by subst z;rw [ho] at ho2;exact absurd (congrArg Obj.cls (Option.some.inj ho2)) (by simp)
 exact (SeqAt.rc_eq_decline_or (k:=false) ⟨_,ho,rfl⟩ ⟨_,ho2,rfl⟩ (by decide) GX F.slot_dict_eq F.slot_list_eq_refl
  (fun _ hq=>PySem.call_meets F.slot_dict_eq ⟨_,ho,rfl⟩ F.entry_dict_eq (F.args_dict_eq_2 _ _) (jN a b items ep ys n2 dd dd2 sl sl2) ⟨ho,ho2,hq⟩)
  (fun _ hq=>PySem.call_meets F.slot_list_eq_refl ⟨_,ho2,rfl⟩ F.entry_list_eq (F.args_list_eq_2 _ _) (jO a b items ep ys n2 dd dd2 sl sl2) ⟨ho2,ho,hq⟩)
  (fun _ hq=>SeqAt.wpAny_isSame_ref_other' hne ho ho2 (by simp) hq) (.inr hu) h)
section
variable {X:Cx}
def Nb (K:PySem.W.Frag):R2:=fun x y H Q=>(∃ a,x= .ref a∧y= .ref a∧H a=some (.dK [])∧Q (.bl true) H)∨∃ a b ys,x= .ref a∧y= .ref b∧H a=some (.dK [])∧SqL K H b ys∧Q (.bl false) H
theorem KQ (hu:X.A.units < cLine):OpR X (compareOp .Eq) (Nb X.K):=by
 intro pins s σ H x y v u Q I rx ry h
 rcases h with ⟨a,rfl,rfl,ha,q⟩ | ⟨a,b,ys,rfl,rfl,ha,hb,q⟩
 ·cases rx
  cases ry
  obtain ⟨_,hsm,vs,kv,o,es,ep,h1,h2,h3,h4,h5,h6⟩:=(show ObjOk X.prog X.w H s.heap a (.dK []) from I.hok a _ ha)
  cases kv
  obtain ⟨l⟩:=es
  dsimp only at h5
  cases h5
  exact zr h1 h2.1 h3 hsm hu ⟨.bl true,H,I,rfl,q⟩
 ·cases rx
  cases ry
  obtain ⟨_,hsm,vs,kv,o,es,ep,h1,h2,h3,h4,h5,h6⟩:=(show ObjOk X.prog X.w H s.heap a (.dK []) from I.hok a _ ha)
  obtain ⟨its,rv,p1,_⟩:=I.list hb
  exact dict_list h1 h2.1 h3 p1.isList hu ⟨.bl false,H,I,rfl,q⟩
end
section
variable {H:Hp} {Q:VK} {K:PySem.W.Frag}
end
end L2
namespace L2
open PySem PySem.W PySem.Spec PyProof.Rows
section
variable {g:Nat→Int} {N:Nat}
end
end L2
namespace L2
open PySem PySem.W PySem.Spec PyProof.Rows
section
variable {prog:Program} {w:World} {A:Around} {E:Value→Shared→Prop} {s:Shared}
def Uw (a:Addr) (h h':Heap):Prop:=∀ b o,b≠a→h.get? b=some o→h'.get? b=some o
theorem De {h:Heap} {a:Addr} {f:Obj→Obj} {x y:Obj}:Uw a h (((h.update a f).push x).push y):=fun b o nb e=>by
 have e1:(h.update a f).get? b=some o:=by rw [Heap.get?_update_ne _ _ _ _ nb];exact e
 exact Heap.get?_push_of_some _ (Heap.get?_push_of_some _ e1)
theorem Bb (vs:List Value):(vs.toArray.zip vs.toArray).map (·.2)=vs.toArray:=by
 apply Array.toList_inj.mp
 simp only [Array.toList_map,Array.toList_zip]
 exact List.map_snd_zip (Nat.le_refl _)
end
end L2
namespace L2
open PySem PySem.W PySem.Spec PyProof.Rows
theorem GZ:∀ a:List Int,HT.lexLt a a=false
 | []=>rfl
 | x :: xs=>by rw [HT.lexLt_cons,if_pos rfl];exact GZ xs
theorem oU:∀ {a b c:List Int},HT.lexLt a b=true→HT.lexLt b c=true→HT.lexLt a c=true
 | [],[],_,h,_=>by cases h
 | [],_ :: _,[],_,h=>by cases h
 | [],_ :: _,_ :: _,_,_=>rfl
 | _ :: _,[],_,h,_=>by cases h
 | _ :: _,_ :: _,[],_,h=>by cases h
 | x :: xs,y :: ys,z :: zs,h1,h2=>by
  rw [HT.lexLt_cons] at h1 h2 ⊢
  by_cases e1:x=y
  ·rw [if_pos e1] at h1
   by_cases e2:y=z
   ·rw [if_pos e2] at h2
    rw [if_pos (by omega)];exact oU h1 h2
   ·rw [if_neg e2] at h2
    rw [if_neg (by omega),e1];exact h2
  ·rw [if_neg e1] at h1
   have h1':=of_decide_eq_true h1
   by_cases e2:y=z
   ·rw [if_neg (by omega)];exact decide_eq_true (by omega)
   ·rw [if_neg e2] at h2
    have h2':=of_decide_eq_true h2
    rw [if_neg (by omega)];exact decide_eq_true (by omega)
theorem xT:∀ {a b:List Int},HT.lexLt a b=false→HT.lexLt b a=false→a=b
 | [],[],_,_=>rfl
 | [],_ :: _,h,_=>by cases h
 | _ :: _,[],_,h=>by cases h
 | x :: xs,y :: ys,h1,h2=>by
  rw [HT.lexLt_cons] at h1 h2
  by_cases e:x=y
  ·rw [if_pos e] at h1
   rw [if_pos e.symm] at h2
   rw [e,xT h1 h2]
  ·rw [if_neg e] at h1
   rw [if_neg (fun z=>e z.symm)] at h2
   have h1':=of_decide_eq_false h1
   have h2':=of_decide_eq_false h2
   omega
section
variable {prog:Program} {w:World} {A:Around} {E:Value→Shared→Prop} {s:Shared}
theorem QG {b fin:Bool} {Q:Bool→Shared→Prop}:∀ (n:Nat) {vs us:List Value} {ns ms:List Int},IntsAre vs ns→IntsAre us ms→fin=decide (ns.length < ms.length)→Q (HT.lexLt ns ms) s→KatLex prog w A b fin Q (vs.zip us) n s:=by
 intro n vs us ns ms h1
 induction h1 generalizing n us ms with
 | nil=>
  intro h2 hf q
  cases h2 with
  | nil=>rw [hf];exact q
  | cons y t h2=>rw [hf];exact q
 | cons x t h1 ih=>
  intro h2 hf q
  cases h2 with
  | nil=>rw [hf];exact q
  | cons y u h2=>
   rw [List.zip_cons_cons]
   refine kat_cons (wpAny_eqBool_int ?_)
   rw [HT.lexLt_cons] at q
   by_cases e:x=y
   ·rw [if_pos e] at q
    rw [show (x == y)=true by rw [e];exact beq_self_eq_true y]
    refine kat_yes (ih (n+1) h2 ?_ q)
    rw [hf]
    simp
   ·rw [if_neg e] at q
    rw [show (x == y)=false by simpa using e]
    refine kat_no ?_
    cases hb:(b && n == 0) with
    | true=>exact oneLt_int q
    | false=>exact kat_one _ _ (lt_int q)
theorem Ux {Q:Bool→Shared→Prop} {x y:Addr} {vs us:List Value} {ns ms:List Int} (hx:IsTup s.heap x vs.toArray) (hy:IsTup s.heap y us.toArray) (h1:IntsAre vs ns) (h2:IntsAre us ms) (q:Q (HT.lexLt ns ms) s):
  wpAny (model prog w) A (keyLt' (tuples' true) (.ref x) (.ref y)) Q E s:=by
 obtain ⟨ox,gx,_,n1,dx⟩:=hx
 obtain ⟨oy,gy,_,n2,dy⟩:=hy
 refine kat_lt gx dx gy dy (QG 0 h1 h2 ?_ q)
 have l1:=h1.length
 have l2:=h2.length
 simp [l1,l2]
theorem Df {vs:List Value} {ts:List (List Int)} {Q:SortKind→Shared→Prop} (h2:2≤vs.length) (h:∀ i,i < vs.length→∃ a its,vs[i]?=some (.ref a)∧IsTup s.heap a its.toArray∧IntsAre its (ts.getD i [])∧ts.getD i []≠[]) (q:Q (tuples' true) s):
  wpAny (model prog w) A (keyKind' vs.toArray) Q E s:=by
 have key:∀ (l:List Value),(∀ v∈l,∃ a its ns,v= .ref a∧IsTup s.heap a its.toArray∧IntsAre its ns∧ns≠[])→∃ fs:List Value,fs.length=l.length∧KatTups s.heap l fs∧∀ v∈fs,∃ n t,v=Value.int n t:=by
  intro l
  induction l with
  | nil=>exact fun _=>⟨[],rfl,KatTups.nil,fun v hv=>by cases hv⟩
  | cons v l ih=>
   intro hl
   obtain ⟨fs,lf,kf,inf⟩:=ih fun u hu=>hl u (List.mem_cons_of_mem _ hu)
   obtain ⟨a,its,ns,rfl,⟨o,go,co,n,dn⟩,hI,hne⟩:=hl v List.mem_cons_self
   cases hI with
   | nil=>exact absurd rfl hne
   | cons x t hI=>
    refine ⟨.int x t :: fs,by simp [lf],KatTups.cons go co dn (by simp) kf,fun v hv=>?_⟩
    rcases List.mem_cons.mp hv with rfl | hv
    ·exact ⟨x,t,rfl⟩
    ·exact inf v hv
 obtain ⟨fs,lf,kf,inf⟩:=key vs fun v hv=>by
  obtain ⟨i,hi,rfl⟩:=List.mem_iff_getElem.mp hv
  obtain ⟨a,its,e,it,ia,ne⟩:=h i hi
  rw [List.getElem?_eq_getElem hi] at e
  exact ⟨a,its,_,Option.some.inj e,it,ia,ne⟩
 refine kat_kind (T:=.type "int") kf (by omega) (fun v hv=>?_) rfl q
 obtain ⟨n,t,rfl⟩:=inf v hv
 exact Looks.of_pure rfl
end
section
variable {X:Cx}
end
section
variable {H:Hp} {Q:VK}
end
end L2
namespace L2
open PySem PySem.Spec PyProof.Rows
open PySem.Sem (wp)
section
variable {prog:Program} {w:World} {A:Around} {E:Value→Shared→Prop} {s:Shared} {z TI TO i1 i2:Addr} {fp1 fp2:List Addr} {n1 n2 k1 k2:Nat} {P1 P2:Nat→Value→Prop} {St1 St2:Nat→Heap→Prop} {a b f0 f1:Value}
end
end L2
namespace L2
open PySem PySem.Spec PyProof.Rows
open PySem.Sem (wp)
open PySem.AutoSeq1 (wpAny_loadPart')
section
variable {prog:Program} {w:World} {A:Around} {E:Value→Shared→Prop} {s:Shared} {z TI TO i1 i2 e:Addr} {fp1 fp2:List Addr} {n1 n2 k1 k2:Nat} {P1 P2:Nat→Value→Prop} {St1 St2:Nat→Heap→Prop} {a b f0 f1:Value}
end
structure EApart (e z TI TO i1 i2 a b:Addr):Prop where
 Z:QD z TI TO i1 i2 [i1,a] [i2,b]
 ez:e≠z
 eTI:e≠TI
 eTO:e≠TO
 ei1:e≠i1
 ei2:e≠i2
 a1:a≠i1
 b2:b≠i2
end L2
namespace L2
open PySem PySem.Spec PyProof.Rows
open PySem.Sem (wp)
open PySem.AutoSeq1 (wpAny_loadPart')
section
variable {σ:St} {H:Hp} {K:PySem.W.Frag}
end
end L2
namespace L2
open PySem PySem.Spec PyProof.Rows
open PySem.Sem (wp)
section
variable {prog:Program} {w:World} {A:Around} {E:Value→Shared→Prop} {s:Shared}
end
structure TurnU (P:Program) (w:World) (K:PySem.W.Frag) (tg:Expr) (J:It) (fp:List Addr) (it:Addr) (tn:Nat→Heap→Prop) (xh:Addr):Prop where
 mem:it∈fp
 obj:∀ i h,tn i h→∀ b∈fp,∃ o,h.get? b=some o∧∀ v,o.data≠.cell v
 keep:∀ i h h',tn i h→(∀ b∈fp,∀ o,h.get? b=some o→h'.get? b=some o)→tn i h'
 item:∀ (X:Cx),X.prog=P→X.w=w→X.K=K→X.A.handled=some (.ref xh)→∀ (i:Nat) (pins:List (Addr×Obj)) (s:Shared) (σ:St) (H:Hp) (E:Value→Shared→Prop),Inv X pins σ H s→(∀ b∈fp,iH X pins H b)→tn i s.heap→J.go i H→
  wpAny (model P w) X.A (pyNext (.ref it)) (fun r s1=>∃ u,r=some u∧
   wpAny (model P w) X.A (letOwnedTupleGo tg (.ref it) u) (fun _ s2=>∃ x H',Inv X pins σ H' s2∧RelV x u∧J.yld i H x H'∧tn (i+1) s2.heap∧∀ b∈fp,H' b=none) E s1) E s
 done:∀ (X:Cx),X.prog=P→X.w=w→X.K=K→X.A.handled=some (.ref xh)→∀ (i:Nat) (pins:List (Addr×Obj)) (s:Shared) (σ:St) (H:Hp) (E:Value→Shared→Prop),Inv X pins σ H s→(∀ b∈fp,iH X pins H b)→tn i s.heap→J.stop i H→
  wpAny (model P w) X.A (pyNext (.ref it)) (fun r s1=>r=none∧Inv X pins σ H s1) E s
 self:∀ (A:Around) (i:Nat) (s:Shared) (Q:Value→Shared→Prop) (E:Value→Shared→Prop),tn i s.heap→Q (.ref it) s→wpAny (model P w) A (pyIter (.ref it)) Q E s
section
variable {X:Cx} {tg iter elt:Expr} {ifs:List Expr} {scope:Scope} {pos:Pos} {N':List Str} {sub:List (Option Nat)} {wi:TI} {g:TG} {tt:TT} {te:TE}
end
structure FnV (P:Program) (w:World) (K:PySem.W.Frag) (mg:Str→Option Value) (base:Heap) (k:Nat) (f:Addr) (fd:FuncData) (ps:List Str) (sp:Addr→Sp):Prop where
 len:∀ xh vs H Q E,sp xh vs H Q E→vs.length=ps.length
 run:∀ (A:Around) (outer:List Env) (s:Shared) (H:Hp) (args:Args) (us:List Value) (vs:List V) (Q:VK) (E:XK) (xh:Addr),A.handled=some (.ref xh)→M9 k A→Env0 P w K mg base A outer s H→BindsTo s fd args (ps.zip us)→Vals vs us→sp xh vs H Q E→
  codeAny (model P w) A (.call (.ref f) args) (CR yP outer P w H s Q E) s
end L2
namespace L2
open PySem PySem.Spec PyProof.Rows
section
variable {X:Cx} {nm n:Str} {P:Addr} {i:Nat} {p pos:Pos} {b0:Stmt} {suite:List Stmt} {ts:Addr→TS} {th:TH} {hs:List ExceptHandler}
variable {K:PySem.W.Frag} {x:Str}
end
end L2
namespace L2
open PySem PySem.Spec PyProof.Rows
section
variable {K:PySem.W.Frag} {σ:St} {H:Hp}
end
def Nf (K:PySem.W.Frag):R2:=fun x y H Q=>∃ a b xs,x= .ref a∧y= .ref b∧SqT K H a xs∧SqT K H b xs∧(∀ v∈xs,iI v=true∨∃ r,v= .ref r)∧Q (.bl false) H
section
variable {X:Cx}
theorem KR (hu:X.A.units < cLine):OpR X (compareOp .NotEq) (Nf X.K):=by
 intro pins s σ H x y v u Q I rx ry h
 obtain ⟨a,b,xs,rfl,rfl,ha,hb,fx,q⟩:=h
 cases rx
 cases ry
 obtain ⟨its,r1,p1,z1⟩:=I.tuple ha
 obtain ⟨jts,r2,p2,z2⟩:=I.tuple hb
 have l1:its.toArray.size=xs.length:=by simpa using r1.length.symm
 have l2:jts.toArray.size=xs.length:=by simpa using r2.length.symm
 refine SeqAt.RcNeAt.tuples (e:=fun _=>true) p1 p2 hu (fun j h1 h2=>?_) X.prog X.w _ _ ?_
 ·have hj:j < xs.length:=by omega
  obtain ⟨u1,e1,q1⟩:=r1.get (List.getElem?_eq_getElem hj)
  obtain ⟨u2,e2,q2⟩:=r2.get (List.getElem?_eq_getElem hj)
  have f1:its.toArray[j]=u1:=by
   obtain ⟨_,z⟩:=List.getElem?_eq_some_iff.mp e1
   simpa using z
  have f2:jts.toArray[j]=u2:=by
   obtain ⟨_,z⟩:=List.getElem?_eq_some_iff.mp e2
   simpa using z
  rw [f1,f2]
  rcases fx _ (List.getElem_mem hj) with f | ⟨r,f⟩
  ·rw [← tE f]
   exact rZ q1 q2 f f
  ·rw [f] at q1 q2
   cases (show u1=Value.ref r from q1)
   cases (show u2=Value.ref r from q2)
   exact SeqAt.EqAt.same _
 ·have e:(!((List.range (min its.toArray.size jts.toArray.size)).all (fun _=>true) && its.toArray.size == jts.toArray.size))=false:=by rw [l1,l2];simp
  rw [e]
  exact ⟨.bl false,H,I,rfl,q⟩
def KY (K:PySem.W.Frag):R2:=fun x y H Q=>GF K x y H Q∨Nf K x y H Q
theorem mX {K:PySem.W.Frag} (hK:X.K=K) (hu:X.A.units+64 < cLine):OpR X (compareOp .NotEq) (KY K):=by
 subst hK
 exact (Qu rfl hu).or (KR (Nat.lt_of_le_of_lt (Nat.le_add_right _ _) hu))
end
section
variable {K:PySem.W.Frag} {H:Hp} {Q:VK}
theorem Ha {i j:Int} (h:Q (.bl (!decide (V.int i=V.int j))) H):KY K (.int i) (.int j) H Q:=.inl (Qv h)
theorem Hb {i j:Str} (h:Q (.bl (!decide (V.str i=V.str j))) H):KY K (.str i) (.str j) H Q:=.inl (Qw h)
theorem Hc {i j:Bool} (h:Q (.bl (!decide (V.bl i=V.bl j))) H):KY K (.bl i) (.bl j) H Q:=.inl (Qx h)
end
end L2
namespace L2
open PySem PySem.Spec PyProof.Rows
structure OTxt (K:PySem.W.Frag) (mg:Str→Option Value) (x:Str):Prop where
 at_:mg x=some (.ref (fX mg x))
 cl:Cls K (fX mg x)
 makes:PySem.W.makesIn K (fX mg x)=true
 kp:PySem.W.keepIn K (.ref (fX mg x))=true
structure MTxt (K:PySem.W.Frag) (mg:Str→Option Value) (x m qual:Str) (st:Stmt):Prop where
 ex:∃ f fd,Meth K (fX mg x) m f∧Fun K m qual st f fd
section
variable {P:Program} {w:World} {K:PySem.W.Frag} {mg:Str→Option Value} {base:Heap}
end
section
variable {X:Cx} {K:PySem.W.Frag} {k:Nat} {f C:Addr} {ps:List Str} {sp:Sp} {R:St→XK} {x m fn:Str} {p pos apos pos':Pos} {e o value:Expr} {es:List Expr} {ta tv:TE} {t:TA} {pins:List (Addr×Obj)} {σ:St} {H:Hp} {s:Shared} {Q:VK} {us:List Value} {vs:List V}
end
section
variable {σ:St} {H:Hp} {D:Ends} {Q:VK} {sp:Sp} {R:St→XK} {a:TA} {K:PySem.W.Frag} {C:Addr} {ta tv:TE} {f m:Str}
end
end L2
namespace L2
open PySem PySem.Spec PyProof.Rows
section
variable {X:Cx} {mg:Str→Option Value} {o:Expr} {ta:TE} {t:TA} {x m:Str} {ps:List Str} {sp:Sp} {k:Nat} {R:St→XK} {e:Expr} {es:List Expr} {pos apos:Pos}
end
end L2
namespace L2
open PySem PySem.Spec PyProof.Rows
section
variable {σ:St} {H:Hp} {Q:VK}
def KZ (o:HO) (n:Nat) (H:Hp) (Q:VK):Prop:=n≤sizeLine∧∀ p,H p=none→Q (.ref p) (upd H p o)
theorem Hd {a:TA} (h:a σ H fun xs H1=>KZ (.lst xs) xs.length H1 Q):Jw a σ H Q:=h
theorem Hf {a:TA} (h:a σ H fun xs H1=>KZ (.tup xs) xs.length H1 Q):Jv a σ H Q:=h
theorem aX {o:HO} {n:Nat} (c:Nat.ble n 64=true) (h:∀ p H',H p=none→Same H H'→H' p=some o→Q (.ref p) H'):KZ o n H Q:=
 ⟨Nat.le_trans (Nat.le_of_ble_eq_true c) (by decide),fun p np=>h p _ np ((Same.refl H).upd np) ao⟩
theorem zu {o:HO} {n:Nat} (c:Nat.ble n 64=true) (h:∀ p,H p=none→Q (.ref p) (upd H p o)):KZ o n H Q:=
 ⟨Nat.le_trans (Nat.le_of_ble_eq_true c) (by decide),h⟩
end
end L2
namespace L2
open PySem PySem.Spec PyProof.Rows
section
variable {X:Cx}
end
end L2
namespace L2
open PySem PySem.Spec PyProof.Rows
section
variable {sub:List (Option Nat)} {g:TG} {tt:TT} {te:TE} {σ:St} {Q:VK} {H:Hp} {K:PySem.W.Frag} {a:Addr} {xs:List V} {lo:Int} {n:Nat} {z:Str}
end
end L2
namespace L2
open PySem PySem.Spec PyProof.Rows
def Kr (rk:Keyed→Int) (xs:Array Keyed) (i:Nat):Int:=match xs[i]? with
 | some p=>rk p
 | none=>0
def Seg (rk:Keyed→Int) (xs:Array Keyed) (lo hi:Nat):Prop:=∀ i j,lo≤i→i≤j→j < hi→Kr rk xs i≤Kr rk xs j
def Dg (rk:Keyed→Int) (xs:Array Keyed) (lo hi:Nat):Prop:=∀ i j,lo≤i→i≤j→j < hi→Kr rk xs j≤Kr rk xs i
structure SB (a₀:Array Keyed) (kd:SortKind) (st:SortSt):Prop where
 perm:(arrOf st).Perm a₀
 kind:kindOf st=kd
 failed:failedOf st=none
def oV (M:Model) (A:Around) (E:Value→Shared→Prop) (s:Shared) (kd:SortKind) (rk:Keyed→Int) (a₀:Array Keyed):Prop:=
 ∀ (p q:Keyed) (st:SortSt) (Q:Option Bool→SortSt→Prop),p∈a₀.toList→q∈a₀.toList→kindOf st=kd→Q (some (decide (rk p < rk q))) st→wpS M A E s (lt' p q) Q st
section
variable {M:Model} {A:Around} {E:Value→Shared→Prop} {s:Shared} {kd:SortKind} {rk:Keyed→Int} {a₀:Array Keyed}
theorem j6 {xs ys:Array Keyed} {i j:Nat} (h:xs[i]?=ys[j]?):Kr rk xs i=Kr rk ys j:=by unfold Kr;rw [h]
theorem cz {xs:Array Keyed} {i:Nat} {p:Keyed} (h:xs[i]?=some p):Kr rk xs i=rk p:=by unfold Kr;rw [h]
theorem SB.size {st:SortSt} (h:SB a₀ kd st):(arrOf st).size=a₀.size:=h.perm.size_eq
theorem SB.mem {st:SortSt} (h:SB a₀ kd st) {p:Keyed} (hp:p∈(arrOf st).toList):p∈a₀.toList:=(Array.perm_iff_toList_perm.mp h.perm).mem_iff.mp hp
theorem SB.at {st:SortSt} (h:SB a₀ kd st) {i:Nat} (hi:i < a₀.size):∃ p,(arrOf st)[i]?=some p∧p∈a₀.toList:=by
 have hi':i < (arrOf st).size:=by rw [h.size];exact hi
 exact ⟨(arrOf st)[i],getElem?_pos _ i hi',h.mem (by simp)⟩
theorem aO {σ:Type} {xs:Array Keyed} {i:Nat} {p:Keyed} {Q:Keyed→SortSt→Prop} {st:SortSt} (h:xs[i]?=some p) (q:Q p st):wpS M A E s (elem' xs i) Q st:=by
 rw [elem'_eq,h];exact wpS_pure q
theorem oW {st:SortSt} {i j:Nat} {Q:Option Bool→SortSt→Prop} (L:oV M A E s kd rk a₀) (hB:SB a₀ kd st) (hi:i < a₀.size) (hj:j < a₀.size)
  (h:Q (some (decide (Kr rk (arrOf st) i < Kr rk (arrOf st) j))) st):wpS M A E s (ltAt' i j) Q st:=by
 obtain ⟨p,e1,m1⟩:=hB.at hi
 obtain ⟨q,e2,m2⟩:=hB.at hj
 rw [ltAt'_eq]
 refine wpS_bind (wpS_get ?_)
 refine wpS_bind (aO (σ:=Unit) e1 (wpS_bind (aO (σ:=Unit) e2 ?_)))
 rw [cz e1,cz e2] at h
 exact L p q st Q m1 m2 hB.kind h
theorem lH {xs:Array Keyed} {i j:Nat} (hj:j≤xs.size) (k:Nat):Kr rk (mirror xs i j ((j - i) / 2)) k=if i≤k∧k < j then Kr rk xs (i+j - 1 - k) else Kr rk xs k:=by
 have e:=getElem?_mirror_all (i:=i) hj k
 by_cases h1:i≤k∧k < j
 ·rw [if_pos h1] at e ⊢;exact j6 e
 ·rw [if_neg h1] at e ⊢;exact j6 e
theorem dw {xs:Array Keyed} {i j:Nat} (hj:j≤xs.size) (heq:∀ k,i≤k→k < j→Kr rk xs k=Kr rk xs (j - 1)) (k:Nat):Kr rk (mirror xs i j ((j - i) / 2)) k=Kr rk xs k:=by
 rw [lH hj]
 split
 ·rw [heq _ (by omega) (by omega),heq k (by omega) (by omega)]
 ·rfl
theorem qw {xs:Array Keyed} {src d:Nat} (hs:src < xs.size) (hd:d≤src) (k:Nat):
  Kr rk (bubble xs src d) k=if k=src - d then Kr rk xs src else if src - d < k∧k≤src then Kr rk xs (k - 1) else Kr rk xs k:=by
 have e:=getElem?_bubble hs d hd k
 by_cases h1:k=src - d
 ·rw [if_pos h1] at e ⊢;exact j6 e
 ·rw [if_neg h1] at e ⊢
  by_cases h2:src - d < k∧k≤src
  ·rw [if_pos h2] at e ⊢;exact j6 e
  ·rw [if_neg h2] at e ⊢;exact j6 e
structure Nx (a₀:Array Keyed) (kd:SortKind) (rk:Keyed→Int) (lo:Nat) (st st':SortSt):Prop where
 sb:SB a₀ kd st'
 fr:∀ k,k < lo→Kr rk (arrOf st') k=Kr rk (arrOf st) k
 pe:pendingOf st'=pendingOf st
theorem Nx.refl {lo:Nat} {st:SortSt} (h:SB a₀ kd st):Nx a₀ kd rk lo st st:=⟨h,fun _ _=>rfl,rfl⟩
theorem Nx.trans {lo:Nat} {st st' st'':SortSt} (h:Nx a₀ kd rk lo st st') (h':Nx a₀ kd rk lo st' st''):Nx a₀ kd rk lo st st'':=⟨h'.sb,fun k hk=>(h'.fr k hk).trans (h.fr k hk),h'.pe.trans h.pe⟩
theorem Nx.mir {lo i j:Nat} {st st':SortSt} (h:Nx a₀ kd rk lo st st') (hi:lo≤i) (hj:j≤a₀.size):Nx a₀ kd rk lo st (setArr st' (mirror (arrOf st') i j ((j - i) / 2))):=
 ⟨⟨(mirror_perm _ _ _ _).trans h.sb.perm,h.sb.kind,h.sb.failed⟩,fun k hk=>by
  show Kr rk (mirror (arrOf st') i j ((j - i) / 2)) k=_
  rw [lH (by rw [h.sb.size];exact hj),if_neg (by omega)];exact h.fr k hk,h.pe⟩
theorem Nx.bub {lo src d:Nat} {st st':SortSt} (h:Nx a₀ kd rk lo st st') (hs:src < a₀.size) (hd:d≤src) (hi:lo≤src - d):Nx a₀ kd rk lo st (setArr st' (bubble (arrOf st') src d)):=
 ⟨⟨(bubble_perm _ _ _).trans h.sb.perm,h.sb.kind,h.sb.failed⟩,fun k hk=>by
  show Kr rk (bubble (arrOf st') src d) k=_
  rw [qw (by rw [h.sb.size];exact hs) hd,if_neg (by omega),if_neg (by omega)];exact h.fr k hk,h.pe⟩
theorem rF {st:SortSt} {i j:Nat} {Q:Unit→SortSt→Prop} (h:Q () (setArr st (mirror (arrOf st) i j ((j - i) / 2)))):wpS M A E s (reverseSlice' i j) Q st:=by
 rw [reverseSlice'_eq];exact wpS_modify h
def Hg (lo a nrem:Nat):StateT SortSt Sem AscSt:=
 forIn [a:nrem] ((none,a):AscSt) fun _ __s=>do
  let __x ← ltAt' (lo+__s.snd) (lo+__s.snd - 1)
  match __x with
  | some smaller=>if smaller=true then pure (ForInStep.done (none,__s.snd)) else pure (ForInStep.yield (none,__s.snd+1))
  | _=>pure (ForInStep.done (some none,__s.snd))
def tK (lo n nrem:Nat):StateT SortSt Sem (Option Nat):=do
 reverseSlice' lo (lo+n)
 let __s ← Hg lo n nrem
 match __s.fst with
 | some r=>pure r
 | none=>pure (some __s.snd)
def Bc (lo n nrem:Nat):StateT SortSt Sem DescSt:=
 forIn [n:nrem] ((none,n,0):DescSt) fun _ __s=>do
  let __x ← ltAt' (lo+__s.snd.fst) (lo+__s.snd.fst - 1)
  match __x with
  | some smaller=>
   if smaller=true then
    if __s.snd.snd > 0 then do
     reverseSlice' (lo+__s.snd.fst - (__s.snd.snd+1)) (lo+__s.snd.fst)
     pure (ForInStep.yield (none,__s.snd.fst+1,0))
    else pure (ForInStep.yield (none,__s.snd.fst+1,0))
   else do
    let __x ← ltAt' (lo+__s.snd.fst - 1) (lo+__s.snd.fst)
    match __x with
    | some larger=>
     if larger=true then pure (ForInStep.done (none,__s.snd.fst,__s.snd.snd))
     else pure (ForInStep.yield (none,__s.snd.fst+1,__s.snd.snd+1))
    | _=>pure (ForInStep.done (some none,__s.snd.fst,__s.snd.snd))
  | _=>pure (ForInStep.done (some none,__s.snd.fst,__s.snd.snd))
def tL (lo n nrem:Nat):StateT SortSt Sem (Option Nat):=do
 liftM (rule "list.sort.descending-run")
 let __s ← Bc lo (n+1) nrem
 match __s.fst with
 | some r=>pure r
 | none=>
  if __s.snd.snd > 0 then do
   reverseSlice' (lo+__s.snd.fst - (__s.snd.snd+1)) (lo+__s.snd.fst)
   tK lo __s.snd.fst nrem
  else tK lo __s.snd.fst nrem
theorem Dh (lo nrem:Nat):countRun' lo nrem=(do
  let __s ← Hg lo 1 nrem
  match __s.fst with
  | some r=>pure r
  | none=>
   if (__s.snd == nrem)=true then pure (some __s.snd)
   else if __s.snd > 1 then do
    let __x ← ltAt' lo (lo+__s.snd - 1)
    match __x with
    | some rose=>if rose=true then pure (some __s.snd) else do
      reverseSlice' lo (lo+__s.snd)
      tL lo __s.snd nrem
    | _=>pure none
   else tL lo __s.snd nrem):=by
 rw [countRun'_eq]
 unfold tL tK Bc Hg
 dsimp only
 congr 1
 funext __s
 obtain ⟨r,n⟩:=__s
 cases r with
 | some r=>rfl
 | none=>
  dsimp only
  split
  ·rfl
  ·split
   ·congr 1
    funext x
    cases x with
    | none=>rfl
    | some rose=>
     dsimp only
     split
     ·rfl
     ·congr 1
      funext _r
      congr 1
      funext _u
      congr 1
      congr 1
      funext s2
      obtain ⟨r2,n2,q2⟩:=s2
      cases r2 with
      | some r2=>rfl
      | none=>
       dsimp only
       split
       ·congr 1
        funext _v
        (congr 1;funext _w;congr 1;(funext s3;obtain ⟨r3,n3⟩:=s3;cases r3 <;> rfl))
       ·(congr 1;funext _w;congr 1;(funext s3;obtain ⟨r3,n3⟩:=s3;cases r3 <;> rfl))
   ·congr 1
    funext _u
    congr 1
    congr 1
    funext s2
    obtain ⟨r2,n2,q2⟩:=s2
    cases r2 with
    | some r2=>rfl
    | none=>
     dsimp only
     split
     ·congr 1
      funext _v
      (congr 1;funext _w;congr 1;(funext s3;obtain ⟨r3,n3⟩:=s3;cases r3 <;> rfl))
     ·(congr 1;funext _w;congr 1;(funext s3;obtain ⟨r3,n3⟩:=s3;cases r3 <;> rfl))
theorem xU {st:SortSt} {lo a nrem:Nat} {Q:AscSt→SortSt→Prop} (L:oV M A E s kd rk a₀) (hn:lo+nrem≤a₀.size) (ha:1≤a) (han:a≤nrem) (hB:SB a₀ kd st) (hs:Seg rk (arrOf st) lo (lo+a))
  (h:∀ n,a≤n→n≤nrem→Seg rk (arrOf st) lo (lo+n)→(n=nrem∨Kr rk (arrOf st) (lo+n) < Kr rk (arrOf st) (lo+n - 1))→Q (none,n) st):
  wpS M A E s (Hg lo a nrem) Q st:=by
 unfold Hg
 refine wpS_forRange (I:=fun x c st'=>st'=st∧c=(none,x)∧Seg rk (arrOf st) lo (lo+x)) ?step ?fin ⟨rfl,rfl,hs⟩
 case fin=>
  rintro c st' ⟨rfl,rfl,hs'⟩
  rw [show max a nrem=nrem by omega] at hs' ⊢
  exact h nrem han (Nat.le_refl _) hs' (.inl rfl)
 case step=>
  rintro x c st' hax hxn ⟨rfl,rfl,hs'⟩
  dsimp only
  refine wpS_bind (oW L hB (by omega) (by omega) ?_)
  by_cases hless:Kr rk (arrOf st') (lo+x) < Kr rk (arrOf st') (lo+x - 1)
  ·simp only [hless,decide_true,if_true]
   exact wpS_pure (h x hax (by omega) hs' (.inr hless))
  ·simp only [hless,decide_false,Bool.false_eq_true,if_false]
   refine wpS_pure ⟨rfl,rfl,fun i j hl hij hj=>?_⟩
   by_cases hjx:j < lo+x
   ·exact hs' i j hl hij hjx
   ·have hj':j=lo+x:=by omega
    subst hj'
    by_cases hi':i=lo+x
    ·subst hi';exact Int.le_refl _
    ·exact Int.le_trans (hs' i (lo+x - 1) hl (by omega) (by omega)) (Int.not_lt.mp hless)
theorem tM {st:SortSt} {lo n nrem:Nat} {Q:Option Nat→SortSt→Prop} (L:oV M A E s kd rk a₀) (hn:lo+nrem≤a₀.size) (h1:1≤n) (hnn:n≤nrem) (hB:SB a₀ kd st)
  (hs:Dg rk (arrOf st) lo (lo+n)) (h:∀ m st',Nx a₀ kd rk lo st st'→1≤m→m≤nrem→Seg rk (arrOf st') lo (lo+m)→Q (some m) st'):
  wpS M A E s (tK lo n nrem) Q st:=by
 unfold tK
 have hsz:lo+n≤(arrOf st).size:=by rw [hB.size];omega
 refine wpS_bind (rF ?_)
 have hN:Nx a₀ kd rk lo st (setArr st (mirror (arrOf st) lo (lo+n) ((lo+n - lo) / 2))):=(Nx.refl hB).mir (Nat.le_refl _) (by omega)
 refine wpS_bind (xU L hn h1 hnn hN.sb ?_ fun m hm1 hm2 hsm _=>wpS_pure (h m _ hN (by omega) hm2 hsm))
 intro i j hl hij hj
 show Kr rk (mirror (arrOf st) lo (lo+n) ((lo+n - lo) / 2)) i≤Kr rk (mirror (arrOf st) lo (lo+n) ((lo+n - lo) / 2)) j
 rw [lH hsz,lH hsz,if_pos (by omega),if_pos (by omega)]
 exact hs _ _ (by omega) (by omega) (by omega)
theorem Di {st:SortSt} {lo n nrem:Nat} {Q:DescSt→SortSt→Prop} (L:oV M A E s kd rk a₀) (hn:lo+nrem≤a₀.size) (h1:1≤n) (hnn:n≤nrem) (hB:SB a₀ kd st)
  (hs:Dg rk (arrOf st) lo (lo+n))
  (h:∀ m neq st',Nx a₀ kd rk lo st st'→n≤m→m≤nrem→Dg rk (arrOf st') lo (lo+m)→neq+1≤m→(∀ i,lo+m - (neq+1)≤i→i < lo+m→Kr rk (arrOf st') i=Kr rk (arrOf st') (lo+m - 1))→Q (none,m,neq) st'):
  wpS M A E s (Bc lo n nrem) Q st:=by
 unfold Bc
 refine wpS_forRange (I:=fun x c st'=>∃ neq,c=(none,x,neq)∧Nx a₀ kd rk lo st st'∧Dg rk (arrOf st') lo (lo+x)∧neq+1≤x∧
   (∀ i,lo+x - (neq+1)≤i→i < lo+x→Kr rk (arrOf st') i=Kr rk (arrOf st') (lo+x - 1))) ?step ?fin ⟨0,rfl,Nx.refl hB,hs,by omega,fun i h1 h2=>by congr 1;omega⟩
 case fin=>
  rintro c st' ⟨neq,rfl,hB',hs',hq,he⟩
  rw [show max n nrem=nrem by omega] at hs' hq he ⊢
  exact h nrem neq st' hB' hnn (Nat.le_refl _) hs' hq he
 case step=>
  rintro x c st' hax hxn ⟨neq,rfl,hB',hs',hq,he⟩
  dsimp only
  have hsz:lo+x≤(arrOf st').size:=by rw [hB'.sb.size];omega
  refine wpS_bind (oW L hB'.sb (by omega) (by omega) ?_)
  by_cases hless:Kr rk (arrOf st') (lo+x) < Kr rk (arrOf st') (lo+x - 1)
  ·simp only [hless,decide_true,if_true]
   have step1:∀ xs:Array Keyed,(∀ k,Kr rk xs k=Kr rk (arrOf st') k)→Dg rk xs lo (lo+(x+1)):=by
    intro xs hk i j hl hij hj
    rw [hk,hk]
    by_cases hjx:j < lo+x
    ·exact hs' i j hl hij hjx
    ·have hj':j=lo+x:=by omega
     subst hj'
     by_cases hi':i=lo+x
     ·subst hi';exact Int.le_refl _
     ·exact Int.le_trans (Int.le_of_lt hless) (hs' i (lo+x - 1) hl (by omega) (by omega))
   by_cases hneq:neq > 0
   ·rw [if_pos hneq]
    refine wpS_bind (rF (wpS_pure ⟨0,rfl,hB'.mir (by omega) (by omega),step1 _ (dw hsz he),by omega,fun i h1 h2=>by congr 1;omega⟩))
   ·rw [if_neg hneq]
    exact wpS_pure ⟨0,rfl,hB',step1 _ (fun _=>rfl),by omega,fun i h1 h2=>by congr 1;omega⟩
  ·simp only [hless,decide_false,Bool.false_eq_true,if_false]
   refine wpS_bind (oW L hB'.sb (by omega) (by omega) ?_)
   by_cases hlarger:Kr rk (arrOf st') (lo+x - 1) < Kr rk (arrOf st') (lo+x)
   ·simp only [hlarger,decide_true,if_true]
    exact wpS_pure (h x neq st' hB' hax (by omega) hs' hq he)
   ·simp only [hlarger,decide_false,Bool.false_eq_true,if_false]
    have heqx:Kr rk (arrOf st') (lo+x)=Kr rk (arrOf st') (lo+x - 1):=by omega
    refine wpS_pure ⟨neq+1,rfl,hB',fun i j hl hij hj=>?_,by omega,fun i h1 h2=>?_⟩
    ·by_cases hjx:j < lo+x
     ·exact hs' i j hl hij hjx
     ·have hj':j=lo+x:=by omega
      subst hj'
      by_cases hi':i=lo+x
      ·subst hi';exact Int.le_refl _
      ·rw [heqx];exact hs' i (lo+x - 1) hl (by omega) (by omega)
    ·rw [show lo+(x+1) - 1=lo+x by omega]
     by_cases hix:i=lo+x
     ·subst hix;rfl
     ·rw [heqx];exact he i (by omega) (by omega)
theorem tO {st:SortSt} {lo n nrem:Nat} {Q:Option Nat→SortSt→Prop} (L:oV M A E s kd rk a₀) (hn:lo+nrem≤a₀.size) (hnn:n+1≤nrem) (hB:SB a₀ kd st)
  (hs:Dg rk (arrOf st) lo (lo+(n+1))) (h:∀ m st',Nx a₀ kd rk lo st st'→1≤m→m≤nrem→Seg rk (arrOf st') lo (lo+m)→Q (some m) st'):
  wpS M A E s (tL lo n nrem) Q st:=by
 unfold tL
 refine wpS_bind (wpS_lift (wpAny_rule ⟨rfl,?_⟩))
 refine wpS_bind (Di L hn (by omega) hnn hB hs fun m neq st' hB' hm1 hm2 hs' hq he=>?_)
 dsimp only
 have hsz:lo+m≤(arrOf st').size:=by rw [hB'.sb.size];omega
 by_cases hneq:neq > 0
 ·rw [if_pos hneq]
  have N2:=hB'.mir (i:=lo+m - (neq+1)) (j:=lo+m) (by omega) (by omega)
  refine wpS_bind (rF (tM L hn (by omega) hm2 N2.sb ?_ fun m' st2 N a b c=>h m' st2 (N2.trans N) a b c))
  intro i j hl hij hj
  show Kr rk (mirror (arrOf st') _ _ _) j≤Kr rk (mirror (arrOf st') _ _ _) i
  rw [dw hsz he,dw hsz he]
  exact hs' i j hl hij hj
 ·rw [if_neg hneq]
  exact tM L hn (by omega) hm2 hB'.sb hs' fun m' st2 N a b c=>h m' st2 (hB'.trans N) a b c
theorem zx {st:SortSt} {lo nrem:Nat} {Q:Option Nat→SortSt→Prop} (L:oV M A E s kd rk a₀) (hn:lo+nrem≤a₀.size) (h1:1≤nrem) (hB:SB a₀ kd st)
  (h:∀ m st',Nx a₀ kd rk lo st st'→1≤m→m≤nrem→Seg rk (arrOf st') lo (lo+m)→Q (some m) st'):
  wpS M A E s (countRun' lo nrem) Q st:=by
 rw [Dh]
 have one:∀ xs:Array Keyed,Seg rk xs lo (lo+1):=fun xs i j hl hij hj=>by
  have:i=j:=by omega
  subst this;exact Int.le_refl _
 refine wpS_bind (xU L hn (Nat.le_refl 1) h1 hB (one _) fun n hn1 hn2 hsn hor=>?_)
 dsimp only
 by_cases hnn:n=nrem
 ·rw [if_pos (by simpa using hnn)]
  exact wpS_pure (h n st (Nx.refl hB) hn1 hn2 hsn)
 ·rw [if_neg (by simpa using hnn)]
  have hlt:Kr rk (arrOf st) (lo+n) < Kr rk (arrOf st) (lo+n - 1):=hor.resolve_left hnn
  by_cases hgt:n > 1
  ·rw [if_pos hgt]
   refine wpS_bind (oW L hB (by omega) (by omega) ?_)
   by_cases hrose:Kr rk (arrOf st) lo < Kr rk (arrOf st) (lo+n - 1)
   ·simp only [hrose,decide_true,if_true]
    exact wpS_pure (h n st (Nx.refl hB) hn1 hn2 hsn)
   ·simp only [hrose,decide_false,Bool.false_eq_true,if_false]
    have hsz:lo+n≤(arrOf st).size:=by rw [hB.size];omega
    have hall:∀ k,lo≤k→k < lo+n→Kr rk (arrOf st) k=Kr rk (arrOf st) (lo+n - 1):=by
     intro k h0 hk
     have a1:=hsn lo k (by omega) h0 hk
     have a2:=hsn k (lo+n - 1) h0 (by omega) (by omega)
     omega
    have N2:=(Nx.refl (rk:=rk) (lo:=lo) hB).mir (i:=lo) (j:=lo+n) (by omega) (by omega)
    refine wpS_bind (rF (tO L hn (by omega) N2.sb ?_ fun m' st2 N a b c=>h m' st2 (N2.trans N) a b c))
    intro i j hl hij hj
    show Kr rk (mirror (arrOf st) _ _ _) j≤Kr rk (mirror (arrOf st) _ _ _) i
    rw [dw hsz hall,dw hsz hall]
    by_cases hjn:j < lo+n
    ·rw [hall i hl (by omega),hall j (by omega) hjn];exact Int.le_refl _
    ·have hj':j=lo+n:=by omega
     subst hj'
     by_cases hi':i=lo+n
     ·subst hi';exact Int.le_refl _
     ·rw [hall i hl (by omega)];exact Int.le_of_lt hlt
  ·rw [if_neg hgt]
   have hn1':n=1:=by omega
   subst hn1'
   refine tO L hn (by omega) hB ?_ h
   intro i j hl hij hj
   by_cases hi':i=j
   ·subst hi';exact Int.le_refl _
   ·have hi0:i=lo:=by omega
    have hj1:j=lo+1:=by omega
    subst hi0;subst hj1
    exact Int.le_of_lt hlt
theorem Hh {st:SortSt} {lo n ok:Nat} {Q:Bool→SortSt→Prop} (L:oV M A E s kd rk a₀) (hn:lo+n≤a₀.size) (hok:ok≤n) (hB:SB a₀ kd st) (hs:Seg rk (arrOf st) lo (lo+ok))
  (h:∀ st',Nx a₀ kd rk lo st st'→Seg rk (arrOf st') lo (lo+n)→Q true st'):wpS M A E s (binarySort' lo n ok) Q st:=by
 rw [binarySort'_eq]
 refine wpS_bind (wpS_mono (wpS_forRange (I:=fun k c st'=>c=(none,())∧Nx a₀ kd rk lo st st'∧Seg rk (arrOf st') lo (lo+min k n))
  (Q:=fun c st'=>c=(none,())∧Nx a₀ kd rk lo st st'∧Seg rk (arrOf st') lo (lo+n)) ?step ?fin ?init) ?post)
 case post=>
  rintro c st' ⟨rfl,hB',hs'⟩
  exact wpS_pure (h st' hB' hs')
 case init=>
  refine ⟨rfl,Nx.refl hB,fun i j hl hij hj=>?_⟩
  by_cases h1:ok=0
  ·have:i=j:=by omega
   subst this;exact Int.le_refl _
  ·exact hs i j hl hij (by omega)
 case fin=>
  rintro c st' ⟨hc,hB',hs'⟩
  refine ⟨hc,hB',?_⟩
  rwa [show min (max (max ok 1) n) n=n by omega] at hs'
 case step=>
  rintro k c st' hak hkn ⟨rfl,hB',hs'⟩
  rw [show min k n=k by omega] at hs'
  have hk:lo+k < a₀.size:=by omega
  refine wpS_bind (wpS_mono (wpS_forRange (I:=fun x c st''=>st''=st'∧∃ l r,c=(none,l,r)∧l≤r∧r≤k∧r - l≤k - x∧
    (∀ i,i < l→Kr rk (arrOf st') (lo+i)≤Kr rk (arrOf st') (lo+k))∧(∀ i,r≤i→i < k→Kr rk (arrOf st') (lo+k) < Kr rk (arrOf st') (lo+i)))
   (Q:=fun c st''=>st''=st'∧∃ l r,c=(none,l,r)∧l≤k∧
    (∀ i,i < l→Kr rk (arrOf st') (lo+i)≤Kr rk (arrOf st') (lo+k))∧(∀ i,l≤i→i < k→Kr rk (arrOf st') (lo+k) < Kr rk (arrOf st') (lo+i))) ?istep ?ifin ?iinit) ?ipost)
  case iinit=>exact ⟨rfl,0,k,rfl,by omega,by omega,by omega,fun i hi=>by omega,fun i h1 h2=>by omega⟩
  case ifin=>
   rintro c st'' ⟨rfl,l,r,rfl,hlr,hrk,hm,hlo,hhi⟩
   have:l=r:=by omega
   subst this
   exact ⟨rfl,l,l,rfl,hrk,hlo,hhi⟩
  case istep=>
   rintro x c st'' _ hxk ⟨rfl,l,r,rfl,hlr,hrk,hm,hlo,hhi⟩
   dsimp only
   by_cases hge:l≥r
   ·rw [if_pos hge]
    have:l=r:=by omega
    subst this
    exact wpS_pure ⟨rfl,l,l,rfl,hrk,hlo,hhi⟩
   ·rw [if_neg hge]
    refine wpS_bind (oW L hB'.sb hk (by omega) ?_)
    by_cases hless:Kr rk (arrOf st'') (lo+k) < Kr rk (arrOf st'') (lo+(l+r) / 2)
    ·simp only [hless,decide_true,if_true]
     refine wpS_pure ⟨rfl,l,(l+r) / 2,rfl,by omega,by omega,by omega,hlo,fun i h1 h2=>?_⟩
     exact Int.lt_of_lt_of_le hless (hs' _ _ (by omega) (by omega) (by omega))
    ·simp only [hless,decide_false,Bool.false_eq_true,if_false]
     refine wpS_pure ⟨rfl,(l+r) / 2+1,r,rfl,by omega,by omega,by omega,fun i h1=>?_,hhi⟩
     exact Int.le_trans (hs' (lo+i) (lo+(l+r) / 2) (by omega) (by omega) (by omega)) (Int.not_lt.mp hless)
  case ipost=>
   rintro c st'' ⟨rfl,l,r,rfl,hlk,hlo,hhi⟩
   show wpS _ _ _ _ (do moveDown' (lo+k) (lo+l);pure (ForInStep.yield (none,()))) _ _
   rw [moveDown'_eq]
   refine wpS_bind (wpS_modify (wpS_pure ⟨rfl,hB'.bub hk (by omega) (by omega),?_⟩))
   rw [show min (k+1) n=k+1 by omega]
   have hks:lo+k < (arrOf st'').size:=by rw [hB'.sb.size];exact hk
   intro i j hl hij hj
   obtain ⟨i,rfl⟩:∃ i',i=lo+i':=⟨i - lo,by omega⟩
   obtain ⟨j,rfl⟩:∃ j',j=lo+j':=⟨j - lo,by omega⟩
   show Kr rk (bubble (arrOf st'') (lo+k) (lo+k - (lo+l))) (lo+i)≤Kr rk (bubble (arrOf st'') (lo+k) (lo+k - (lo+l))) (lo+j)
   rw [qw hks (by omega),qw hks (by omega),show lo+k - (lo+k - (lo+l))=lo+l by omega]
   repeat' split
   all_goals first
    | (exfalso;omega)
    | exact Int.le_refl _
    | exact hlo _ (by omega)
    | exact Int.le_of_lt (by rw [show lo+j - 1=lo+(j - 1) by omega];exact hhi _ (by omega) (by omega))
    | exact hs' _ _ (by omega) (by omega) (by omega)
end
end L2
namespace L2
open PySem PySem.Spec PyProof.Rows
def K1:Bool→Keyed→Array Keyed→Nat→Nat→Nat→StateT SortSt Sem (Option Nat):=sortPriv% PySem.Builtin.gallop
def Sh (left:Bool) (key:Keyed) (arr:Array Keyed) (base i:Nat):StateT SortSt Sem (Option Bool):=do
  let x ← elem' arr (base+i)
  if left then lt' x key else return (← lt' key x).map (!·)
section
variable {M:Model} {A:Around} {E:Value→Shared→Prop} {s:Shared} {kd:SortKind} {rk:Keyed→Int} {a₀:Array Keyed}
def Dj (left:Bool) (key:Keyed) (arr:Array Keyed) (base n lo hi:Nat):StateT SortSt Sem (Option Nat):=do
 let __s ← forIn [:n] ((none,lo,hi):Option (Option Nat)×Nat×Nat) fun x __s=>
   if __s.snd.fst≥__s.snd.snd then pure (ForInStep.done (none,__s.snd.fst,__s.snd.snd))
   else do
    let __x ← Sh left key arr base (__s.snd.fst+(__s.snd.snd - __s.snd.fst) / 2)
    match __x with
     | some more=>
      if more=true then
       pure (ForInStep.yield (none,__s.snd.fst+(__s.snd.snd - __s.snd.fst) / 2+1,__s.snd.snd))
      else pure (ForInStep.yield (none,__s.snd.fst,__s.snd.fst+(__s.snd.snd - __s.snd.fst) / 2))
     | x=>pure (ForInStep.done (some none,__s.snd.fst,__s.snd.snd))
 match __s.fst with
  | some r=>pure r
  | none=>pure (some __s.snd.snd)
theorem xV {left:Bool} {key:Keyed} {arr:Array Keyed} {base n lo hi:Nat} {st:SortSt} {Q:Option Nat→SortSt→Prop} (P:Nat→Bool)
  (hP:∀ i (R:Option Bool→SortSt→Prop),i < n→R (some (P i)) st→wpS M A E s (Sh left key arr base i) R st) (hm:∀ i j,i≤j→j < n→P j=true→P i=true)
  (h1:lo≤hi) (h2:hi≤n) (hlo:∀ i,i < lo→P i=true) (hhi:∀ i,hi≤i→i < n→P i=false)
  (h:∀ k,k≤n→(∀ i,i < k→P i=true)→(∀ i,k≤i→i < n→P i=false)→Q (some k) st):wpS M A E s (Dj left key arr base n lo hi) Q st:=by
 unfold Dj
 refine wpS_bind (wpS_mono (wpS_forRange (I:=fun x c st'=>st'=st∧∃ l r,c=(none,l,r)∧l≤r∧r≤n∧r - l≤n - x∧(∀ i,i < l→P i=true)∧(∀ i,r≤i→i < n→P i=false))
   (Q:=fun c st'=>st'=st∧∃ l,c=(none,l,l)∧l≤n∧(∀ i,i < l→P i=true)∧(∀ i,l≤i→i < n→P i=false)) ?step ?fin ⟨rfl,lo,hi,rfl,h1,h2,by omega,hlo,hhi⟩) ?post)
 case fin=>
  rintro c st' ⟨rfl,l,r,rfl,a,b,d,e,f⟩
  obtain rfl:l=r:=by omega
  exact ⟨rfl,l,rfl,b,e,f⟩
 case post=>
  rintro c st' ⟨rfl,l,rfl,b,e,f⟩
  exact wpS_pure (h l b e f)
 case step=>
  rintro x c st' _ hx ⟨rfl,l,r,rfl,a,b,d,e,f⟩
  dsimp only
  by_cases hge:l≥r
  ·rw [if_pos hge]
   obtain rfl:l=r:=by omega
   exact wpS_pure ⟨rfl,l,rfl,b,e,f⟩
  ·rw [if_neg hge]
   refine wpS_bind (hP _ _ (by omega) ?_)
   dsimp only
   by_cases hb:P (l+(r - l) / 2)=true
   ·rw [if_pos hb]
    exact wpS_pure ⟨rfl,_,_,rfl,by omega,b,by omega,fun i hi=>hm i _ (by omega) (by omega) hb,f⟩
   ·rw [if_neg hb]
    refine wpS_pure ⟨rfl,_,_,rfl,by omega,by omega,by omega,e,fun i h3 h4=>?_⟩
    cases hq:P i with
    | false=>rfl
    | true=>exact absurd (hm _ _ h3 h4 hq) hb
theorem dJ {left:Bool} {key:Keyed} {arr:Array Keyed} {base n hint:Nat} {st:SortSt} {Q:Option Nat→SortSt→Prop} (P:Nat→Bool) (hh:hint < n)
  (hP:∀ i (R:Option Bool→SortSt→Prop),i < n→R (some (P i)) st→wpS M A E s (Sh left key arr base i) R st) (hm:∀ i j,i≤j→j < n→P j=true→P i=true)
  (h:∀ k,k≤n→(∀ i,i < k→P i=true)→(∀ i,k≤i→i < n→P i=false)→Q (some k) st):wpS M A E s (K1 left key arr base n hint) Q st:=by
 refine wpS_bind (m:=Sh left key arr base hint) (hP hint _ hh ?_)
 dsimp only
 by_cases hr:P hint=true
 ·rw [if_pos hr]
  refine wpS_bind (wpS_mono (wpS_forRange (I:=fun x c st'=>st'=st∧∃ la of,c=(none,la,of)∧la < of∧hint+la < n∧P (hint+la)=true∧x+1≤of)
    (Q:=fun c st'=>st'=st∧∃ la of,c=(none,la,of)∧la < of∧hint+la < n∧P (hint+la)=true∧(n - hint≤of∨(hint+of < n∧P (hint+of)=false))) ?step ?fin ⟨rfl,0,1,rfl,by omega,by omega,hr,by omega⟩) ?post)
  case fin=>
   rintro c st' ⟨rfl,la,of,rfl,a,b,d,e⟩
   exact ⟨rfl,la,of,rfl,a,b,d,.inl (by omega)⟩
  case step=>
   rintro x c st' _ hx ⟨rfl,la,of,rfl,a,b,d,e⟩
   dsimp only
   by_cases hge:of≥n - hint
   ·rw [if_pos hge]
    exact wpS_pure ⟨rfl,la,of,rfl,a,b,d,.inl hge⟩
   ·rw [if_neg hge]
    refine wpS_bind (hP _ _ (by omega) ?_)
    dsimp only
    cases hq:P (hint+of) with
    | false=>
     rw [if_pos (by decide)]
     exact wpS_pure ⟨rfl,la,of,rfl,a,b,d,.inr ⟨by omega,hq⟩⟩
    | true=>
     rw [if_neg (by decide)]
     exact wpS_pure ⟨rfl,of,2*of+1,rfl,by omega,by omega,hq,by omega⟩
  case post=>
   rintro c st' ⟨rfl,la,of,rfl,a,b,d,e⟩
   dsimp only
   refine Eq.mpr (congrArg (fun m=>wpS M A E s m Q st') (?eq:_=Dj left key arr base n (hint+la+1) (hint+min of (n - hint)))) ?_
   case eq=>
    unfold Dj
    congr 1
    funext c
    obtain ⟨r,l,h⟩:=c
    cases r <;> rfl
   refine xV P hP hm (by omega) (by omega) (fun i hi=>hm i _ (by omega) b d) (fun i h3 h4=>?_) h
   rcases e with e | ⟨e1,e2⟩
   ·omega
   ·cases hq:P i with
    | false=>rfl
    | true=>
     have:=hm (hint+of) i (by omega) h4 hq
     rw [this] at e2;cases e2
 ·rw [if_neg hr]
  have hr':P hint=false:=by simpa using hr
  refine wpS_bind (wpS_mono (wpS_forRange (I:=fun x c st'=>st'=st∧∃ la of,c=(none,la,of)∧la < of∧la≤hint∧P (hint - la)=false∧x+1≤of)
    (Q:=fun c st'=>st'=st∧∃ la of,c=(none,la,of)∧la < of∧la≤hint∧P (hint - la)=false∧(hint+1≤of∨(of≤hint∧P (hint - of)=true))) ?step2 ?fin2 ⟨rfl,0,1,rfl,by omega,by omega,hr',by omega⟩) ?post2)
  case fin2=>
   rintro c st' ⟨rfl,la,of,rfl,a,b,d,e⟩
   exact ⟨rfl,la,of,rfl,a,b,d,.inl (by omega)⟩
  case step2=>
   rintro x c st' _ hx ⟨rfl,la,of,rfl,a,b,d,e⟩
   dsimp only
   by_cases hge:of≥hint+1
   ·rw [if_pos hge]
    exact wpS_pure ⟨rfl,la,of,rfl,a,b,d,.inl hge⟩
   ·rw [if_neg hge]
    refine wpS_bind (hP _ _ (by omega) ?_)
    dsimp only
    by_cases hq:P (hint - of)=true
    ·rw [if_pos hq]
     exact wpS_pure ⟨rfl,la,of,rfl,a,b,d,.inr ⟨by omega,hq⟩⟩
    ·rw [if_neg hq]
     exact wpS_pure ⟨rfl,of,2*of+1,rfl,by omega,by omega,by simpa using hq,by omega⟩
  case post2=>
   rintro c st' ⟨rfl,la,of,rfl,a,b,d,e⟩
   dsimp only
   refine Eq.mpr (congrArg (fun m=>wpS M A E s m Q st') (?eq:_=Dj left key arr base n (hint+1 - min of (hint+1)) (hint - la))) ?_
   case eq=>
    unfold Dj
    congr 1
    funext c
    obtain ⟨r,l,h⟩:=c
    cases r <;> rfl
   refine xV P hP hm (by omega) (by omega) (fun i hi=>?_) (fun i h3 h4=>?_) h
   ·rcases e with e | ⟨e1,e2⟩
    ·omega
    ·exact hm i _ (by omega) (by omega) e2
   ·cases hq:P i with
    | false=>rfl
    | true=>
     have:=hm (hint - la) i (by omega) h4 hq
     rw [this] at d;cases d
theorem iQ {left:Bool} {key:Keyed} {arr:Array Keyed} {base i:Nat} {st:SortSt} {R:Option Bool→SortSt→Prop} (L:oV M A E s kd rk a₀) (hk:key∈a₀.toList) (ha:∀ p∈arr.toList,p∈a₀.toList) (hi:base+i < arr.size) (kind:kindOf st=kd)
  (h:R (some (if left=true then decide (Kr rk arr (base+i) < rk key) else decide (Kr rk arr (base+i)≤rk key))) st):wpS M A E s (Sh left key arr base i) R st:=by
 unfold Sh
 have e:arr[base+i]?=some arr[base+i]:=getElem?_pos arr (base+i) hi
 have hm:arr[base+i]∈a₀.toList:=ha _ (by simp)
 rw [cz e] at h
 refine wpS_bind (aO (σ:=Unit) e ?_)
 cases left with
 | true=>
  simp only [if_true] at h ⊢
  exact L _ _ st R hm hk kind h
 | false=>
  simp only [Bool.false_eq_true,if_false] at h ⊢
  refine wpS_bind (L _ _ st _ hk hm kind (wpS_pure ?_))
  have:(some (decide (rk key < rk arr[base+i]))).map (fun x=>!x)=some (decide (rk arr[base+i]≤rk key)):=by
   show some (!decide (rk key < rk arr[base+i]))=_
   congr 1
   rw [← decide_not]
   exact decide_eq_decide.mpr (by omega)
  rw [this];exact h
end
end L2
namespace L2
open PySem PySem.Spec PyProof.Rows
def Ng:Nat→StateT SortSt Sem Unit:=sortPriv% PySem.Builtin.setMinGallop
theorem Hi (g:Nat):Ng g=modify fun s=>SortSt.mk' (kindOf s) (arrOf s) (pendingOf s) g (failedOf s):=rfl
def Hj:Array Keyed→Array Keyed→StateT SortSt Sem (Array Keyed):=sortPriv% PySem.Builtin.mergeLo
def Hk:Array Keyed→Array Keyed→StateT SortSt Sem (Array Keyed):=sortPriv% PySem.Builtin.mergeHi
section
variable {M:Model} {A:Around} {E:Value→Shared→Prop} {s:Shared} {kd:SortKind} {rk:Keyed→Int} {a₀:Array Keyed}
abbrev lJ (rk:Keyed→Int) (l:List Keyed):Prop:=l.Pairwise fun p q=>rk p≤rk q
structure Sm (st st':SortSt):Prop where
 arr:arrOf st'=arrOf st
 kind:kindOf st'=kindOf st
 failed:failedOf st'=failedOf st
 pend:pendingOf st'=pendingOf st
theorem Sm.refl (st:SortSt):Sm st st:=⟨rfl,rfl,rfl,rfl⟩
theorem Sm.trans {a b c:SortSt} (h:Sm a b) (h':Sm b c):Sm a c:=⟨h'.arr.trans h.arr,h'.kind.trans h.kind,h'.failed.trans h.failed,h'.pend.trans h.pend⟩
theorem oX {st st0:SortSt} {g:Nat} {Q:Unit→SortSt→Prop} (h0:Sm st0 st) (h:∀ st',Sm st0 st'→Q () st'):wpS M A E s (Ng g) Q st:=by
 rw [Hi]
 exact wpS_modify (h _ (h0.trans ⟨rfl,rfl,rfl,rfl⟩))
structure MI (rk:Keyed→Int) (a b out:Array Keyed) (ia ib:Nat):Prop where
 ha:ia≤a.size
 hb:ib≤b.size
 so:lJ rk out.toList
 le:∀ p∈out.toList,∀ q∈a.toList.drop ia ++ b.toList.drop ib,rk p≤rk q
 pm:(out.toList ++ (a.toList.drop ia ++ b.toList.drop ib)).Perm (a.toList ++ b.toList)
def Res (rk:Keyed→Int) (a b r:Array Keyed):Prop:=lJ rk r.toList∧r.toList.Perm (a.toList ++ b.toList)
theorem jy {α:Type} (l:List α) (i k:Nat):l.drop i=(l.drop i).take k ++ l.drop (i+k):=by
 have e:l.drop (i+k)=(l.drop i).drop k:=by rw [List.drop_drop]
 rw [e,List.take_append_drop]
theorem ext_toList (a:Array Keyed) (i k:Nat):(a.extract i (i+k)).toList=(a.toList.drop i).take k:=by
 rw [Array.toList_extract,List.extract_eq_drop_take]
 congr 1
 omega
theorem MI.takeA {a b out:Array Keyed} {ia ib:Nat} (h:MI rk a b out ia ib) (Sa:lJ rk a.toList) (k:Nat) (hk:ia+k≤a.size) (hc:∀ p∈(a.toList.drop ia).take k,∀ q∈b.toList.drop ib,rk p≤rk q):MI rk a b (out ++ a.extract ia (ia+k)) (ia+k) ib:=by
 have e:=jy a.toList ia k
 have Sd:lJ rk (a.toList.drop ia):=Sa.sublist (List.drop_sublist _ _)
 rw [e] at Sd
 obtain ⟨s1,s2,s3⟩:=List.pairwise_append.mp Sd
 have tl:(out ++ a.extract ia (ia+k)).toList=out.toList ++ (a.toList.drop ia).take k:=by rw [Array.toList_append,ext_toList]
 refine ⟨hk,h.hb,?_,?_,?_⟩
 ·rw [tl]
  exact List.pairwise_append.mpr ⟨h.so,s1,fun p hp q hq=>h.le p hp q (List.mem_append_left _ (List.mem_of_mem_take hq))⟩
 ·rw [tl]
  intro p hp q hq
  rcases List.mem_append.mp hp with hp | hp
  ·refine h.le p hp q ?_
   rcases List.mem_append.mp hq with hq | hq
   ·exact List.mem_append_left _ (by rw [e];exact List.mem_append_right _ hq)
   ·exact List.mem_append_right _ hq
  ·rcases List.mem_append.mp hq with hq | hq
   ·exact s3 p hp q hq
   ·exact hc p hp q hq
 ·rw [tl]
  refine List.Perm.trans (List.Perm.of_eq ?_) h.pm
  conv=>rhs;rw [e]
  simp only [List.append_assoc]
theorem MI.takeB {a b out:Array Keyed} {ia ib:Nat} (h:MI rk a b out ia ib) (Sb:lJ rk b.toList) (k:Nat) (hk:ib+k≤b.size) (hc:∀ p∈(b.toList.drop ib).take k,∀ q∈a.toList.drop ia,rk p≤rk q):MI rk a b (out ++ b.extract ib (ib+k)) ia (ib+k):=by
 have e:=jy b.toList ib k
 have Sd:lJ rk (b.toList.drop ib):=Sb.sublist (List.drop_sublist _ _)
 rw [e] at Sd
 obtain ⟨s1,s2,s3⟩:=List.pairwise_append.mp Sd
 have tl:(out ++ b.extract ib (ib+k)).toList=out.toList ++ (b.toList.drop ib).take k:=by rw [Array.toList_append,ext_toList]
 refine ⟨h.ha,hk,?_,?_,?_⟩
 ·rw [tl]
  exact List.pairwise_append.mpr ⟨h.so,s1,fun p hp q hq=>h.le p hp q (List.mem_append_right _ (List.mem_of_mem_take hq))⟩
 ·rw [tl]
  intro p hp q hq
  rcases List.mem_append.mp hp with hp | hp
  ·refine h.le p hp q ?_
   rcases List.mem_append.mp hq with hq | hq
   ·exact List.mem_append_left _ hq
   ·exact List.mem_append_right _ (by rw [e];exact List.mem_append_right _ hq)
  ·rcases List.mem_append.mp hq with hq | hq
   ·exact hc p hp q hq
   ·exact s3 p hp q hq
 ·rw [tl]
  refine List.Perm.trans ?_ h.pm
  conv=>rhs;rw [e]
  rw [List.append_assoc]
  refine List.Perm.append_left _ ?_
  rw [← List.append_assoc,← List.append_assoc]
  exact List.Perm.append_right _ List.perm_append_comm
theorem tQ {out a:Array Keyed} {i:Nat} {p:Keyed} (h:a[i]?=some p):out.push p=out ++ a.extract i (i+1):=by
 apply Array.ext'
 rw [Array.toList_append,ext_toList,Array.toList_push]
 congr 1
 obtain ⟨hi,e⟩:=Array.getElem?_eq_some_iff.mp h
 rw [List.drop_eq_getElem_cons (by simpa using hi)]
 simp [e]
theorem take1 {a:Array Keyed} {i:Nat} {p q:Keyed} (h:a[i]?=some p) (hq:q∈(a.toList.drop i).take 1):q=p:=by
 obtain ⟨hi,e⟩:=Array.getElem?_eq_some_iff.mp h
 rw [List.drop_eq_getElem_cons (by simpa using hi)] at hq
 simpa [e] using hq
theorem fZ {a:Array Keyed} {i:Nat} {p q:Keyed} (Sa:lJ rk a.toList) (h:a[i]?=some p) (hq:q∈a.toList.drop i):rk p≤rk q:=by
 obtain ⟨hi,e⟩:=Array.getElem?_eq_some_iff.mp h
 have Sd:lJ rk (a.toList.drop i):=Sa.sublist (List.drop_sublist _ _)
 rw [List.drop_eq_getElem_cons (by simpa using hi)] at Sd hq
 rcases List.mem_cons.mp hq with rfl | hq
 ·simp [e]
 ·have:=(List.pairwise_cons.mp Sd).1 q hq
  simpa [e] using this
theorem wj {a:Array Keyed} {i:Nat} {q:Keyed} (hq:q∈a.toList.drop i):∃ j,i≤j∧j < a.size∧a[j]?=some q:=by
 obtain ⟨k,hk,e⟩:=List.mem_iff_getElem.mp hq
 have hk':i+k < a.size:=by simp at hk;omega
 refine ⟨i+k,by omega,hk',?_⟩
 rw [getElem?_pos a (i+k) hk',← e]
 simp
theorem rH {a:Array Keyed} {i k:Nat} {q:Keyed} (hq:q∈(a.toList.drop i).take k):∃ j,j < k∧a[i+j]?=some q:=by
 obtain ⟨j,hj,e⟩:=List.mem_iff_getElem.mp hq
 have hj':j < k∧i+j < a.size:=by simp at hj;omega
 refine ⟨j,hj'.1,?_⟩
 rw [getElem?_pos a (i+j) hj'.2,← e]
 simp
theorem MI.pushA {a b out:Array Keyed} {ia ib:Nat} {p:Keyed} (h:MI rk a b out ia ib) (Sa:lJ rk a.toList) (e:a[ia]?=some p) (hc:∀ q∈b.toList.drop ib,rk p≤rk q):MI rk a b (out.push p) (ia+1) ib:=by
 rw [tQ e]
 exact h.takeA Sa 1 (by have:=(Array.getElem?_eq_some_iff.mp e).1;omega) fun q hq r hr=>by rw [take1 e hq];exact hc r hr
theorem MI.pushB {a b out:Array Keyed} {ia ib:Nat} {p:Keyed} (h:MI rk a b out ia ib) (Sb:lJ rk b.toList) (e:b[ib]?=some p) (hc:∀ q∈a.toList.drop ia,rk p≤rk q):MI rk a b (out.push p) ia (ib+1):=by
 rw [tQ e]
 exact h.takeB Sb 1 (by have:=(Array.getElem?_eq_some_iff.mp e).1;omega) fun q hq r hr=>by rw [take1 e hq];exact hc r hr
theorem lK (a:Array Keyed) (i:Nat):(a.extract i a.size).toList=a.toList.drop i:=by
 rw [Array.toList_extract,List.extract_eq_drop_take,List.take_of_length_le (by simp)]
theorem MI.doneB {a b out:Array Keyed} {ia ib:Nat} (h:MI rk a b out ia ib) (Sa:lJ rk a.toList) (e:ib=b.size):Res rk a b (out ++ a.extract ia a.size ++ b.extract ib b.size):=by
 have hd:b.toList.drop ib=[]:=List.drop_eq_nil_of_le (by simp [e])
 unfold Res
 rw [Array.toList_append,Array.toList_append,lK,lK,hd,List.append_nil]
 have hp:=h.pm
 rw [hd,List.append_nil] at hp
 exact ⟨List.pairwise_append.mpr ⟨h.so,Sa.sublist (List.drop_sublist _ _),fun p hp q hq=>h.le p hp q (List.mem_append_left _ hq)⟩,hp⟩
theorem MI.doneA {a b out:Array Keyed} {ia ib:Nat} (h:MI rk a b out ia ib) (Sb:lJ rk b.toList) (e:ia=a.size):Res rk a b (out ++ a.extract ia a.size ++ b.extract ib b.size):=by
 have hd:a.toList.drop ia=[]:=List.drop_eq_nil_of_le (by simp [e])
 unfold Res
 rw [Array.toList_append,Array.toList_append,lK,lK,hd,List.append_nil]
 have hp:=h.pm
 rw [hd,List.nil_append] at hp
 exact ⟨List.pairwise_append.mpr ⟨h.so,Sb.sublist (List.drop_sublist _ _),fun p hp q hq=>h.le p hp q (List.mem_append_right _ hq)⟩,hp⟩
theorem MI.lastA {a b out:Array Keyed} {ia ib:Nat} (h:MI rk a b out ia ib) (Sb:lJ rk b.toList) (e:ia+1=a.size) (hl:∀ p,a[a.size - 1]?=some p→∀ q∈b.toList,rk q≤rk p):Res rk a b (out ++ b.extract ib b.size ++ a.extract ia a.size):=by
 unfold Res
 rw [Array.toList_append,Array.toList_append,lK,lK]
 have hi:ia < a.size:=by omega
 have ea:a.toList.drop ia=[a[ia]]:=by
  rw [List.drop_eq_getElem_cons (by simpa using hi),List.drop_eq_nil_of_le (by simp;omega)]
  simp
 refine ⟨?_,?_⟩
 ·refine List.pairwise_append.mpr ⟨List.pairwise_append.mpr ⟨h.so,Sb.sublist (List.drop_sublist _ _),fun p hp q hq=>h.le p hp q (List.mem_append_right _ hq)⟩,by rw [ea];exact List.pairwise_singleton _ _,fun p hp q hq=>?_⟩
  rcases List.mem_append.mp hp with hp | hp
  ·exact h.le p hp q (List.mem_append_left _ hq)
  ·rw [ea] at hq
   rw [List.mem_singleton.mp hq]
   refine hl _ ?_ p (List.mem_of_mem_drop hp)
   rw [show a.size - 1=ia by omega];exact getElem?_pos a ia hi
 ·refine List.Perm.trans ?_ h.pm
  rw [List.append_assoc]
  exact List.Perm.append_left _ List.perm_append_comm
end
end L2
set_option maxHeartbeats 8000000
namespace L2
open PySem PySem.Spec PyProof.Rows
section
variable {M:Model} {A:Around} {E:Value→Shared→Prop} {s:Shared} {kd:SortKind} {rk:Keyed→Int} {a₀:Array Keyed}
theorem aD {σ α:Type} {c:Prop} [Decidable c] {x y:StateT σ Sem α} {Q:α→σ→Prop} {st:σ} (h1:c→wpS M A E s x Q st) (h2:¬ c→wpS M A E s y Q st):wpS M A E s (if c then x else y) Q st:=by
 split
 ·exact h1 ‹_›
 ·exact h2 ‹_›
def Go (rk:Keyed→Int) (a b:Array Keyed) (n:Nat) (r:Option (Array Keyed)) (out:Array Keyed) (ia ib:Nat):Prop:=(∃ x,r=some x∧Res rk a b x)∨(r=none∧MI rk a b out ia ib∧ib < b.size∧ia+1 < a.size∧n≤ia+ib)
theorem xW {a b:Array Keyed} {st:SortSt} {Q:Array Keyed→SortSt→Prop} (L:oV M A E s kd rk a₀) (ha:∀ p∈a.toList,p∈a₀.toList) (hb:∀ p∈b.toList,p∈a₀.toList) (Sa:lJ rk a.toList) (Sb:lJ rk b.toList)
  (n1:1≤a.size) (n2:1≤b.size) (hf:∀ p,b[0]?=some p→∀ q∈a.toList,rk p≤rk q) (hl:∀ p,a[a.size - 1]?=some p→∀ q∈b.toList,rk q≤rk p) (kind:kindOf st=kd)
  (h:∀ r st',Sm st st'→Res rk a b r→Q r st'):wpS M A E s (Hj a b) Q st:=by
 have atA:∀ {i:Nat},i < a.size→∃ p,a[i]?=some p∧p∈a₀.toList:=fun {i} hi=>⟨a[i],getElem?_pos a i hi,ha _ (by simp)⟩
 have atB:∀ {i:Nat},i < b.size→∃ p,b[i]?=some p∧p∈a₀.toList:=fun {i} hi=>⟨b[i],getElem?_pos b i hi,hb _ (by simp)⟩
 have KA:∀ {i:Nat} {p:Keyed},a[i]?=some p→Kr rk a i=rk p:=fun e=>cz e
 have SKa:∀ i j,i≤j→j < a.size→Kr rk a i≤Kr rk a j:=fun i j hij hj=>by
  obtain ⟨p,ep,_⟩:=atA (show i < a.size by omega)
  obtain ⟨q,eq,_⟩:=atA hj
  rw [cz ep,cz eq]
  refine fZ Sa ep ?_
  obtain ⟨hq,e⟩:=Array.getElem?_eq_some_iff.mp eq
  rw [← e]
  exact List.mem_iff_getElem.mpr ⟨j - i,by simp;omega,by simp [show i+(j - i)=j by omega]⟩
 have SKb:∀ i j,i≤j→j < b.size→Kr rk b i≤Kr rk b j:=fun i j hij hj=>by
  obtain ⟨p,ep,_⟩:=atB (show i < b.size by omega)
  obtain ⟨q,eq,_⟩:=atB hj
  rw [cz ep,cz eq]
  refine fZ Sb ep ?_
  obtain ⟨hq,e⟩:=Array.getElem?_eq_some_iff.mp eq
  rw [← e]
  exact List.mem_iff_getElem.mpr ⟨j - i,by simp;omega,by simp [show i+(j - i)=j by omega]⟩
 refine wpS_bind (wpS_lift (wpAny_rule ⟨rfl,?_⟩))
 dsimp only
 obtain ⟨p0,e0,m0⟩:=atB (i:=0) (by omega)
 refine wpS_bind (aO (σ:=Unit) e0 ?_)
 have I0:MI rk a b #[p0] 0 1:=by
  have eb:b.toList=p0 :: b.toList.drop 1:=by
   obtain ⟨hi,e⟩:=Array.getElem?_eq_some_iff.mp e0
   have:=List.drop_eq_getElem_cons (l:=b.toList) (i:=0) (by simpa using hi)
   rw [List.drop_zero] at this
   conv=>lhs;rw [this]
   simp [e]
  refine ⟨by omega,by omega,List.pairwise_singleton _ _,fun p hp q hq=>?_,?_⟩
  ·obtain rfl:p=p0:=by simpa using hp
   rcases List.mem_append.mp hq with hq | hq
   ·exact hf p e0 q (List.mem_of_mem_drop hq)
   ·exact fZ Sb e0 (by rw [List.drop_zero];exact List.mem_of_mem_drop hq)
  ·show ([p0] ++ (a.toList.drop 0 ++ b.toList.drop 1)).Perm _
   rw [List.drop_zero]
   conv=>rhs;rw [eb]
   exact (List.perm_middle (a:=p0) (l₁:=a.toList) (l₂:=b.toList.drop 1)).symm
 by_cases h1:1=b.size
 ·rw [if_pos (by simpa using h1)]
  exact wpS_pure (h _ _ (Sm.refl _) (I0.doneB Sa h1))
 rw [if_neg (by simpa using h1)]
 by_cases h2:0+1=a.size
 ·rw [if_pos (by simpa using h2)]
  exact wpS_pure (h _ _ (Sm.refl _) (I0.lastA Sb h2 hl))
 rw [if_neg (by simpa using h2)]
 refine wpS_bind (wpS_get ?_)
 refine wpS_bind (wpS_mono (wpS_forRange (I:=fun x c st'=>Sm st st'∧∃ out ia ib mg,c=(none,out,ia,ib,mg)∧MI rk a b out ia ib∧ib < b.size∧ia+1 < a.size∧x+1≤ia+ib)
   (Q:=fun c st'=>Sm st st'∧∃ r,c.1=some r∧Res rk a b r) ?step ?fin ⟨Sm.refl _,_,_,_,_,rfl,I0,by omega,by omega,by omega⟩) ?post)
 case fin=>
  rintro c st' ⟨_,out,ia,ib,mg,rfl,I,x1,x2,x3⟩
  exact absurd x3 (by omega)
 case post=>
  rintro ⟨r0,c⟩ st' ⟨S,r,rfl,hr⟩
  exact wpS_pure (h r st' S hr)
 case step=>
  rintro x c st1 _ hx ⟨S1,out,ia,ib,mg,rfl,I,x1,x2,x3⟩
  dsimp only
  have kd1:kindOf st1=kd:=S1.kind.trans kind
  refine wpS_bind (wpS_mono (wpS_forRange (I:=fun y c st'=>st'=st1∧∃ out' ia' ib' ac bc,c=(none,out',ia',ib',ac,bc)∧MI rk a b out' ia' ib'∧ib' < b.size∧ia'+1 < a.size∧x+1+y≤ia'+ib')
   (Q:=fun c st'=>st'=st1∧Go rk a b (x+2) c.1 c.2.1 c.2.2.1 c.2.2.2.1) ?istep ?ifin ⟨rfl,_,_,_,_,_,rfl,I,x1,x2,by omega⟩) ?ipost)
  case ifin=>
   rintro c st' ⟨rfl,out',ia',ib',ac,bc,rfl,I',y1,y2,y3⟩
   exact ⟨rfl,.inr ⟨rfl,I',y1,y2,by show x+2≤ia'+ib';omega⟩⟩
  case istep=>
   rintro y c st' _ hy ⟨rfl,out',ia',ib',ac,bc,rfl,I',y1,y2,y3⟩
   dsimp only
   obtain ⟨pb,eb,mb⟩:=atB y1
   obtain ⟨pa,ea,ma⟩:=atA (show ia' < a.size by omega)
   refine wpS_bind (aO (σ:=Unit) eb (wpS_bind (aO (σ:=Unit) ea (wpS_bind (L _ _ _ _ mb ma kd1 ?_)))))
   dsimp only
   by_cases hw:rk pb < rk pa
   ·rw [if_pos (decide_eq_true hw)]
    refine wpS_bind (aO (σ:=Unit) eb ?_)
    have I2:=I'.pushB Sb eb fun q hq=>Int.le_trans (Int.le_of_lt hw) (fZ Sa ea hq)
    by_cases h3:ib'+1=b.size
    ·rw [if_pos (by simpa using h3)]
     exact wpS_pure ⟨rfl,.inl ⟨_,rfl,I2.doneB Sa h3⟩⟩
    ·rw [if_neg (by simpa using h3)]
     split
     ·exact wpS_pure ⟨rfl,.inr ⟨rfl,I2,by show ib'+1 < _;omega,y2,by show x+2≤ia'+(ib'+1);omega⟩⟩
     ·exact wpS_pure ⟨rfl,_,_,_,_,_,rfl,I2,by omega,y2,by omega⟩
   ·rw [if_neg (by rw [decide_eq_false hw];decide)]
    refine wpS_bind (aO (σ:=Unit) ea ?_)
    have I2:=I'.pushA Sa ea fun q hq=>Int.le_trans (by omega) (fZ Sb eb hq)
    by_cases h3:ia'+1+1=a.size
    ·rw [if_pos (by simpa using h3)]
     exact wpS_pure ⟨rfl,.inl ⟨_,rfl,I2.lastA Sb h3 hl⟩⟩
    ·rw [if_neg (by simpa using h3)]
     split
     ·exact wpS_pure ⟨rfl,.inr ⟨rfl,I2,y1,by show ia'+1+1 < _;omega,by show x+2≤ia'+1+ib';omega⟩⟩
     ·exact wpS_pure ⟨rfl,_,_,_,_,_,rfl,I2,y1,by omega,by omega⟩
  case ipost=>
   rintro ⟨r0,out1,ia1,ib1,ac1,bc1⟩ st' ⟨rfl,G⟩
   dsimp only at G ⊢
   rcases G with ⟨r,rfl,hr⟩ | ⟨rfl,I1,y1,y2,y3⟩
   ·exact wpS_pure ⟨S1,r,rfl,hr⟩
   dsimp only
   refine wpS_bind (wpS_lift (wpAny_rule ⟨rfl,?_⟩))
   refine wpS_bind (wpS_mono (wpS_forRange (I:=fun y c st'=>Sm st st'∧∃ out' ia' ib' mg ac bc,c=(none,out',ia',ib',mg,ac,bc)∧MI rk a b out' ia' ib'∧ib' < b.size∧ia'+1 < a.size∧x+2≤ia'+ib')
    (Q:=fun c st'=>Sm st st'∧Go rk a b (x+2) c.1 c.2.1 c.2.2.1 c.2.2.2.1) ?gstep ?gfin ⟨S1,_,_,_,_,_,_,rfl,I1,y1,y2,y3⟩) ?gpost)
   case gfin=>
    rintro c st' ⟨S2,out',ia',ib',mg',ac,bc,rfl,I',y1,y2,y3⟩
    exact ⟨S2,.inr ⟨rfl,I',y1,y2,y3⟩⟩
   case gpost=>
    rintro ⟨r0,out1,ia1,ib1,mg1,ac1,bc1⟩ st' ⟨S2,G⟩
    dsimp only at G ⊢
    rcases G with ⟨r,rfl,hr⟩ | ⟨rfl,I1,y1,y2,y3⟩
    ·exact wpS_pure ⟨S2,r,rfl,hr⟩
    dsimp only
    refine wpS_bind (oX S2 fun st2 S3=>?_)
    exact wpS_pure ⟨S3,_,_,_,_,rfl,I1,y1,y2,y3⟩
   case gstep=>
    rintro y c st' _ hy ⟨S2,out',ia',ib',mg',ac,bc,rfl,I',y1,y2,y3⟩
    dsimp only
    obtain ⟨pb,eb,mb⟩:=atB y1
    refine aD (fun _=>?_) (fun _=>?_)
    all_goals
     refine wpS_bind (oX S2 fun st3 S3=>?_)
     have kd3:kindOf st3=kd:=S3.kind.trans kind
     refine wpS_bind (aO (σ:=Unit) eb ?_)
     refine wpS_bind (dJ (fun i=>decide (Kr rk a (ia'+i)≤rk pb)) (by omega) (fun i R hi r=>iQ L mb ha (by omega) kd3 (by simpa using r)) (fun i j hij hj hq=>decide_eq_true (Int.le_trans (SKa _ _ (by omega) (by omega)) (of_decide_eq_true hq))) fun k hk hk1 hk2=>?_)
     dsimp only
     have I2:=I'.takeA Sa k (by omega) fun p hp q hq=>by
      obtain ⟨j,hj,e⟩:=rH hp
      have:=of_decide_eq_true (hk1 j hj)
      rw [cz e] at this
      exact Int.le_trans this (fZ Sb eb hq)
     have hgt:∀ q∈a.toList.drop (ia'+k),rk pb≤rk q:=fun q hq=>by
      obtain ⟨j,h3,h4,e⟩:=wj hq
      have:=of_decide_eq_false (hk2 (j - ia') (by omega) (by omega))
      rw [show ia'+(j - ia')=j by omega,cz e] at this
      omega
     refine aD (fun hk0=>?_) (fun hk0=>?_)
     ·refine aD (fun h3=>?_) (fun h3=>aD (fun h4=>?_) (fun h4=>?_))
      ·exact wpS_pure ⟨S3,.inl ⟨_,rfl,I2.lastA Sb (by simpa using h3) hl⟩⟩
      ·exact wpS_pure ⟨S3,.inl ⟨_,rfl,I2.doneA Sb (by simpa using h4)⟩⟩
      have hi1:ia'+k+1 < a.size:=by
       have z1:¬ ia'+k+1=a.size:=by simpa using h3
       have z2:¬ ia'+k=a.size:=by simpa using h4
       omega
      have J:=I2
      have hg2:=hgt
      refine wpS_bind (aO (σ:=Unit) eb ?_)
      have J2:=J.pushB Sb eb hg2
      refine aD (fun h5=>?_) (fun h5=>?_)
      ·exact wpS_pure ⟨S3,.inl ⟨_,rfl,J2.doneB Sa (by simpa using h5)⟩⟩
      have h5':ib'+1 < b.size:=by
       have:¬ ib'+1=b.size:=by simpa using h5
       omega
      obtain ⟨pa,ea,ma⟩:=atA (Nat.lt_of_succ_lt hi1)
      refine wpS_bind (aO (σ:=Unit) ea ?_)
      refine wpS_bind (dJ (fun i=>decide (Kr rk b (ib'+1+i) < rk pa)) (by omega) (fun i R hi r=>iQ L ma hb (by omega) kd3 (by simpa using r)) (fun i j hij hj hq=>decide_eq_true (Int.lt_of_le_of_lt (SKb _ _ (by omega) (by omega)) (of_decide_eq_true hq))) fun k1 hk1 hk11 hk12=>?_)
      dsimp only
      have J3:=J2.takeB Sb k1 (by omega) fun p hp q hq=>by
       obtain ⟨j,hj,e⟩:=rH hp
       have:=of_decide_eq_true (hk11 j hj)
       rw [cz e] at this
       exact Int.le_trans (Int.le_of_lt this) (fZ Sa ea hq)
      have hle:∀ q∈b.toList.drop (ib'+1+k1),rk pa≤rk q:=fun q hq=>by
       obtain ⟨j,h3,h4,e⟩:=wj hq
       have:=of_decide_eq_false (hk12 (j - (ib'+1)) (by omega) (by omega))
       rw [show ib'+1+(j - (ib'+1))=j by omega,cz e] at this
       omega
      refine aD (fun hk10=>?_) (fun hk10=>?_)
      ·refine aD (fun h6=>?_) (fun h6=>?_)
       ·exact wpS_pure ⟨S3,.inl ⟨_,rfl,J3.doneB Sa (by simpa using h6)⟩⟩
       have h6':ib'+1+k1 < b.size:=by
        have:¬ ib'+1+k1=b.size:=by simpa using h6
        omega
       refine wpS_bind (aO (σ:=Unit) ea ?_)
       have J5:=J3.pushA Sa ea hle
       refine aD (fun h7=>?_) (fun h7=>?_)
       ·exact wpS_pure ⟨S3,.inl ⟨_,rfl,J5.lastA Sb (by simpa using h7) hl⟩⟩
       have h7':=by simpa using h7
       refine aD (fun _=>?_) (fun _=>?_)
       ·exact wpS_pure ⟨S3,.inr ⟨rfl,J5,h6',by dsimp only;omega,by dsimp only;omega⟩⟩
       ·exact wpS_pure ⟨S3,_,_,_,_,_,_,rfl,J5,h6',by omega,by omega⟩
      ·obtain rfl:k1=0:=by omega
       refine wpS_bind (aO (σ:=Unit) ea ?_)
       have J5:=J2.pushA Sa ea hle
       refine aD (fun h7=>?_) (fun h7=>?_)
       ·exact wpS_pure ⟨S3,.inl ⟨_,rfl,J5.lastA Sb (by simpa using h7) hl⟩⟩
       have h7':=by simpa using h7
       refine aD (fun _=>?_) (fun _=>?_)
       ·exact wpS_pure ⟨S3,.inr ⟨rfl,J5,h5',by dsimp only;omega,by dsimp only;omega⟩⟩
       ·exact wpS_pure ⟨S3,_,_,_,_,_,_,rfl,J5,h5',by omega,by omega⟩
     ·obtain rfl:k=0:=by omega
      have hi1:ia'+1 < a.size:=y2
      have J:=I'
      have hg2:∀ q∈a.toList.drop ia',rk pb≤rk q:=hgt
      refine wpS_bind (aO (σ:=Unit) eb ?_)
      have J2:=J.pushB Sb eb hg2
      refine aD (fun h5=>?_) (fun h5=>?_)
      ·exact wpS_pure ⟨S3,.inl ⟨_,rfl,J2.doneB Sa (by simpa using h5)⟩⟩
      have h5':ib'+1 < b.size:=by
       have:¬ ib'+1=b.size:=by simpa using h5
       omega
      obtain ⟨pa,ea,ma⟩:=atA (Nat.lt_of_succ_lt hi1)
      refine wpS_bind (aO (σ:=Unit) ea ?_)
      refine wpS_bind (dJ (fun i=>decide (Kr rk b (ib'+1+i) < rk pa)) (by omega) (fun i R hi r=>iQ L ma hb (by omega) kd3 (by simpa using r)) (fun i j hij hj hq=>decide_eq_true (Int.lt_of_le_of_lt (SKb _ _ (by omega) (by omega)) (of_decide_eq_true hq))) fun k1 hk1 hk11 hk12=>?_)
      dsimp only
      have J3:=J2.takeB Sb k1 (by omega) fun p hp q hq=>by
       obtain ⟨j,hj,e⟩:=rH hp
       have:=of_decide_eq_true (hk11 j hj)
       rw [cz e] at this
       exact Int.le_trans (Int.le_of_lt this) (fZ Sa ea hq)
      have hle:∀ q∈b.toList.drop (ib'+1+k1),rk pa≤rk q:=fun q hq=>by
       obtain ⟨j,h3,h4,e⟩:=wj hq
       have:=of_decide_eq_false (hk12 (j - (ib'+1)) (by omega) (by omega))
       rw [show ib'+1+(j - (ib'+1))=j by omega,cz e] at this
       omega
      refine aD (fun hk10=>?_) (fun hk10=>?_)
      ·refine aD (fun h6=>?_) (fun h6=>?_)
       ·exact wpS_pure ⟨S3,.inl ⟨_,rfl,J3.doneB Sa (by simpa using h6)⟩⟩
       have h6':ib'+1+k1 < b.size:=by
        have:¬ ib'+1+k1=b.size:=by simpa using h6
        omega
       refine wpS_bind (aO (σ:=Unit) ea ?_)
       have J5:=J3.pushA Sa ea hle
       refine aD (fun h7=>?_) (fun h7=>?_)
       ·exact wpS_pure ⟨S3,.inl ⟨_,rfl,J5.lastA Sb (by simpa using h7) hl⟩⟩
       have h7':=by simpa using h7
       refine aD (fun _=>?_) (fun _=>?_)
       ·exact wpS_pure ⟨S3,.inr ⟨rfl,J5,h6',by dsimp only;omega,by dsimp only;omega⟩⟩
       ·exact wpS_pure ⟨S3,_,_,_,_,_,_,rfl,J5,h6',by omega,by omega⟩
      ·obtain rfl:k1=0:=by omega
       refine wpS_bind (aO (σ:=Unit) ea ?_)
       have J5:=J2.pushA Sa ea hle
       refine aD (fun h7=>?_) (fun h7=>?_)
       ·exact wpS_pure ⟨S3,.inl ⟨_,rfl,J5.lastA Sb (by simpa using h7) hl⟩⟩
       have h7':=by simpa using h7
       refine aD (fun _=>?_) (fun _=>?_)
       ·exact wpS_pure ⟨S3,.inr ⟨rfl,J5,h5',by dsimp only;omega,by dsimp only;omega⟩⟩
       ·exact wpS_pure ⟨S3,_,_,_,_,_,_,rfl,J5,h5',by omega,by omega⟩
end
end L2
namespace L2
open PySem PySem.Spec PyProof.Rows
section
variable {M:Model} {A:Around} {E:Value→Shared→Prop} {s:Shared} {kd:SortKind} {rk:Keyed→Int} {a₀:Array Keyed}
structure MH (rk:Keyed→Int) (a b out:Array Keyed) (na nb:Nat):Prop where
 ha:na≤a.size
 hb:nb≤b.size
 so:lJ rk out.toList.reverse
 le:∀ p∈a.toList.take na ++ b.toList.take nb,∀ q∈out.toList,rk p≤rk q
 pm:((a.toList.take na ++ b.toList.take nb) ++ out.toList.reverse).Perm (a.toList ++ b.toList)
theorem jz {α:Type} (l:List α) {i n:Nat} (h:i≤n):l.take n=l.take i ++ (l.drop i).take (n - i):=by
 rw [List.take_drop,show i+(n - i)=n by omega]
 conv=>lhs;rw [← List.take_append_drop i (l.take n)]
 rw [List.take_take,Nat.min_eq_left h]
theorem gF (a:Array Keyed) {i n:Nat} (h:i≤n):(a.extract i n).toList=(a.toList.drop i).take (n - i):=by
 rw [Array.toList_extract,List.extract_eq_drop_take]
theorem MH.takeA {a b out:Array Keyed} {na nb:Nat} (h:MH rk a b out na nb) (Sa:lJ rk a.toList) (i:Nat) (hi:i≤na) (hc:∀ q∈(a.toList.drop i).take (na - i),∀ p∈b.toList.take nb,rk p≤rk q):MH rk a b (out ++ (a.extract i na).reverse) i nb:=by
 have e:=jz a.toList hi
 have Sd:lJ rk (a.toList.take na):=Sa.sublist (List.take_sublist _ _)
 rw [e] at Sd
 obtain ⟨s1,s2,s3⟩:=List.pairwise_append.mp Sd
 have tl:(out ++ (a.extract i na).reverse).toList=out.toList ++ ((a.toList.drop i).take (na - i)).reverse:=by rw [Array.toList_append,Array.toList_reverse,gF a hi]
 have rl:(out ++ (a.extract i na).reverse).toList.reverse=(a.toList.drop i).take (na - i) ++ out.toList.reverse:=by rw [tl,List.reverse_append,List.reverse_reverse]
 refine ⟨by have:=h.ha;omega,h.hb,?_,?_,?_⟩
 ·rw [rl]
  exact List.pairwise_append.mpr ⟨s2,h.so,fun p hp q hq=>h.le p (List.mem_append_left _ (by rw [e];exact List.mem_append_right _ hp)) q (List.mem_reverse.mp hq)⟩
 ·rw [tl]
  intro p hp q hq
  rcases List.mem_append.mp hq with hq | hq
  ·refine h.le p ?_ q hq
   rcases List.mem_append.mp hp with hp | hp
   ·exact List.mem_append_left _ (by rw [e];exact List.mem_append_left _ hp)
   ·exact List.mem_append_right _ hp
  ·have hq:=List.mem_reverse.mp hq
   rcases List.mem_append.mp hp with hp | hp
   ·exact s3 p hp q hq
   ·exact hc q hq p hp
 ·rw [rl]
  refine List.Perm.trans ?_ h.pm
  conv=>rhs;rw [e]
  rw [← List.append_assoc]
  refine List.Perm.append_right _ ?_
  rw [List.append_assoc,List.append_assoc]
  exact List.Perm.append_left _ List.perm_append_comm
theorem MH.takeB {a b out:Array Keyed} {na nb:Nat} (h:MH rk a b out na nb) (Sb:lJ rk b.toList) (i:Nat) (hi:i≤nb) (hc:∀ q∈(b.toList.drop i).take (nb - i),∀ p∈a.toList.take na,rk p≤rk q):MH rk a b (out ++ (b.extract i nb).reverse) na i:=by
 have e:=jz b.toList hi
 have Sd:lJ rk (b.toList.take nb):=Sb.sublist (List.take_sublist _ _)
 rw [e] at Sd
 obtain ⟨s1,s2,s3⟩:=List.pairwise_append.mp Sd
 have tl:(out ++ (b.extract i nb).reverse).toList=out.toList ++ ((b.toList.drop i).take (nb - i)).reverse:=by rw [Array.toList_append,Array.toList_reverse,gF b hi]
 have rl:(out ++ (b.extract i nb).reverse).toList.reverse=(b.toList.drop i).take (nb - i) ++ out.toList.reverse:=by rw [tl,List.reverse_append,List.reverse_reverse]
 refine ⟨h.ha,by have:=h.hb;omega,?_,?_,?_⟩
 ·rw [rl]
  exact List.pairwise_append.mpr ⟨s2,h.so,fun p hp q hq=>h.le p (List.mem_append_right _ (by rw [e];exact List.mem_append_right _ hp)) q (List.mem_reverse.mp hq)⟩
 ·rw [tl]
  intro p hp q hq
  rcases List.mem_append.mp hq with hq | hq
  ·refine h.le p ?_ q hq
   rcases List.mem_append.mp hp with hp | hp
   ·exact List.mem_append_left _ hp
   ·exact List.mem_append_right _ (by rw [e];exact List.mem_append_left _ hp)
  ·have hq:=List.mem_reverse.mp hq
   rcases List.mem_append.mp hp with hp | hp
   ·exact hc q hq p hp
   ·exact s3 p hp q hq
 ·rw [rl]
  refine List.Perm.trans (List.Perm.of_eq ?_) h.pm
  conv=>rhs;rw [e]
  simp only [List.append_assoc]
theorem xX {out a:Array Keyed} {n:Nat} {p:Keyed} (hn:1≤n) (h:a[n - 1]?=some p):out.push p=out ++ (a.extract (n - 1) n).reverse:=by
 rw [tQ h,show n - 1+1=n by omega]
 congr 1
 apply Array.ext'
 rw [Array.toList_reverse,gF a (by omega),show n - (n - 1)=1 by omega]
 obtain ⟨hi,e⟩:=Array.getElem?_eq_some_iff.mp h
 rw [List.drop_eq_getElem_cons (by simpa using hi)]
 simp
theorem oY {a:Array Keyed} {n:Nat} {p q:Keyed} (Sa:lJ rk a.toList) (hn:1≤n) (h:a[n - 1]?=some p) (hq:q∈a.toList.take n):rk q≤rk p:=by
 obtain ⟨hi,e⟩:=Array.getElem?_eq_some_iff.mp h
 obtain ⟨k,hk,ek⟩:=List.mem_iff_getElem.mp hq
 have hk':k < n∧k < a.size:=by simp at hk;omega
 have hqk:a[k]?=some q:=by rw [getElem?_pos a k hk'.2,← ek];simp
 refine fZ Sa hqk ?_
 rw [← e]
 exact List.mem_iff_getElem.mpr ⟨n - 1 - k,by simp;omega,by simp [show k+(n - 1 - k)=n - 1 by omega]⟩
theorem MH.pushA {a b out:Array Keyed} {na nb:Nat} {p:Keyed} (h:MH rk a b out na nb) (Sa:lJ rk a.toList) (hn:1≤na) (e:a[na - 1]?=some p) (hc:∀ q∈b.toList.take nb,rk q≤rk p):MH rk a b (out.push p) (na - 1) nb:=by
 rw [xX hn e]
 refine h.takeA Sa (na - 1) (by omega) fun q hq r hr=>?_
 rw [show na - (na - 1)=1 by omega] at hq
 rw [take1 e hq];exact hc r hr
theorem MH.pushB {a b out:Array Keyed} {na nb:Nat} {p:Keyed} (h:MH rk a b out na nb) (Sb:lJ rk b.toList) (hn:1≤nb) (e:b[nb - 1]?=some p) (hc:∀ q∈a.toList.take na,rk q≤rk p):MH rk a b (out.push p) na (nb - 1):=by
 rw [xX hn e]
 refine h.takeB Sb (nb - 1) (by omega) fun q hq r hr=>?_
 rw [show nb - (nb - 1)=1 by omega] at hq
 rw [take1 e hq];exact hc r hr
theorem Dk (a:Array Keyed) (n:Nat):(a.extract 0 n).toList=a.toList.take n:=by
 rw [gF a (Nat.zero_le n),List.drop_zero,Nat.sub_zero]
theorem MH.doneA {a b out:Array Keyed} {na nb:Nat} (h:MH rk a b out na nb) (Sb:lJ rk b.toList) (e:na=0):Res rk a b (a.extract 0 na ++ b.extract 0 nb ++ out.reverse):=by
 unfold Res
 rw [Array.toList_append,Array.toList_append,Dk,Dk,Array.toList_reverse]
 refine ⟨?_,h.pm⟩
 have:a.toList.take na=[]:=by rw [e];rfl
 rw [this,List.nil_append]
 exact List.pairwise_append.mpr ⟨Sb.sublist (List.take_sublist _ _),h.so,fun p hp q hq=>h.le p (List.mem_append_right _ hp) q (List.mem_reverse.mp hq)⟩
theorem MH.doneB {a b out:Array Keyed} {na nb:Nat} (h:MH rk a b out na nb) (Sa:lJ rk a.toList) (e:nb=0):Res rk a b (a.extract 0 na ++ b.extract 0 nb ++ out.reverse):=by
 unfold Res
 rw [Array.toList_append,Array.toList_append,Dk,Dk,Array.toList_reverse]
 refine ⟨?_,h.pm⟩
 have:b.toList.take nb=[]:=by rw [e];rfl
 rw [this,List.append_nil]
 exact List.pairwise_append.mpr ⟨Sa.sublist (List.take_sublist _ _),h.so,fun p hp q hq=>h.le p (List.mem_append_left _ hp) q (List.mem_reverse.mp hq)⟩
theorem MH.firstB {a b out:Array Keyed} {na nb:Nat} (h:MH rk a b out na nb) (Sa:lJ rk a.toList) (e:nb=1) (hf:∀ p,b[0]?=some p→∀ q∈a.toList,rk p≤rk q):Res rk a b (b.extract 0 nb ++ a.extract 0 na ++ out.reverse):=by
 unfold Res
 rw [Array.toList_append,Array.toList_append,Dk,Dk,Array.toList_reverse]
 have hi:0 < b.size:=by have:=h.hb;omega
 have eb:b.toList.take nb=[b[0]]:=by
  rw [e]
  have:=List.drop_eq_getElem_cons (l:=b.toList) (i:=0) (by simpa using hi)
  rw [List.drop_zero] at this
  rw [this];simp
 refine ⟨?_,(List.Perm.append_right _ List.perm_append_comm).trans h.pm⟩
 refine List.pairwise_append.mpr ⟨List.pairwise_append.mpr ⟨by rw [eb];exact List.pairwise_singleton _ _,Sa.sublist (List.take_sublist _ _),fun p hp q hq=>?_⟩,h.so,fun p hp q hq=>h.le p ?_ q (List.mem_reverse.mp hq)⟩
 ·rw [eb] at hp
  rw [List.mem_singleton.mp hp]
  exact hf _ (getElem?_pos b 0 hi) q (List.mem_of_mem_take hq)
 ·rcases List.mem_append.mp hp with hp | hp
  ·exact List.mem_append_right _ hp
  ·exact List.mem_append_left _ hp
theorem jc {a:Array Keyed} {i k:Nat} {q:Keyed} (hq:q∈(a.toList.drop i).take k):∃ j,i≤j∧j < i+k∧a[j]?=some q:=by
 obtain ⟨j,hj,e⟩:=rH hq
 exact ⟨i+j,by omega,by omega,e⟩
theorem zy {a:Array Keyed} {n:Nat} {q:Keyed} (hq:q∈a.toList.take n):∃ j,j < n∧a[j]?=some q:=by
 obtain ⟨k,hk,e⟩:=List.mem_iff_getElem.mp hq
 have hk':k < n∧k < a.size:=by simp at hk;omega
 exact ⟨k,hk'.1,by rw [getElem?_pos a k hk'.2,← e];simp⟩
def GoH (rk:Keyed→Int) (a b:Array Keyed) (n:Nat) (r:Option (Array Keyed)) (na nb:Nat) (out:Array Keyed):Prop:=(∃ x,r=some x∧Res rk a b x)∨(r=none∧MH rk a b out na nb∧1≤na∧2≤nb∧n+na+nb≤a.size+b.size)
theorem xY {a b:Array Keyed} {st:SortSt} {Q:Array Keyed→SortSt→Prop} (L:oV M A E s kd rk a₀) (ha:∀ p∈a.toList,p∈a₀.toList) (hb:∀ p∈b.toList,p∈a₀.toList) (Sa:lJ rk a.toList) (Sb:lJ rk b.toList)
  (n1:1≤a.size) (n2:1≤b.size) (hf:∀ p,b[0]?=some p→∀ q∈a.toList,rk p≤rk q) (hl:∀ p,a[a.size - 1]?=some p→∀ q∈b.toList,rk q≤rk p) (kind:kindOf st=kd)
  (h:∀ r st',Sm st st'→Res rk a b r→Q r st'):wpS M A E s (Hk a b) Q st:=by
 have atA:∀ {i:Nat},i < a.size→∃ p,a[i]?=some p∧p∈a₀.toList:=fun {i} hi=>⟨a[i],getElem?_pos a i hi,ha _ (by simp)⟩
 have atB:∀ {i:Nat},i < b.size→∃ p,b[i]?=some p∧p∈a₀.toList:=fun {i} hi=>⟨b[i],getElem?_pos b i hi,hb _ (by simp)⟩
 have KA:∀ {i:Nat} {p:Keyed},a[i]?=some p→Kr rk a i=rk p:=fun e=>cz e
 have SKa:∀ i j,i≤j→j < a.size→Kr rk a i≤Kr rk a j:=fun i j hij hj=>by
  obtain ⟨p,ep,_⟩:=atA (show i < a.size by omega)
  obtain ⟨q,eq,_⟩:=atA hj
  rw [cz ep,cz eq]
  refine fZ Sa ep ?_
  obtain ⟨hq,e⟩:=Array.getElem?_eq_some_iff.mp eq
  rw [← e]
  exact List.mem_iff_getElem.mpr ⟨j - i,by simp;omega,by simp [show i+(j - i)=j by omega]⟩
 have SKb:∀ i j,i≤j→j < b.size→Kr rk b i≤Kr rk b j:=fun i j hij hj=>by
  obtain ⟨p,ep,_⟩:=atB (show i < b.size by omega)
  obtain ⟨q,eq,_⟩:=atB hj
  rw [cz ep,cz eq]
  refine fZ Sb ep ?_
  obtain ⟨hq,e⟩:=Array.getElem?_eq_some_iff.mp eq
  rw [← e]
  exact List.mem_iff_getElem.mpr ⟨j - i,by simp;omega,by simp [show i+(j - i)=j by omega]⟩
 refine wpS_bind (wpS_lift (wpAny_rule ⟨rfl,?_⟩))
 dsimp only
 obtain ⟨p0,e0,m0⟩:=atA (i:=a.size - 1) (by omega)
 refine wpS_bind (aO (σ:=Unit) e0 ?_)
 have I0:MH rk a b #[p0] (a.size - 1) b.size:=by
  have Z:MH rk a b #[] a.size b.size:=⟨Nat.le_refl _,Nat.le_refl _,List.Pairwise.nil,fun p _ q hq=>by simp at hq,by
   rw [List.take_of_length_le (by simp),List.take_of_length_le (by simp)];simp⟩
  exact Z.pushA Sa n1 e0 fun q hq=>hl p0 e0 q (List.mem_of_mem_take hq)
 by_cases h1:a.size - 1=0
 ·rw [if_pos (by simpa using h1)]
  exact wpS_pure (h _ _ (Sm.refl _) (I0.doneA Sb h1))
 rw [if_neg (by simpa using h1)]
 by_cases h2:b.size=1
 ·rw [if_pos (by simpa using h2)]
  exact wpS_pure (h _ _ (Sm.refl _) (I0.firstB Sa h2 hf))
 rw [if_neg (by simpa using h2)]
 refine wpS_bind (wpS_get ?_)
 refine wpS_bind (wpS_mono (wpS_forRange (I:=fun x c st'=>Sm st st'∧∃ na nb out mg,c=(none,na,nb,out,mg)∧MH rk a b out na nb∧1≤na∧2≤nb∧x+1+na+nb≤a.size+b.size)
   (Q:=fun c st'=>Sm st st'∧∃ r,c.1=some r∧Res rk a b r) ?step ?fin ⟨Sm.refl _,_,_,_,_,rfl,I0,by omega,by omega,by omega⟩) ?post)
 case fin=>
  rintro c st' ⟨_,na,nb,out,mg,rfl,I,x1,x2,x3⟩
  exact absurd x3 (by omega)
 case post=>
  rintro ⟨r0,c⟩ st' ⟨S,r,rfl,hr⟩
  exact wpS_pure (h r st' S hr)
 case step=>
  rintro x c st1 _ hx ⟨S1,na,nb,out,mg,rfl,I,x1,x2,x3⟩
  dsimp only
  have kd1:kindOf st1=kd:=S1.kind.trans kind
  refine wpS_bind (wpS_mono (wpS_forRange (I:=fun y c st'=>st'=st1∧∃ na' nb' out' ac bc,c=(none,na',nb',out',ac,bc)∧MH rk a b out' na' nb'∧1≤na'∧2≤nb'∧x+1+y+na'+nb'≤a.size+b.size)
   (Q:=fun c st'=>st'=st1∧GoH rk a b (x+2) c.1 c.2.1 c.2.2.1 c.2.2.2.1) ?istep ?ifin ⟨rfl,_,_,_,_,_,rfl,I,x1,x2,by omega⟩) ?ipost)
  case ifin=>
   rintro c st' ⟨rfl,na',nb',out',ac,bc,rfl,I',y1,y2,y3⟩
   exact ⟨rfl,.inr ⟨rfl,I',y1,y2,by dsimp only;omega⟩⟩
  case istep=>
   rintro y c st' _ hy ⟨rfl,na',nb',out',ac,bc,rfl,I',y1,y2,y3⟩
   dsimp only
   obtain ⟨pb,eb,mb⟩:=atB (i:=nb' - 1) (by have:=I'.hb;omega)
   obtain ⟨pa,ea,ma⟩:=atA (i:=na' - 1) (by have:=I'.ha;omega)
   refine wpS_bind (aO (σ:=Unit) eb (wpS_bind (aO (σ:=Unit) ea (wpS_bind (L _ _ _ _ mb ma kd1 ?_)))))
   dsimp only
   refine aD (fun hw=>?_) (fun hw=>?_)
   ·have hw:=of_decide_eq_true hw
    refine wpS_bind (aO (σ:=Unit) ea ?_)
    have I2:=I'.pushA Sa y1 ea fun q hq=>Int.le_trans (oY Sb (by omega) eb hq) (by omega)
    refine aD (fun h3=>?_) (fun h3=>?_)
    ·exact wpS_pure ⟨rfl,.inl ⟨_,rfl,I2.doneA Sb (by simpa using h3)⟩⟩
    have h3':¬ na' - 1=0:=by simpa using h3
    refine aD (fun _=>?_) (fun _=>?_)
    ·exact wpS_pure ⟨rfl,.inr ⟨rfl,I2,by dsimp only;omega,by dsimp only;omega,by dsimp only;omega⟩⟩
    ·exact wpS_pure ⟨rfl,_,_,_,_,_,rfl,I2,by omega,by omega,by omega⟩
   ·have hw:¬ rk pb < rk pa:=fun z=>hw (decide_eq_true z)
    refine wpS_bind (aO (σ:=Unit) eb ?_)
    have I2:=I'.pushB Sb (by omega) eb fun q hq=>Int.le_trans (oY Sa y1 ea hq) (by omega)
    refine aD (fun h3=>?_) (fun h3=>?_)
    ·exact wpS_pure ⟨rfl,.inl ⟨_,rfl,I2.firstB Sa (by simpa using h3) hf⟩⟩
    have h3':¬ nb' - 1=1:=by simpa using h3
    refine aD (fun _=>?_) (fun _=>?_)
    ·exact wpS_pure ⟨rfl,.inr ⟨rfl,I2,by dsimp only;omega,by dsimp only;omega,by dsimp only;omega⟩⟩
    ·exact wpS_pure ⟨rfl,_,_,_,_,_,rfl,I2,by omega,by omega,by omega⟩
  case ipost=>
   rintro ⟨r0,na1,nb1,out1,ac1,bc1⟩ st' ⟨rfl,G⟩
   dsimp only at G ⊢
   rcases G with ⟨r,rfl,hr⟩ | ⟨rfl,I1,y1,y2,y3⟩
   ·exact wpS_pure ⟨S1,r,rfl,hr⟩
   dsimp only
   refine wpS_bind (wpS_lift (wpAny_rule ⟨rfl,?_⟩))
   refine wpS_bind (wpS_mono (wpS_forRange (I:=fun y c st'=>Sm st st'∧∃ na' nb' out' mg ac bc,c=(none,na',nb',out',mg,ac,bc)∧MH rk a b out' na' nb'∧1≤na'∧2≤nb'∧x+2+na'+nb'≤a.size+b.size)
    (Q:=fun c st'=>Sm st st'∧GoH rk a b (x+2) c.1 c.2.1 c.2.2.1 c.2.2.2.1) ?gstep ?gfin ⟨S1,_,_,_,_,_,_,rfl,I1,y1,y2,y3⟩) ?gpost)
   case gfin=>
    rintro c st' ⟨S2,na',nb',out',mg',ac,bc,rfl,I',y1,y2,y3⟩
    exact ⟨S2,.inr ⟨rfl,I',y1,y2,y3⟩⟩
   case gpost=>
    rintro ⟨r0,na1,nb1,out1,mg1,ac1,bc1⟩ st' ⟨S2,G⟩
    dsimp only at G ⊢
    rcases G with ⟨r,rfl,hr⟩ | ⟨rfl,I1,y1,y2,y3⟩
    ·exact wpS_pure ⟨S2,r,rfl,hr⟩
    dsimp only
    refine wpS_bind (oX S2 fun st2 S3=>?_)
    exact wpS_pure ⟨S3,_,_,_,_,rfl,I1,y1,y2,by omega⟩
   case gstep=>
    rintro y c st' _ hy ⟨S2,na',nb',out',mg',ac,bc,rfl,I',y1,y2,y3⟩
    dsimp only
    obtain ⟨pb,eb,mb⟩:=atB (i:=nb' - 1) (by have:=I'.hb;omega)
    have hna:=I'.ha
    have hnb:=I'.hb
    refine aD (fun _=>?_) (fun _=>?_)
    all_goals
     refine wpS_bind (oX S2 fun st3 S3=>?_)
     have kd3:kindOf st3=kd:=S3.kind.trans kind
     refine wpS_bind (aO (σ:=Unit) eb ?_)
     refine wpS_bind (dJ (fun i=>decide (Kr rk a (0+i)≤rk pb)) (by omega) (fun i R hi r=>iQ L mb ha (by omega) kd3 (by simpa using r)) (fun i j hij hj hq=>decide_eq_true (Int.le_trans (SKa _ _ (by omega) (by omega)) (of_decide_eq_true hq))) fun k hk hk1 hk2=>?_)
     dsimp only
     have I2:=I'.takeA Sa k (by omega) fun q hq p hp=>by
      obtain ⟨j,h3,h4,e⟩:=jc hq
      have:=of_decide_eq_false (hk2 j (by omega) (by omega))
      rw [Nat.zero_add,cz e] at this
      exact Int.le_trans (oY Sb (by omega) eb hp) (by omega)
     have hgt:∀ q∈a.toList.take k,rk q≤rk pb:=fun q hq=>by
      obtain ⟨j,h3,e⟩:=zy hq
      have:=of_decide_eq_true (hk1 j h3)
      rw [Nat.zero_add,cz e] at this
      exact this
     refine aD (fun hk0=>?_) (fun hk0=>?_)
     ·refine aD (fun h3=>?_) (fun h3=>?_)
      ·exact wpS_pure ⟨S3,.inl ⟨_,rfl,I2.doneA Sb (by simpa using h3)⟩⟩
      have h3':¬ k=0:=by simpa using h3
      have hi1:1≤k:=by omega
      have J:=I2
      have hg2:=hgt
      refine wpS_bind (aO (σ:=Unit) eb ?_)
      have J2:=J.pushB Sb (by omega) eb hg2
      refine aD (fun h5=>?_) (fun h5=>?_)
      ·exact wpS_pure ⟨S3,.inl ⟨_,rfl,J2.firstB Sa (by simpa using h5) hf⟩⟩
      have h5':¬ nb' - 1=1:=by simpa using h5
      obtain ⟨pa,ea,ma⟩:=atA (i:=k - 1) (by have:=J.ha;omega)
      refine wpS_bind (aO (σ:=Unit) ea ?_)
      refine wpS_bind (dJ (fun i=>decide (Kr rk b (0+i) < rk pa)) (by omega) (fun i R hi r=>iQ L ma hb (by omega) kd3 (by simpa using r)) (fun i j hij hj hq=>decide_eq_true (Int.lt_of_le_of_lt (SKb _ _ (by omega) (by omega)) (of_decide_eq_true hq))) fun k1 hk1 hk11 hk12=>?_)
      dsimp only
      have J3:=J2.takeB Sb k1 (by omega) fun q hq p hp=>by
       obtain ⟨j,h3,h4,e⟩:=jc hq
       have:=of_decide_eq_false (hk12 j (by omega) (by omega))
       rw [Nat.zero_add,cz e] at this
       exact Int.le_trans (oY Sa hi1 ea hp) (by omega)
      have hle:∀ q∈b.toList.take k1,rk q≤rk pa:=fun q hq=>by
       obtain ⟨j,h3,e⟩:=zy hq
       have:=of_decide_eq_true (hk11 j h3)
       rw [Nat.zero_add,cz e] at this
       omega
      refine aD (fun hk10=>?_) (fun hk10=>?_)
      ·refine aD (fun h6=>?_) (fun h6=>aD (fun h8=>?_) (fun h8=>?_))
       ·exact wpS_pure ⟨S3,.inl ⟨_,rfl,J3.firstB Sa (by simpa using h6) hf⟩⟩
       ·exact wpS_pure ⟨S3,.inl ⟨_,rfl,J3.doneB Sa (by simpa using h8)⟩⟩
       have h6':¬ k1=1:=by simpa using h6
       have h8':¬ k1=0:=by simpa using h8
       refine wpS_bind (aO (σ:=Unit) ea ?_)
       have J5:=J3.pushA Sa hi1 ea hle
       refine aD (fun h7=>?_) (fun h7=>?_)
       ·exact wpS_pure ⟨S3,.inl ⟨_,rfl,J5.doneA Sb (by simpa using h7)⟩⟩
       have h7':¬ k - 1=0:=by simpa using h7
       refine aD (fun _=>?_) (fun _=>?_)
       ·exact wpS_pure ⟨S3,.inr ⟨rfl,J5,by dsimp only;omega,by dsimp only;omega,by dsimp only;omega⟩⟩
       ·exact wpS_pure ⟨S3,_,_,_,_,_,_,rfl,J5,by omega,by omega,by omega⟩
      ·obtain rfl:k1=nb' - 1:=by omega
       refine wpS_bind (aO (σ:=Unit) ea ?_)
       have J5:=J2.pushA Sa hi1 ea hle
       refine aD (fun h7=>?_) (fun h7=>?_)
       ·exact wpS_pure ⟨S3,.inl ⟨_,rfl,J5.doneA Sb (by simpa using h7)⟩⟩
       have h7':¬ k - 1=0:=by simpa using h7
       refine aD (fun _=>?_) (fun _=>?_)
       ·exact wpS_pure ⟨S3,.inr ⟨rfl,J5,by dsimp only;omega,by dsimp only;omega,by dsimp only;omega⟩⟩
       ·exact wpS_pure ⟨S3,_,_,_,_,_,_,rfl,J5,by omega,by omega,by omega⟩
     ·obtain rfl:k=na':=by omega
      have hi1:1≤k:=y1
      have J:=I'
      have hg2:=hgt
      refine wpS_bind (aO (σ:=Unit) eb ?_)
      have J2:=J.pushB Sb (by omega) eb hg2
      refine aD (fun h5=>?_) (fun h5=>?_)
      ·exact wpS_pure ⟨S3,.inl ⟨_,rfl,J2.firstB Sa (by simpa using h5) hf⟩⟩
      have h5':¬ nb' - 1=1:=by simpa using h5
      obtain ⟨pa,ea,ma⟩:=atA (i:=k - 1) (by have:=J.ha;omega)
      refine wpS_bind (aO (σ:=Unit) ea ?_)
      refine wpS_bind (dJ (fun i=>decide (Kr rk b (0+i) < rk pa)) (by omega) (fun i R hi r=>iQ L ma hb (by omega) kd3 (by simpa using r)) (fun i j hij hj hq=>decide_eq_true (Int.lt_of_le_of_lt (SKb _ _ (by omega) (by omega)) (of_decide_eq_true hq))) fun k1 hk1 hk11 hk12=>?_)
      dsimp only
      have J3:=J2.takeB Sb k1 (by omega) fun q hq p hp=>by
       obtain ⟨j,h3,h4,e⟩:=jc hq
       have:=of_decide_eq_false (hk12 j (by omega) (by omega))
       rw [Nat.zero_add,cz e] at this
       exact Int.le_trans (oY Sa hi1 ea hp) (by omega)
      have hle:∀ q∈b.toList.take k1,rk q≤rk pa:=fun q hq=>by
       obtain ⟨j,h3,e⟩:=zy hq
       have:=of_decide_eq_true (hk11 j h3)
       rw [Nat.zero_add,cz e] at this
       omega
      refine aD (fun hk10=>?_) (fun hk10=>?_)
      ·refine aD (fun h6=>?_) (fun h6=>aD (fun h8=>?_) (fun h8=>?_))
       ·exact wpS_pure ⟨S3,.inl ⟨_,rfl,J3.firstB Sa (by simpa using h6) hf⟩⟩
       ·exact wpS_pure ⟨S3,.inl ⟨_,rfl,J3.doneB Sa (by simpa using h8)⟩⟩
       have h6':¬ k1=1:=by simpa using h6
       have h8':¬ k1=0:=by simpa using h8
       refine wpS_bind (aO (σ:=Unit) ea ?_)
       have J5:=J3.pushA Sa hi1 ea hle
       refine aD (fun h7=>?_) (fun h7=>?_)
       ·exact wpS_pure ⟨S3,.inl ⟨_,rfl,J5.doneA Sb (by simpa using h7)⟩⟩
       have h7':¬ k - 1=0:=by simpa using h7
       refine aD (fun _=>?_) (fun _=>?_)
       ·exact wpS_pure ⟨S3,.inr ⟨rfl,J5,by dsimp only;omega,by dsimp only;omega,by dsimp only;omega⟩⟩
       ·exact wpS_pure ⟨S3,_,_,_,_,_,_,rfl,J5,by omega,by omega,by omega⟩
      ·obtain rfl:k1=nb' - 1:=by omega
       refine wpS_bind (aO (σ:=Unit) ea ?_)
       have J5:=J2.pushA Sa hi1 ea hle
       refine aD (fun h7=>?_) (fun h7=>?_)
       ·exact wpS_pure ⟨S3,.inl ⟨_,rfl,J5.doneA Sb (by simpa using h7)⟩⟩
       have h7':¬ k - 1=0:=by simpa using h7
       refine aD (fun _=>?_) (fun _=>?_)
       ·exact wpS_pure ⟨S3,.inr ⟨rfl,J5,by dsimp only;omega,by dsimp only;omega,by dsimp only;omega⟩⟩
       ·exact wpS_pure ⟨S3,_,_,_,_,_,_,rfl,J5,by omega,by omega,by omega⟩
end
end L2
namespace L2
open PySem PySem.Spec PyProof.Rows
section
variable {M:Model} {A:Around} {E:Value→Shared→Prop} {s:Shared} {kd:SortKind} {rk:Keyed→Int} {a₀:Array Keyed}
theorem rJ (xs:Array Keyed) (i:Nat):Kr rk xs i=match xs.toList[i]? with | some p=>rk p | none=>0:=by
 unfold Kr
 rw [Array.getElem?_toList]
 all_goals (cases xs[i]? <;> rfl)
theorem tR {xs:Array Keyed} {lo hi:Nat} (h:Seg rk xs lo hi):lJ rk ((xs.toList.drop lo).take (hi - lo)):=by
 refine List.pairwise_iff_getElem.mpr fun i j hi' hj hij=>?_
 have hj2:j < hi - lo∧lo+j < xs.size:=by simp at hj;omega
 have:=h (lo+i) (lo+j) (by omega) (by omega) (by omega)
 rw [cz (getElem?_pos xs (lo+i) (by omega)),cz (getElem?_pos xs (lo+j) hj2.2)] at this
 simpa using this
theorem QH {xs:Array Keyed} {P S D:List Keyed} (e:xs.toList=P ++ S ++ D) (h:lJ rk S):Seg rk xs P.length (P.length+S.length):=by
 intro i j h1 h2 h3
 have at_:∀ k,P.length≤k→k < P.length+S.length→xs.toList[k]?=S[k - P.length]?:=fun k a b=>by
  rw [e,List.append_assoc,List.getElem?_append_right a,List.getElem?_append_left (by omega)]
 have hi:i - P.length < S.length:=by omega
 have hj:j - P.length < S.length:=by omega
 rw [rJ,rJ,at_ i h1 (by omega),at_ j (by omega) h3,List.getElem?_eq_getElem hi,List.getElem?_eq_getElem hj]
 show rk _≤rk _
 by_cases hij:i=j
 ·subst hij;exact Int.le_refl _
 ·exact List.pairwise_iff_getElem.mp h _ _ hi hj (by omega)
theorem Hl:∀ (l:List Keyed) (off n:Nat) (xs:Array Keyed),off+n+l.length≤xs.size→∀ k,((l.zipIdx n).foldl (fun a (x:Keyed×Nat)=>a.setIfInBounds (off+x.2) x.1) xs)[k]?=if off+n≤k∧k < off+n+l.length then l[k - (off+n)]? else xs[k]?
 | [],off,n,xs,h,k=>by
  rw [if_neg (by rw [List.length_nil];omega)]
  rfl
 | p :: l,off,n,xs,h,k=>by
  have hl:(p :: l).length=l.length+1:=rfl
  show ((l.zipIdx (n+1)).foldl (fun a (x:Keyed×Nat)=>a.setIfInBounds (off+x.2) x.1) (xs.setIfInBounds (off+n) p))[k]?=_
  rw [Hl l off (n+1) (xs.setIfInBounds (off+n) p) (by rw [Array.size_setIfInBounds];omega)]
  by_cases h1:k=off+n
  ·subst h1
   rw [if_neg (by omega),if_pos (by omega),Array.getElem?_setIfInBounds,if_pos rfl,if_pos (by omega),Nat.sub_self];rfl
  ·by_cases h2:off+(n+1)≤k∧k < off+(n+1)+l.length
   ·rw [if_pos h2,if_pos (by omega),show k - (off+n)=(k - (off+(n+1)))+1 by omega,List.getElem?_cons_succ]
   ·rw [if_neg h2,if_neg (by omega),Array.getElem?_setIfInBounds,if_neg (by omega)]
theorem Hm (l:List Keyed) (off:Nat) (xs:Array Keyed) (h:off+l.length≤xs.size):(l.zipIdx.foldl (fun a (x:Keyed×Nat)=>a.setIfInBounds (off+x.2) x.1) xs).toList=xs.toList.take off ++ l ++ xs.toList.drop (off+l.length):=by
 refine List.ext_getElem? fun k=>?_
 rw [Array.getElem?_toList,Hl l off 0 xs (by omega) k]
 have t1:(xs.toList.take off).length=off:=by rw [List.length_take,Array.length_toList];omega
 rw [List.append_assoc]
 by_cases h1:k < off
 ·rw [if_neg (by omega),List.getElem?_append_left (by omega),List.getElem?_take_of_lt h1,Array.getElem?_toList]
 ·rw [List.getElem?_append_right (by omega),t1]
  by_cases h2:k < off+l.length
  ·rw [if_pos ⟨by omega,by omega⟩,List.getElem?_append_left (by omega),Nat.add_zero]
  ·rw [if_neg (by omega),List.getElem?_append_right (by omega),List.getElem?_drop,show off+l.length+(k - off - l.length)=k by omega,Array.getElem?_toList]
theorem Bd {xs:Array Keyed} {sa na nb:Nat} (g1:Seg rk xs sa (sa+na)) (g2:Seg rk xs (sa+na) (sa+na+nb)) (n2:1≤nb) (h:∀ i,sa≤i→i < sa+na→Kr rk xs i≤Kr rk xs (sa+na)):Seg rk xs sa (sa+na+nb):=fun i j h1 h2 h3=>by
 by_cases a:j < sa+na
 ·exact g1 i j h1 h2 a
 ·by_cases b:i < sa+na
  ·exact Int.le_trans (h i h1 b) (g2 _ _ (Nat.le_refl _) (by omega) h3)
  ·exact g2 i j (by omega) h2 h3
theorem Dl {xs m:Array Keyed} {sa na nb k n':Nat} (hsz:sa+na+nb≤xs.size) (g1:Seg rk xs sa (sa+na)) (g2:Seg rk xs (sa+na) (sa+na+nb)) (hk:k < na) (hn:n'≤nb) (n2:1≤nb)
  (hA:∀ i,i < k→Kr rk xs (sa+i)≤Kr rk xs (sa+na)) (hX:∀ i,k≤i→i < na→Kr rk xs (sa+na) < Kr rk xs (sa+i)) (hB2:∀ i,n'≤i→i < nb→Kr rk xs (sa+na - 1)≤Kr rk xs (sa+na+i))
  (hm:Res rk (xs.extract (sa+k) (sa+na)) (xs.extract (sa+na) (sa+na+n')) m):
  (m.toList.zipIdx.foldl (fun a (x:Keyed×Nat)=>a.setIfInBounds (sa+k+x.2) x.1) xs).Perm xs∧Seg rk (m.toList.zipIdx.foldl (fun a (x:Keyed×Nat)=>a.setIfInBounds (sa+k+x.2) x.1) xs) sa (sa+na+nb)∧
  ∀ i,i < sa∨sa+na+nb≤i→Kr rk (m.toList.zipIdx.foldl (fun a (x:Keyed×Nat)=>a.setIfInBounds (sa+k+x.2) x.1) xs) i=Kr rk xs i:=by
 obtain ⟨hm1,hm2⟩:=hm
 rw [gF xs (by omega),gF xs (by omega),show sa+na - (sa+k)=na - k by omega,show sa+na+n' - (sa+na)=n' by omega] at hm2
 have lt:xs.toList.length=xs.size:=by simp
 have lm:m.toList.length=na - k+n':=by
  rw [hm2.length_eq,List.length_append,List.length_take,List.length_take,List.length_drop,List.length_drop,lt];omega
 have e:=Hm m.toList (sa+k) xs (by omega)
 rw [lm,show sa+k+(na - k+n')=sa+na+n' by omega] at e
 generalize m.toList.zipIdx.foldl (fun a (x:Keyed×Nat)=>a.setIfInBounds (sa+k+x.2) x.1) xs=W at e ⊢
 have t0:xs.toList.take (sa+k)=xs.toList.take sa ++ (xs.toList.drop sa).take k:=by
  have:=jz xs.toList (i:=sa) (n:=sa+k) (by omega)
  rwa [show sa+k - sa=k by omega] at this
 have t1:xs.toList.take (sa+na)=xs.toList.take (sa+k) ++ (xs.toList.drop (sa+k)).take (na - k):=by
  have:=jz xs.toList (i:=sa+k) (n:=sa+na) (by omega)
  rwa [show sa+na - (sa+k)=na - k by omega] at this
 have t2:xs.toList.drop (sa+na)=(xs.toList.drop (sa+na)).take n' ++ xs.toList.drop (sa+na+n'):=jy _ _ _
 have t3:xs.toList.drop (sa+na+n')=(xs.toList.drop (sa+na+n')).take (nb - n') ++ xs.toList.drop (sa+na+nb):=by
  have:=jy xs.toList (sa+na+n') (nb - n')
  rwa [show sa+na+n'+(nb - n')=sa+na+nb by omega] at this
 have eW:W.toList=xs.toList.take sa ++ ((xs.toList.drop sa).take k ++ m.toList ++ (xs.toList.drop (sa+na+n')).take (nb - n')) ++ xs.toList.drop (sa+na+nb):=by
  rw [e,t0]
  conv=>lhs;rw [t3]
  simp only [List.append_assoc]
 have lP:(xs.toList.take sa).length=sa:=by rw [List.length_take,lt];omega
 have lS:((xs.toList.drop sa).take k ++ m.toList ++ (xs.toList.drop (sa+na+n')).take (nb - n')).length=na+nb:=by
  rw [List.length_append,List.length_append,lm,List.length_take,List.length_take,List.length_drop,List.length_drop,lt];omega
 have kr:∀ {i:Nat} {p:Keyed},xs[i]?=some p→Kr rk xs i=rk p:=fun e=>cz e
 have memM:∀ {q:Keyed},q∈m.toList→(∃ i,k≤i∧i < na∧xs[sa+i]?=some q)∨∃ i,i < n'∧xs[sa+na+i]?=some q:=fun {q} hq=>by
  rcases List.mem_append.mp (hm2.mem_iff.mp hq) with hq | hq
  ·obtain ⟨j,h1,h2,e⟩:=jc hq
   exact .inl ⟨j - sa,by omega,by omega,by rw [show sa+(j - sa)=j by omega];exact e⟩
  ·obtain ⟨j,h1,h2,e⟩:=jc hq
   exact .inr ⟨j - (sa+na),by omega,by rw [show sa+na+(j - (sa+na))=j by omega];exact e⟩
 refine ⟨?_,?_,?_⟩
 ·rw [Array.perm_iff_toList_perm,e]
  have ex:xs.toList=xs.toList.take (sa+k) ++ ((xs.toList.drop (sa+k)).take (na - k) ++ (xs.toList.drop (sa+na)).take n') ++ xs.toList.drop (sa+na+n'):=by
   conv=>lhs;rw [← List.take_append_drop (sa+na) xs.toList,t1,t2]
   simp only [List.append_assoc]
  conv=>rhs;rw [ex]
  exact List.Perm.append_right _ (List.Perm.append_left _ hm2)
 ·have:=QH (rk:=rk) eW ?_
  ·rw [lP,lS,← Nat.add_assoc] at this;exact this
  have s1:lJ rk ((xs.toList.drop sa).take k):=by
   have:=tR (rk:=rk) (xs:=xs) (lo:=sa) (hi:=sa+k) fun i j a b c=>g1 i j a b (by omega)
   rwa [show sa+k - sa=k by omega] at this
  have s2:lJ rk ((xs.toList.drop (sa+na+n')).take (nb - n')):=by
   have:=tR (rk:=rk) (xs:=xs) (lo:=sa+na+n') (hi:=sa+na+nb) fun i j a b c=>g2 i j (by omega) b c
   rwa [show sa+na+nb - (sa+na+n')=nb - n' by omega] at this
  refine List.pairwise_append.mpr ⟨List.pairwise_append.mpr ⟨s1,hm1,fun p hp q hq=>?_⟩,s2,fun p hp q hq=>?_⟩
  ·obtain ⟨j,h1,h2,ep⟩:=jc hp
   have a1:=hA (j - sa) (by omega)
   rw [show sa+(j - sa)=j by omega,kr ep] at a1
   rcases memM hq with ⟨i,h3,h4,eq⟩ | ⟨i,h3,eq⟩
   ·have:=hX i h3 h4
    rw [kr eq] at this;omega
   ·have:=g2 (sa+na) (sa+na+i) (by omega) (by omega) (by omega)
    rw [kr eq] at this;omega
  ·obtain ⟨j,h1,h2,eq⟩:=jc hq
   rcases List.mem_append.mp hp with hp | hp
   ·obtain ⟨i,h3,h4,ep⟩:=jc hp
    have a1:=hA (i - sa) (by omega)
    rw [show sa+(i - sa)=i by omega,kr ep] at a1
    have:=g2 (sa+na) j (by omega) (by omega) (by omega)
    rw [kr eq] at this;omega
   ·rcases memM hp with ⟨i,h3,h4,ep⟩ | ⟨i,h3,ep⟩
    ·have a1:=g1 (sa+i) (sa+na - 1) (by omega) (by omega) (by omega)
     have a2:=hB2 (j - (sa+na)) (by omega) (by omega)
     rw [show sa+na+(j - (sa+na))=j by omega,kr eq] at a2
     rw [kr ep] at a1;omega
    ·have:=g2 (sa+na+i) j (by omega) (by omega) (by omega)
     rw [kr ep,kr eq] at this;exact this
 ·intro i hi
  rw [rJ,rJ,eW]
  rcases hi with hi | hi
  ·rw [List.append_assoc,List.getElem?_append_left (by omega),List.getElem?_take_of_lt hi]
  ·rw [List.getElem?_append_right (by rw [List.length_append,lP,lS];omega),List.length_append,lP,lS,List.getElem?_drop,show sa+na+nb+(i - (sa+(na+nb)))=i by omega]
theorem xZ {st:SortSt} {i sa na nb pw pw2:Nat} {Q:Bool→SortSt→Prop} (L:oV M A E s kd rk a₀) (hB:SB a₀ kd st) (e1:(pendingOf st)[i]?=some (sa,na,pw)) (e2:(pendingOf st)[i+1]?=some (sa+na,nb,pw2)) (n1:1≤na) (n2:1≤nb)
  (hsz:sa+na+nb≤a₀.size) (g1:Seg rk (arrOf st) sa (sa+na)) (g2:Seg rk (arrOf st) (sa+na) (sa+na+nb))
  (h:∀ st',SB a₀ kd st'→pendingOf st'=((pendingOf st).setIfInBounds i (sa,na+nb,pw)).eraseIdxIfInBounds (i+1)→Seg rk (arrOf st') sa (sa+na+nb)→(∀ k,k < sa∨sa+na+nb≤k→Kr rk (arrOf st') k=Kr rk (arrOf st) k)→Q true st'):
  wpS M A E s (mergeAt' i) Q st:=by
 refine wpS_bind (wpS_get ?_)
 dsimp only
 rw [e1,e2]
 dsimp only
 have hsz':sa+na+nb≤(arrOf st).size:=by rw [hB.size];exact hsz
 refine wpS_bind (m:=set _) ?_
 show wpS M A E s (modify fun _=>setPending st (((pendingOf st).setIfInBounds i (sa,na+nb,pw)).eraseIdxIfInBounds (i+1))) _ st
 refine wpS_modify ?_
 obtain ⟨p0,ep0,m0⟩:=hB.at (i:=sa+na) (by omega)
 refine wpS_bind (aO (σ:=Unit) ep0 ?_)
 have hmem:∀ p∈(arrOf st).toList,p∈a₀.toList:=fun p hp=>hB.mem hp
 have hK0:Kr rk (arrOf st) (sa+na)=rk p0:=cz ep0
 have hB1:SB a₀ kd (setPending st (((pendingOf st).setIfInBounds i (sa,na+nb,pw)).eraseIdxIfInBounds (i+1))):=⟨hB.perm,hB.kind,hB.failed⟩
 refine wpS_bind (dJ (arr:=arrOf st) (fun i=>decide (Kr rk (arrOf st) (sa+i)≤rk p0)) (by omega) (fun i R hi r=>iQ L m0 hmem (by omega) hB1.kind (by simpa using r)) (fun i j hij hj hq=>decide_eq_true (Int.le_trans (g1 _ _ (by omega) (by omega) (by omega)) (of_decide_eq_true hq))) fun k hk hk1 hk2=>?_)
 dsimp only
 refine aD (fun h3=>?_) (fun h3=>?_)
 ·have h3':na - k=0:=by simpa using h3
  refine wpS_pure (h _ hB1 rfl (Bd g1 g2 n2 fun i a b=>?_) fun _ _=>rfl)
  have:=of_decide_eq_true (hk1 (i - sa) (by omega))
  rw [show sa+(i - sa)=i by omega] at this
  rw [hK0];exact this
 have h3':¬ na - k=0:=by simpa using h3
 obtain ⟨p1,ep1,m1⟩:=hB.at (i:=sa+k+(na - k) - 1) (by omega)
 refine wpS_bind (aO (σ:=Unit) ep1 ?_)
 have hK1:Kr rk (arrOf st) (sa+na - 1)=rk p1:=by rw [show sa+na - 1=sa+k+(na - k) - 1 by omega];exact cz ep1
 refine wpS_bind (dJ (arr:=arrOf st) (fun i=>decide (Kr rk (arrOf st) (sa+na+i) < rk p1)) (by omega) (fun i R hi r=>iQ L m1 hmem (by omega) hB1.kind (by simpa using r)) (fun i j hij hj hq=>decide_eq_true (Int.lt_of_le_of_lt (g2 _ _ (by omega) (by omega) (by omega)) (of_decide_eq_true hq))) fun n' hn' hn1 hn2=>?_)
 dsimp only
 have hB2:∀ i,n'≤i→i < nb→Kr rk (arrOf st) (sa+na - 1)≤Kr rk (arrOf st) (sa+na+i):=fun i a b=>by
  have:=of_decide_eq_false (hn2 i a b)
  rw [hK1];omega
 refine aD (fun h4=>?_) (fun h4=>?_)
 ·have h4':n'=0:=by simpa using h4
  refine wpS_pure (h _ hB1 rfl (Bd g1 g2 n2 fun i a b=>?_) fun _ _=>rfl)
  have a1:=g1 i (sa+na - 1) a (by omega) (by omega)
  have a2:=hB2 0 (by omega) (by omega)
  exact Int.le_trans a1 a2
 have h4':¬ n'=0:=by simpa using h4
 have hA:∀ i,i < k→Kr rk (arrOf st) (sa+i)≤Kr rk (arrOf st) (sa+na):=fun i hi=>by rw [hK0];exact of_decide_eq_true (hk1 i hi)
 have hX:∀ i,k≤i→i < na→Kr rk (arrOf st) (sa+na) < Kr rk (arrOf st) (sa+i):=fun i a b=>by
  have:=of_decide_eq_false (hk2 i a b)
  rw [hK0];omega
 have memX:∀ p∈((arrOf st).extract (sa+k) (sa+na)).toList,∃ j,sa+k≤j∧j < sa+na∧(arrOf st)[j]?=some p:=fun p hp=>by
  rw [gF _ (by omega)] at hp
  obtain ⟨j,a,b,c⟩:=jc hp
  exact ⟨j,a,by omega,c⟩
 have memY:∀ p∈((arrOf st).extract (sa+na) (sa+na+n')).toList,∃ j,sa+na≤j∧j < sa+na+n'∧(arrOf st)[j]?=some p:=fun p hp=>by
  rw [gF _ (by omega)] at hp
  obtain ⟨j,a,b,c⟩:=jc hp
  exact ⟨j,a,by omega,c⟩
 have fin:∀ (m:Array Keyed) (st2:SortSt),Sm (setPending st (((pendingOf st).setIfInBounds i (sa,na+nb,pw)).eraseIdxIfInBounds (i+1))) st2→Res rk ((arrOf st).extract (sa+k) (sa+na)) ((arrOf st).extract (sa+na) (sa+na+n')) m→
   wpS M A E s (do
    modify fun s=>setArr s (List.foldl (fun a (x:Keyed×Nat)=>a.setIfInBounds (sa+k+x.snd) x.fst) (arrOf s) m.toList.zipIdx)
    let __do_lift ← get
    pure (failedOf __do_lift).isNone) Q st2:=fun m st2 S R=>by
  obtain ⟨q1,q2,q3⟩:=Dl hsz' g1 g2 (by omega) hn' n2 hA hX hB2 R
  refine wpS_bind (wpS_modify (wpS_bind (wpS_get (wpS_pure ?_))))
  have ea:arrOf st2=arrOf st:=S.arr
  have ef:failedOf st2=none:=S.failed.trans hB.failed
  show Q (failedOf st2).isNone _
  rw [ef]
  refine h _ ⟨?_,S.kind.trans hB.kind,ef⟩ S.pend ?_ ?_
  ·show (List.foldl _ (arrOf st2) _).Perm a₀
   rw [ea];exact q1.trans hB.perm
  ·show Seg rk (List.foldl _ (arrOf st2) _) _ _
   rw [ea];exact q2
  ·intro k' hk'
   show Kr rk (List.foldl _ (arrOf st2) _) _=_
   rw [ea];exact q3 k' hk'
 have szX:((arrOf st).extract (sa+k) (sa+na)).size=na - k:=by rw [Array.size_extract];omega
 have szY:((arrOf st).extract (sa+na) (sa+na+n')).size=n':=by rw [Array.size_extract];omega
 have haX:∀ p∈((arrOf st).extract (sa+k) (sa+na)).toList,p∈a₀.toList:=fun p hp=>by
  obtain ⟨j,_,_,e⟩:=memX p hp
  exact hmem p (by rw [← (Array.getElem?_eq_some_iff.mp e).2];simp)
 have haY:∀ p∈((arrOf st).extract (sa+na) (sa+na+n')).toList,p∈a₀.toList:=fun p hp=>by
  obtain ⟨j,_,_,e⟩:=memY p hp
  exact hmem p (by rw [← (Array.getElem?_eq_some_iff.mp e).2];simp)
 have SX:lJ rk ((arrOf st).extract (sa+k) (sa+na)).toList:=by
  rw [gF _ (by omega)]
  exact tR fun i j a b c=>g1 i j (by omega) b c
 have SY:lJ rk ((arrOf st).extract (sa+na) (sa+na+n')).toList:=by
  rw [gF _ (by omega)]
  exact tR fun i j a b c=>g2 i j (by omega) b (by omega)
 have hf:∀ p,((arrOf st).extract (sa+na) (sa+na+n'))[0]?=some p→∀ q∈((arrOf st).extract (sa+k) (sa+na)).toList,rk p≤rk q:=fun p ep q hq=>by
  rw [Array.getElem?_extract,if_pos (by omega),Nat.add_zero] at ep
  obtain ⟨j,a,b,c⟩:=memX q hq
  have:=hX (j - sa) (by omega) (by omega)
  rw [show sa+(j - sa)=j by omega,cz c,cz ep] at this
  omega
 have hl:∀ p,((arrOf st).extract (sa+k) (sa+na))[((arrOf st).extract (sa+k) (sa+na)).size - 1]?=some p→∀ q∈((arrOf st).extract (sa+na) (sa+na+n')).toList,rk q≤rk p:=fun p ep q hq=>by
  rw [szX,Array.getElem?_extract,if_pos (by omega),show sa+k+(na - k - 1)=sa+k+(na - k) - 1 by omega,ep1] at ep
  have ep:p1=p:=Option.some.inj ep
  obtain ⟨j,a,b,c⟩:=memY q hq
  have:=of_decide_eq_true (hn1 (j - (sa+na)) (by omega))
  rw [show sa+na+(j - (sa+na))=j by omega,cz c] at this
  rw [← ep];omega
 refine aD (fun _=>?_) (fun _=>?_)
 ·exact wpS_bind (xW (a:=(arrOf st).extract (sa+k) (sa+na)) (b:=(arrOf st).extract (sa+na) (sa+na+n')) L haX haY SX SY (by omega) (by omega) hf hl hB1.kind fun r st2 S R=>fin r st2 S R)
 ·exact wpS_bind (xY (a:=(arrOf st).extract (sa+k) (sa+na)) (b:=(arrOf st).extract (sa+na) (sa+na+n')) L haX haY SX SY (by omega) (by omega) hf hl hB1.kind fun r st2 S R=>fin r st2 S R)
end
end L2
namespace L2
open PySem PySem.Spec PyProof.Rows
section
variable {M:Model} {A:Around} {E:Value→Shared→Prop} {s:Shared} {kd:SortKind} {rk:Keyed→Int} {a₀:Array Keyed}
def Runs (rk:Keyed→Int) (xs:Array Keyed):List (Nat×Nat×Nat)→Nat→Nat→Prop
 | [],s,e=>s=e
 | (st,n,_) :: l,s,e=>st=s∧1≤n∧Seg rk xs s (s+n)∧Runs rk xs l (s+n) e
theorem Runs.le {xs:Array Keyed}:∀ {l:List (Nat×Nat×Nat)} {s e:Nat},Runs rk xs l s e→s+l.length≤e
 | [],s,e,h=>Nat.le_of_eq h
 | (st,n,p) :: l,s,e,⟨_,h1,_,h2⟩=>by
  have:=Runs.le h2
  show s+(l.length+1)≤e
  omega
theorem Runs.app {xs:Array Keyed}:∀ {l:List (Nat×Nat×Nat)} {m:List (Nat×Nat×Nat)} {s e:Nat},Runs rk xs (l ++ m) s e↔∃ k,Runs rk xs l s k∧Runs rk xs m k e
 | [],m,s,e=>⟨fun h=>⟨s,rfl,h⟩,fun ⟨k,h1,h2⟩=>by
   have h1:s=k:=h1
   subst h1;exact h2⟩
 | (st,n,p) :: l,m,s,e=>⟨fun ⟨h1,h2,h3,h4⟩=>by
   obtain ⟨k,h5,h6⟩:=Runs.app.mp h4
   exact ⟨k,⟨h1,h2,h3,h5⟩,h6⟩,fun ⟨k,⟨h1,h2,h3,h4⟩,h5⟩=>⟨h1,h2,h3,Runs.app.mpr ⟨k,h4,h5⟩⟩⟩
theorem Runs.congr {xs ys:Array Keyed}:∀ {l:List (Nat×Nat×Nat)} {s e:Nat},(∀ k,s≤k→k < e→Kr rk ys k=Kr rk xs k)→Runs rk xs l s e→Runs rk ys l s e
 | [],s,e,_,h=>h
 | (st,n,p) :: l,s,e,hk,⟨h1,h2,h3,h4⟩=>by
  have hle:=Runs.le h4
  refine ⟨h1,h2,fun i j a b c=>?_,Runs.congr (fun k a b=>hk k (by omega) b) h4⟩
  rw [hk i (by omega) (by omega),hk j (by omega) (by omega)]
  exact h3 i j a b c
theorem QJ {α:Type} {l:List α} {i:Nat} (h:i+1 < l.length):∃ P a b D,l=P ++ a :: b :: D∧P.length=i:=by
 refine ⟨l.take i,l[i],l[i+1],l.drop (i+2),?_,by rw [List.length_take];omega⟩
 conv=>lhs;rw [← List.take_append_drop i l]
 rw [List.drop_eq_getElem_cons (by omega),List.drop_eq_getElem_cons h]
theorem mY {st:SortSt} {i lo:Nat} {Q:Bool→SortSt→Prop} (L:oV M A E s kd rk a₀) (hB:SB a₀ kd st) (hR:Runs rk (arrOf st) (pendingOf st).toList 0 lo) (hi:i+1 < (pendingOf st).size) (hlo:lo≤a₀.size)
  (h:∀ st',SB a₀ kd st'→Runs rk (arrOf st') (pendingOf st').toList 0 lo→(pendingOf st').size+1=(pendingOf st).size→(∀ k,lo≤k→Kr rk (arrOf st') k=Kr rk (arrOf st) k)→Q true st'):wpS M A E s (mergeAt' i) Q st:=by
 obtain ⟨P,⟨sa,na,pw⟩,⟨sb,nb,pw2⟩,D,e,hP⟩:=QJ (l:=(pendingOf st).toList) (i:=i) (by simpa using hi)
 have hR0:=hR
 rw [e] at hR
 obtain ⟨k,r1,h1,n1,g1,h2,n2,g2,r2⟩:=Runs.app.mp hR
 subst h1 h2
 have le1:=r1.le
 have le2:=r2.le
 have e1:(pendingOf st)[i]?=some (sa,na,pw):=by rw [← Array.getElem?_toList,e,List.getElem?_append_right (by omega),hP,Nat.sub_self];rfl
 have e2:(pendingOf st)[i+1]?=some (sa+na,nb,pw2):=by rw [← Array.getElem?_toList,e,List.getElem?_append_right (by omega),hP,show i+1 - i=1 by omega];rfl
 refine xZ L hB e1 e2 n1 n2 (by omega) g1 g2 fun st' hB' hp hS hF=>?_
 have tl:(pendingOf st').toList=P ++ (sa,na+nb,pw) :: D:=by
  rw [hp,Array.toList_eraseIdxIfInBounds,Array.toList_setIfInBounds,e,List.set_append_right _ _ (by omega),hP,Nat.sub_self,List.set_cons_zero,List.eraseIdx_append_of_length_le (by omega),hP,show i+1 - i=1 by omega]
  rfl
 refine h st' hB' ?_ ?_ fun k hk=>hF k (.inr (by omega))
 ·rw [tl]
  refine Runs.app.mpr ⟨sa,Runs.congr (fun k a b=>hF k (.inl b)) r1,rfl,by omega,by rw [← Nat.add_assoc];exact hS,?_⟩
  rw [← Nat.add_assoc]
  exact Runs.congr (fun k a b=>hF k (.inr a)) r2
 ·have l1:=congrArg List.length tl
  have l2:=congrArg List.length e
  simp at l1 l2
  omega
theorem Runs.mod {xs:Array Keyed} {f:Nat×Nat×Nat→Nat×Nat×Nat} (hf:∀ q,(f q).1=q.1∧(f q).2.1=q.2.1):∀ {l:List (Nat×Nat×Nat)} {i s e:Nat},Runs rk xs l s e→Runs rk xs (l.modify i f) s e
 | [],i,s,e,h=>by rw [List.modify_nil];exact h
 | (st,n,p) :: l,0,s,e,⟨h1,h2,h3,h4⟩=>by
  rw [List.modify_zero_cons]
  obtain ⟨a,b⟩:=hf (st,n,p)
  generalize f (st,n,p)=q at a b
  obtain ⟨x,y,z⟩:=q
  dsimp only at a b
  subst a b
  exact ⟨h1,h2,h3,h4⟩
 | (st,n,p) :: l,i+1,s,e,⟨h1,h2,h3,h4⟩=>by
  rw [List.modify_succ_cons]
  exact ⟨h1,h2,h3,Runs.mod hf h4⟩
theorem Dm {st:SortSt} {Q:Unit→SortSt→Prop} (L:oV M A E s kd rk a₀) (hB:SB a₀ kd st) (hp:pendingOf st= #[]) (h2:2≤a₀.size)
  (h:∀ st',SB a₀ kd st'→Seg rk (arrOf st') 0 a₀.size→Q () st'):wpS M A E s sortRuns' Q st:=by
 rw [sortRuns'_eq]
 refine wpS_bind (wpS_get ?_)
 dsimp only
 generalize minRun' (arrOf st).size (arrOf st).size 0=mr
 rw [hB.size]
 refine wpS_bind (wpS_mono (wpS_forRange
  (I:=fun x c st'=>∃ lo,c=(none,lo)∧SB a₀ kd st'∧Runs rk (arrOf st') (pendingOf st').toList 0 lo∧lo≤a₀.size∧x≤lo)
  (Q:=fun c st'=>c=(none,a₀.size)∧SB a₀ kd st'∧Runs rk (arrOf st') (pendingOf st').toList 0 a₀.size) ?step ?fin ⟨0,rfl,hB,by rw [hp];rfl,by omega,by omega⟩) ?post)
 case fin=>
  rintro c st' ⟨lo,rfl,hB',hR,a,b⟩
  obtain rfl:lo=a₀.size:=by omega
  exact ⟨rfl,hB',hR⟩
 case step=>
  rintro x c st' _ hx ⟨lo,rfl,hB',hR,a,b⟩
  dsimp only
  by_cases hge:lo≥a₀.size
  ·rw [if_pos hge]
   obtain rfl:lo=a₀.size:=by omega
   exact wpS_pure ⟨rfl,hB',hR⟩
  rw [if_neg hge]
  refine wpS_bind (zx (rk:=rk) L (by omega) (by omega) hB' fun m st1 N1 m1 m2 S1=>?_)
  dsimp only
  have R1:Runs rk (arrOf st1) (pendingOf st1).toList 0 lo:=by
   rw [N1.pe]
   exact Runs.congr (fun k _ hk=>N1.fr k hk) hR
  by_cases hmr:m < mr
  ·rw [if_pos hmr]
   refine wpS_bind (wpS_lift (wpAny_rule ⟨rfl,?_⟩))
   refine wpS_bind (Hh L (by omega) (by omega) N1.sb S1 fun st2 N2 S2=>?_)
   rw [if_neg (by decide)]
   have R2:Runs rk (arrOf st2) (pendingOf st2).toList 0 lo:=by
    rw [N2.pe]
    exact Runs.congr (fun k _ hk=>N2.fr k hk) R1
   have B2:=N2.sb
   have N1:1≤min (a₀.size - lo) mr:=by omega
   have LE:lo+min (a₀.size - lo) mr≤a₀.size:=by omega
   refine wpS_bind (wpS_get ?_)
   rcases hbk:(pendingOf st2).back? with _ | ⟨s1,n1,p1⟩
   ·dsimp only
    refine wpS_bind (wpS_modify (wpS_pure ⟨_,rfl,⟨B2.perm,B2.kind,B2.failed⟩,?_,LE,by omega⟩))
    show Runs rk (arrOf st2) ((pendingOf st2).push _).toList 0 _
    rw [Array.toList_push]
    exact Runs.app.mpr ⟨lo,R2,rfl,N1,S2,rfl⟩
   ·dsimp only
    refine wpS_bind (wpS_mono (wpS_forRange (I:=fun _ c st3=>c=(none,())∧SB a₀ kd st3∧Runs rk (arrOf st3) (pendingOf st3).toList 0 lo∧Seg rk (arrOf st3) lo (lo+min (a₀.size - lo) mr))
     (Q:=fun c st3=>c=(none,())∧SB a₀ kd st3∧Runs rk (arrOf st3) (pendingOf st3).toList 0 lo∧Seg rk (arrOf st3) lo (lo+min (a₀.size - lo) mr)) ?_ (fun _ _ hh=>hh) ⟨rfl,B2,R2,S2⟩) ?_)
    ·rintro y c st3 _ _ ⟨rfl,B3,R3,S3⟩
     refine wpS_bind (wpS_get ?_)
     by_cases hs1:(pendingOf st3).size > 1
     ·rw [if_pos hs1,getElem?_pos (pendingOf st3) ((pendingOf st3).size - 2) (by omega)]
      generalize (pendingOf st3)[(pendingOf st3).size - 2]=pq
      obtain ⟨q1,q2,q3⟩:=pq
      dsimp only
      refine aD (fun _=>wpS_pure ⟨rfl,B3,R3,S3⟩) (fun _=>?_)
      refine wpS_bind (mY L B3 R3 (by omega) a fun st4 B4 R4 _ F4=>?_)
      rw [if_neg (by decide)]
      refine wpS_pure ⟨rfl,B4,R4,fun i j h5 h6 h7=>?_⟩
      rw [F4 i h5,F4 j (by omega)]
      exact S3 i j h5 h6 h7
     ·rw [if_neg hs1]
      exact wpS_pure ⟨rfl,B3,R3,S3⟩
    ·rintro c st3 ⟨rfl,B3,R3,S3⟩
     dsimp only
     refine wpS_bind (wpS_modify (wpS_bind (wpS_modify (wpS_pure ⟨_,rfl,⟨B3.perm,B3.kind,B3.failed⟩,?_,LE,by omega⟩))))
     show Runs rk (arrOf st3) (((pendingOf st3).modify _ _).push _).toList 0 _
     rw [Array.toList_push,Array.toList_modify]
     refine Runs.app.mpr ⟨lo,?_,rfl,N1,S3,rfl⟩
     refine Runs.mod ?_ R3;exact fun q=>⟨rfl,rfl⟩
  ·rw [if_neg hmr]
   obtain ⟨st2,rfl⟩:∃ st2,st1=st2:=⟨_,rfl⟩
   have R2:=R1
   have S2:=S1
   have B2:=N1.sb
   have N1:=m1
   have LE:lo+m≤a₀.size:=by omega
   refine wpS_bind (wpS_get ?_)
   rcases hbk:(pendingOf st1).back? with _ | ⟨s1,n1,p1⟩
   ·dsimp only
    refine wpS_bind (wpS_modify (wpS_pure ⟨_,rfl,⟨B2.perm,B2.kind,B2.failed⟩,?_,LE,by omega⟩))
    show Runs rk (arrOf st1) ((pendingOf st1).push _).toList 0 _
    rw [Array.toList_push]
    exact Runs.app.mpr ⟨lo,R2,rfl,N1,S2,rfl⟩
   ·dsimp only
    refine wpS_bind (wpS_mono (wpS_forRange (I:=fun _ c st3=>c=(none,())∧SB a₀ kd st3∧Runs rk (arrOf st3) (pendingOf st3).toList 0 lo∧Seg rk (arrOf st3) lo (lo+m))
     (Q:=fun c st3=>c=(none,())∧SB a₀ kd st3∧Runs rk (arrOf st3) (pendingOf st3).toList 0 lo∧Seg rk (arrOf st3) lo (lo+m)) ?_ (fun _ _ hh=>hh) ⟨rfl,B2,R2,S2⟩) ?_)
    ·rintro y c st3 _ _ ⟨rfl,B3,R3,S3⟩
     refine wpS_bind (wpS_get ?_)
     by_cases hs1:(pendingOf st3).size > 1
     ·rw [if_pos hs1,getElem?_pos (pendingOf st3) ((pendingOf st3).size - 2) (by omega)]
      generalize (pendingOf st3)[(pendingOf st3).size - 2]=pq
      obtain ⟨q1,q2,q3⟩:=pq
      dsimp only
      refine aD (fun _=>wpS_pure ⟨rfl,B3,R3,S3⟩) (fun _=>?_)
      refine wpS_bind (mY L B3 R3 (by omega) a fun st4 B4 R4 _ F4=>?_)
      rw [if_neg (by decide)]
      refine wpS_pure ⟨rfl,B4,R4,fun i j h5 h6 h7=>?_⟩
      rw [F4 i h5,F4 j (by omega)]
      exact S3 i j h5 h6 h7
     ·rw [if_neg hs1]
      exact wpS_pure ⟨rfl,B3,R3,S3⟩
    ·rintro c st3 ⟨rfl,B3,R3,S3⟩
     dsimp only
     refine wpS_bind (wpS_modify (wpS_bind (wpS_modify (wpS_pure ⟨_,rfl,⟨B3.perm,B3.kind,B3.failed⟩,?_,LE,by omega⟩))))
     show Runs rk (arrOf st3) (((pendingOf st3).modify _ _).push _).toList 0 _
     rw [Array.toList_push,Array.toList_modify]
     refine Runs.app.mpr ⟨lo,?_,rfl,N1,S3,rfl⟩
     refine Runs.mod ?_ R3;exact fun q=>⟨rfl,rfl⟩
 case post=>
  rintro c st' ⟨rfl,hB',hR⟩
  dsimp only
  have hle:=hR.le
  refine wpS_bind (wpS_mono (wpS_forRange (I:=fun x c st3=>c=(none,())∧SB a₀ kd st3∧Runs rk (arrOf st3) (pendingOf st3).toList 0 a₀.size∧(pendingOf st3).size+x≤a₀.size)
   (Q:=fun c st3=>c=(none,())∧SB a₀ kd st3∧Runs rk (arrOf st3) (pendingOf st3).toList 0 a₀.size∧(pendingOf st3).size≤1) ?_ ?_ ⟨rfl,hB',hR,by simp at hle;omega⟩) ?_)
  ·rintro y c st3 _ hy ⟨rfl,B3,R3,P3⟩
   refine wpS_bind (wpS_get ?_)
   by_cases hs1:(pendingOf st3).size≤1
   ·rw [if_pos hs1]
    exact wpS_pure ⟨rfl,B3,R3,hs1⟩
   ·rw [if_neg hs1]
    refine wpS_bind (mY L B3 R3 ?_ (Nat.le_refl _) fun st4 B4 R4 P4 _=>?_)
    ·have gen:∀ (c:Prop) [Decidable c],(if c then (pendingOf st3).size - 2 - 1 else (pendingOf st3).size - 2)+1 < (pendingOf st3).size:=fun c _=>by split <;> omega
     exact gen _
    ·rw [if_neg (by decide)]
     exact wpS_pure ⟨rfl,B4,R4,by omega⟩
  ·rintro c st3 ⟨rfl,B3,R3,P3⟩
   exact ⟨rfl,B3,R3,by omega⟩
  ·rintro c st3 ⟨rfl,B3,R3,P3⟩
   refine wpS_pure (h st3 B3 ?_)
   have hl:(pendingOf st3).toList.length≤1:=by simpa using P3
   generalize (pendingOf st3).toList=l at hl R3
   match l,hl,R3 with
   | [],_,R3=>
    have:0=a₀.size:=R3
    omega
   | [(x,n,p)],_,⟨h5,h6,h7,h8⟩=>
    have h8:0+n=a₀.size:=h8
    rw [h8] at h7
    exact h7
end
end L2
namespace L2
open PySem PySem.W PySem.Spec PyProof.Rows
section
variable {prog:Program} {w:World} {A:Around} {E:Value→Shared→Prop} {s:Shared}
theorem ik {vs:List Value} {p:Keyed} (h:p∈(vs.toArray.zip vs.toArray).toList):p.1=p.2∧p.1∈vs:=by
 rw [Array.toList_zip] at h
 exact mem_zip_self h
theorem Hn {a:Addr} {vs:List Value} {n:Nat} {κ:SortKind} {rv:Value→Int} {P:PySem.Fin→Shared→Prop}
  (ho:s.heap.get? a=some (seqObj "list" vs.toArray n)) (few:vs.length≤100000)
  (hK:2≤vs.length→∀ (s':Shared) (R:SortKind→Shared→Prop),Uw a s.heap s'.heap→R κ s'→wpAny (model prog w) A (keyKind' vs.toArray) R E s')
  (hC:∀ (s':Shared) (x y:Value) (R:Bool→Shared→Prop) (E':Value→Shared→Prop),Uw a s.heap s'.heap→x∈vs→y∈vs→R (decide (rv x < rv y)) s'→wpAny (model prog w) A (keyLt' κ x y) R E' s')
  (h:∀ out:List Value,out.Perm vs→(out.Pairwise fun x y=>rv x≤rv y)→P (.done (.ret .none)) {s with heap:=sortedHeap s.heap a vs out.toArray}):
  wpAny (model prog w) A (Builtin.«list.sort» ⟨[.ref a],[]⟩) P E s:=by
 rw [list_sort_plain]
 refine wpAny_bind (listItems_at ho rfl (wpAny_bind (listUpdate_at ho rfl ?_)))
 obtain ⟨k,hk⟩:∃ k,(s.heap.update a (Obj.mapSeq fun _=>#[])).get? a=some (seqObj "list" #[] k):=⟨_,get?_update_seq ho (fun _=>#[])⟩
 refine wpAny_bind (seqEpoch_at hk rfl (wpAny_bind (wpAny_newTuple (wpAny_bind (wpAny_newList (wpAny_holding ?_))))))
 have hk2:=Heap.get?_push_of_some (seqObj "list" #[] 0) (Heap.get?_push_of_some (seqObj "tuple" vs.toArray 0) hk)
 have bt:=De (h:=s.heap) (a:=a) (f:=Obj.mapSeq fun _=>#[]) (x:=seqObj "tuple" vs.toArray 0) (y:=seqObj "list" #[] 0)
 show wpAny (model prog w) A _ P E {s with heap:=(((s.heap.update a (Obj.mapSeq fun _=>#[])).push (seqObj "tuple" vs.toArray 0)).push (seqObj "list" #[] 0))}
 generalize hS:({s with heap:=(((s.heap.update a (Obj.mapSeq fun _=>#[])).push (seqObj "tuple" vs.toArray 0)).push (seqObj "list" #[] 0))}:Shared)=s2
 dsimp only
 have sz:vs.toArray.size=vs.length:=by simp
 have hs:200000≤sizeLine:=by decide
 have hk3:s2.heap.get? a=some (seqObj "list" #[] k):=by rw [← hS];exact hk2
 have bt2:Uw a s.heap s2.heap:=by rw [← hS];exact bt
 have fin:∀ out:List Value,out.Perm vs→(out.Pairwise fun x y=>rv x≤rv y)→P (.done (.ret .none)) {s2 with heap:=s2.heap.update a (Obj.mapSeq fun _=>out.toArray)}:=fun out h1 h2=>by
  rw [← hS];exact h out h1 h2
 by_cases h2:vs.toArray.size < 2
 ·rw [if_pos h2,if_pos h2]
  refine wpAny_bind (wpAny_pure ?_)
  rw [StateT.run_pure]
  refine wpAny_bind (wpAny_pure ?_)
  dsimp only
  have ez:(arrOf (SortSt.mk' general' (vs.toArray.zip vs.toArray) #[] 7 none)).map (·.2)=vs.toArray:=Bb vs
  rw [ez]
  refine wpAny_bind (seqEpoch_at hk3 rfl (wpAny_bind (listUpdate_at hk3 rfl ?_ (hsz2:=by rw [sz];omega))))
  simp only [bne_self_eq_false,Bool.false_eq_true,if_false]
  refine wpAny_pure (fin vs (List.Perm.refl _) ?_)
  match vs,h2 with
  | [],_=>exact List.Pairwise.nil
  | [_],_=>exact List.pairwise_singleton _ _
  | _ :: _ :: _,h2=>simp at h2;omega
 ·rw [if_neg h2,if_neg h2]
  refine wpAny_bind (hK (by omega) _ _ bt2 ?_)
  have L:oV (model prog w) A E s2 κ (fun p=>rv p.1) (vs.toArray.zip vs.toArray):=fun p q st R hp hq hkd hr=>by
   rw [lt'_eq]
   refine wpS_bind (wpS_get ?_)
   rw [hkd]
   refine wpS_bind (wpS_lift (wpAny_attempt (hC _ _ _ _ _ bt2 (ik hp).2 (ik hq).2 ⟨rfl,?_⟩)))
   exact wpS_pure hr
  refine wpAny_bind (wpAny_mono (Dm (st:=SortSt.mk' κ (vs.toArray.zip vs.toArray) #[] 7 none) (Q:=fun _ st'=>SB (vs.toArray.zip vs.toArray) κ st'∧Seg (fun p=>rv p.1) (arrOf st') 0 (vs.toArray.zip vs.toArray).size)
   L ⟨Array.Perm.refl _,rfl,rfl⟩ rfl (by rw [Array.size_zip];omega) fun st' a1 a2=>⟨a1,a2⟩) ?_ fun _ _ e=>e)
  rintro ⟨⟨⟩,st'⟩ s' ⟨rfl,hB,hg⟩
  dsimp only
  dsimp only at hB hg
  have hp:((arrOf st').map (·.2)).toList.Perm vs:=by
   rw [Array.toList_map]
   refine ((Array.perm_iff_toList_perm.mp hB.perm).map _).trans (List.Perm.of_eq ?_)
   rw [← Array.toList_map,Bb]
  have hz:(vs.toArray.zip vs.toArray).size=vs.length:=by rw [Array.size_zip];omega
  have hpw:((arrOf st').map (·.2)).toList.Pairwise fun x y=>rv x≤rv y:=by
   rw [Array.toList_map]
   have:=tR hg
   rw [Nat.sub_zero,List.drop_zero,List.take_of_length_le (by rw [Array.length_toList,hB.size];exact Nat.le_refl _)] at this
   rw [List.pairwise_map]
   refine this.imp_of_mem fun {p q} hp hq hpq=>?_
   rw [← (ik (hB.mem hp)).1,← (ik (hB.mem hq)).1]
   exact hpq
  refine wpAny_bind (seqEpoch_at hk3 rfl (wpAny_bind (listUpdate_at hk3 rfl ?_ (hsz2:=by
   have:=hp.length_eq
   rw [Array.length_toList] at this
   show ((arrOf st').map (·.2)).size≤_
   omega))))
  rw [hB.failed]
  simp only [bne_self_eq_false,Bool.false_eq_true,if_false]
  refine wpAny_pure ?_
  have:=fin _ hp hpw
  rwa [Array.toArray_toList] at this
end
theorem tU {vs:List Value} {ns:List Int} (h:IntsAre vs ns) {v:Value} (hv:v∈vs):∃ n t,v= .int n t:=h.all v hv
section
variable {X:Cx}
end
section
variable {H:Hp} {Q:VK}
end
end L2
namespace L2
open PySem PySem.Spec PyProof.Rows
section
variable {prog:Program} {w:World} {A:Around} {E:Value→Shared→Prop} {s:Shared}
end
end L2
namespace L2
open PySem PySem.Spec PyProof.Rows
section
variable {K:PySem.W.Frag} {σ:St} {H:Hp}
end
end L2
namespace L2
open PySem PySem.W PySem.Spec PyProof.Rows
section
variable {prog:Program} {w:World} {A:Around} {E:Value→Shared→Prop} {s:Shared}
theorem yc {l:Addr} {vs:List Value} {Q:List Value→Shared→Prop} (hl:IsTup s.heap l vs.toArray) (hsz:vs.length≤sizeLine)
  (h:Q vs {s with heap:=(s.heap.push (seqObj "list" #[] 0)).update s.heap.objs.size (Obj.mapSeq (· ++ vs.toArray))}):
  wpAny (model prog w) A (collect (.ref l)) Q E s:=by
 obtain ⟨o,ho,hc,n,hd⟩:=id hl
 unfold collect
 refine wpAny_bind (wpAny_runValue (codeAny_builtin entry_proto_collect' ?_))
 show wpAny _ _ (do again (.builtin "list.__iadd__" ⟨[← newList [],.ref l],[]⟩)) _ _ s
 refine wpAny_bind (wpAny_newList (wpAny_pure ⟨Code.quiet_builtin _ (by decide+kernel),codeAny_builtin entry_list_iadd' ?_⟩))
 show wpAny _ _ (Builtin.List.listExtendWith (.ref s.heap.objs.size) (.ref l) (.ref s.heap.objs.size)) _ _ {s with heap:=s.heap.push (seqObj "list" #[] 0)}
 unfold Builtin.List.listExtendWith
 have ho':(s.heap.push (seqObj "list" #[] 0)).get? l=some o:=Heap.get?_push_of_some _ ho
 refine wpAny_bind (wpAny_typeOf (T:="tuple") ⟨o,ho',hc⟩ ?_)
 have ht:(Value.type "tuple" == Value.type "tuple")=true:=by rfl
 rw [if_pos (by rw [ht];simp)]
 refine wpAny_bind (listItems_at ho' hd ?_)
 refine wpAny_bind (listItems_at (xs:=#[]) (n:=0) (Heap.get?_push_size _ rfl) rfl ?_)
 rw [if_neg (by simp)]
 refine wpAny_bind (listUpdate_at (xs:=#[]) (n:=0) (Heap.get?_push_size _ rfl) rfl ?_ (Nat.zero_le _) (by show (#[] ++ vs.toArray).size≤sizeLine+1;simp only [Array.size_append,List.size_toArray,List.length_nil];omega))
 refine wpAny_pure ?_
 show wpAny (model prog w) A (do
   let o ← load s.heap.objs.size
   match o.data with
   | .seq xs _=>pure xs.toList
   | _=>unsupported "internal:collect") Q E {s with heap:=(s.heap.push (seqObj "list" #[] 0)).update s.heap.objs.size (Obj.mapSeq (· ++ vs.toArray))}
 refine wpAny_bind (wpAny_load (get?_update_seq (Heap.get?_push_size _ rfl) _) ?_)
 show wpAny _ _ (pure ((#[]:Array Value) ++ vs.toArray).toList) Q E _
 rw [show ((#[]:Array Value) ++ vs.toArray).toList=vs by simp]
 exact wpAny_pure h
theorem qR {l:Addr} {vs:List Value} {κ:SortKind} {rv:Value→Int} {Q:Value→Shared→Prop} (hl:∀ (A':Around) (Q':List Value→Shared→Prop),Q' vs {s with heap:=(s.heap.push (seqObj "list" #[] 0)).update s.heap.objs.size (Obj.mapSeq (· ++ vs.toArray))}→wpAny (model prog w) A' (collect (.ref l)) Q' E s) (few:vs.length≤100000)
  (hK:2≤vs.length→∀ (A':Around) (s':Shared) (R:SortKind→Shared→Prop),(∀ b o,s.heap.get? b=some o→s'.heap.get? b=some o)→R κ s'→wpAny (model prog w) A' (keyKind' vs.toArray) R E s')
  (hC:∀ (A':Around) (s':Shared) (x y:Value) (R:Bool→Shared→Prop) (E':Value→Shared→Prop),(∀ b o,s.heap.get? b=some o→s'.heap.get? b=some o)→x∈vs→y∈vs→R (decide (rv x < rv y)) s'→wpAny (model prog w) A' (keyLt' κ x y) R E' s')
  (h:∀ out:List Value,out.Perm vs→(out.Pairwise fun x y=>rv x≤rv y)→Q (.ref (s.heap.objs.size+1)) {s with heap:=sortedAll s.heap vs out.toArray}):
  wpAny (model prog w) A (call (.builtin "sorted") [.ref l]) Q E s:=by
 refine Calls.call_function_entry kind_sorted plain_sorted entry_sorted (args_sorted1 _) ?_
 unfold Builtin.«sorted»
 have hs:200000≤sizeLine:=by decide
 refine wpAny_bind (m:=checkCount "sorted" 1 1 _) (wpAny_pure (wpAny_bind (hl _ _ ?_)))
 refine wpAny_bind (wpAny_newList ?_)
 have z1:((s.heap.push (seqObj "list" #[] 0)).update s.heap.objs.size (Obj.mapSeq (· ++ vs.toArray))).objs.size=s.heap.objs.size+1:=by rw [Heap.size_update,size_push']
 have old:∀ b o,s.heap.get? b=some o→(((s.heap.push (seqObj "list" #[] 0)).update s.heap.objs.size (Obj.mapSeq (· ++ vs.toArray))).push (seqObj "list" vs.toArray 0)).get? b=some o:=fun b o e=>by
  have lb:=Heap.lt_size e
  refine Heap.get?_push_of_some _ ?_
  rw [Heap.get?_update_ne _ _ _ _ (Nat.ne_of_lt lb)]
  exact Heap.get?_push_of_some _ e
 have hoL:(((s.heap.push (seqObj "list" #[] 0)).update s.heap.objs.size (Obj.mapSeq (· ++ vs.toArray))).push (seqObj "list" vs.toArray 0)).get? (s.heap.objs.size+1)=some (seqObj "list" vs.toArray 0):=
  z1 ▸ Heap.get?_push_size _ rfl
 show wpAny _ _ _ _ _ {s with heap:=(((s.heap.push (seqObj "list" #[] 0)).update s.heap.objs.size (Obj.mapSeq (· ++ vs.toArray))).push (seqObj "list" vs.toArray 0))}
 rw [z1]
 have ok:∀ {s':Shared},Uw (s.heap.objs.size+1) (((s.heap.push (seqObj "list" #[] 0)).update s.heap.objs.size (Obj.mapSeq (· ++ vs.toArray))).push (seqObj "list" vs.toArray 0)) s'.heap→∀ b o,s.heap.get? b=some o→s'.heap.get? b=some o:=fun bt b o e=>bt b o (Nat.ne_of_lt (Nat.lt_succ_of_lt (Heap.lt_size e))) (old b o e)
 refine wpAny_bind (wpAny_holding (wpAny_call_entry slot_list_sort ⟨_,hoL,rfl⟩ entry_list_sort (Hn (κ:=κ) (rv:=rv) hoL few (fun h2 s' R bt r=>hK h2 _ s' R (ok bt) r) (fun s' x y R E' bt hx hy r=>hC _ s' x y R E' (ok bt) hx hy r) fun out h1 h2=>⟨_,rfl,?_⟩) (args_list_sort _)))
 exact wpAny_pure ⟨_,rfl,h out h1 h2⟩
end
section
variable {X:Cx}
def Ho:List V→Hp→VK→Prop:=fun xs H Q=>(∃ (p:Addr) (ns:List Int),xs=[.ref p]∧(H p=some (.lst (ns.map V.int))∨H p=some (.tup (ns.map V.int)))∧ns.length≤100000∧
  ∀ (q:Addr) (ms:List Int),H q=none→ms.Perm ns→ms.Pairwise (· ≤ ·)→Q (.ref q) (upd H q (.lst (ms.map V.int))))∨
 ∃ (p:Addr) (as:List Addr) (ct:Addr→List Int),xs=[.ref p]∧H p=some (.lst (as.map V.ref))∧as.length≤100000∧(∀ a∈as,H a=some (.tup ((ct a).map V.int))∧ct a≠[])∧
  ∀ (q:Addr) (bs:List Addr),H q=none→bs.Perm as→bs.Pairwise (fun a b=>HT.lexLt (ct b) (ct a)=false)→Q (.ref q) (upd H q (.lst (bs.map V.ref)))
theorem vy:∀ {as:List Addr} {its:List Value},Vals (as.map V.ref) its→its=as.map Value.ref
 | [],_,h=>by cases h;rfl
 | a :: as,_,h=>by
  cases h with
  | cons h1 h2=>
   cases h1
   rw [vy h2];rfl
theorem vz:∀ (as:List Addr),Vals (as.map V.ref) (as.map Value.ref)
 | []=>.nil
 | a :: as=>.cons rfl (vz as)
theorem Dn {as:List Addr} {out:List Value} (h:out.Perm (as.map Value.ref)):∃ bs:List Addr,out=bs.map Value.ref∧bs.Perm as:=by
 have key:∀ out:List Value,(∀ v∈out,∃ a,v=Value.ref a)→∃ bs:List Addr,out=bs.map Value.ref:=by
  intro out
  induction out with
  | nil=>exact fun _=>⟨[],rfl⟩
  | cons v out ih=>
   intro hv
   obtain ⟨a,rfl⟩:=hv v List.mem_cons_self
   obtain ⟨bs,rfl⟩:=ih fun u hu=>hv u (List.mem_cons_of_mem _ hu)
   exact ⟨a :: bs,rfl⟩
 obtain ⟨bs,rfl⟩:=key out fun v hv=>by
  obtain ⟨a,_,rfl⟩:=List.mem_map.mp (h.mem_iff.mp hv)
  exact ⟨a,rfl⟩
 refine ⟨bs,rfl,?_⟩
 have:=h.map (fun v=>match v with | Value.ref a=>a | _=>0)
 rwa [List.map_map,List.map_map,show ((fun v:Value=>match v with | Value.ref a=>a | _=>0) ∘ Value.ref)=id from rfl,List.map_id,List.map_id] at this
def Do (ts:List (List Int)) (t:List Int):Int:=((ts.countP fun u=>HT.lexLt u t):Nat)
theorem Be {ts:List (List Int)} {a b:List Int} (ha:a∈ts):decide (Do ts a < Do ts b)=HT.lexLt a b:=by
 unfold Do
 cases h:HT.lexLt a b with
 | true=>
  refine decide_eq_true ?_
  have key:∀ l:List (List Int),a∈l→l.countP (fun u=>HT.lexLt u a) < l.countP (fun u=>HT.lexLt u b):=by
   intro l
   induction l with
   | nil=>intro h;cases h
   | cons u l ih=>
    intro hm
    rw [List.countP_cons,List.countP_cons]
    have le:l.countP (fun u=>HT.lexLt u a)≤l.countP (fun u=>HT.lexLt u b):=List.countP_mono_left fun x _ hx=>oU hx h
    by_cases e:u=a
    ·rw [e,GZ,h,if_neg (by decide),if_pos rfl]
     omega
    ·have hm':a∈l:=(List.mem_cons.mp hm).resolve_left fun z=>e z.symm
     have:=ih hm'
     by_cases c:HT.lexLt u a=true
     ·rw [if_pos c,if_pos (oU c h)];omega
     ·rw [if_neg c];split <;> omega
  have:=key ts ha
  omega
 | false=>
  refine decide_eq_false ?_
  have le:ts.countP (fun u=>HT.lexLt u b)≤ts.countP (fun u=>HT.lexLt u a):=List.countP_mono_left fun x _ hx=>by
   cases c:HT.lexLt b a with
   | true=>exact oU hx c
   | false=>rw [xT h c];exact hx
  omega
theorem zA {prog:Program} {w:World} {A:Around} {E:Value→Shared→Prop} {s:Shared} {as:List Addr} {ct:Addr→List Int} {Q:SortKind→Shared→Prop} (h2:2≤as.length) (h:∀ a∈as,∃ its,IsTup s.heap a its.toArray∧IntsAre its (ct a)∧ct a≠[]) (q:Q (tuples' true) s):
  wpAny (model prog w) A (keyKind' (as.map Value.ref).toArray) Q E s:=by
 refine Df (ts:=as.map ct) (by rw [List.length_map];exact h2) (fun i hi=>?_) q
 rw [List.length_map] at hi
 obtain ⟨its,it,ia,ne⟩:=h as[i] (List.getElem_mem hi)
 have e:(as.map ct).getD i []=ct as[i]:=by rw [List.getD_eq_getElem?_getD,List.getElem?_map,List.getElem?_eq_getElem hi];rfl
 rw [e]
 exact ⟨as[i],its,by rw [List.getElem?_map,List.getElem?_eq_getElem hi];rfl,it,ia,ne⟩
theorem oZ:CallR X (.builtin "sorted") Ho:=by
 intro pins s σ H xs us Q I r h
 have hs2:200000≤sizeLine:=by decide
 rcases h with ⟨p,ns,rfl,hp,few,q⟩ | ⟨p,as,ct,rfl,hp,few,ht,q⟩
 ·obtain ⟨u,rfl,ru⟩:=vals1 r
  cases ru
  obtain ⟨its,rv,hcol⟩:∃ its:List Value,Vals (ns.map V.int) its∧∀ (A':Around) (E':Value→Shared→Prop) (Q':List Value→Shared→Prop),Q' its {s with heap:=(s.heap.push (seqObj "list" #[] 0)).update s.heap.objs.size (Obj.mapSeq (· ++ its.toArray))}→wpAny (model X.prog X.w) A' (collect (.ref p)) Q' E' s:=by
   rcases hp with hp | hp
   ·obtain ⟨hz,its,n,rv,g⟩:=I.hok p _ hp
    refine ⟨its,rv,fun A' E' Q' hq=>collect_list ⟨_,g,rfl,n,rfl⟩ hq (hsz:=?_)⟩
    rw [← rv.length];exact hz
   ·obtain ⟨hz,its,rv,g⟩:=I.hok p _ hp
    exact ⟨its,rv,fun A' E' Q' hq=>yc g (by rw [← rv.length];exact hz) hq⟩
  have hi:IntsAre its ns:=intsAre_of rv
  have hl:=rv.length
  rw [List.length_map] at hl
  refine qR (vs:=its) (κ:=oneType') (rv:=numOf) (fun A' Q' hq=>hcol A' _ Q' hq) (by omega) ?_ ?_ fun out hperm hs=>?_
  ·intro h2 A' s' R _ hr
   obtain ⟨v₁,v₂,rest,rfl⟩:∃ v₁ v₂ rest,its=v₁ :: v₂ :: rest:=by
    match its,h2 with
    | v₁ :: v₂ :: rest,_=>exact ⟨v₁,v₂,rest,rfl⟩
   rw [keyKind_ints hi]
   exact wpAny_pure hr
  ·intro A' s' x y R E' _ hx hy hr
   obtain ⟨a,t,rfl⟩:=tU hi hx
   obtain ⟨b,u,rfl⟩:=tU hi hy
   rw [keyLt'_oneType]
   exact oneLt_int hr
  ·obtain ⟨e,he⟩:=sortedAll_at s.heap its out.toArray
   have ho:IntsAre out (out.map numOf):=intsAre_map out fun v hv=>tU hi (hperm.mem_iff.mp hv)
   have hm:(out.map numOf).Perm ns:=(hperm.map _).trans (List.Perm.of_eq hi.nums)
   have hml:(out.map numOf).length=ns.length:=hm.length_eq
   exact ⟨.ref (s.heap.objs.size+1),_,I.laid (t':=s.toks) (o:=.lst ((out.map numOf).map V.int)) (fun b ob q=>sortedAll_old q) (Nat.le_succ _) ⟨by rw [List.length_map];omega,out,e,CW ho,by simpa using he⟩,rfl,q _ _ (I.hok.fresh (Nat.le_succ _)) hm (List.pairwise_map.mpr hs)⟩
 ·obtain ⟨u,rfl,ru⟩:=vals1 r
  cases ru
  obtain ⟨hz,its,n,rv,g⟩:=I.hok p _ hp
  obtain rfl:=vy rv
  have tup:∀ a∈as,∃ its,IsTup s.heap a its.toArray∧IntsAre its (ct a)∧ct a≠[]:=fun a ha=>by
   obtain ⟨h1,h2⟩:=ht a ha
   obtain ⟨_,it,rt,tt⟩:=I.hok a _ h1
   exact ⟨it,tt,intsAre_of rt,h2⟩
  have tupK:∀ s':Shared,(∀ b o,s.heap.get? b=some o→s'.heap.get? b=some o)→∀ a∈as,∃ its,IsTup s'.heap a its.toArray∧IntsAre its (ct a)∧ct a≠[]:=fun s' hk a ha=>by
   obtain ⟨its,⟨o,go,rr⟩,h2⟩:=tup a ha
   exact ⟨its,⟨o,hk _ _ go,rr⟩,h2⟩
  refine qR (vs:=as.map Value.ref) (κ:=tuples' true) (rv:=fun v=>match v with | .ref a=>Do (as.map ct) (ct a) | _=>0) (fun A' Q' hq=>collect_list ⟨_,g,rfl,n,rfl⟩ hq (hsz:=by rw [List.length_map];omega)) (by rw [List.length_map];omega) ?_ ?_ fun out hperm hs=>?_
  ·intro h2 A' s' R hk hr
   exact zA (by rwa [List.length_map] at h2) (tupK s' hk) hr
  ·intro A' s' x y R E' hk hx hy hr
   obtain ⟨a,ha,rfl⟩:=List.mem_map.mp hx
   obtain ⟨b,hb,rfl⟩:=List.mem_map.mp hy
   obtain ⟨i1,t1,n1,_⟩:=tupK s' hk a ha
   obtain ⟨i2,t2,n2,_⟩:=tupK s' hk b hb
   refine Ux t1 t2 n1 n2 ?_
   rw [← Be (ts:=as.map ct) (List.mem_map.mpr ⟨a,ha,rfl⟩)]
   exact hr
  ·obtain ⟨e,he⟩:=sortedAll_at s.heap (as.map Value.ref) out.toArray
   obtain ⟨bs,rfl,hb⟩:=Dn hperm
   have hbl:=hb.length_eq
   refine ⟨.ref (s.heap.objs.size+1),_,I.laid (t':=s.toks) (o:=.lst (bs.map V.ref)) (fun b ob q=>sortedAll_old q) (Nat.le_succ _) ⟨by rw [List.length_map];omega,_,e,vz bs,by simpa using he⟩,rfl,q _ bs (I.hok.fresh (Nat.le_succ _)) hb ?_⟩
   rw [List.pairwise_map] at hs
   refine hs.imp_of_mem fun {a b} ha hb' hab=>?_
   have:=Be (ts:=as.map ct) (a:=ct b) (b:=ct a) (List.mem_map.mpr ⟨b,hb.mem_iff.mp hb',rfl⟩)
   rw [← this]
   exact decide_eq_false (by have:Do (as.map ct) (ct a)≤Do (as.map ct) (ct b):=hab;omega)
end
section
variable {H:Hp} {Q:VK}
theorem yd {p:Addr} {as:List Addr} (ct:Addr→List Int) (hp:H p=some (.lst (as.map V.ref))) (hn:as.length≤100000) (ht:∀ a∈as,H a=some (.tup ((ct a).map V.int))∧ct a≠[]) (h:∀ (q:Addr) (bs:List Addr) (H':Hp),H q=none→Same H H'→H' q=some (.lst (bs.map V.ref))→bs.Perm as→bs.Pairwise (fun a b=>HT.lexLt (ct b) (ct a)=false)→Q (.ref q) H'):Ho [.ref p] H Q:=
 .inr ⟨p,as,ct,rfl,hp,hn,ht,fun q bs nq a b=>h q bs _ nq ((Same.refl H).upd nq) ao a b⟩
end
end L2
namespace L2
open PySem PySem.Spec PyProof.Rows
end L2
namespace L2
open PySem PySem.Spec PyProof.Rows
def QK (K:PySem.W.Frag):R2:=fun x y H Q=>Qs K x y H Q∨Nb K x y H Q
section
variable {X:Cx}
theorem fB {K:PySem.W.Frag} (hK:X.K=K) (hu:X.A.units+64 < cLine):OpR X (compareOp .Eq) (QK K):=by
 subst hK
 exact (Qt rfl hu).or (KQ (Nat.lt_of_le_of_lt (Nat.le_add_right _ _) hu))
end
section
variable {H:Hp} {Q:VK} {K:PySem.W.Frag}
theorem Hq {i j:Int} (h:Q (.bl (decide (V.int i=V.int j))) H):QK K (.int i) (.int j) H Q:=.inl (mV h)
theorem lL {x y:V} {d e:PyData} (h1:DR H d x) (h2:DR H e y) (hs:PySem.SeqAt.shaped d=true) (hs2:PySem.SeqAt.shaped e=true) (h:Q (.bl (PyData.eqv d e)) H):QK K x y H Q:=.inl (.inl (.inl (Gs h1 h2 hs hs2 h)))
end
end L2
namespace L2
open PySem PySem.Spec PyProof.Rows
section
variable {X:Cx} {N':List Str} {scope:Scope} {C:Addr} {s₀:Shared} {H₀:Hp} {ex:List Addr} {x:Str} {pos:Pos}
end
end L2
namespace L2
open PySem PySem.Spec PyProof.Rows
def Nh:List V→Hp→VK→Prop:=fun xs H Q=>(∃ i j,xs=[.int i,.int j]∧Q (.int (if j < i then j else i)) H)∨(∃ i j k,xs=[.int i,.int j,.int k]∧∀ M,(M=i∨M=j∨M=k)→M≤i→M≤j→M≤k→Q (.int M) H)∨
 ∃ (p:Addr) (ns:List Int),xs=[.ref p]∧H p=some (.lst (ns.map V.int))∧ns≠[]∧∀ M,M∈ns→(∀ a∈ns,M≤a)→Q (.int M) H
section
variable {X:Cx}
theorem vals3 {v1 v2 v3:V} {us:List Value} (r:Vals [v1,v2,v3] us):∃ u1 u2 u3,us=[u1,u2,u3]∧RelV v1 u1∧RelV v2 u2∧RelV v3 u3:=by
 cases r with
 | cons a r=>cases r with
  | cons b r=>cases r with
   | cons c r=>
    cases r
    exact ⟨_,_,_,rfl,a,b,c⟩
theorem Dp (hc:X.calm=true):CallR X (.builtin "min") Nh:=by
 intro pins s σ H xs us Q I r h
 rcases h with h | ⟨i,j,k,rfl,q⟩ | ⟨p,ns,rfl,hp,hne,q⟩
 ·exact BR hc pins s σ H xs us Q I r h
 ·obtain ⟨u1,u2,u3,rfl,⟨t1,rfl⟩,⟨t2,rfl⟩,⟨t3,rfl⟩⟩:=vals3 r
  refine min_three_ints (I.ok.hd hc) fun h' tk hk=>?_
  have key:∀ (M:Int) (t:Tok),(M=i∨M=j∨M=k)→M≤i→M≤j→M≤k→EP X pins σ Q (.int M t) {s with heap:=h',toks:=tk}:=fun M t h0 h1 h2 h3=>⟨.int M,H,I.kept hk,⟨t,rfl⟩,q M h0 h1 h2 h3⟩
  by_cases hba:j < i <;> by_cases hc1:k < j <;> by_cases hc2:k < i <;> simp only [hba,hc1,hc2,if_true,if_false] <;> exact key _ _ (by omega) (by omega) (by omega) (by omega)
 ·obtain ⟨u,rfl,ru⟩:=vals1 r
  cases ru
  obtain ⟨hz,its,n,rv,g⟩:=I.hok p _ hp
  have hi:IntsAre its ns:=intsAre_of rv
  have hl:=rv.length
  obtain ⟨ys,ey⟩:=hi.allInts.items
  have hn:=hi.numsOf
  have hsz:0 < ys.size:=by
   have e1:=congrArg Array.size ey
   have:0 < ns.length:=List.length_pos_iff.mpr hne
   rw [List.length_map] at hl
   simp [intItems] at e1
   omega
  have hL:s.heap.IsList p (intItems ys):=⟨_,g,rfl,n,by rw [← ey]⟩
  have en:ys.toList.map (·.1)=ns:=by rw [← nums_intItems,← ey,← hn]
  refine min_intList (I.ok.hd hc) hL hsz fun v h' tk hv hk=>?_
  obtain ⟨t,rfl⟩:=intItems_at hv
  obtain ⟨h1,h2⟩:=argBest_lt (numAt ys) (ys.size - 1)
  refine ⟨.int _,H,I.kept hk,⟨t,rfl⟩,q _ ?_ fun a ha=>?_⟩
  ·rw [← en,numAt_eq];exact getD_mem (by rw [List.length_map,Array.length_toList];omega)
  ·rw [← en] at ha
   obtain ⟨j,hj,rfl⟩:=mem_getD ha
   rw [List.length_map,Array.length_toList] at hj
   rw [← numAt_eq];exact h2 j (by omega)
end
section
variable {H:Hp} {Q:VK}
theorem Bf {i j:Int} (h:Q (.int (if j < i then j else i)) H):Nh [.int i,.int j] H Q:=.inl ⟨_,_,rfl,h⟩
end
section
variable {sub:List (Option Nat)} {g:TG} {tt:TT} {te:TE} {σ:St} {Q:VK} {H:Hp} {K:PySem.W.Frag} {a b:Addr} {xs ys:List V}
theorem zB (Pv:Nat→List V→Hp→Prop) (hn:xs.length≤sizeLine) (h0:Pv 0 [] H) (hl:∀ i zs H,Pv i zs H→zs.length≤i) (hq:∀ i zs H,Pv i zs H→SqL K H a xs)
  (hs:∀ i zs H T x,xs[i]?=some x→Pv i zs H→H T=none→g (.ref T) (dG sub σ) (upd H T (.tup [.int i,x])) fun σ2 H2=>KeepSt (dG sub σ) σ2∧tt σ2 H2 fun b H3=>if b=true then te σ2 H3 fun y H4=>Pv (i+1) (zs ++ [y]) H4 else Pv (i+1) zs H3)
  (hd:∀ zs H D H',Pv xs.length zs H→H D=none→Same H H'→H' D=some (.lst zs)→Q (.ref D) H'):uP sub g tt te σ Q (Kh K a) H:=
 rC (n:=xs.length) Pv hn h0 hl (fun i zs H hi p=>⟨xs,xs[i],hq i zs H p,List.getElem?_eq_getElem hi⟩) (fun zs H p=>⟨xs,hq _ zs H p,Nat.le_refl _⟩) (fun i zs H x H' hi p y=>by
  obtain ⟨T,u,hT,e1,e2,e4⟩:=y
  subst e1 e4
  exact hs i zs H T u (e2 xs (hq i zs H p)) p hT) fun zs H p D nD=>hd zs H D _ p nD ((Same.refl H).upd nD) ao
end
end L2
namespace HT
open PySem PySem.Spec PyProof.Rows
section
variable {prog:Program} {w:World} {A:Around} {E:Value→Shared→Prop} {s:Shared}
theorem getItem_tuple_whole {t sl:Addr} {items:Array Value} {vl vu:Value} {lo hi:Option Int} {Q:Value→Shared→Prop} (ht:IsTup s.heap t items) (hs:s.heap.IsSliceOf sl vl vu .none) (pl:IsPart vl lo) (pu:IsPart vu hi)
  (hw:sIx items.size 0 lo=0∧sIx items.size items.size hi=items.size) (h:Q (.ref t) s):wpAny (model prog w) A (getItem (.ref t) (.ref sl)) Q E s:=by
 obtain ⟨os,hos,hcs,hds⟩:=id hs
 have hTs:s.TypeIs (.ref sl) "slice":=⟨os,hos,hcs⟩
 unfold getItem
 try with_reducible refine wpAny_holding ?_
 first | refine wpAny_bind (wpAny_pure ?_) | skip
 refine wpAny_bind (wpAny_sequenceKey ht.typeIs (by decide) ?_)
 refine wpAny_bind (wpAny_callSpecial?_slot (name:=Str.ofString "__getitem__") ht.typeIs PyProof.Rows.slot_tuple_getitem
  (wpAny_call_entry PyProof.Rows.slot_tuple_getitem ht.typeIs entry_tuple_getitem ?_ (args_tuple_getitem _ _)))
 show wpAny _ _ (Builtin.Tuple.tupleItemsOf (.ref t) >>=_) _ _ s
 refine wpAny_bind (tupleItemsOf_ ht ?_)
 refine wpAny_bind (wpAny_typeOf hTs ?_)
 rw [if_pos (by decide)]
 refine wpAny_bind (ji hs pl pu ?_)
 have hyes:((((sIx items.size 0 lo:Nat):Int) == 0 && (1:Int) == 1 && (sIx items.size items.size hi - sIx items.size 0 lo) == items.size)=true):=by
  rw [hw.1,hw.2];simp
 show wpAny _ _ (if (((sIx items.size 0 lo:Nat):Int) == 0 && (1:Int) == 1 && (sIx items.size items.size hi - sIx items.size 0 lo) == items.size)=true then _ else _) _ _ s
 rw [if_pos hyes]
 unfold Builtin.Tuple.tupleIsExact
 refine wpAny_bind (wpAny_bind (wpAny_typeOf ht.typeIs (wpAny_pure ?_)))
 rw [if_pos (by decide)]
 exact wpAny_bind (wpAny_rule (wpAny_pure ⟨_,rfl,wpAny_pure h⟩))
end
end HT
namespace L2
open PySem PySem.Spec PyProof.Rows
section
variable {X:Cx}
def Uy (K:PySem.W.Frag):V→Option Int→Option Int→Hp→VK→Prop:=fun x lo hi H Q=>∃ a xs,x= .ref a∧SqT K H a xs∧(HT.sIx xs.length 0 lo=0∧HT.sIx xs.length xs.length hi=xs.length)∧Q (.ref a) H
theorem K3:SlR X (Uy X.K):=by
 intro pins s σ H x v vl vu lo hi sl Q I rx hs pl pu h
 obtain ⟨a,xs,rfl,hx,hw,q⟩:=h
 cases rx
 obtain ⟨its,r,ht,hz⟩:=I.tuple hx
 have hlen:its.toArray.size=xs.length:=by rw [List.size_toArray];exact r.length.symm
 refine ⟨"tuple",_,PyProof.Rows.slot_tuple_getitem.lookup,ht.typeIs,?_⟩
 exact HT.getItem_tuple_whole ht hs pl pu (by rw [hlen];exact hw) ⟨.ref a,H,I,rfl,q⟩
def Uz (K:PySem.W.Frag):V→Option Int→Option Int→Hp→VK→Prop:=fun x lo hi H Q=>Wd K x lo hi H Q∨Uy K x lo hi H Q
theorem cU {K:PySem.W.Frag} (hK:X.K=K):SlR X (Uz K):=by
 subst hK
 exact FP.or K3
end
section
variable {H:Hp} {Q:VK} {K:PySem.W.Frag} {p:Addr} {xs:List V} {lo hi:Option Int}
theorem eG (hp:H p=some (.lst xs)) (h:∀ q H',H q=none→Same H H'→H' q=some (.lst (lR xs lo hi))→Q (.ref q) H'):Uz K (.ref p) lo hi H Q:=.inl (Gh (SqL.of hp) fun q nq=>h q _ nq ((Same.refl H).upd nq) ao)
end
theorem dM {xs:List V} {k:Nat}:lR xs (some (k:Int)) none=xs.drop k:=by
 unfold lR
 rw [HT.sIx_none,HT.sIx_nat]
 by_cases h:k≤xs.length
 ·rw [Nat.min_eq_left h,List.take_of_length_le (by rw [List.length_drop];omega)]
 ·rw [Nat.min_eq_right (by omega),List.drop_eq_nil_of_le (by omega),List.drop_eq_nil_of_le (by omega)];simp
theorem gK {xs:List V} {k:Nat}:lR xs none (some (k:Int))=xs.take k:=by
 unfold lR
 rw [HT.sIx_none,HT.sIx_nat,List.drop_zero,Nat.sub_zero]
 by_cases h:k≤xs.length
 ·rw [Nat.min_eq_left h]
 ·rw [Nat.min_eq_right (by omega),List.take_of_length_le (by omega),List.take_of_length_le (by omega)]
end L2
namespace My
open PySem L2
abbrev bV (d:Stmt) (x:Str):Prop:=(au d).names.lookup x=some NameKind.local
abbrev Hr (d:Stmt) (x:Str):Prop:=(au d).names.lookup x=some NameKind.cell
abbrev cM (d:Stmt) (x:Str):Prop:=(au d).names.lookup x=some NameKind.globalImplicit
def top (i:Nat):Stmt:=PySem.Challenge.pw_panethread_k12_heaps_spoilt.main.body.getD i (.Pass ⟨0,0,0,0⟩)
abbrev dN:Stmt:=top 7
abbrev fM:Stmt:=top 8
abbrev eU:Stmt:=top 10
abbrev gw:Stmt:=top 11
abbrev fO:Stmt:=top 12
abbrev dg:Stmt:=top 14
abbrev iC:Stmt:=top 15
abbrev cu:Stmt:=top 17
abbrev dm:Stmt:=top 18
abbrev aU:Stmt:=top 19
abbrev bF:Stmt:=top 20
abbrev bz:Stmt:=top 21
abbrev gA:Stmt:=top 23
abbrev gM:Stmt:=top 24
abbrev fG:Stmt:=top 25
abbrev bD:Stmt:=top 26
abbrev cV:Stmt:=top 27
abbrev fP:Stmt:=top 28
abbrev bI:Stmt:=top 29
abbrev cC:Stmt:=top 30
abbrev bx:Stmt:=top 31
abbrev dO:Stmt:=top 32
abbrev bM:Stmt:=top 33
abbrev aF:Stmt:=top 34
abbrev dq:Stmt:=top 35
abbrev bJ:Stmt:=top 36
abbrev aQ:Stmt:=top 37
abbrev aY:Stmt:=top 38
abbrev bN:Stmt:=top 39
abbrev cW:Stmt:=top 40
abbrev o4:Stmt:=initOf (top 2)
local macro_rules | `(tactic| walk_at "sts") => `(tactic| (with_reducible repeat (first | refine Cu ?_ | refine jn ?_ | refine xj ?_ | refine vo ?_ | refine vp ?_ | refine qp ?_ | refine qt ?_ | (refine' uZ ?hz0 ?_; (case hz0 => with_unfolding_all rfl)) | refine R0 ?_ | refine CJ ?_ | refine p7 ?_ | refine pR ?_ | refine u0 ?_ | refine Ga ?_ | refine uU ?_ | refine pM ?_ | refine uW ?_ | refine pL ?_ | refine Cp ?_ | refine pO ?_ | refine CK ?_ | refine Cw ?_ | refine pU ?_ | refine Cq ?_ | refine uX ?_ | refine uY ?_ | refine Cr ?_ | refine pP ?_ | refine pQ ?_ | refine uV ?_ | refine pN ?_ | refine Cv ?_ | refine Ag ?_ | refine Ai ?_ | refine Cy ?_ | refine u5 ?_ | refine Cz ?_ | refine u6 ?_ | refine pW ?_ | refine pX ?_ | refine pY ?_ | refine pZ ?_ | refine p6 ?_ | refine u9 ?_ | refine R6 ?_ | refine lg ?_ | refine qg ?_ | (refine' gU (SqT.of ?hz0) ?hz1 ?_; (case hz0 => first | assumption | exact ao); (case hz1 => rfl)) | refine lC ?_ | refine lE ?_ | refine lD ?_ | refine qm ?_ | refine mU ?_ | refine mV ?_ | refine CN ?_ | refine mL ?_ | refine qi ?_ | refine mO ?_ | refine mQ ?_ | refine mR ?_ | refine lw ?_ | refine sV ?_ | refine qd ?_ | (refine' R5 ?hz0 ?_; (case hz0 => with_unfolding_all first | assumption | omega | (dsimp only <;> omega) | exact ⟨by omega, by omega⟩ | exact .inl ⟨by omega, by omega⟩ | exact .inr ⟨by omega, by omega⟩ | exact ⟨by decide, by decide, by decide⟩)) | (refine' p8 ?hz0 ?_; (case hz0 => with_unfolding_all first | assumption | omega | (dsimp only <;> omega) | exact ⟨by omega, by omega⟩ | exact .inl ⟨by omega, by omega⟩ | exact .inr ⟨by omega, by omega⟩ | exact ⟨by decide, by decide, by decide⟩)) | (refine' bh (SqL.of ?hz0) ?hz1 ?_; (case hz0 => first | assumption | exact ao); (case hz1 => with_unfolding_all rfl)) | (refine' vd (SqT.of ?hz0) ?hz1 ?_; (case hz0 => first | assumption | exact ao); (case hz1 => with_unfolding_all rfl)) | (refine' mF ?hz0 ?hz1 ?_; (case hz0 => first | assumption | exact ao); (case hz1 => with_unfolding_all rfl)) | refine v7 ?_ | refine rE ?_)))
local macro_rules | `(tactic| walk_at "stn") => `(tactic| (with_reducible repeat (first | refine Cu ?_ | refine jn ?_ | refine xj ?_ | refine vo ?_ | refine vp ?_ | refine qp ?_ | refine qt ?_ | (refine' uZ ?hz0 ?_; (case hz0 => with_unfolding_all rfl)) | refine R0 ?_ | refine CJ ?_ | refine p7 ?_ | refine pR ?_ | refine u0 ?_ | refine uU ?_ | refine pM ?_ | refine uW ?_ | refine pL ?_ | refine Cp ?_ | refine pO ?_ | refine CK ?_ | refine Cw ?_ | refine pU ?_ | refine Cq ?_ | refine uX ?_ | refine uY ?_ | refine Cr ?_ | refine pP ?_ | refine pQ ?_ | refine uV ?_ | refine pN ?_ | refine Cv ?_ | refine Ag ?_ | refine Ai ?_ | refine Cy ?_ | refine u5 ?_ | refine Cz ?_ | refine u6 ?_ | refine pW ?_ | refine pX ?_ | refine pY ?_ | refine pZ ?_ | refine p6 ?_ | refine u9 ?_ | refine R6 ?_ | refine lg ?_ | refine qg ?_ | (refine' gU (SqT.of ?hz0) ?hz1 ?_; (case hz0 => first | assumption | exact ao); (case hz1 => rfl)) | refine lC ?_ | refine lE ?_ | refine lD ?_ | refine qm ?_ | refine mU ?_ | refine mV ?_ | refine CN ?_ | refine mL ?_ | refine qi ?_ | refine mO ?_ | refine mQ ?_ | refine mR ?_ | refine lw ?_ | refine sV ?_ | refine qd ?_ | (refine' R5 ?hz0 ?_; (case hz0 => with_unfolding_all first | assumption | omega | (dsimp only <;> omega) | exact ⟨by omega, by omega⟩ | exact .inl ⟨by omega, by omega⟩ | exact .inr ⟨by omega, by omega⟩ | exact ⟨by decide, by decide, by decide⟩)) | (refine' p8 ?hz0 ?_; (case hz0 => with_unfolding_all first | assumption | omega | (dsimp only <;> omega) | exact ⟨by omega, by omega⟩ | exact .inl ⟨by omega, by omega⟩ | exact .inr ⟨by omega, by omega⟩ | exact ⟨by decide, by decide, by decide⟩)) | (refine' bh (SqL.of ?hz0) ?hz1 ?_; (case hz0 => first | assumption | exact ao); (case hz1 => with_unfolding_all rfl)) | (refine' vd (SqT.of ?hz0) ?hz1 ?_; (case hz0 => first | assumption | exact ao); (case hz1 => with_unfolding_all rfl)) | (refine' mF ?hz0 ?hz1 ?_; (case hz0 => first | assumption | exact ao); (case hz1 => with_unfolding_all rfl)) | refine v7 ?_ | refine rE ?_)))
def mx (i j:Int):Int:=if j > i then j else i
def lt (S P:List Nat) (i j:Nat):Int:=match i,j with
 | 0,_=>0
 | _+1,0=>0
 | i+1,j+1=>if S[i]?=P[j]? then mx (mx (lt S P i (j+1)) (lt S P (i+1) j)) (lt S P i j+1) else mx (lt S P i (j+1)) (lt S P (i+1) j)
termination_by i+j
theorem lt_0 (S P:List Nat) (j:Nat):lt S P 0 j=0:=by rw [lt]
theorem Dq (S P:List Nat) (i:Nat):lt S P i 0=0:=by cases i <;> rw [lt]
theorem zE (S P:List Nat) (i j:Nat):lt S P (i+1) (j+1)=if S[i]?=P[j]? then mx (mx (lt S P i (j+1)) (lt S P (i+1) j)) (lt S P i j+1) else mx (lt S P i (j+1)) (lt S P (i+1) j):=by rw [lt]
def jP (S P:List Nat) (i n:Nat):List Int:=(List.range n).map (lt S P i)
theorem ye (S P:List Nat) (i n:Nat):(jP S P i n).length=n:=by simp [jP]
theorem Bg {S P:List Nat} {i n j:Nat} (h:j < n):(jP S P i n)[j]?=some (lt S P i j):=by
 unfold jP
 rw [List.getElem?_map,List.getElem?_range h];rfl
theorem qy (S P:List Nat) (i n:Nat):jP S P i (n+1)=jP S P i n ++ [lt S P i n]:=by
 unfold jP
 rw [List.range_succ,List.map_append];rfl
def tV:Str:=Str.ofString "abcdefghijklmnopqrstuvwxyz"
def GOOD:List Nat:=(tV ++ Str.ofString ".").cps.toList
def Row (z:Str):Prop:=z.length≤48∧∀ c∈z.cps.toList,c∈GOOD
def Ds (l:Str) (c:Nat):Bool:=(Builtin.Str.occurrences l ⟨#[c]⟩ 0 l.length 1).isEmpty
theorem K4:∀ c∈GOOD,Ds (tV ++ Str.ofString ".") c=false:=by decide+kernel
def QL (K:PySem.W.Frag):Sp:=fun vs H Q _=>∃ (a:Addr) (ns:List Int) (k:Int),vs=[.ref a,.int k]∧SqL K H a (ns.map V.int)∧0≤k∧∀ n,Q (.int n) H
def K5:Sp:=fun vs H Q _=>∃ n:Int,vs=[.int n]∧∀ p H',H p=none→Chg p H H'→Pur H' p→Q (.ref p) H'
def QM:Sp:=fun vs H Q _=>∃ (p:Addr) (n:Int),vs=[.ref p,.int n]∧Pur H p∧0 < n∧n < 1073741824∧∀ d H',0≤d→d < n→Pur H' p→Chg p H H'→Q (.int d) H'
def GoodS (ys:List Str):Prop:=∀ y∈ys,∃ c,y=⟨#[c]⟩∧c∈GOOD
theorem GoodS.ones {ys:List Str} (h:GoodS ys):∀ y∈ys,y.length=1:=fun y hy=>by
 obtain ⟨c,rfl,_⟩:=h y hy
 exact len1 c
theorem Dt:∀ c∈(Str.ofString "abcdefghijklmnopqrstuvwxyz").cps.toList,c∈GOOD:=by decide+kernel
theorem QQ {zs:List Str} (h:GoodS zs) (hl:zs.length≤48):Row (Txt.join (Str.ofString "") zs):=by
 refine ⟨by rw [Ge h.ones];exact hl,fun c hc=>?_⟩
 rw [xG] at hc
 obtain ⟨l,hl1,hl2⟩:=List.mem_flatten.mp hc
 obtain ⟨y,hy,e⟩:=List.mem_map.mp hl1
 obtain ⟨d,rfl,hd⟩:=h y hy
 subst e
 simp at hl2
 subst hl2
 exact hd
def Du:Sp:=fun vs H Q _=>∃ (p:Addr),vs=[.ref p]∧Pur H p∧∀ (q:Addr) (ys:List Str) (H':Hp),H q=none→Pur H' p→Chg p H H'→H' q=some (.lst (ys.map V.str))→ys≠[]→ys.length≤26→GoodS ys→Q (.ref q) H'
def K6:Sp:=fun vs H Q _=>∃ (p q:Addr) (ys:List Str) (m:Int),vs=[.ref p,.ref q,.int m]∧Pur H p∧H q=some (.lst (ys.map V.str))∧ys≠[]∧ys.length≤27∧GoodS ys∧0≤m∧m≤48∧
 ∀ (z:Str) (H':Hp),Row z→Pur H' p→Chg p H H'→Q (.str z) H'
theorem over {H H':Hp} {r:Addr} {o:HO} (s:Same H H') (hn:H r=none):Same H (upd H' r o):=fun b u e=>by
 rw [aB (fun z=>by rw [z,hn] at e;cases e)];exact s b u e
theorem QR {S P:List Nat} {i n j:Nat} (h:j < n):nR ((jP S P i n).map V.int) (j:Int)=some (.int (lt S P i j)):=by
 refine rB ?_
 rw [List.getElem?_map,Bg h];rfl
def Thing (K:PySem.W.Frag) (H:Hp) (v:V):Prop:=(∃ z,v= .str z∧z.length≤5000)∨∃ T,jT K H v (.type T)∧PySem.W.kitOne K (.type T) (.type "str")=some false
def among (z l:Str):Bool:=z.cps.toList.all fun c=>!(Builtin.Str.occurrences l ⟨#[c]⟩ 0 l.length 1).isEmpty
def mq (v:V) (l:Str) (m:Int):Bool:=match v with
 | .str z=>decide ((z.length:Int)≤m) && among z l
 | _=>false
def spIs (K:PySem.W.Frag) (l:Str) (m:Int):Sp:=fun vs H Q _=>∃ (v:V),vs=[v]∧Thing K H v∧∀ H',Same H H'→Q (.bl (mq v l m)) H'
structure Txt (K:PySem.W.Frag) (mg:Str→Option Value):Prop where
 b_all:mg "all"=none
 b_any:mg "any"=none
 b_bool:mg "bool"=none
 b_enumerate:mg "enumerate"=none
 b_int:mg "int"=none
 b_isinstance:mg "isinstance"=none
 b_len:mg "len"=none
 b_list:mg "list"=none
 b_max:mg "max"=none
 b_min:mg "min"=none
 b_range:mg "range"=none
 b_repr:mg "repr"=none
 b_sorted:mg "sorted"=none
 b_str:mg "str"=none
 b_tuple:mg "tuple"=none
 c_LETTERS:∃ t,mg "LETTERS"=some (.str "abcdefghijklmnopqrstuvwxyz" t)
 c_MOST_SIGNS:∃ t,mg "MOST_SIGNS"=some (.int 48 t)
 c_POINT:∃ t,mg "POINT"=some (.str "." t)
 d_is_number:eO K mg "is_number" dN
 d_is_pair:eO K mg "is_pair" fM
 d_is_row:eO K mg "is_row" eU
 d_need_row:eO K mg "need_row" gw
 d_need_rows:eO K mg "need_rows" fO
 d_is_match:eO K mg "is_match" dg
 d_is_ahead:eO K mg "is_ahead" iC
 d_pairs_of:eO K mg "pairs_of" cu
 d_is_stack:eO K mg "is_stack" dm
 d_holds_all_once:eO K mg "holds_all_once" aU
 d_has_one_ahead:eO K mg "has_one_ahead" bF
 d_are_heaps:eO K mg "are_heaps" bz
 d_law_cell:eO K mg "_law_cell" gA
 d_law_purse:eO K mg "_law_purse" gM
 d_law_take:eO K mg "_law_take" fG
 d_law_letters:eO K mg "_law_letters" bD
 d_law_drawn:eO K mg "_law_drawn" cV
 d_law_row:eO K mg "_law_row" fP
 d_law_table:eO K mg "_law_table" bI
 d_law_pairs:eO K mg "_law_pairs" cC
 d_law_levels:eO K mg "_law_levels" bx
 d_law_whole:eO K mg "_law_whole" dO
 d_law_is_heap:eO K mg "_law_is_heap" bM
 d_law_are_heaps:eO K mg "_law_are_heaps" aF
 d_law_pair:eO K mg "_law_pair" dq
 d_law_moved:eO K mg "_law_moved" bJ
 d_law_spoilt:eO K mg "_law_spoilt" aQ
 d_law_right:eO K mg "_law_right" aY
 d_law_changed:eO K mg "_law_changed" bN
 d_law:eO K mg "law" cW
 x_NoRow:Kv K mg "NoRow" ["found"] "NoRow.__init__" o4
section
variable {P:Program} {w:World} {K:PySem.W.Frag} {mg:Str→Option Value} {base:Heap}
theorem yf:(["sign"]:List Str).Nodup:=by decide+kernel
theorem kz00:cM gw "is_row":=by decide+kernel
theorem UG:bV gw "thing":=by decide+kernel
theorem kz02:cM gw "NoRow":=by decide+kernel
theorem UJ:cM fO "need_row":=by decide+kernel
theorem kz04:bV fO "top":=by decide+kernel
theorem kz05:bV fO "side":=by decide+kernel
theorem uA:bV o4 "self":=by decide+kernel
theorem tW:bV o4 "found":=by decide+kernel
theorem kz06:cM eU "all":=by decide+kernel
theorem QS:bV eU "thing":=by decide+kernel
theorem kz08:cM eU "len":=by decide+kernel
theorem kz09:cM eU "MOST_SIGNS":=by decide+kernel
theorem kz0a:cM eU "isinstance":=by decide+kernel
theorem kz0b:cM eU "str":=by decide+kernel
def RB (v:V):Bool:=mq v (tV ++ Str.ofString ".") 48
def mZ (z:Str):Prop:=z.length≤48∧RB (.str z)=true
def bf (v u:V):Option V:=if RB v=true then (if RB u=true then none else some u) else some v
theorem QT {H:Hp} {v:V} {ty:String} {l:Str} {m:Int} (h:jT K H v (.type ty)) (k:PySem.W.kitOne K (.type ty) (.type "str")=some false):mq v l m=false:=by
 cases v with
 | str z=>
  cases h
  have:PySem.W.kitOne K (.type "str") (.type "str")=some true:=rfl
  rw [this] at k;cases k
 | _=>rfl
theorem Dv:aP ["thing"] ["thing"] (au eU):=⟨rfl,rfl,rfl,by decide+kernel,rfl,by decide+kernel,by decide+kernel⟩
theorem tX (T:Txt K mg):nO P w K mg base 1 "is_row" ["thing"] (spIs K (tV ++ Str.ofString ".") 48):=by
 refine gR T.d_is_row Dv (fun _ _ _ _ _ _ us hl=>L2.uv (fun _=>rfl) us hl) ?_ fun f cdv A outer s H vs Q E hr h=>?_
 ·rintro vs H Q E ⟨p,rfl,_⟩;rfl
 obtain ⟨v,rfl,hT,q⟩:=h
 have hu:=hr.units0
 have hu64:=hr.units
 refine ⟨_,(aq (bZ (mj (jH (c7 (cG (aM (cL (K:=K) rfl) (bL kz0a) T.b_isinstance bw (aa (ak 0 QS) (aa (qZ (bL kz0b) T.b_str PK (by decide+kernel) (by decide+kernel)) aj)) (by decide+kernel) (by decide+kernel)))) (jo (bW Em (aM (bH (K:=K) rfl) (bL kz08) T.b_len dz (aa (ak 0 QS) aj) (by decide+kernel) (by decide+kernel)) (PX (bL kz09) T.c_MOST_SIGNS (by decide+kernel)) (by first | exact aW _ | with_unfolding_all rfl))))) (aA (aG gJ)) bC) (aA (aG (aM (sJ rfl) (bL kz06) T.b_all yX (aa (iZ (sub:=[none]) (cQ (N:=["thing"]) (sc:=au eU) (N':=["sign"]) (by decide+kernel)) rfl rfl rfl (dB (K:=K) rfl (ak 0 QS)) (fun C s₀ H₀ ex=>(mJ 0 (by decide+kernel) yf)) (fun C s₀ H₀ ex=>fc) (fun C s₀ H₀ ex=>(jX (GJ (K:=K) rfl hu64) (g8 0 (by decide+kernel)) (bu aH (Gj (J9 (by decide+kernel)) T.c_LETTERS (by decide+kernel)) (Gj (J9 (by decide+kernel)) T.c_POINT (by decide+kernel))) (by first | exact aW _ | with_unfolding_all rfl)))) aj) (by decide+kernel) (by decide+kernel))))),?_⟩
 walk_at "sts"
 rcases hT with ⟨z,rfl,hz⟩ | ⟨ty,hty,hk⟩
 ·have hz1:z.length≤sizeLine:=Nat.le_trans hz (by decide)
  refine cB (.str z) rfl ?_
  walk_at "sts"
  try with_reducible refine xj ?_
  walk_at "sts"
  refine mH hz1 ?_
  walk_at "sts"
  refine jM (fun h1=>?_) (fun h1=>?_)
  ·walk_at "sts"
   have:mq (.str z) (tV ++ Str.ofString ".") 48=false:=by
    unfold mq
    dsimp only
    rw [decide_eq_false (by omega)];rfl
   have q':=q H (Same.refl H)
   rw [this] at q'
   exact q'
  ·walk_at "sts"
   refine .inr (.inr ⟨z,rfl,?_⟩)
   refine Gi (fun i us H'=>H'=H∧us=((z.cps.toList.take i).map fun c=>!Ds (tV ++ Str.ofString ".") c).map V.bl) hz1 ⟨rfl,rfl⟩ ?_ ?_ ?_
   ·rintro i us H' ⟨rfl,rfl⟩
    simp;omega
   ·rintro i us H' c hc ⟨rfl,rfl⟩
    walk_at "sts"
    refine ⟨KeepSt.set rfl,?_⟩
    walk_at "sts"
    try with_reducible refine jn ?_
    walk_at "sts"
    refine PN (Nat.le_trans (show (Str.ofString "abcdefghijklmnopqrstuvwxyz").length+(Str.ofString ".").length≤1000 by decide+kernel) (by decide)) ?_
    walk_at "sts"
    refine ⟨rfl,?_⟩
    rw [List.take_add_one,hc]
    simp [tV,Ds]
   ·rintro us H' ⟨rfl,rfl⟩ D hD
    walk_at "sts"
    refine ⟨D,_,rfl,ao,?_⟩
    have e1:z.cps.toList.take z.cps.size=z.cps.toList:=List.take_of_length_le (by simp)
    have e2:mq (.str z) (tV ++ Str.ofString ".") 48=(List.map (fun c=>!Ds (tV ++ Str.ofString ".") c) (z.cps.toList.take z.cps.size)).all id:=by
     unfold mq
     dsimp only
     rw [decide_eq_true (by omega),Bool.true_and,e1,List.all_map];rfl
    have q':=q _ ((Same.refl H').upd hD (o:=.lst (List.map V.bl (List.map (fun c=>!Ds (tV ++ Str.ofString ".") c) (List.take z.cps.size z.cps.toList)))))
    rw [e2] at q'
    exact q'
 ·refine cB hty hk ?_
  walk_at "sts"
  try with_reducible refine jn ?_
  walk_at "sts"
  try with_reducible refine jn ?_
  walk_at "sts"
  have q':=q H (Same.refl H)
  rw [QT hty hk] at q'
  exact q'
theorem Dw:aP ["self","found"] ["self","found"] (au o4):=⟨rfl,rfl,rfl,by decide+kernel,rfl,by decide+kernel,by decide+kernel⟩
theorem Hs (T:Txt K mg):Ur P w K mg base 1 "NoRow" (fX mg "NoRow") ["found"]:=mkX T.x_NoRow Dw (fun _ _ _ _ _ _ us hl=>L2.rT (fun _ _=>rfl) us hl) rfl fun f cdv A outer s H vs Q E hr h=>⟨_,(aA (Kw (K:=K) rfl (ak 0 uA) (ak 1 tW))),rd1 T.x_NoRow.c.cl.cls (T.x_NoRow.na _ (by simp)) h⟩
def K7 (K:PySem.W.Frag) (mg:Str→Option Value):Sp:=fun vs H Q E=>∃ v:V,vs=[v]∧Thing K H v∧(RB v=true→∀ H',Same H H'→Q .non H')∧
 (RB v=false→∀ e H',Same H H'→Sg H' e (fX mg "NoRow") [("found",v)]→E (.ref (fX mg "NoRow")) (some e) H')
theorem yg:aP ["thing"] ["thing"] (au gw):=⟨rfl,rfl,rfl,by decide+kernel,rfl,by decide+kernel,by decide+kernel⟩
theorem jA (T:Txt K mg):zf P w K mg base 3 "need_row" ["thing"] (K7 K mg):=by
 have tX:=tX (P:=P) (w:=w) (base:=base) T
 refine Ax T.d_need_row yg (fun _ _ _ _ _ _ us hl=>L2.uv (fun _=>rfl) us hl) ?_ fun f cdv A outer s H vs Q E hr h=>?_
 ·rintro vs H Q E ⟨v,rfl,_⟩;rfl
 obtain ⟨v,rfl,hT,q1,q2⟩:=h
 have hu:=hr.units0
 have hu64:=hr.units
 refine ⟨_,(aA (bZ (c7 (cG (aL tX (hr.mono (by decide)) (bL kz00) (aa (ak 0 UG) aj) (by decide+kernel)))) (aA (GD (Hs (P:=P) (w:=w) (base:=base) T) (hr.mono (by decide)) rfl (bL kz02) j0 (aa (ak 0 UG) aj) (by decide+kernel))) bC)),?_⟩
 walk_at "sts"
 refine ⟨v,rfl,hT,fun H1 S1=>?_⟩
 cases hb:mq v (tV ++ Str.ofString ".") 48 with
 | true=>
  walk_at "sts"
  try with_reducible refine xj ?_
  walk_at "sts"
  exact q1 hb _ S1
 | false=>
  walk_at "sts"
  try with_reducible refine jn ?_
  walk_at "sts"
  exact ⟨rfl,(show 1≤sizeLine by decide),fun x H2 S2 X2=>q2 hb x H2 (S1.trans S2) X2⟩
def spX (K:PySem.W.Frag) (mg:Str→Option Value) (g:Str→Str→Hp→VK→Prop):Sp:=fun vs H Q E=>∃ v u:V,vs=[v,u]∧Thing K H v∧Thing K H u∧
 (∀ w,bf v u=some w→∀ e H',Same H H'→Sg H' e (fX mg "NoRow") [("found",w)]→E (.ref (fX mg "NoRow")) (some e) H')∧
 (∀ side top:Str,v= .str side→u= .str top→mZ side→mZ top→g side top H Q)
theorem Ht {v:V} (h:RB v=true):∃ z,v= .str z∧mZ z:=by
 cases v with
 | str z=>
  refine ⟨z,rfl,?_,h⟩
  unfold RB mq at h
  simp only [Bool.and_eq_true,decide_eq_true_eq] at h
  omega
 | _=>cases h
theorem QV {z:Str} (h:Row z):RB (.str z)=true:=by
 unfold RB mq
 simp only [Bool.and_eq_true,decide_eq_true_eq]
 refine ⟨by have:=h.1;omega,List.all_eq_true.mpr fun c hc=>?_⟩
 have:=K4 c (h.2 c hc)
 unfold Ds at this
 rw [this];rfl
theorem Row.b {z:Str} (h:Row z):mZ z:=⟨h.1,QV h⟩
theorem lM {H:Hp} {z:Str} (h:mZ z):Thing K H (.str z):=.inl ⟨z,rfl,by have:=h.1;omega⟩
theorem Bh {z y:Str} (h:mZ z) (h':mZ y):bf (.str z) (.str y)=none:=by
 unfold bf;rw [if_pos h.2,if_pos h'.2]
theorem spX.good {g:Str→Str→Hp→VK→Prop} {H:Hp} {Q:VK} {E:XK} {z y:Str} (h:mZ z) (h':mZ y) (q:g z y H Q):spX K mg g [.str z,.str y] H Q E:=
 ⟨_,_,rfl,lM h,lM h',(fun w e=>by rw [Bh h h'] at e;cases e),fun s t e1 e2 _ _=>by cases e1;cases e2;exact q⟩
def gNon:Str→Str→Hp→VK→Prop:=fun _ _ H Q=>∀ H',Same H H'→Q .non H'
theorem Thing.same {H H':Hp} {v:V} (h:Thing K H v) (s:Same H H'):Thing K H' v:=by
 rcases h with h | ⟨T,t,k⟩
 ·exact .inl h
 ·refine .inr ⟨T,?_,k⟩
  cases t with
  | non=>exact .non
  | bl x=>exact .bl x
  | int i=>exact .int i
  | str x=>exact .str x
  | flt x=>exact .flt x
  | lst e=>exact .lst (s _ _ e)
  | frz e=>exact .frz (s _ _ e)
  | tup e=>exact .tup (s _ _ e)
  | dK e=>exact .dK (s _ _ e)
  | dT e=>exact .dT (s _ _ e)
theorem wk:aP ["side","top"] ["side","top"] (au fO):=⟨rfl,rfl,rfl,by decide+kernel,rfl,by decide+kernel,by decide+kernel⟩
theorem fQ (T:Txt K mg):zf P w K mg base 4 "need_rows" ["side","top"] (spX K mg gNon):=by
 have jA:=jA (P:=P) (w:=w) (base:=base) T
 refine Ax T.d_need_rows wk (fun _ _ _ _ _ _ us hl=>L2.rT (fun _ _=>rfl) us hl) ?_ fun f cdv A outer s H vs Q E hr h=>?_
 ·rintro vs H Q E ⟨v,u,rfl,_⟩;rfl
 obtain ⟨v,u,rfl,hv,hu',qx,q⟩:=h
 have hu:=hr.units0
 have hu64:=hr.units
 refine ⟨_,(aq (dX (lB jA (hr.mono (by decide)) (bL UJ) j0 (aa (ak 0 kz05) aj) (by decide+kernel))) (aA (dX (lB jA (hr.mono (by decide)) (bL UJ) j0 (aa (ak 1 kz04) aj) (by decide+kernel))))),?_⟩
 walk_at "sts"
 refine ⟨v,rfl,hv,fun hb H1 S1=>?_,fun hb e H' S X=>qx v (by unfold bf;rw [if_neg (by rw [hb];decide)]) e H' S X⟩
 walk_at "sts"
 refine ⟨u,rfl,hu'.same S1,fun hb2 H2 S2=>?_,fun hb2 e H' S X=>qx u (by unfold bf;rw [if_pos hb,if_neg (by rw [hb2];decide)]) e H' (S1.trans S) X⟩
 walk_at "sts"
 obtain ⟨z,rfl,hz⟩:=Ht hb
 obtain ⟨y,rfl,hy⟩:=Ht hb2
 exact q z y rfl rfl hz hy _ (S1.trans S2)
structure Tab (H:Hp) (t:Addr) (rs:List Addr) (rows:List (List Int)):Prop where
 at_:H t=some (.lst (rs.map V.ref))
 len:rs.length=rows.length
 nd:rs.Nodup
 ne:t ∉ rs
 row:∀ (i:Nat) (r:Addr) (xs:List Int),rs[i]?=some r→rows[i]?=some xs→H r=some (.lst (xs.map V.int))
theorem zeros (S P:List Nat) (n:Nat):(List.replicate n [V.int 0]).flatten=(jP S P 0 n).map V.int:=by
 induction n with
 | zero=>rfl
 | succ n ih=>
  rw [qy,List.map_append,← ih,lt_0,List.replicate_succ',List.flatten_append];rfl
theorem wu {α:Type} {xs:List α} {n:Nat} {v:α} (h:xs.length=n+1) (e:xs[n]?=some v):nR xs (-1)=some v:=by
 unfold nR z8
 rw [h,if_neg (by omega),if_pos (by omega)]
 show xs[((-1:Int)+((n+1:Nat):Int)).toNat]?=some v
 rw [show ((-1:Int)+((n+1:Nat):Int)).toNat=n by omega];exact e
def j7 (S P:List Nat) (m n:Nat):List (List Int):=(List.range m).map fun i=>jP S P i n
end
theorem K8 (i j:Int):i≤mx i j:=by unfold mx;split <;> omega
theorem QW (i j:Int):j≤mx i j:=by unfold mx;split <;> omega
theorem qT {i j k:Int} (h:i≤k) (h':j≤k):mx i j≤k:=by unfold mx;split <;> omega
theorem Ni (S P:List Nat) (i j:Nat):lt S P i j≤lt S P (i+1) j:=by
 cases j with
 | zero=>rw [Dq,Dq];exact Int.le_refl _
 | succ j=>
  rw [zE]
  split
  ·exact Int.le_trans (K8 _ _) (K8 _ _)
  ·exact K8 _ _
theorem Nj (S P:List Nat) (i j:Nat):lt S P i j≤lt S P i (j+1):=by
 cases i with
 | zero=>rw [lt_0,lt_0];exact Int.le_refl _
 | succ i=>
  rw [zE S P i j]
  split
  ·exact Int.le_trans (QW _ _) (K8 _ _)
  ·exact QW _ _
theorem Bj (S P:List Nat):∀ (n i j:Nat),i+j≤n→lt S P (i+1) j≤lt S P i j+1∧lt S P i (j+1)≤lt S P i j+1
 | n,i,j,h=>by
  have key1:lt S P (i+1) j≤lt S P i j+1:=by
   cases j with
   | zero=>rw [Dq,Dq];omega
   | succ j=>
    cases n with
    | zero=>omega
    | succ n=>
     have a:=(Bj S P n i j (by omega)).1
     have b:=Nj S P i j
     rw [zE]
     split
     ·exact qT (qT (by omega) (by omega)) (by omega)
     ·exact qT (by omega) (by omega)
  have key2:lt S P i (j+1)≤lt S P i j+1:=by
   cases i with
   | zero=>rw [lt_0,lt_0];omega
   | succ i=>
    cases n with
    | zero=>omega
    | succ n=>
     have a:=(Bj S P n i j (by omega)).2
     have b:=Ni S P i j
     rw [zE]
     split
     ·exact qT (qT (by omega) (by omega)) (by omega)
     ·exact qT (by omega) (by omega)
  exact ⟨key1,key2⟩
theorem Bk {S P:List Nat} {i j:Nat} (h:S[i]?=P[j]?):lt S P (i+1) (j+1)=lt S P i j+1:=by
 have a:=Bj S P (i+j) i j (Nat.le_refl _)
 rw [zE,if_pos h]
 have l:mx (mx (lt S P i (j+1)) (lt S P (i+1) j)) (lt S P i j+1)≤lt S P i j+1:=qT (qT a.2 a.1) (Int.le_refl _)
 have r:=QW (mx (lt S P i (j+1)) (lt S P (i+1) j)) (lt S P i j+1)
 omega
theorem QX (S P:List Nat) (i j k:Nat):lt S P i j≤lt S P (i+k) j:=by
 induction k with
 | zero=>exact Int.le_refl _
 | succ k ih=>exact Int.le_trans ih (Ni S P (i+k) j)
theorem QZ (S P:List Nat) (i j k:Nat):lt S P i j≤lt S P i (j+k):=by
 induction k with
 | zero=>exact Int.le_refl _
 | succ k ih=>exact Int.le_trans ih (Nj S P i (j+k))
theorem Hu {S P:List Nat} {i j i' j':Nat} (h:i≤i') (h':j≤j'):lt S P i j≤lt S P i' j':=by
 obtain ⟨k,rfl⟩:=Nat.le.dest h
 obtain ⟨l,rfl⟩:=Nat.le.dest h'
 exact Int.le_trans (QX S P i j k) (QZ S P (i+k) j l)
theorem Nk (S P:List Nat) (i j:Nat):0≤lt S P i j:=by
 have:=Hu (S:=S) (P:=P) (Nat.zero_le i) (Nat.le_refl j)
 rwa [lt_0] at this
theorem zF (S P:List Nat):∀ (i j:Nat),lt S P i j≤i
 | 0,j=>by rw [lt_0];omega
 | i+1,j=>by
  have a:=(Bj S P (i+j) i j (Nat.le_refl _)).1
  have b:=zF S P i j
  omega
abbrev PP:=Nat×Nat
def pD (p:PP):PyData:=.tuple [.int p.1,.int p.2]
def o5 (S P:List Nat) (i n:Nat):List PP:=((List.range n).filter fun j=>decide (S[i]?=P[j]?)).map fun j=>(i,j)
def prs (S P:List Nat):Nat→List PP
 | 0=>[]
 | m+1=>prs S P m ++ o5 S P m P.length
theorem lN (S P:List Nat) (i n:Nat):o5 S P i (n+1)=o5 S P i n ++ if S[i]?=P[n]? then [(i,n)] else []:=by
 unfold o5
 rw [List.range_succ,List.filter_append,List.map_append]
 by_cases h:S[i]?=P[n]?
 ·simp [List.filter_cons,h]
 ·simp [List.filter_cons,h]
theorem o6 (S P:List Nat) (i n:Nat):(o5 S P i n).length≤n:=by
 unfold o5
 rw [List.length_map]
 exact Nat.le_trans (List.length_filter_le _ _) (by simp)
theorem rK (S P:List Nat) (m:Nat):(prs S P m).length≤m*P.length:=by
 induction m with
 | zero=>simp [prs]
 | succ m ih=>
  have:=o6 S P m P.length
  rw [prs,List.length_append,Nat.succ_mul]
  omega
theorem tY {S P:List Nat} {i n:Nat} {p:PP} (h:p∈o5 S P i n):p.1=i∧p.2 < n∧S[p.1]?=P[p.2]?:=by
 unfold o5 at h
 obtain ⟨j,hj,rfl⟩:=List.mem_map.mp h
 obtain ⟨h1,h2⟩:=List.mem_filter.mp hj
 exact ⟨rfl,List.mem_range.mp h1,of_decide_eq_true h2⟩
theorem il {S P:List Nat} {m:Nat} {p:PP} (h:p∈prs S P m):p.1 < m∧p.2 < P.length∧S[p.1]?=P[p.2]?:=by
 induction m with
 | zero=>cases h
 | succ m ih=>
  rw [prs] at h
  rcases List.mem_append.mp h with h | h
  ·obtain ⟨a,b,c⟩:=ih h
   exact ⟨by omega,b,c⟩
  ·obtain ⟨a,b,c⟩:=tY h
   exact ⟨by omega,b,c⟩
def TK (H H':Hp):Prop:=∀ b xs,H b=some (.tup xs)→H' b=some (.tup xs)
theorem TK.trans {H H1 H2:Hp} (a:TK H H1) (b:TK H1 H2):TK H H2:=fun c xs e=>b c xs (a c xs e)
theorem TK.same {H H':Hp} (s:Same H H'):TK H H':=fun b xs e=>s b _ e
theorem TK.lst {H:Hp} {q:Addr} {xs:List V} {o:HO} (h:H q=some (.lst xs)):TK H (upd H q o):=fun b ys e=>by
 rw [aB (fun z=>by rw [z,h] at e;cases e)];exact e
theorem TK.new {H:Hp} {q:Addr} {o:HO} (h:H q=none):TK H (upd H q o):=fun b ys e=>by
 rw [aB (fun z=>by rw [z,h] at e;cases e)];exact e
theorem vA {H:Hp} {p:PP} {v:V}:DR H (pD p) v↔∃ a,v= .ref a∧H a=some (.tup [.int p.1,.int p.2]):=by
 unfold pD
 rw [sZ]
 constructor
 ·rintro ⟨a,vs,e,h,r⟩
  rw [cT] at r
  obtain ⟨v1,r1,rfl,h1,r2⟩:=r
  rw [cT] at r2
  obtain ⟨v2,r3,rfl,h2,r4⟩:=r2
  rw [cJ] at r4
  rw [vY] at h1 h2
  subst h1 h2 r4
  exact ⟨a,e,h⟩
 ·rintro ⟨a,e,h⟩
  exact ⟨a,_,e,h,cT.mpr ⟨_,_,rfl,vY.mpr rfl,vZ (vY.mpr rfl)⟩⟩
theorem gf {H H':Hp} (t:TK H H'):∀ (ps:List PP) (vs:List V),DRs H (ps.map pD) vs→DRs H' (ps.map pD) vs
 | [],vs,h=>by rw [List.map_nil,cJ] at h ⊢;exact h
 | p :: ps,vs,h=>by
  rw [List.map_cons,cT] at h ⊢
  obtain ⟨v,r,e,hd,hr⟩:=h
  obtain ⟨a,ea,ha⟩:=vA.mp hd
  exact ⟨v,r,e,vA.mpr ⟨a,ea,t _ _ ha⟩,gf t ps r hr⟩
def PL (H:Hp) (q:Addr) (ps:List PP):Prop:=∃ vs,H q=some (.lst vs)∧DRs H (ps.map pD) vs
theorem PL.keep {H H':Hp} {q:Addr} {ps:List PP} (h:PL H q ps) (t:TK H H') (e:∀ vs,H q=some (.lst vs)→H' q=some (.lst vs)):PL H' q ps:=by
 obtain ⟨vs,h1,h2⟩:=h
 exact ⟨vs,e vs h1,gf t ps vs h2⟩
theorem PL.same {H H':Hp} {q:Addr} {ps:List PP} (h:PL H q ps) (s:Same H H'):PL H' q ps:=h.keep (TK.same s) fun _ e=>s _ _ e
theorem PL.len {H:Hp} {q:Addr} {ps:List PP} (h:PL H q ps):∃ vs,H q=some (.lst vs)∧vs.length=ps.length∧DRs H (ps.map pD) vs:=by
 obtain ⟨vs,h1,h2⟩:=h
 exact ⟨vs,h1,by have:=oK h2;simpa using this,h2⟩
theorem PL.push {H:Hp} {q T:Addr} {ps:List PP} {i j:Nat} (h:PL H q ps) (hT:H T=some (.tup [.int i,.int j])):∃ vs,H q=some (.lst vs)∧vs.length=ps.length∧PL (upd H q (.lst (vs ++ [.ref T]))) q (ps ++ [(i,j)]):=by
 obtain ⟨vs,h1,hl,h2⟩:=h.len
 refine ⟨vs,h1,hl,vs ++ [.ref T],ao,?_⟩
 rw [List.map_append]
 refine jt (gf (TK.lst h1) ps vs h2) (vZ (vA.mpr ⟨T,rfl,TK.lst h1 _ _ hT⟩))
theorem PL.at_ {H:Hp} {q:Addr} {ps:List PP} {vs:List V} {k:Nat} {v:V} (h:DRs H (ps.map pD) vs) (e:vs[k]?=some v):∃ p a,ps[k]?=some p∧v= .ref a∧H a=some (.tup [.int p.1,.int p.2]):=by
 have hl:=oK h
 rw [List.length_map] at hl
 have hk:k < ps.length:=by have:=(List.getElem?_eq_some_iff.mp e).1;omega
 obtain ⟨u,h1,h2⟩:=Gp (i:=k) (d:=pD ps[k]) h (by rw [List.getElem?_map,List.getElem?_eq_getElem hk];rfl)
 rw [e] at h1
 cases h1
 obtain ⟨a,ea,ha⟩:=vA.mp h2
 exact ⟨ps[k],a,List.getElem?_eq_getElem hk,ea,ha⟩
structure HTab (H:Hp) (t:Addr) (rs:List Addr) (hs:List (List PP)):Prop where
 at_:H t=some (.lst (rs.map V.ref))
 len:rs.length=hs.length
 nd:rs.Nodup
 ne:t ∉ rs
 row:∀ (i:Nat) (r:Addr) (ps:List PP),rs[i]?=some r→hs[i]?=some ps→PL H r ps
theorem HTab.same {H H':Hp} {t:Addr} {rs:List Addr} {hs:List (List PP)} (h:HTab H t rs hs) (s:Same H H'):HTab H' t rs hs:=
 ⟨s _ _ h.at_,h.len,h.nd,h.ne,fun i r ps e1 e2=>(h.row i r ps e1 e2).same s⟩
theorem Tab.same {H H':Hp} {t:Addr} {rs:List Addr} {hs:List (List Int)} (h:Tab H t rs hs) (s:Same H H'):Tab H' t rs hs:=
 ⟨s _ _ h.at_,h.len,h.nd,h.ne,fun i r ps e1 e2=>s _ _ (h.row i r ps e1 e2)⟩
theorem HTab.push {H:Hp} {t:Addr} {rs:List Addr} {hs:List (List PP)} {k:Nat} {r T:Addr} {ps:List PP} {i j:Nat} (h:HTab H t rs hs) (er:rs[k]?=some r) (eh:hs[k]?=some ps) (hT:H T=some (.tup [.int i,.int j])):
  ∃ vs,H r=some (.lst vs)∧vs.length=ps.length∧HTab (upd H r (.lst (vs ++ [.ref T]))) t rs (hs.set k (ps ++ [(i,j)])):=by
 obtain ⟨vs,h1,hl,h2⟩:=(h.row k r ps er eh).push hT
 have hm:r∈rs:=List.mem_of_getElem? er
 have ntr:t≠r:=fun z=>h.ne (by rw [z];exact hm)
 refine ⟨vs,h1,hl,⟨by rw [aB ntr];exact h.at_,by rw [List.length_set];exact h.len,h.nd,h.ne,fun i' r' ps' e1 e2=>?_⟩⟩
 by_cases hik:i'=k
 ·subst hik
  rw [er] at e1
  cases e1
  rw [List.getElem?_set_self (by rw [← h.len];exact (List.getElem?_eq_some_iff.mp er).1)] at e2
  cases e2
  exact h2
 ·rw [List.getElem?_set_ne (Ne.symm hik)] at e2
  have nrr:r'≠r:=fun z=>by
   subst z
   obtain ⟨q1,_⟩:=List.getElem?_eq_some_iff.mp e1
   exact hik ((List.getElem?_inj q1 h.nd).mp (e1.trans er.symm))
  exact (h.row i' r' ps' e1 e2).keep (TK.lst h1) fun _ e=>by rw [aB nrr];exact e
def lev (S P:List Nat) (L:Nat) (ps:List PP):List (List PP):=(List.range L).map fun (k:Nat)=>ps.filter fun p=>decide (lt S P p.1 p.2=(k:Int))
theorem ww {S P:List Nat} {L k:Nat} {ps:List PP} (h:k < L):(lev S P L ps)[k]?=some (ps.filter fun p=>decide (lt S P p.1 p.2=(k:Int))):=by
 unfold lev;rw [List.getElem?_map,List.getElem?_range h];rfl
theorem o7 (S P:List Nat) (L:Nat) (ps:List PP):(lev S P L ps).length=L:=by simp [lev]
theorem Hv {S P:List Nat} {L k:Nat} {ps:List PP} {p:PP} (hk:lt S P p.1 p.2=(k:Int)) (h:k < L):lev S P L (ps ++ [p])=(lev S P L ps).set k ((ps.filter fun p=>decide (lt S P p.1 p.2=(k:Int))) ++ [p]):=by
 apply List.ext_getElem?
 intro i
 by_cases hi:i < L
 ·rw [ww hi,List.filter_append]
  by_cases hik:i=k
  ·subst hik
   rw [List.getElem?_set_self (by rw [o7];exact hi)]
   simp [List.filter_cons,hk]
  ·rw [List.getElem?_set_ne (Ne.symm hik),ww hi]
   have:¬ lt S P p.1 p.2=(i:Int):=by omega
   simp [List.filter_cons,this]
 ·rw [List.getElem?_eq_none (by rw [o7];omega),List.getElem?_eq_none (by rw [List.length_set,o7];omega)]
theorem Bl {S P:List Nat} {m n:Nat} {p:PP} (hn:n=P.length) (h:p∈prs S P m):0≤lt S P p.1 p.2∧lt S P p.1 p.2 < lt S P m n:=by
 obtain ⟨a,b,c⟩:=il h
 refine ⟨Nk _ _ _ _,?_⟩
 have e:=Bk c
 have:lt S P (p.1+1) (p.2+1)≤lt S P m n:=Hu (by omega) (by omega)
 omega
def K9:Sp:=fun vs H Q _=>∃ side top:Str,vs=[.str side,.str top]∧Row side∧Row top∧∀ q H',H q=none→Same H H'→PL H' q (prs side.cps.toList top.cps.toList side.length)→Q (.ref q) H'
def La:Sp:=fun vs H Q _=>∃ side top:Str,vs=[.str side,.str top]∧Row side∧Row top∧
 ∀ t rs H',H t=none→(∀ r∈rs,H r=none)→Same H H'→HTab H' t rs (lev side.cps.toList top.cps.toList (lt side.cps.toList top.cps.toList side.length top.length).toNat (prs side.cps.toList top.cps.toList side.length))→Q (.ref t) H'
theorem Hw {z:Str} {j:Nat} (hj:j < z.cps.size):z.cps.toList[j]?=some (z.cps.getD j 0):=by
 rw [Array.getD_eq_getD_getElem?]
 have:z.cps[j]?=some z.cps[j]:=Array.getElem?_eq_getElem hj
 simp [this,hj]
theorem rM {a b:Nat}:V.str ⟨#[a]⟩=V.str ⟨#[b]⟩↔a=b:=by
 constructor
 ·intro h
  have:=Str.mk.inj (V.str.inj h)
  simpa using this
 ·rintro rfl;rfl
def Out (rs:List Addr) (H H':Hp):Prop:=∀ b o,b ∉ rs→H b=some o→H' b=some o
theorem Out.refl (rs:List Addr) (H:Hp):Out rs H H:=fun _ _ _ e=>e
theorem Out.step {rs:List Addr} {H H':Hp} {r:Addr} {o:HO} (h:Out rs H H') (hr:r∈rs):Out rs H (upd H' r o):=fun b u hb e=>by
 rw [aB (fun z=>hb (by rw [z];exact hr))];exact h b u hb e
theorem Out.new {rs:List Addr} {H H':Hp} {r:Addr} {o:HO} (h:Out rs H H') (hr:H' r=none):Out rs H (upd H' r o):=fun b u hb e=>by
 have q:=h b u hb e
 rw [aB (fun z=>by rw [z,hr] at q;cases q)];exact q
theorem Out.same {rs:List Addr} {H0 H H':Hp} (h:Out rs H H') (s:Same H0 H) (n:∀ r∈rs,H0 r=none):Same H0 H':=fun b o e=>
 h b o (fun hb=>by rw [n b hb] at e;cases e) (s b o e)
theorem TK.out {rs:List Addr} {H H':Hp} (h:Out rs H H') (l:∀ r∈rs,∃ xs,H r=some (.lst xs)):TK H H':=fun b xs e=>
 h b _ (fun hb=>by obtain ⟨ys,q⟩:=l b hb;rw [q] at e;cases e) e
theorem Tab.out {rs:List Addr} {H H':Hp} {t:Addr} {ts:List Addr} {rows:List (List Int)} (h:Tab H t ts rows) (o:Out rs H H') (n:t ∉ rs) (m:∀ r∈ts,r ∉ rs):Tab H' t ts rows:=
 ⟨o _ _ n h.at_,h.len,h.nd,h.ne,fun i r xs e1 e2=>o _ _ (m r (List.mem_of_getElem? e1)) (h.row i r xs e1 e2)⟩
theorem Tab.grow {S P:List Nat} {H2 H3:Hp} {t r2:Addr} {rs:List Addr} {i n:Nat} (TB:Tab H2 t rs (j7 S P (i+1) n)) (S3:Same H2 H3) (nr2:H2 r2=none) (hr2:H3 r2=some (.lst ((jP S P (i+1) n).map V.int))):
  Tab (upd H3 t (.lst (rs.map V.ref ++ [.ref r2]))) t (rs ++ [r2]) (j7 S P (i+2) n):=by
 have hrl:rs.length=i+1:=by rw [TB.len];simp [j7]
 have nr2t:r2≠t:=fun z=>by rw [z,TB.at_] at nr2;cases nr2
 have nrs:∀ r'∈rs,r'≠t:=fun r' hr' z=>TB.ne (by rw [← z];exact hr')
 have nin:r2 ∉ rs:=fun z=>by
  obtain ⟨k,hk,ek⟩:=List.mem_iff_getElem.mp z
  have hk2:k < (j7 S P (i+1) n).length:=by rw [← TB.len];exact hk
  have:=TB.row k r2 _ (by rw [List.getElem?_eq_getElem hk,ek]) (List.getElem?_eq_getElem hk2)
  rw [this] at nr2;cases nr2
 refine ⟨by rw [ao];simp,by simp [hrl,j7],?_,?_,fun k r' xs e1 e2=>?_⟩
 ·rw [List.nodup_append]
  exact ⟨TB.nd,by simp,fun a ha b hb z=>nin (by rw [List.mem_singleton.mp hb] at z;rw [← z];exact ha)⟩
 ·intro z
  rcases List.mem_append.mp z with z | z
  ·exact TB.ne z
  ·exact nr2t (List.mem_singleton.mp z).symm
 ·by_cases hk:k < rs.length
  ·rw [List.getElem?_append_left hk] at e1
   rw [aB (nrs r' (List.mem_of_getElem? e1))]
   refine S3 _ _ (TB.row k r' xs e1 ?_)
   unfold j7 at e2 ⊢
   rw [List.getElem?_map,List.getElem?_range (by omega)] at e2
   rw [List.getElem?_map,List.getElem?_range (by omega)]
   exact e2
  ·have hk2:k < (rs ++ [r2]).length:=(List.getElem?_eq_some_iff.mp e1).1
   simp at hk2
   have hk3:k=i+1:=by omega
   subst hk3
   rw [List.getElem?_append_right (by omega),hrl] at e1
   simp at e1
   subst e1
   unfold j7 at e2
   rw [List.getElem?_map,List.getElem?_range (by omega)] at e2
   have e3:=Option.some.inj e2
   rw [aB nr2t,← e3]
   exact hr2
theorem Tab.mem {H:Hp} {t:Addr} {rs:List Addr} {rows:List (List Int)} (h:Tab H t rs rows) {r:Addr} (hr:r∈rs):∃ xs,H r=some (.lst xs):=by
 obtain ⟨k,hk,ek⟩:=List.mem_iff_getElem.mp hr
 have hk2:k < rows.length:=by rw [← h.len];exact hk
 exact ⟨_,h.row k r _ (by rw [List.getElem?_eq_getElem hk,ek]) (List.getElem?_eq_getElem hk2)⟩
theorem HTab.mem {H:Hp} {t:Addr} {rs:List Addr} {rows:List (List PP)} (h:HTab H t rs rows) {r:Addr} (hr:r∈rs):∃ xs,H r=some (.lst xs):=by
 obtain ⟨k,hk,ek⟩:=List.mem_iff_getElem.mp hr
 have hk2:k < rows.length:=by rw [← h.len];exact hk
 obtain ⟨vs,e,_⟩:=h.row k r _ (by rw [List.getElem?_eq_getElem hk,ek]) (List.getElem?_eq_getElem hk2)
 exact ⟨_,e⟩
theorem HTab.start {S P:List Nat} {H1 H2:Hp} {D:Addr} {rs:List Addr} {L:Nat} (hl:rs.length=L) (hnd:rs.Nodup) (hrs:∀ r∈rs,H1 r=none∧H2 r=some (.lst [])) (hD:H2 D=none):HTab (upd H2 D (.lst (rs.map V.ref))) D rs (lev S P L []):=by
 have nD:D ∉ rs:=fun z=>by rw [(hrs D z).2] at hD;cases hD
 refine ⟨ao,by rw [o7];exact hl,hnd,nD,fun i r ps e1 e2=>?_⟩
 have hm:=List.mem_of_getElem? e1
 have hi:i < L:=by have:=(List.getElem?_eq_some_iff.mp e1).1;omega
 rw [ww hi] at e2
 have e3:=Option.some.inj e2
 subst e3
 refine ⟨[],?_,cJ.mpr rfl⟩
 rw [aB (fun z=>nD (by rw [← z];exact hm))]
 exact (hrs r hm).2
theorem Hz {H:Hp} {t:Addr} {rs:List Addr} {S P:List Nat} {m n:Nat} (TB:Tab H t rs (j7 S P m n)) {k:Int} {i:Nat} (hk:k=(i:Int)) (hi:i < m):∃ r,nR (rs.map V.ref) k=some (.ref r)∧rs[i]?=some r∧H r=some (.lst ((jP S P i n).map V.int)):=by
 subst hk
 have hrl:rs.length=m:=by rw [TB.len];simp [j7]
 obtain ⟨r,er⟩:∃ r,rs[i]?=some r:=⟨_,List.getElem?_eq_getElem (show i < rs.length by omega)⟩
 refine ⟨r,rB (by rw [List.getElem?_map,er];rfl),er,TB.row i r _ er (by unfold j7;rw [List.getElem?_map,List.getElem?_range hi];rfl)⟩
theorem wy {S P:List Nat} {i n j:Nat} {k:Int} (hk:k=(j:Int)) (h:j < n):nR ((jP S P i n).map V.int) k=some (.int (lt S P i j)):=by
 subst hk;exact QR h
theorem tZ {z:Str} {k:Int} {j:Nat} (hk:k=(j:Int)) (h:j < z.length):∃ c,z.cps.toList[j]?=some c∧nR z.cps.toList k=some c:=by
 subst hk
 have:j < z.cps.toList.length:=by simpa [Str.length] using h
 exact ⟨_,List.getElem?_eq_getElem this,rB (List.getElem?_eq_getElem this)⟩
section
variable {P:Program} {w:World} {K:PySem.W.Frag} {mg:Str→Option Value} {base:Heap}
theorem Q0:bV cu "pairs":=by decide+kernel
theorem UL:cM cu "enumerate":=by decide+kernel
theorem UT:bV cu "side":=by decide+kernel
theorem UV:bV cu "sign":=by decide+kernel
theorem UW:bV cu "i":=by decide+kernel
theorem U0:bV cu "top":=by decide+kernel
theorem U3:bV cu "other":=by decide+kernel
theorem U4:bV cu "j":=by decide+kernel
theorem kz0k:cM cu "need_rows":=by decide+kernel
def Q3:Str→Str→Hp→VK→Prop:=fun side top H Q=>∀ (q:Addr) (H':Hp),H q=none→Same H H'→PL H' q (prs side.cps.toList top.cps.toList side.length)→Q (.ref q) H'
theorem fU:aP ["side","top","pairs","i","sign","j","other"] ["side","top"] (au cu):=⟨rfl,rfl,rfl,by decide+kernel,rfl,by decide+kernel,by decide+kernel⟩
theorem m8 (T:Txt K mg):zf P w K mg base 5 "pairs_of" ["side","top"] (spX K mg Q3):=by
 have fQ:=fQ (P:=P) (w:=w) (base:=base) T
 refine Ax T.d_pairs_of fU (fun _ _ _ _ _ _ us hl=>L2.rT (fun _ _=>rfl) us hl) ?_ fun f cdv A outer s H vs Q E hr h=>?_
 ·rintro vs H Q E ⟨v,u,rfl,_⟩;rfl
 obtain ⟨v,u,rfl,hv,hu',qx,q⟩:=h
 have hu:=hr.units0
 have hu64:=hr.units
 refine ⟨_,(aq (dX (lB fQ (hr.mono (by decide)) (bL kz0k) j0 (aa (ak 0 UT) (aa (ak 1 U0) aj)) (by decide+kernel))) (aq (aR (i:=2) fU.nd rfl (Or.inl Q0) (bU aj) rfl) (aq (Qn (d9 PassesOwn.never rfl (vX (K:=K) rfl rfl (bL UL) T.b_enumerate (aa (ak 0 UT) aj)) (qe (K:=K) rfl rfl (cR (bO (i:=3) fU.nd rfl (Or.inl UW) rfl) (cR (bO (i:=4) fU.nd rfl (Or.inl UV) rfl) jr))) (aA (d9 PassesOwn.never rfl (vX (K:=K) rfl rfl (bL UL) T.b_enumerate (aa (ak 1 U0) aj)) (qe (K:=K) rfl rfl (cR (bO (i:=5) fU.nd rfl (Or.inl U4) rfl) (cR (bO (i:=6) fU.nd rfl (Or.inl U3) rfl) jr))) (aA (bZ (bW (ju (K:=K) rfl hu64) (ak 4 UV) (ak 6 U3) (by first | exact aW _ | with_unfolding_all rfl)) (aA (dX (jq (K:=K) rfl PySem.F.plainAttrs_list PySem.F.slot_list_append PySem.F.type_list_append iw (ak 2 Q0) (aa (gr (aa (ak 3 UW) (aa (ak 5 U4) aj))) aj)))) bC)))))) (aA (aG (ak 2 Q0)))))),?_⟩
 walk_at "sts"
 refine ⟨v,u,rfl,hv,hu',qx,fun side top e1 e2 hs ht H1 S1=>?_⟩
 subst e1 e2
 walk_at "sts"
 refine ⟨by simp,fun pq npq=>?_⟩
 walk_at "sts"
 refine .inl ⟨side,rfl,?_⟩
 have nH:H pq=none:=S1.free npq
 refine Gm (fun i σ H'=>Same H H'∧PL H' pq (prs side.cps.toList top.cps.toList i)∧∃ x3 x4 x5 x6,σ=[some (.str side),some (.str top),some (.ref pq),x3,x4,x5,x6])
  ⟨S1.upd npq,⟨[],ao,cJ.mpr rfl⟩,none,none,none,none,rfl⟩ ?_ ?_
 ·rintro i σ H2 T0 hi ⟨S2,PL2,x3,x4,x5,x6,rfl⟩ nT
  refine gU (xs:=[.int i,.str ⟨#[side.cps.getD i 0]⟩]) (SqT.of ao) rfl ?_
  have PL3:=PL2.same ((Same.refl H2).upd nT (o:=.tup (jZ side i)))
  have S3:=S2.upd nT (o:=.tup (jZ side i))
  walk_at "sts"
  refine .inl ⟨top,rfl,?_⟩
  refine Gm (fun j σ H'=>Same H H'∧PL H' pq (prs side.cps.toList top.cps.toList i ++ o5 side.cps.toList top.cps.toList i j)∧∃ x5 x6,σ=[some (.str side),some (.str top),some (.ref pq),some (.int i),some (.str ⟨#[side.cps.getD i 0]⟩),x5,x6])
   ⟨S3,by simpa [o5] using PL3,_,_,rfl⟩ ?_ ?_
  ·rintro j σ H4 T1 hj ⟨S4,PL4,x5,x6,rfl⟩ nT1
   refine gU (xs:=[.int j,.str ⟨#[top.cps.getD j 0]⟩]) (SqT.of ao) rfl ?_
   have PL5:=PL4.same ((Same.refl H4).upd nT1 (o:=.tup (jZ top j)))
   have S5:=S4.upd nT1 (o:=.tup (jZ top j))
   obtain ⟨vs0,e0,_⟩:=id PL5
   have es:=Hw (z:=side) hi
   have et:=Hw (z:=top) hj
   walk_at "sts"
   refine jM (fun hk=>?_) (fun hk=>?_)
   ·have ec:side.cps.toList[i]?=top.cps.toList[j]?:=by rw [es,et,rM.mp hk]
    walk_at "sts"
    refine ⟨.inl ⟨rfl,_,SqL.of e0⟩,?_⟩
    walk_at "sts"
    refine ⟨by simp;decide,fun T2 nT2=>?_⟩
    walk_at "sts"
    obtain ⟨vs,h1,hl,h2⟩:=(PL5.same ((Same.refl _).upd nT2 (o:=.tup [.int i,.int j]))).push (T:=T2) ao
    have hz:vs.length < sizeLine:=by
     have a:=rK side.cps.toList top.cps.toList i
     have b:=o6 side.cps.toList top.cps.toList i j
     have c:i*top.cps.toList.length≤48*48:=Nat.mul_le_mul (by have:=hs.1;have:side.cps.size=side.length:=rfl;omega) (by have:=ht.1;rw [dj] at this;exact this)
     have d:j < 48:=by have:=ht.1;have:top.cps.size=top.length:=rfl;omega
     rw [hl,List.length_append]
     exact Nat.lt_of_lt_of_le (show _ < 5000 by omega) (by decide)
    refine iz h1 hz ⟨over (S5.upd nT2) nH,?_,_,_,rfl⟩
    rw [lN,if_pos ec,← List.append_assoc]
    exact h2
   ·have ec:¬ side.cps.toList[i]?=top.cps.toList[j]?:=by
     rw [es,et]
     intro z
     exact hk (by rw [Option.some.inj z])
    walk_at "sts"
    refine ⟨S5,?_,_,_,rfl⟩
    rw [lN,if_neg ec,List.append_nil]
    exact PL5
  ·rintro σ H4 ⟨S4,PL4,x5,x6,rfl⟩
   refine ⟨S4,?_,_,_,_,_,rfl⟩
   have e:top.cps.size=top.cps.toList.length:=by simp
   rw [e] at PL4
   exact PL4
 ·rintro σ H2 ⟨S2,PL2,x3,x4,x5,x6,rfl⟩
  walk_at "sts"
  exact q _ _ rfl rfl hs ht pq H2 nH S2 PL2
end
section
variable {P:Program} {w:World} {K:PySem.W.Frag} {mg:Str→Option Value} {base:Heap}
theorem U5:cM dN "isinstance":=by decide+kernel
theorem kz0m:cM dN "bool":=by decide+kernel
theorem U6:bV dN "thing":=by decide+kernel
theorem kz0o:cM dN "int":=by decide+kernel
theorem U7:cM fM "is_number":=by decide+kernel
theorem Lb:bV fM "thing":=by decide+kernel
theorem kz0r:cM fM "len":=by decide+kernel
theorem kz0s:cM fM "isinstance":=by decide+kernel
theorem kz0t:cM fM "tuple":=by decide+kernel
def tyN:PyData→String
 | .none=>"NoneType" | .bool _=>"bool" | .int _=>"int" | .str _=>"str" | .list _=>"list" | .tuple _=>"tuple" | .dict _=>"dict"
theorem dH {H:Hp} {d:PyData} {v:V} (h:RD H d v):jT K H v (.type (tyN d)):=by
 cases d with
 | none=>rw [lG] at h;subst h;exact .non
 | bool b=>rw [v9] at h;subst h;exact .bl _
 | int n=>rw [qu] at h;subst h;exact .int _
 | str n=>rw [v8] at h;subst h;exact .str _
 | list ds=>obtain ⟨a,vs,rfl,e,_⟩:=aJ.mp h;exact .lst e
 | tuple ds=>obtain ⟨a,vs,rfl,e,_⟩:=fY.mp h;exact .tup e
 | dict ds=>obtain ⟨a,vs,rfl,e,_⟩:=Az.mp h;exact .dK e
def dD:PyData→Bool
 | .int _=>true
 | _=>false
def wz:PyData→Bool
 | .tuple _=>true
 | _=>false
def t6:PyData→Bool
 | .list _=>true
 | _=>false
theorem Bm (d:PyData):PySem.W.kitOne K (.type (tyN d)) (.type "tuple")=some (wz d):=by cases d <;> rfl
theorem rN (d:PyData):PySem.W.kitOne K (.type (tyN d)) (.type "list")=some (t6 d):=by cases d <;> rfl
def Nm:Sp:=fun vs H Q _=>∃ (v:V) (d:PyData),vs=[v]∧RD H d v∧Q (.bl (dD d)) H
theorem wA:aP ["thing"] ["thing"] (au dN):=⟨rfl,rfl,rfl,by decide+kernel,rfl,by decide+kernel,by decide+kernel⟩
theorem iR (T:Txt K mg):nO P w K mg base 1 "is_number" ["thing"] Nm:=by
 refine gR T.d_is_number wA (fun _ _ _ _ _ _ us hl=>L2.uv (fun _=>rfl) us hl) ?_ fun f cdv A outer s H vs Q E hr h=>?_
 ·rintro vs H Q E ⟨v,d,rfl,_⟩;rfl
 obtain ⟨v,d,rfl,hd,q⟩:=h
 have hu:=hr.units0
 have hu64:=hr.units
 refine ⟨_,(aA (aG (qM (aM (cL (K:=K) rfl) (bL U5) T.b_isinstance bw (aa (ak 0 U6) (aa (qZ (bL kz0o) T.b_int FZ (by decide+kernel) (by decide+kernel)) aj)) (by decide+kernel) (by decide+kernel)) (xK (Gk (aM (cL (K:=K) rfl) (bL U5) T.b_isinstance bw (aa (ak 0 U6) (aa (qZ (bL kz0m) T.b_bool vW (by decide+kernel) (by decide+kernel)) aj)) (by decide+kernel) (by decide+kernel))))))),?_⟩
 walk_at "sts"
 cases d with
 | int n=>
  refine cB (dH hd) rfl ?_
  walk_at "sts"
  refine cB (dH hd) rfl ?_
  walk_at "sts"
  exact q
 | bool n=>
  refine cB (b:=true) (dH hd) rfl ?_
  walk_at "sts"
  refine cB (b:=true) (dH hd) rfl ?_
  walk_at "sts"
  exact q
 | none=>
  refine cB (dH hd) rfl ?_
  walk_at "sts"
  exact q
 | str n=>
  refine cB (dH hd) rfl ?_
  walk_at "sts"
  exact q
 | list n=>
  refine cB (dH hd) rfl ?_
  walk_at "sts"
  exact q
 | tuple n=>
  refine cB (dH hd) rfl ?_
  walk_at "sts"
  exact q
 | dict n=>
  refine cB (dH hd) rfl ?_
  walk_at "sts"
  exact q
def b8:PyData→Bool
 | .tuple [a,b]=>dD a && dD b
 | _=>false
def Q4:Sp:=fun vs H Q _=>∃ (v:V) (d:PyData),vs=[v]∧RD H d v∧Q (.bl (b8 d)) H
theorem bA {H:Hp}:∀ {ds:List PyData} {vs:List V},RDs H ds vs→vs.length=ds.length
 | [],_,h=>by rw [aK] at h;subst h;rfl
 | d :: ds,_,h=>by rw [cH] at h;obtain ⟨v,r,rfl,_,hr⟩:=h;simp [bA hr]
theorem wB {H:Hp} {a b:PyData} {vs:List V} (h:RDs H [a,b] vs):∃ v u,vs=[v,u]∧RD H a v∧RD H b u:=by
 rw [cH] at h
 obtain ⟨v,r,rfl,h1,h2⟩:=h
 rw [cH] at h2
 obtain ⟨u,r,rfl,h3,h4⟩:=h2
 rw [aK] at h4
 subst h4
 exact ⟨v,u,rfl,h1,h3⟩
theorem t7 {ds:List PyData} (h:ds.length≠2):b8 (.tuple ds)=false:=by
 match ds,h with
 | [],_=>rfl
 | [_],_=>rfl
 | [_,_],h=>exact absurd rfl h
 | _ :: _ :: _ :: _,_=>rfl
theorem zG:aP ["thing"] ["thing"] (au fM):=⟨rfl,rfl,rfl,by decide+kernel,rfl,by decide+kernel,by decide+kernel⟩
theorem qz (T:Txt K mg):nO P w K mg base 2 "is_pair" ["thing"] Q4:=by
 have iR:=iR (P:=P) (w:=w) (base:=base) T
 refine gR T.d_is_pair zG (fun _ _ _ _ _ _ us hl=>L2.uv (fun _=>rfl) us hl) ?_ fun f cdv A outer s H vs Q E hr h=>?_
 ·rintro vs H Q E ⟨v,d,rfl,_⟩;rfl
 obtain ⟨v,d,rfl,hd,q⟩:=h
 have hu:=hr.units0
 have hu64:=hr.units
 refine ⟨_,(aA (aG (qM (aM (cL (K:=K) rfl) (bL kz0s) T.b_isinstance bw (aa (ak 0 Lb) (aa (qZ (bL kz0t) T.b_tuple oE (by decide+kernel) (by decide+kernel)) aj)) (by decide+kernel) (by decide+kernel)) (qM (jX (ju (K:=K) rfl hu64) (aM (bH (K:=K) rfl) (bL kz0r) T.b_len dz (aa (ak 0 Lb) aj) (by decide+kernel) (by decide+kernel)) az (by first | exact aW _ | with_unfolding_all rfl)) (qM (aL iR (hr.mono (by decide)) (bL U7) (aa (bB (K:=K) rfl (ak 0 Lb) az) aj) (by decide+kernel)) (xK (aL iR (hr.mono (by decide)) (bL U7) (aa (bB (K:=K) rfl (ak 0 Lb) az) aj) (by decide+kernel)))))))),?_⟩
 walk_at "sts"
 refine cB (dH hd) (Bm d) ?_
 by_cases ht:wz d=true
 ·cases d with
  | tuple ds=>
   rw [ht]
   obtain ⟨a,us,rfl,e,r⟩:=fY.mp hd
   have hl:=bA r
   walk_at "sts"
   refine Gg (SqT.of e) ?_
   walk_at "sts"
   by_cases h2:ds.length=2
   ·rw [decide_eq_true (by rw [hl,h2];rfl)]
    match ds,h2,r with
    | [d1,d2],_,r=>
     obtain ⟨v1,v2,rfl,r1,r2⟩:=wB r
     walk_at "sts"
     refine ⟨v1,d1,rfl,r1,?_⟩
     walk_at "sts"
     cases hn:dD d1 with
     | true=>
      walk_at "sts"
      refine ⟨v2,d2,rfl,r2,?_⟩
      walk_at "sts"
      have:b8 (.tuple [d1,d2])=dD d2:=by show (dD d1 && dD d2)=_;rw [hn];rfl
      rw [this] at q
      exact q
     | false=>
      walk_at "sts"
      have:b8 (.tuple [d1,d2])=false:=by show (dD d1 && dD d2)=_;rw [hn];rfl
      rw [this] at q
      exact q
   ·rw [decide_eq_false (by intro z;injection z with z;omega)]
    walk_at "sts"
    rw [t7 h2] at q
    exact q
  | _=>cases ht
 ·have:wz d=false:=by simpa using ht
  rw [this]
  walk_at "sts"
  have:b8 d=false:=by cases d <;> first | rfl | cases this
  rw [this] at q
  exact q
end
section
variable {P:Program} {w:World} {K:PySem.W.Frag} {mg:Str→Option Value} {base:Heap}
theorem U8:bV dg "side":=by decide+kernel
theorem Q5:bV dg "i":=by decide+kernel
theorem U9:bV dg "top":=by decide+kernel
theorem Q6:bV dg "j":=by decide+kernel
theorem Va:cM dg "len":=by decide+kernel
theorem Q7:bV dg "thing":=by decide+kernel
theorem kz10:cM dg "is_pair":=by decide+kernel
theorem Vb:bV iC "pair":=by decide+kernel
theorem Vc:bV iC "other":=by decide+kernel
def m9 (z y:Str) (i j:Int):Bool:=decide (0≤i) && decide (i < z.length) && decide (0≤j) && decide (j < y.length) && decide (z.cps.toList[i.toNat]?=y.cps.toList[j.toNat]?)
def eN (z y:Str):PyData→Bool
 | .tuple [.int i,.int j]=>m9 z y i j
 | _=>false
theorem vB {z y:Str} {d:PyData} (h:b8 d=false):eN z y d=false:=by
 unfold eN
 split
 ·cases h
 ·rfl
theorem rO {d:PyData} (h:b8 d=true):∃ i j,d= .tuple [.int i,.int j]:=by
 unfold b8 at h
 split at h
 ·rename_i a b
  rw [Bool.and_eq_true] at h
  cases a <;> cases b <;> simp only [dD,Bool.false_eq_true,and_false,false_and] at h <;> exact ⟨_,_,rfl⟩
 ·cases h
theorem ir {H:Hp} {i j:Int} {v:V}:RD H (.tuple [.int i,.int j]) v↔∃ a,v= .ref a∧H a=some (.tup [.int i,.int j]):=by
 rw [fY]
 constructor
 ·rintro ⟨a,vs,rfl,e,r⟩
  obtain ⟨v1,v2,rfl,r1,r2⟩:=wB r
  rw [qu] at r1 r2
  subst r1 r2
  exact ⟨a,rfl,e⟩
 ·rintro ⟨a,rfl,e⟩
  exact ⟨a,_,rfl,e,aZ (qu.mpr rfl) (aZ (qu.mpr rfl) (aK.mpr rfl))⟩
def Ld:Sp:=fun vs H Q _=>∃ (z y:Str) (v:V) (d:PyData),vs=[.str z,.str y,v]∧RD H d v∧z.length≤48∧y.length≤48∧Q (.bl (eN z y d)) H
theorem j8:aP ["side","top","thing","i","j"] ["side","top","thing"] (au dg):=⟨rfl,rfl,rfl,by decide+kernel,rfl,by decide+kernel,by decide+kernel⟩
theorem ni (T:Txt K mg):nO P w K mg base 3 "is_match" ["side","top","thing"] Ld:=by
 have qz:=qz (P:=P) (w:=w) (base:=base) T
 refine gR T.d_is_match j8 (fun _ _ _ _ _ _ us hl=>L2.vI (fun _ _ _=>rfl) us hl) ?_ fun f cdv A outer s H vs Q E hr h=>?_
 ·rintro vs H Q E ⟨z,y,v,d,rfl,_⟩;rfl
 obtain ⟨z,y,v,d,rfl,hd,hz,hy,q⟩:=h
 have hu:=hr.units0
 have hu64:=hr.units
 refine ⟨_,(aq (bZ (c7 (cG (aL qz (hr.mono (by decide)) (bL kz10) (aa (ak 2 Q7) aj) (by decide+kernel)))) (aA (aG gJ)) bC) (aq (aR (i:=3) j8.nd rfl (Or.inl Q5) (bB (K:=K) rfl (ak 2 Q7) az) rfl) (aq (aR (i:=4) j8.nd rfl (Or.inl Q6) (bB (K:=K) rfl (ak 2 Q7) az) rfl) (aA (aG (qM (An Mr wY az (ak 3 Q5) (aM (bH (K:=K) rfl) (bL Va) T.b_len dz (aa (ak 0 U8) aj) (by decide+kernel) (by decide+kernel))) (qM (An Mr wY az (ak 4 Q6) (aM (bH (K:=K) rfl) (bL Va) T.b_len dz (aa (ak 1 U9) aj) (by decide+kernel) (by decide+kernel))) (xK (jX (ju (K:=K) rfl hu64) (bB (K:=K) rfl (ak 0 U8) (ak 3 Q5)) (bB (K:=K) rfl (ak 1 U9) (ak 4 Q6)) (by first | exact aW _ | with_unfolding_all rfl)))))))))),?_⟩
 walk_at "sts"
 refine ⟨v,d,rfl,hd,?_⟩
 walk_at "sts"
 have lz:z.length≤sizeLine:=Nat.le_trans hz (by decide)
 have ly:y.length≤sizeLine:=Nat.le_trans hy (by decide)
 cases hp:b8 d with
 | false=>
  walk_at "sts"
  rw [vB hp] at q
  exact q
 | true=>
  obtain ⟨i,j,rfl⟩:=rO hp
  obtain ⟨a,rfl,e⟩:=ir.mp hd
  walk_at "sts"
  replace q:Q (.bl (m9 z y i j)) H:=q
  unfold m9 at q
  by_cases h1:0≤i
  ·rw [decide_eq_true h1] at q ⊢
   walk_at "sts"
   refine mH lz ?_
   walk_at "sts"
   by_cases h2:i < z.length
   ·rw [decide_eq_true h2] at q ⊢
    walk_at "sts"
    by_cases h3:0≤j
    ·rw [decide_eq_true h3] at q ⊢
     walk_at "sts"
     refine mH ly ?_
     walk_at "sts"
     by_cases h4:j < y.length
     ·rw [decide_eq_true h4] at q ⊢
      obtain ⟨c,hc,ac⟩:=tZ (z:=z) (k:=i) (j:=i.toNat) (by omega) (by omega)
      obtain ⟨d,hd,ad⟩:=tZ (z:=y) (k:=j) (j:=j.toNat) (by omega) (by omega)
      rw [hc,hd] at q
      walk_at "sts"
      refine vf lz ac ?_
      walk_at "sts"
      refine vf ly ad ?_
      walk_at "sts"
      have:decide (V.str ⟨#[c]⟩=V.str ⟨#[d]⟩)=decide (some c=some d):=by
       refine decide_eq_decide.mpr ?_
       rw [rM];simp
      rw [this]
      exact q
     ·rw [decide_eq_false h4] at q ⊢
      walk_at "sts"
      simpa using q
    ·rw [decide_eq_false h3] at q ⊢
     walk_at "sts"
     simpa using q
   ·rw [decide_eq_false h2] at q ⊢
    walk_at "sts"
    simpa using q
  ·rw [decide_eq_false h1] at q ⊢
   walk_at "sts"
   simpa using q
def Le:Sp:=fun vs H Q _=>∃ (a b:Addr) (i j k l:Int),vs=[.ref a,.ref b]∧H a=some (.tup [.int i,.int j])∧H b=some (.tup [.int k,.int l])∧Q (.bl (decide (i < k) && decide (j < l))) H
theorem yh:aP ["pair","other"] ["pair","other"] (au iC):=⟨rfl,rfl,rfl,by decide+kernel,rfl,by decide+kernel,by decide+kernel⟩
theorem jB (T:Txt K mg):nO P w K mg base 1 "is_ahead" ["pair","other"] Le:=by
 refine gR T.d_is_ahead yh (fun _ _ _ _ _ _ us hl=>L2.rT (fun _ _=>rfl) us hl) ?_ fun f cdv A outer s H vs Q E hr h=>?_
 ·rintro vs H Q E ⟨a,b,i,j,k,l,rfl,_⟩;rfl
 obtain ⟨a,b,i,j,k,l,rfl,ha,hb,q⟩:=h
 have hu:=hr.units0
 have hu64:=hr.units
 refine ⟨_,(aA (aG (qM (jX wY (bB (K:=K) rfl (ak 0 Vb) az) (bB (K:=K) rfl (ak 1 Vc) az) (by first | exact aW _ | with_unfolding_all rfl)) (xK (jX wY (bB (K:=K) rfl (ak 0 Vb) az) (bB (K:=K) rfl (ak 1 Vc) az) (by first | exact aW _ | with_unfolding_all rfl)))))),?_⟩
 walk_at "sts"
 by_cases h1:i < k
 ·rw [decide_eq_true h1] at q ⊢
  walk_at "sts"
  exact q
 ·rw [decide_eq_false h1] at q ⊢
  walk_at "sts"
  exact q
end
section
variable {P:Program} {w:World} {K:PySem.W.Frag} {mg:Str→Option Value} {base:Heap}
theorem gB {H:Hp}:∀ {ds:List PyData} {vs:List V} {i:Nat} {x:V},RDs H ds vs→vs[i]?=some x→∃ d,ds[i]?=some d∧RD H d x
 | [],_,i,x,h,e=>by rw [aK] at h;subst h;simp at e
 | d :: ds,_,0,x,h,e=>by
  rw [cH] at h
  obtain ⟨v,r,rfl,hd,_⟩:=h
  simp at e
  subst e
  exact ⟨d,rfl,hd⟩
 | d :: ds,_,i+1,x,h,e=>by
  rw [cH] at h
  obtain ⟨v,r,rfl,_,hr⟩:=h
  obtain ⟨d',h1,h2⟩:=gB hr (by simpa using e)
  exact ⟨d',by simpa using h1,h2⟩
def iD:PyData→PyData→Bool
 | .tuple [.int i,.int j],.tuple [.int k,.int l]=>decide (i < k) && decide (j < l)
 | _,_=>false
theorem t8 {z y:Str} {d:PyData} (h:eN z y d=true):∃ i j,d= .tuple [.int i,.int j]:=by
 refine rO ?_
 cases hp:b8 d with
 | true=>rfl
 | false=>rw [vB hp] at h;cases h
def spX3 (K:PySem.W.Frag) (mg:Str→Option Value) (g:Str→Str→V→Hp→VK→Prop):Sp:=fun vs H Q E=>∃ v u t:V,vs=[v,u,t]∧Thing K H v∧Thing K H u∧
 (∀ w,bf v u=some w→∀ e H',Same H H'→Sg H' e (fX mg "NoRow") [("found",w)]→E (.ref (fX mg "NoRow")) (some e) H')∧
 (∀ side top:Str,v= .str side→u= .str top→mZ side→mZ top→g side top t H Q)
theorem spX3.good {g:Str→Str→V→Hp→VK→Prop} {H:Hp} {Q:VK} {E:XK} {z y:Str} {t:V} (h:mZ z) (h':mZ y) (q:g z y t H Q):spX3 K mg g [.str z,.str y,t] H Q E:=
 ⟨_,_,_,rfl,lM h,lM h',(fun w e=>by rw [Bh h h'] at e;cases e),fun s t e1 e2 _ _=>by cases e1;cases e2;exact q⟩
end
section
variable {P:Program} {w:World} {K:PySem.W.Frag} {mg:Str→Option Value} {base:Heap}
theorem uB:(["pair","side","top"]:List Str).Nodup:=by decide+kernel
theorem kz13:cM dm "all":=by decide+kernel
theorem Q8:bV dm "thing":=by decide+kernel
theorem kz15:cM dm "len":=by decide+kernel
theorem kz16:cM dm "isinstance":=by decide+kernel
theorem kz17:cM dm "list":=by decide+kernel
theorem Vd:cM aU "len":=by decide+kernel
theorem Lg:bV aU "seen":=by decide+kernel
theorem kz1a:cM aU "pairs_of":=by decide+kernel
theorem kz1b:bV aU "top":=by decide+kernel
theorem kz1c:bV aU "side":=by decide+kernel
theorem kz1d:bV aU "heaps":=by decide+kernel
theorem Ve:bV aU "heap":=by decide+kernel
theorem Q9:bV aU "pair":=by decide+kernel
theorem kz1g:cM bF "enumerate":=by decide+kernel
theorem Vf:bV bF "heap":=by decide+kernel
theorem Ra:bV bF "pair":=by decide+kernel
theorem Vg:bV bF "place":=by decide+kernel
theorem Rb:bV bF "earlier":=by decide+kernel
theorem Vh:cM bF "is_ahead":=by decide+kernel
def gk (z y:Str):PyData→Bool
 | .list ds=>!ds.isEmpty && ds.all (eN z y)
 | _=>false
def Lh:Sp:=fun vs H Q _=>∃ (z y:Str) (v:V) (d:PyData),vs=[.str z,.str y,v]∧RD H d v∧z.length≤48∧y.length≤48∧(∀ ds,d= .list ds→ds.length≤5000)∧∀ H',Same H H'→Q (.bl (gk z y d)) H'
theorem yj:aP ["side","top","thing"] ["side","top","thing"] (au dm):=⟨rfl,rfl,rfl,by decide+kernel,rfl,by decide+kernel,by decide+kernel⟩
theorem nj (T:Txt K mg):nO P w K mg base 4 "is_stack" ["side","top","thing"] Lh:=by
 have ni:=ni (P:=P) (w:=w) (base:=base) T
 refine gR T.d_is_stack yj (fun _ _ _ _ _ _ us hl=>L2.vI (fun _ _ _=>rfl) us hl) ?_ fun f cdv A outer s H vs Q E hr h=>?_
 ·rintro vs H Q E ⟨z,y,v,d,rfl,_⟩;rfl
 obtain ⟨z,y,v,d,rfl,hd,hs,ht,hsz,q⟩:=h
 have hu:=hr.units0
 have hu64:=hr.units
 refine ⟨_,(aq (bZ (mj (jH (c7 (cG (aM (cL (K:=K) rfl) (bL kz16) T.b_isinstance bw (aa (ak 2 Q8) (aa (qZ (bL kz17) T.b_list kZ (by decide+kernel) (by decide+kernel)) aj)) (by decide+kernel) (by decide+kernel)))) (jo (bW (ju (K:=K) rfl hu64) (aM (bH (K:=K) rfl) (bL kz15) T.b_len dz (aa (ak 2 Q8) aj) (by decide+kernel) (by decide+kernel)) az (by first | exact aW _ | with_unfolding_all rfl))))) (aA (aG gJ)) bC) (aA (aG (aM (sJ rfl) (bL kz13) T.b_all yX (aa (iZ (sub:=[none,some 0,some 1]) (cQ (N:=["side","top","thing"]) (sc:=au dm) (N':=["pair","side","top"]) (by decide+kernel)) rfl rfl rfl (dB (K:=K) rfl (ak 2 Q8)) (fun C s₀ H₀ ex=>(mJ 0 (by decide+kernel) uB)) (fun C s₀ H₀ ex=>fc) (fun C s₀ H₀ ex=>(aL ni (hr.mono (by decide)) (J9 (by decide+kernel)) (aa (ie 1 (by decide+kernel)) (aa (ie 2 (by decide+kernel)) (aa (g8 0 (by decide+kernel)) aj))) (by decide+kernel)))) aj) (by decide+kernel) (by decide+kernel))))),?_⟩
 walk_at "sts"
 cases hL:t6 d with
 | true=>
  obtain ⟨ds,rfl⟩:∃ ds,d= .list ds:=by cases d <;> first | exact ⟨_,rfl⟩ | cases hL
  obtain ⟨a,us,rfl,e,r⟩:=aJ.mp hd
  have hl:=bA r
  have h5:=hsz ds rfl
  have hz:us.length≤sizeLine:=Nat.le_trans (show us.length≤5000 by omega) (by decide)
  refine cB (.lst e) rfl ?_
  walk_at "sts"
  refine mG (SqL.of e) ?_
  walk_at "sts"
  refine jM (fun h0=>?_) (fun h0=>?_)
  ·walk_at "sts"
   have:ds=[]:=List.length_eq_zero_iff.mp (by injection h0 with h0;omega)
   subst this
   exact q _ (Same.refl _)
  ·have h0':ds≠[]:=fun z=>h0 (by rw [hl,z];rfl)
   walk_at "sts"
   refine .inl ⟨a,rfl,⟨_,SqL.of e⟩,?_⟩
   refine fJ (xs:=us) (fun i ys H'=>H'=H∧ys=((ds.take i).map (eN z y)).map V.bl) hz ⟨rfl,rfl⟩ ?_ ?_ ?_ ?_
   ·rintro i ys H' ⟨_,rfl⟩
    simp;omega
   ·rintro i ys H' ⟨rfl,rfl⟩
    exact SqL.of e
   ·rintro i ys H' x hx ⟨rfl,rfl⟩
    obtain ⟨d,h1,h2⟩:=gB r hx
    walk_at "sts"
    refine ⟨KeepSt.set rfl,?_⟩
    walk_at "sts"
    refine ⟨z,y,x,d,rfl,h2,hs,ht,rfl,?_⟩
    rw [List.take_add_one,h1]
    simp
   ·rintro ys H' ⟨rfl,rfl⟩ D hD
    rw [hl,List.take_length]
    walk_at "sts"
    refine ⟨D,_,rfl,ao,?_⟩
    walk_at "sts"
    have e2:gk z y (.list ds)=((ds.map (eN z y)).all id):=by
     show (!ds.isEmpty && ds.all (eN z y))=_
     rw [List.all_map]
     cases ds with
     | nil=>exact absurd rfl h0'
     | cons _ _=>rfl
    rw [e2] at q
    exact q _ ((Same.refl _).upd hD)
 | false=>
  refine cB (dH hd) (by rw [rN,hL]) ?_
  walk_at "sts"
  have:gk z y d=false:=by unfold gk;split <;> first | rfl | cases hL
  rw [this] at q
  exact q _ (Same.refl _)
def q9:PyData→Int×Int
 | .tuple [.int i,.int j]=>(i,j)
 | _=>(0,0)
def zH:PyData→List PyData
 | .list ds=>ds
 | _=>[]
def fl (hs:List PyData):List (Int×Int):=(hs.map fun h=>(zH h).map q9).flatten
def yl (p:Int×Int):List Key:=[Sum.inl p.1,Sum.inl p.2]
theorem HJ {p q:Int×Int} (h:yl p=yl q):p=q:=by
 unfold yl at h
 injection h with h1 h2
 injection h2 with h2 _
 exact Prod.ext (Sum.inl.inj h1) (Sum.inl.inj h2)
theorem wC {hs:List PyData} {i:Nat} {h:PyData} (e:hs[i]?=some h):fl (hs.take (i+1))=fl (hs.take i) ++ (zH h).map q9:=by
 unfold fl
 rw [List.take_add_one,e,List.map_append,List.flatten_append]
 simp
theorem ym {hs:List PyData} {i:Nat} {h:PyData} (e:hs[i]?=some h):fl hs=fl (hs.take i) ++ (zH h).map q9 ++ fl (hs.drop (i+1)):=by
 have hi:=(List.getElem?_eq_some_iff.mp e).1
 rw [← wC e]
 unfold fl
 rw [← List.flatten_append,← List.map_append,List.take_append_drop]
def HPs (hs:List PyData):Prop:=(fl hs).length≤5000∧∀ h∈hs,∃ ds,h= .list ds∧∀ d∈ds,∃ i j,d= .tuple [.int i,.int j]
def jJ (z y:Str) (hs:List PyData):Bool:=decide (fl hs).Nodup && decide ((fl hs).length=(prs z.cps.toList y.cps.toList z.length).length)
def Rc (K:PySem.W.Frag) (mg:Str→Option Value):Sp:=fun vs H Q _=>∃ (z y:Str) (a:Addr) (us:List V) (hs:List PyData),vs=[.str z,.str y,.ref a]∧H a=some (.lst us)∧RDs H hs us∧HPs hs∧mZ z∧mZ y∧∀ H',Same H H'→Q (.bl (jJ z y hs)) H'
theorem Li {α:Type} {l r:List α} {a:α} (h:a∈l):¬ (l ++ a :: r).Nodup:=fun n=>by
 rw [List.nodup_append] at n
 exact n.2.2 a h a List.mem_cons_self rfl
theorem dI:aP ["side","top","heaps","seen","heap","pair"] ["side","top","heaps"] (au aU):=⟨rfl,rfl,rfl,by decide+kernel,rfl,by decide+kernel,by decide+kernel⟩
theorem gC (T:Txt K mg):nO P w K mg base 6 "holds_all_once" ["side","top","heaps"] (Rc K mg):=by
 have m8:=m8 (P:=P) (w:=w) (base:=base) T
 refine gR T.d_holds_all_once dI (fun _ _ _ _ _ _ us hl=>L2.vI (fun _ _ _=>rfl) us hl) ?_ fun f cdv A outer s H vs Q E hr h=>?_
 ·rintro vs H Q E ⟨z,y,a,us,hs,rfl,_⟩;rfl
 obtain ⟨z,y,a,us,hs,rfl,ha,hr0,hP,hz,hy,q⟩:=h
 have hu:=hr.units0
 have hu64:=hr.units
 refine ⟨_,(aq (aR (i:=3) dI.nd rfl (Or.inl Lg) KJ rfl) (aq (d9 PassesOwn.never rfl (dB (K:=K) rfl (ak 2 kz1d)) (bO (i:=4) dI.nd rfl (Or.inl Ve) rfl) (aA (d9 PassesOwn.never rfl (dB (K:=K) rfl (ak 4 Ve)) (bO (i:=5) dI.nd rfl (Or.inl Q9) rfl) (aq (bZ (bW (GJ (K:=K) rfl hu64) (ak 5 Q9) (ak 3 Lg) (by first | exact aW _ | with_unfolding_all rfl)) (aA (aG gJ)) bC) (aA (iM (ts:=oM) gJ (jY (ak 3 Lg) (ak 5 Q9) (lF hu64)))))))) (aA (aG (jX (ju (K:=K) rfl hu64) (aM Dd (bL Vd) T.b_len dz (aa (ak 3 Lg) aj) (by decide+kernel) (by decide+kernel)) (aM (bH (K:=K) rfl) (bL Vd) T.b_len dz (aa (lB m8 (hr.mono (by decide)) (bL kz1a) (MP fun _ _=>rfl) (aa (ak 0 kz1c) (aa (ak 1 kz1b) aj)) (by decide+kernel)) aj) (by decide+kernel) (by decide+kernel)) (by first | exact aW _ | with_unfolding_all rfl)))))),?_⟩
 walk_at "sts"
 intro sd nsd
 walk_at "sts"
 refine .inl ⟨a,rfl,⟨_,SqL.of (eZ nsd ha)⟩,?_⟩
 have hl:=bA hr0
 have hs5:20000 < sizeLine:=by decide
 have hP1:=hP.1
 refine gG (xs:=us) (fun i σ H'=>Same H H'∧(fl (hs.take i)).Nodup∧(∃ kvs,H' sd=some (.dT kvs)∧kvs.map (·.1)=(fl (hs.take i)).map yl)∧∃ x4 x5,σ=[some (.str z),some (.str y),some (.ref a),some (.ref sd),x4,x5])
  ⟨(Same.refl H).upd nsd,by simp [fl],⟨[],ao,by simp [fl]⟩,none,none,rfl⟩ (fun i σ H' _ h=>SqL.of (h.1 _ _ ha)) ?_ ?_
 ·rintro i x σ H1 hi ⟨S1,nd1,⟨kvs,hk,hkl⟩,x4,x5,rfl⟩
  obtain ⟨dh,g1,g2⟩:=gB hr0 hi
  obtain ⟨ds,rfl,hdp⟩:=hP.2 dh (List.mem_of_getElem? g1)
  obtain ⟨c,ws,rfl,hc,hw⟩:=aJ.mp g2
  have hwl:=bA hw
  have spl:=ym g1
  have spl2:fl hs=fl (hs.take i) ++ ds.map q9 ++ fl (hs.drop (i+1)):=spl
  have fls:(fl (hs.take i)).length+ds.length≤5000:=by
   have:=congrArg List.length spl2
   simp at this
   omega
  rw [wC g1]
  show _
  walk_at "sts"
  refine .inl ⟨c,rfl,⟨_,SqL.of (S1 _ _ hc)⟩,?_⟩
  refine gG (xs:=ws) (fun j σ H'=>Same H H'∧(fl (hs.take i) ++ (ds.take j).map q9).Nodup∧(∃ kvs,H' sd=some (.dT kvs)∧kvs.map (·.1)=(fl (hs.take i) ++ (ds.take j).map q9).map yl)∧∃ x5,σ=[some (.str z),some (.str y),some (.ref a),some (.ref sd),some (.ref c),x5])
   ⟨S1,by simpa using nd1,⟨kvs,hk,by simpa using hkl⟩,_,rfl⟩ (fun i σ H' _ h=>SqL.of (h.1 _ _ hc)) ?_ ?_
  ·rintro j x σ H2 hj ⟨S2,nd2,⟨kvs2,hk2,hkl2⟩,x5,rfl⟩
   have hj':j < ws.length:=(List.getElem?_eq_some_iff.mp hj).1
   obtain ⟨dp,g3,g4⟩:=gB (RDs.same S2 _ _ hw) hj
   obtain ⟨p1,p2,rfl⟩:=hdp dp (List.mem_of_getElem? g3)
   obtain ⟨b,rfl,hb⟩:=ir.mp g4
   have hb':H2 b=some (.tup ((yl (p1,p2)).map kV)):=hb
   have lk:kvs2.length≤5000:=by
    have:=congrArg List.length hkl2
    simp at this
    omega
   have tk:(ds.take (j+1)).map q9=(ds.take j).map q9 ++ [(p1,p2)]:=by
    rw [List.take_add_one,g3,List.map_append];rfl
   walk_at "sts"
   refine Uv hk2 hb' ?_
   cases hg:lV kvs2 (yl (p1,p2)) with
   | some v=>
    rw [Option.isSome_some]
    walk_at "sts"
    have hm:=JN hg
    rw [hkl2] at hm
    obtain ⟨p',hp',ep⟩:=List.mem_map.mp hm
    have ep':=HJ ep
    rw [ep'] at hp'
    have no:jJ z y hs=false:=by
     unfold jJ
     have dr:ds.map q9=(ds.take j).map q9 ++ (p1,p2) :: (ds.drop (j+1)).map q9:=by
      have:ds=ds.take j ++ .tuple [.int p1,.int p2] :: ds.drop (j+1):=by
       have hjd:=(List.getElem?_eq_some_iff.mp g3).1
       have e:=(List.getElem?_eq_some_iff.mp g3).2
       rw [← e,List.getElem_cons_drop,List.take_append_drop]
      conv=>lhs;rw [this]
      rw [List.map_append];rfl
     have:¬ (fl hs).Nodup:=by
      rw [spl2,dr,← List.append_assoc,List.append_assoc,List.cons_append]
      exact Li hp'
     rw [decide_eq_false this,Bool.false_and]
    rw [no] at q
    exact q _ S2
   | none=>
    rw [Option.isSome_none]
    walk_at "sts"
    refine QC hk2 hb' (by omega) ?_
    rw [Fi _ hg]
    have S3:Same H (upd H2 sd (.dT (kvs2 ++ [(yl (p1,p2),.bl true)]))):=over S2 nsd
    refine ⟨S3,?_,⟨_,ao,?_⟩,_,rfl⟩
    ·rw [tk,← List.append_assoc,List.nodup_append]
     refine ⟨nd2,by simp,fun a1 h1 b1 h2 e=>?_⟩
     rw [List.mem_singleton.mp h2] at e
     subst e
     refine Fv hg ?_
     rw [hkl2]
     exact List.mem_map.mpr ⟨_,h1,rfl⟩
    ·rw [tk,List.map_append,hkl2];simp [List.map_append]
  ·rintro σ H2 ⟨S2,nd2,⟨kvs2,hk2,hkl2⟩,x5,rfl⟩
   rw [hwl,List.take_length] at nd2 hkl2
   exact ⟨S2,nd2,⟨kvs2,hk2,hkl2⟩,_,_,rfl⟩
 ·rintro σ H1 ⟨S1,nd1,⟨kvs,hk,hkl⟩,x4,x5,rfl⟩
  rw [hl,List.take_length] at nd1 hkl
  have lk:kvs.length=(fl hs).length:=by
   have:=congrArg List.length hkl
   simpa using this
  walk_at "sts"
  refine KN hk ?_
  walk_at "sts"
  refine spX.good hz hy fun q1 H3 nq1 S3 PL3=>?_
  obtain ⟨vs,hv,hvl,hvd⟩:=PL3.len
  walk_at "sts"
  refine mG (SqL.of hv) ?_
  walk_at "sts"
  have e:decide (V.int (kvs.length:Int)=V.int (vs.length:Int))=jJ z y hs:=by
   unfold jJ
   rw [decide_eq_true nd1,Bool.true_and,lk,hvl]
   refine decide_eq_decide.mpr ⟨fun h=>by injection h with h;omega,fun h=>by rw [h]⟩
  rw [e]
  exact q _ (S1.trans S3)
def my (d e:PyData):Bool:=iD d e || iD e d
def cX (ds:List PyData):Bool:=(List.range ds.length).any fun i=>(ds.take i).any fun e=>my e (ds.getD i .none)
def Rf:Sp:=fun vs H Q _=>∃ (a:Addr) (us:List V) (ds:List PyData),vs=[.ref a]∧H a=some (.lst us)∧RDs H ds us∧ds.length≤5000∧(∀ d∈ds,∃ i j,d= .tuple [.int i,.int j])∧∀ H',Same H H'→Q (.bl (cX ds)) H'
theorem Lj {xs:List V} {k:Nat}:lR xs none (some (k:Int))=xs.take k:=by
 unfold lR
 rw [HT.sIx_none,HT.sIx_nat,List.drop_zero,Nat.sub_zero]
 by_cases h:k≤xs.length
 ·rw [Nat.min_eq_left h]
 ·rw [Nat.min_eq_right (by omega),List.take_length,List.take_of_length_le (by omega)]
theorem dY:aP ["heap","place","pair","earlier"] ["heap"] (au bF):=⟨rfl,rfl,rfl,by decide+kernel,rfl,by decide+kernel,by decide+kernel⟩
theorem gW (T:Txt K mg):nO P w K mg base 2 "has_one_ahead" ["heap"] Rf:=by
 have jB:=jB (P:=P) (w:=w) (base:=base) T
 refine gR T.d_has_one_ahead dY (fun _ _ _ _ _ _ us hl=>L2.uv (fun _=>rfl) us hl) ?_ fun f cdv A outer s H vs Q E hr h=>?_
 ·rintro vs H Q E ⟨a,us,ds,rfl,_⟩;rfl
 obtain ⟨a,us,ds,rfl,ha,hr0,hdl,hdp,q⟩:=h
 have hu:=hr.units0
 have hu64:=hr.units
 refine ⟨_,(aq (d9 PassesOwn.never rfl (vX (K:=K) rfl rfl (bL kz1g) T.b_enumerate (aa (ak 0 Vf) aj)) (qe (K:=K) rfl rfl (cR (bO (i:=1) dY.nd rfl (Or.inl Vg) rfl) (cR (bO (i:=2) dY.nd rfl (Or.inl Ra) rfl) jr))) (aA (d9 PassesOwn.never rfl (dB (K:=K) rfl (cI (JX (K:=K) rfl) (ak 0 Vf) bT (b7 (ak 1 Vg)))) (bO (i:=3) dY.nd rfl (Or.inl Rb) rfl) (aA (bZ (mj (jH (cG (aL jB (hr.mono (by decide)) (bL Vh) (aa (ak 3 Rb) (aa (ak 2 Ra) aj)) (by decide+kernel))) (jo (cG (aL jB (hr.mono (by decide)) (bL Vh) (aa (ak 2 Ra) (aa (ak 3 Rb) aj)) (by decide+kernel)))))) (aA (aG gJ)) bC))))) (aA (aG gJ))),?_⟩
 walk_at "sts"
 have hl:=bA hr0
 have pr:∀ {k:Nat} {x:V} {H':Hp},Same H H'→us[k]?=some x→∃ (b:Addr) (i j:Int),x= .ref b∧H' b=some (.tup [.int i,.int j])∧ds[k]?=some (.tuple [.int i,.int j]):=fun S e=>by
  obtain ⟨d,g1,g2⟩:=gB hr0 e
  obtain ⟨i,j,rfl⟩:=hdp d (List.mem_of_getElem? g1)
  obtain ⟨b,rfl,hb⟩:=ir.mp g2
  exact ⟨b,i,j,rfl,S _ _ hb,g1⟩
 refine .inr ⟨a,_,rfl,SqL.of ha,?_⟩
 refine CP (xs:=us) (fun i σ H'=>Same H H'∧((List.range i).any fun i=>(ds.take i).any fun e=>my e (ds.getD i .none))=false∧∃ x1 x2 x3,σ=[some (.ref a),x1,x2,x3]) ⟨Same.refl _,rfl,none,none,none,rfl⟩ (fun i σ H' _ h=>SqL.of (h.1 _ _ ha)) ?_ ?_
 ·rintro i σ H1 T0 x hx ⟨S1,no1,x1,x2,x3,rfl⟩ nT
  have hi:i < us.length:=(List.getElem?_eq_some_iff.mp hx).1
  obtain ⟨b,bi,bj,rfl,hb,eb⟩:=pr S1 hx
  have gb:ds.getD i .none= .tuple [.int bi,.int bj]:=by rw [List.getD_eq_getElem?_getD,eb];rfl
  refine gU (SqT.of ao) rfl ?_
  have S2:=S1.upd nT (o:=.tup [.int i,.ref b])
  have hb2:=eZ nT hb (o:=.tup [.int i,.ref b])
  generalize upd H1 T0 (.tup [.int i,.ref b])=H2 at S2 hb2 ⊢
  walk_at "sts"
  refine Gh (SqL.of (S2 _ _ ha)) fun m nm=>?_
  rw [Lj]
  refine .inl ⟨m,rfl,⟨_,SqL.of ao⟩,?_⟩
  refine gG (xs:=us.take i) (fun j σ H'=>H'=upd H2 m (.lst (us.take i))∧((ds.take j).any fun e=>my e (ds.getD i .none))=false∧∃ x3,σ=[some (.ref a),some (.int i),some (.ref b),x3])
   ⟨rfl,rfl,_,rfl⟩ (fun i σ H' _ h=>by rw [h.1];exact SqL.of ao) ?_ ?_
  ·rintro j x σ H3 hj ⟨rfl,no2,x3,rfl⟩
   have hj':j < i:=by
    have:=(List.getElem?_eq_some_iff.mp hj).1
    simp at this;omega
   rw [List.getElem?_take_of_lt hj'] at hj
   have S3:=S2.upd nm (o:=.lst (us.take i))
   obtain ⟨c,ci,cj,rfl,hc,ec⟩:=pr S3 hj
   have hb3:=eZ nm hb2 (o:=.lst (us.take i))
   have stop:my (.tuple [.int ci,.int cj]) (.tuple [.int bi,.int bj])=true→cX ds=true:=fun h=>by
    unfold cX
    rw [List.any_eq_true]
    refine ⟨i,List.mem_range.mpr (by omega),?_⟩
    rw [List.any_eq_true]
    refine ⟨_,List.mem_of_getElem? (i:=j) (by rw [List.getElem?_take_of_lt hj'];exact ec),?_⟩
    rw [gb];exact h
   walk_at "sts"
   refine ⟨c,b,ci,cj,bi,bj,rfl,hc,hb3,?_⟩
   cases hA:(decide (ci < bi) && decide (cj < bj)) with
   | true=>
    walk_at "sts"
    rw [stop (by show (_ || _)=true;rw [show iD (.tuple [.int ci,.int cj]) (.tuple [.int bi,.int bj])=true from hA];rfl)] at q
    exact q _ S3
   | false=>
    walk_at "sts"
    refine ⟨b,c,bi,bj,ci,cj,rfl,hb3,hc,?_⟩
    cases hA2:(decide (bi < ci) && decide (bj < cj)) with
    | true=>
     walk_at "sts"
     rw [stop (by show (_ || _)=true;rw [show iD (.tuple [.int bi,.int bj]) (.tuple [.int ci,.int cj])=true from hA2,Bool.or_true])] at q
     exact q _ S3
    | false=>
     walk_at "sts"
     refine ⟨rfl,?_,_,rfl⟩
     rw [List.take_add_one,ec,List.any_append,no2,gb]
     show (false || (my (.tuple [.int ci,.int cj]) (.tuple [.int bi,.int bj]) || false))=false
     have:my (.tuple [.int ci,.int cj]) (.tuple [.int bi,.int bj])=false:=by
      show (_ || _)=false
      rw [show iD (.tuple [.int ci,.int cj]) (.tuple [.int bi,.int bj])=false from hA,show iD (.tuple [.int bi,.int bj]) (.tuple [.int ci,.int cj])=false from hA2];rfl
     rw [this];rfl
  ·rintro σ H3 ⟨rfl,no2,x3,rfl⟩
   refine ⟨S2.upd nm,?_,_,_,_,rfl⟩
   rw [List.length_take,Nat.min_eq_left (by omega)] at no2
   rw [List.range_succ,List.any_append,no1]
   show (false || ((ds.take i).any (fun e=>my e (ds.getD i .none)) || false))=false
   rw [no2];rfl
 ·rintro σ H1 ⟨S1,no1,x1,x2,x3,rfl⟩
  walk_at "sts"
  have:cX ds=false:=by
   unfold cX
   rw [← hl];exact no1
  rw [this] at q
  exact q _ S1
end
section
variable {P:Program} {w:World} {K:PySem.W.Frag} {mg:Str→Option Value} {base:Heap}
theorem ud:(["heap"]:List Str).Nodup:=by decide+kernel
theorem ue:(["heap","side","top"]:List Str).Nodup:=by decide+kernel
theorem kz1m:cM bz "any":=by decide+kernel
theorem Lk:bV bz "thing":=by decide+kernel
theorem kz1o:cM bz "holds_all_once":=by decide+kernel
theorem Vi:Hr bz "top":=by decide+kernel
theorem Vj:Hr bz "side":=by decide+kernel
theorem kz1r:cM bz "all":=by decide+kernel
theorem kz1s:cM bz "isinstance":=by decide+kernel
theorem kz1t:cM bz "list":=by decide+kernel
theorem kz1u:cM bz "need_rows":=by decide+kernel
def HBd (d:PyData):Prop:=∀ ds,d= .list ds→ds.length≤5000∧(fl ds).length≤5000∧∀ h∈ds,∀ es,h= .list es→es.length≤5000
def gD (z y:Str):PyData→Bool
 | .list hs=>hs.all (gk z y) && (jJ z y hs && !hs.any fun h=>cX (zH h))
 | _=>false
def Vk:Str→Str→V→Hp→VK→Prop:=fun side top t H Q=>∃ d,RD H d t∧HBd d∧∀ H',Same H H'→Q (.bl (gD side top d)) H'
theorem wD:aP ["side","top","thing"] ["side","top","thing"] (au bz):=⟨rfl,rfl,rfl,by decide+kernel,rfl,by decide+kernel,by decide+kernel⟩
theorem j9 (T:Txt K mg):zf P w K mg base 7 "are_heaps" ["side","top","thing"] (spX3 K mg Vk):=by
 have fQ:=fQ (P:=P) (w:=w) (base:=base) T
 have nj:=nj (P:=P) (w:=w) (base:=base) T
 have gC:=gC (P:=P) (w:=w) (base:=base) T
 have gW:=gW (P:=P) (w:=w) (base:=base) T
 refine Ax T.d_are_heaps wD (fun _ _ _ _ _ _ us hl=>L2.vI (fun _ _ _=>rfl) us hl) ?_ fun f cdv A outer s H vs Q E hr h=>?_
 ·rintro vs H Q E ⟨v,u,t,rfl,_⟩;rfl
 obtain ⟨v,u,t,rfl,hv,hu',qx,q⟩:=h
 have hu:=hr.units0
 have hu64:=hr.units
 refine ⟨_,(aq (dX (lB fQ (hr.mono (by decide)) (bL kz1u) j0 (aa (gH 0 Vj) (aa (gH 1 Vi) aj)) (by decide+kernel))) (aq (bZ (mj (jH (c7 (cG (aM (cL (K:=K) rfl) (bL kz1s) T.b_isinstance bw (aa (ak 2 Lk) (aa (qZ (bL kz1t) T.b_list kZ (by decide+kernel) (by decide+kernel)) aj)) (by decide+kernel) (by decide+kernel)))) (jo (c7 (cG (aM (sJ rfl) (bL kz1r) T.b_all yX (aa (iZ (sub:=[none,some 0,some 1]) (cQ (N:=["side","top","thing"]) (sc:=au bz) (N':=["heap","side","top"]) (by decide+kernel)) rfl rfl rfl (dB (K:=K) rfl (ak 2 Lk)) (fun C s₀ H₀ ex=>(mJ 0 (by decide+kernel) ue)) (fun C s₀ H₀ ex=>fc) (fun C s₀ H₀ ex=>(aL nj (hr.mono (by decide)) (J9 (by decide+kernel)) (aa (ie 1 (by decide+kernel)) (aa (ie 2 (by decide+kernel)) (aa (g8 0 (by decide+kernel)) aj))) (by decide+kernel)))) aj) (by decide+kernel) (by decide+kernel))))))) (aA (aG gJ)) bC) (aq (bZ (c7 (cG (aL gC (hr.mono (by decide)) (bL kz1o) (aa (gH 0 Vj) (aa (gH 1 Vi) (aa (ak 2 Lk) aj))) (by decide+kernel)))) (aA (aG gJ)) bC) (aA (aG (Gk (aM (Fw rfl) (bL kz1m) T.b_any PJ (aa (iZ (sub:=[none]) (cQ (N:=["side","top","thing"]) (sc:=au bz) (N':=["heap"]) (by decide+kernel)) rfl rfl rfl (dB (K:=K) rfl (ak 2 Lk)) (fun C s₀ H₀ ex=>(mJ 0 (by decide+kernel) ud)) (fun C s₀ H₀ ex=>fc) (fun C s₀ H₀ ex=>(aL gW (hr.mono (by decide)) (J9 (by decide+kernel)) (aa (g8 0 (by decide+kernel)) aj) (by decide+kernel)))) aj) (by decide+kernel) (by decide+kernel)))))))),?_⟩
 walk_at "sts"
 refine ⟨v,u,rfl,hv,hu',qx,fun side top e1 e2 hs ht H1 S1=>?_⟩
 subst e1 e2
 obtain ⟨d,hd0,hbd,q2⟩:=q _ _ rfl rfl hs ht
 have hd:=RD.same S1 _ _ hd0
 walk_at "sts"
 cases hL:t6 d with
 | true=>
  obtain ⟨ds,rfl⟩:∃ ds,d= .list ds:=by cases d <;> first | exact ⟨_,rfl⟩ | cases hL
  obtain ⟨a,us,rfl,e,r⟩:=aJ.mp hd
  have hl:=bA r
  obtain ⟨h5,hfl,h6⟩:=hbd ds rfl
  have hz:us.length≤sizeLine:=Nat.le_trans (show us.length≤5000 by omega) (by decide)
  refine cB (.lst e) rfl ?_
  walk_at "sts"
  refine .inl ⟨a,rfl,⟨_,SqL.of e⟩,?_⟩
  refine fJ (xs:=us) (fun i ys H'=>Same H1 H'∧ys=((ds.take i).map (gk side top)).map V.bl) hz ⟨Same.refl _,rfl⟩ ?_ ?_ ?_ ?_
  ·rintro i ys H' ⟨_,rfl⟩
   simp;omega
  ·rintro i ys H' ⟨S2,rfl⟩
   exact SqL.of (S2 _ _ e)
  ·rintro i ys H' x hx ⟨S2,rfl⟩
   obtain ⟨d,h1,h2⟩:=gB (RDs.same S2 _ _ r) hx
   walk_at "sts"
   refine ⟨KeepSt.set rfl,?_⟩
   walk_at "sts"
   refine ⟨side,top,x,d,rfl,h2,hs.1,ht.1,fun es ee=>by have:=h6 d (List.mem_of_getElem? h1) es ee;omega,fun H3 S3=>⟨S2.trans S3,?_⟩⟩
   rw [List.take_add_one,h1]
   simp
  ·rintro ys H' ⟨S2,rfl⟩ D hD
   rw [hl,List.take_length]
   walk_at "sts"
   refine ⟨D,_,rfl,ao,?_⟩
   walk_at "sts"
   have e2:((ds.map (gk side top)).all id)=ds.all (gk side top):=by rw [List.all_map];rfl
   rw [e2]
   have S3:Same H1 (upd H' D (.lst ((ds.map (gk side top)).map V.bl))):=S2.upd hD
   generalize upd H' D (.lst ((ds.map (gk side top)).map V.bl))=H3 at S3 ⊢
   replace q2:∀ H',Same H H'→Q (.bl (ds.all (gk side top) && (jJ side top ds && !ds.any fun h=>cX (zH h)))) H':=q2
   cases hm:ds.all (gk side top) with
   | false=>
    walk_at "sts"
    rw [hm,Bool.false_and] at q2
    exact q2 _ (S1.trans S3)
   | true=>
    rw [hm,Bool.true_and] at q2
    have hp:HPs ds:=⟨hfl,fun h hh=>by
     have sd:=List.all_eq_true.mp hm h hh
     cases h with
     | list es=>
      refine ⟨es,rfl,fun x hx=>?_⟩
      have:(!es.isEmpty && es.all (eN side top))=true:=sd
      rw [Bool.and_eq_true] at this
      exact t8 (List.all_eq_true.mp this.2 x hx)
     | _=>cases sd⟩
    walk_at "sts"
    refine ⟨side,top,a,us,ds,rfl,S3 _ _ e,RDs.same S3 _ _ r,hp,hs,ht,fun H4 S4=>?_⟩
    have S14:=S3.trans S4
    cases hO:jJ side top ds with
    | false=>
     walk_at "sts"
     rw [hO,Bool.false_and] at q2
     exact q2 _ (S1.trans S14)
    | true=>
     rw [hO,Bool.true_and] at q2
     walk_at "sts"
     refine .inl ⟨a,rfl,⟨_,SqL.of (S14 _ _ e)⟩,?_⟩
     refine fJ (xs:=us) (fun i ys H'=>Same H1 H'∧ys=((ds.take i).map fun h=>cX (zH h)).map V.bl) hz ⟨S14,rfl⟩ ?_ ?_ ?_ ?_
     ·rintro i ys H' ⟨_,rfl⟩
      simp;omega
     ·rintro i ys H' ⟨S5,_⟩
      exact SqL.of (S5 _ _ e)
     ·rintro i ys H' x hx ⟨S5,rfl⟩
      obtain ⟨d,g1,g2⟩:=gB (RDs.same S5 _ _ r) hx
      obtain ⟨es,rfl,gp⟩:=hp.2 d (List.mem_of_getElem? g1)
      obtain ⟨c,ws,rfl,hc,hw⟩:=aJ.mp g2
      have h7:=h6 _ (List.mem_of_getElem? g1) es rfl
      walk_at "sts"
      refine ⟨KeepSt.set rfl,?_⟩
      walk_at "sts"
      refine ⟨c,ws,es,rfl,hc,hw,by omega,gp,fun H6 S6=>⟨S5.trans S6,?_⟩⟩
      rw [List.take_add_one,g1]
      simp [zH]
     ·rintro ys H' ⟨S5,rfl⟩ D2 hD2
      rw [hl,List.take_length]
      walk_at "sts"
      refine ⟨D2,_,rfl,ao,?_⟩
      walk_at "sts"
      have e3:((ds.map fun h=>cX (zH h)).any id)=ds.any fun h=>cX (zH h):=by rw [List.any_map];rfl
      rw [e3]
      exact q2 _ (S1.trans (S5.upd hD2))
 | false=>
  refine cB (dH hd) (by rw [rN,hL]) ?_
  walk_at "sts"
  have:gD side top d=false:=by unfold gD;split <;> first | rfl | cases hL
  rw [this] at q2
  exact q2 _ S1
end
local macro_rules | `(tactic| walk_at "sts") => `(tactic| (with_reducible repeat (first | refine Cu ?_ | refine jn ?_ | refine xj ?_ | refine vo ?_ | refine vp ?_ | refine qp ?_ | refine qt ?_ | (refine' uZ ?hz0 ?_; (case hz0 => with_unfolding_all rfl)) | refine R0 ?_ | refine CJ ?_ | refine p7 ?_ | refine pR ?_ | refine u0 ?_ | refine Ga ?_ | refine uU ?_ | refine pM ?_ | refine uW ?_ | refine pL ?_ | refine Cp ?_ | refine pO ?_ | refine CK ?_ | refine Cw ?_ | refine pU ?_ | refine Cq ?_ | refine uX ?_ | refine uY ?_ | refine Cr ?_ | refine pP ?_ | refine pQ ?_ | refine uV ?_ | refine pN ?_ | refine Cv ?_ | refine Ag ?_ | refine Ai ?_ | refine Cy ?_ | refine u5 ?_ | refine Cz ?_ | refine u6 ?_ | refine pW ?_ | refine pX ?_ | refine pY ?_ | refine pZ ?_ | refine p6 ?_ | refine u9 ?_ | refine R6 ?_ | refine lg ?_ | refine qg ?_ | (refine' gU (SqT.of ?hz0) ?hz1 ?_; (case hz0 => first | assumption | exact ao); (case hz1 => rfl)) | refine lC ?_ | refine lE ?_ | refine lD ?_ | refine qm ?_ | refine mU ?_ | refine mV ?_ | refine CN ?_ | refine mL ?_ | refine qi ?_ | refine mO ?_ | refine mQ ?_ | refine mR ?_ | refine lw ?_ | refine sV ?_ | refine qd ?_ | (refine' R5 ?hz0 ?_; (case hz0 => with_unfolding_all first | assumption | omega | (dsimp only <;> omega) | exact ⟨by omega, by omega⟩ | exact .inl ⟨by omega, by omega⟩ | exact .inr ⟨by omega, by omega⟩ | exact ⟨by decide, by decide, by decide⟩)) | (refine' p8 ?hz0 ?_; (case hz0 => with_unfolding_all first | assumption | omega | (dsimp only <;> omega) | exact ⟨by omega, by omega⟩ | exact .inl ⟨by omega, by omega⟩ | exact .inr ⟨by omega, by omega⟩ | exact ⟨by decide, by decide, by decide⟩)) | (refine' bh (SqL.of ?hz0) ?hz1 ?_; (case hz0 => first | assumption | exact ao); (case hz1 => with_unfolding_all rfl)) | (refine' vd (SqT.of ?hz0) ?hz1 ?_; (case hz0 => first | assumption | exact ao); (case hz1 => with_unfolding_all rfl)) | (refine' mF ?hz0 ?hz1 ?_; (case hz0 => first | assumption | exact ao); (case hz1 => with_unfolding_all rfl)))))
local macro_rules | `(tactic| walk_at "stn") => `(tactic| (with_reducible repeat (first | refine Cu ?_ | refine jn ?_ | refine xj ?_ | refine vo ?_ | refine vp ?_ | refine qp ?_ | refine qt ?_ | (refine' uZ ?hz0 ?_; (case hz0 => with_unfolding_all rfl)) | refine R0 ?_ | refine CJ ?_ | refine p7 ?_ | refine pR ?_ | refine u0 ?_ | refine uU ?_ | refine pM ?_ | refine uW ?_ | refine pL ?_ | refine Cp ?_ | refine pO ?_ | refine CK ?_ | refine Cw ?_ | refine pU ?_ | refine Cq ?_ | refine uX ?_ | refine uY ?_ | refine Cr ?_ | refine pP ?_ | refine pQ ?_ | refine uV ?_ | refine pN ?_ | refine Cv ?_ | refine Ag ?_ | refine Ai ?_ | refine Cy ?_ | refine u5 ?_ | refine Cz ?_ | refine u6 ?_ | refine pW ?_ | refine pX ?_ | refine pY ?_ | refine pZ ?_ | refine p6 ?_ | refine u9 ?_ | refine R6 ?_ | refine lg ?_ | refine qg ?_ | (refine' gU (SqT.of ?hz0) ?hz1 ?_; (case hz0 => first | assumption | exact ao); (case hz1 => rfl)) | refine lC ?_ | refine lE ?_ | refine lD ?_ | refine qm ?_ | refine mU ?_ | refine mV ?_ | refine CN ?_ | refine mL ?_ | refine qi ?_ | refine mO ?_ | refine mQ ?_ | refine mR ?_ | refine lw ?_ | refine sV ?_ | refine qd ?_ | (refine' R5 ?hz0 ?_; (case hz0 => with_unfolding_all first | assumption | omega | (dsimp only <;> omega) | exact ⟨by omega, by omega⟩ | exact .inl ⟨by omega, by omega⟩ | exact .inr ⟨by omega, by omega⟩ | exact ⟨by decide, by decide, by decide⟩)) | (refine' p8 ?hz0 ?_; (case hz0 => with_unfolding_all first | assumption | omega | (dsimp only <;> omega) | exact ⟨by omega, by omega⟩ | exact .inl ⟨by omega, by omega⟩ | exact .inr ⟨by omega, by omega⟩ | exact ⟨by decide, by decide, by decide⟩)) | (refine' bh (SqL.of ?hz0) ?hz1 ?_; (case hz0 => first | assumption | exact ao); (case hz1 => with_unfolding_all rfl)) | (refine' vd (SqT.of ?hz0) ?hz1 ?_; (case hz0 => first | assumption | exact ao); (case hz1 => with_unfolding_all rfl)) | (refine' mF ?hz0 ?hz1 ?_; (case hz0 => first | assumption | exact ao); (case hz1 => with_unfolding_all rfl)))))
section
variable {P:Program} {w:World} {K:PySem.W.Frag} {mg:Str→Option Value} {base:Heap}
theorem uf:(["_law_j","_law_i","_law_side","_law_top"]:List Str).Nodup:=by decide+kernel
theorem rm:(["_law_k"]:List Str).Nodup:=by decide+kernel
theorem qC:(["_law_k","_law_letters_here","_law_first","_law_step"]:List Str).Nodup:=by decide+kernel
theorem ug:(["_law_k","_law_signs","_law_purse_here"]:List Str).Nodup:=by decide+kernel
theorem HQ:bV bI "_law_table_here":=by decide+kernel
theorem kz1w:bV bI "_law_side":=by decide+kernel
theorem Vl:bV bI "_law_sign":=by decide+kernel
theorem Ln:bV bI "_law_row_here":=by decide+kernel
theorem kz1z:cM bI "range":=by decide+kernel
theorem Vm:cM bI "len":=by decide+kernel
theorem Rg:bV bI "_law_top":=by decide+kernel
theorem HR:bV bI "_law_at":=by decide+kernel
theorem Rh:bV bI "_law_most":=by decide+kernel
theorem kz24:cM bI "max":=by decide+kernel
theorem Ri:bV cC "_law_found":=by decide+kernel
theorem Vn:cM cC "range":=by decide+kernel
theorem Vo:cM cC "len":=by decide+kernel
theorem kz28:Hr cC "_law_side":=by decide+kernel
theorem kz29:Hr cC "_law_i":=by decide+kernel
theorem kz2a:Hr cC "_law_top":=by decide+kernel
theorem Vp:cM fP "_law_drawn":=by decide+kernel
theorem Vq:bV fP "_law_most":=by decide+kernel
theorem Vr:bV fP "_law_signs":=by decide+kernel
theorem Rj:bV fP "_law_purse_here":=by decide+kernel
theorem kz2f:cM fP "_law_take":=by decide+kernel
theorem Rk:bV bx "_law_found":=by decide+kernel
theorem kz2h:cM bx "_law_pairs":=by decide+kernel
theorem Vs:bV bx "_law_top":=by decide+kernel
theorem Vt:bV bx "_law_side":=by decide+kernel
theorem Rm:bV bx "_law_j":=by decide+kernel
theorem Rn:bV bx "_law_i":=by decide+kernel
theorem Ro:bV bx "_law_table_here":=by decide+kernel
theorem kz2n:cM bx "range":=by decide+kernel
theorem kz2o:cM bx "_law_table":=by decide+kernel
theorem Rp:bV gA "_law_k":=by decide+kernel
theorem kz2q:cM gA "len":=by decide+kernel
theorem Vu:bV gA "_law_script":=by decide+kernel
theorem Vv:bV gM "_law_cell_here":=by decide+kernel
theorem kz2t:cM gM "max":=by decide+kernel
theorem yo:bV fG "_law_number":=by decide+kernel
theorem Rq:bV fG "_law_many":=by decide+kernel
theorem wF:bV fG "_law_purse_here":=by decide+kernel
theorem Vw:bV fG "_law_digit":=by decide+kernel
theorem kz2y:cM bD "range":=by decide+kernel
theorem Vx:bV bD "_law_many":=by decide+kernel
theorem Rr:cM bD "_law_take":=by decide+kernel
theorem Rt:bV bD "_law_purse_here":=by decide+kernel
theorem kz32:Hr bD "_law_step":=by decide+kernel
theorem kz33:Hr bD "_law_first":=by decide+kernel
theorem kz34:Hr bD "_law_letters_here":=by decide+kernel
theorem kz35:cM cV "range":=by decide+kernel
theorem Vy:bV cV "_law_size":=by decide+kernel
theorem Vz:cM cV "_law_take":=by decide+kernel
theorem kz38:bV cV "_law_most":=by decide+kernel
theorem VB:Hr cV "_law_purse_here":=by decide+kernel
theorem yp:aP ["_law_script","_law_k"] ["_law_script","_law_k"] (au gA):=⟨rfl,rfl,rfl,by decide+kernel,rfl,by decide+kernel,by decide+kernel⟩
theorem nu (T:Txt K mg):nO P w K mg base 1 "_law_cell" ["_law_script","_law_k"] (QL K):=by
 refine gR T.d_law_cell yp (fun _ _ _ _ _ _ us hl=>L2.rT (fun _ _=>rfl) us hl) ?_ fun f cdv A outer s H vs Q E hr h=>?_
 ·rintro vs H Q E ⟨a,ns,k,rfl,_⟩;rfl
 obtain ⟨a,ns,k,rfl,hS,h0,q⟩:=h
 refine ⟨_,(aq (bZ (bW wY (ak 1 Rp) (aM (bH (K:=K) rfl) (bL kz2q) T.b_len dz (aa (ak 0 Vu) aj) (by decide+kernel) (by decide+kernel)) (by first | exact aW _ | with_unfolding_all rfl)) (aA (aG (bB (K:=K) rfl (ak 0 Vu) (ak 1 Rp)))) bC) (aA (aG (bu aH (bu ig az (ak 1 Rp)) az)))),?_⟩
 walk_at "sts"
 refine ⟨_,_,rfl,.inl ⟨_,hS,rfl⟩,?_⟩
 walk_at "sts"
 refine jM (fun hk=>?_) (fun hk=>?_)
 ·rw [List.length_map] at hk
  walk_at "sts"
  refine bh hS (dW (v:=.int (ns.getD k.toNat 0)) h0 ?_) (q _)
  rw [List.getElem?_map,List.getD_eq_getElem?_getD,List.getElem?_eq_getElem (by omega)];rfl
 ·walk_at "sts"
  exact q _
theorem wG:aP ["_law_cell_here"] ["_law_cell_here"] (au gM):=⟨rfl,rfl,rfl,by decide+kernel,rfl,by decide+kernel,by decide+kernel⟩
theorem kh (T:Txt K mg):nO P w K mg base 1 "_law_purse" ["_law_cell_here"] K5:=by
 refine gR T.d_law_purse wG (fun _ _ _ _ _ _ us hl=>L2.uv (fun _=>rfl) us hl) ?_ fun f cdv A outer s H vs Q E hr h=>?_
 ·rintro vs H Q E ⟨a,rfl,_⟩;rfl
 obtain ⟨n,rfl,q⟩:=h
 refine ⟨_,(aA (aG (bU (aa (aM (uF rfl) (bL kz2t) T.b_max FW (aa az (aa (bu pH (ak 0 Vv) (bu Ek az az)) aj)) (by decide+kernel) (by decide+kernel)) (aa (bu jQ (ak 0 Vv) az) (aa az aj)))))),?_⟩
 walk_at "sts"
 refine ⟨by simp;decide,fun p hp=>q p _ hp ((Chg.refl p H).new hp) ⟨_,_,_,ao,?_,?_,?_⟩⟩
 ·split <;> omega
 ·omega
 ·omega
theorem gO:aP ["_law_purse_here","_law_many","_law_digit","_law_number"] ["_law_purse_here","_law_many"] (au fG):=⟨rfl,rfl,rfl,by decide+kernel,rfl,by decide+kernel,by decide+kernel⟩
theorem aC (T:Txt K mg):nO P w K mg base 1 "_law_take" ["_law_purse_here","_law_many"] QM:=by
 refine gR T.d_law_take gO (fun _ _ _ _ _ _ us hl=>L2.rT (fun _ _=>rfl) us hl) ?_ fun f cdv A outer s H vs Q E hr h=>?_
 ·rintro vs H Q E ⟨a,n,rfl,_⟩;rfl
 obtain ⟨p,n,rfl,⟨a,b,c,hp,ha,hb,hb2⟩,hn,hn2,q⟩:=h
 refine ⟨_,(aq (iM (ts:=xf) (bu aH (bB (K:=K) rfl (ak 0 wF) az) az) (jY (ak 0 wF) az set_list)) (aq (bZ (bW Em (bB (K:=K) rfl (ak 0 wF) az) az (by first | exact aW _ | with_unfolding_all rfl)) (aq (aR (i:=2) gO.nd rfl (Or.inl Vw) (bu jQ (bB (K:=K) rfl (ak 0 wF) az) (ak 1 Rq)) rfl) (aq (iM (ts:=xf) (bu zW (bB (K:=K) rfl (ak 0 wF) az) (ak 1 Rq)) (jY (ak 0 wF) az set_list)) (aA (aG (ak 2 Vw))))) bC) (aq (aR (i:=3) gO.nd rfl (Or.inl yo) (bu jQ (bu aH (bu aH (bu ig (bB (K:=K) rfl (ak 0 wF) az) az) (bu ig az (bB (K:=K) rfl (ak 0 wF) az))) az) az) rfl) (aq (aR (i:=3) gO.nd rfl (Or.inl yo) (bu jQ (bu ig (ak 3 yo) (ak 3 yo)) az) rfl) (aq (aR (i:=3) gO.nd rfl (Or.inl yo) (bu jQ (bu ig (bu aH (ak 3 yo) (bu ig az (bB (K:=K) rfl (ak 0 wF) az))) az) az) rfl) (aA (aG (bu jQ (bu zW (bu jQ (bu ig (ak 3 yo) (ak 3 yo)) az) az) (ak 1 Rq))))))))),?_⟩
 walk_at "sts"
 refine jM (fun h1=>?_) (fun h1=>?_)
 ·walk_at "sts"
  refine q _ _ (Int.emod_nonneg _ (by omega)) (Int.emod_lt_of_pos _ hn) ⟨_,_,_,ao,Int.ediv_nonneg ha (by omega),hb,hb2⟩ fun b' o hb' e=>?_
  rw [aB hb',aB hb'];exact e
 ·walk_at "sts"
  refine q _ _ (Int.emod_nonneg _ (by omega)) (Int.emod_lt_of_pos _ hn) ⟨_,_,_,ao,ha,hb,hb2⟩ fun b' o hb' e=>?_
  rw [aB hb'];exact e
theorem dR:aP ["_law_purse_here","_law_letters_here","_law_first","_law_step","_law_many"] ["_law_purse_here"] (au bD):=⟨rfl,rfl,rfl,by decide+kernel,rfl,by decide+kernel,by decide+kernel⟩
theorem jd (T:Txt K mg):nO P w K mg base 2 "_law_letters" ["_law_purse_here"] Du:=by
 have aC:=aC (P:=P) (w:=w) (base:=base) T
 refine gR T.d_law_letters dR (fun _ _ _ _ _ _ us hl=>L2.uv (fun _=>rfl) us hl) ?_ fun f cdv A outer s H vs Q E hr h=>?_
 ·rintro vs H Q E ⟨a,rfl,_⟩;rfl
 obtain ⟨p,rfl,hP,q⟩:=h
 refine ⟨_,(aq (aR (i:=1) dR.nd rfl (Or.inr kz34) xH rfl) (aq (aR (i:=2) dR.nd rfl (Or.inr kz33) (aL aC (hr.mono (by decide)) (bL Rr) (aa (ak 0 Rt) (aa az aj)) (by decide+kernel)) rfl) (aq (aR (i:=3) dR.nd rfl (Or.inr kz32) (bB (K:=K) rfl (bU (aa az (aa az (aa az (aa az (aa az (aa az aj))))))) (aL aC (hr.mono (by decide)) (bL Rr) (aa (ak 0 Rt) (aa az aj)) (by decide+kernel))) rfl) (aq (aR (i:=4) dR.nd rfl (Or.inl Vx) (bB (K:=K) rfl (bU (aa az (aa az (aa az (aa az (aa az (aa az (aa az (aa az aj))))))))) (aL aC (hr.mono (by decide)) (bL Rr) (aa (ak 0 Rt) (aa az aj)) (by decide+kernel))) rfl) (aA (aG (iZ (sub:=[none,some 1,some 2,some 3]) (cQ (N:=["_law_purse_here","_law_letters_here","_law_first","_law_step","_law_many"]) (sc:=au bD) (N':=["_law_k","_law_letters_here","_law_first","_law_step"]) (by decide+kernel)) rfl rfl rfl (fK (bL kz2y) T.b_range (aa (ak 4 Vx) aj)) (fun C s₀ H₀ ex=>(mJ 0 (by decide+kernel) qC)) (fun C s₀ H₀ ex=>fc) (fun C s₀ H₀ ex=>(bB (K:=K) rfl (ie 1 (by decide+kernel)) (bu jQ (bu aH (ie 2 (by decide+kernel)) (bu ig (ie 3 (by decide+kernel)) (g8 0 (by decide+kernel)))) az)))))))))),?_⟩
 walk_at "sts"
 refine ⟨p,26,rfl,hP,by omega,by omega,fun d1 H1 a1 b1 P1 C1=>?_⟩
 walk_at "sts"
 refine ⟨by decide,fun m1 n1=>?_⟩
 walk_at "sts"
 refine ⟨p,6,rfl,P1.new n1,by omega,by omega,fun d2 H2 a2 b2 P2 C2=>?_⟩
 obtain ⟨w1,hw1,e1⟩:=Gb (ns:=[1,3,5,7,9,11]) a2 b2
 refine bh (SqL.of (C2.at_ ao (P1.ne n1))) e1 ?_
 walk_at "sts"
 refine ⟨by decide,fun m2 n2=>?_⟩
 walk_at "sts"
 refine ⟨p,8,rfl,P2.new n2,by omega,by omega,fun d3 H3 a3 b3 P3 C3=>?_⟩
 obtain ⟨w2,hw2,e2⟩:=Gb (ns:=[1,2,2,3,3,4,5,26]) a3 b3
 refine bh (SqL.of (C3.at_ ao (P2.ne n2))) e2 ?_
 walk_at "sts"
 have g2:1≤w2∧w2≤26:=by
  have:∀ n∈([1,2,2,3,3,4,5,26]:List Int),1≤n∧n≤26:=by decide
  exact this w2 hw2
 refine ⟨_,rfl,by omega,by omega,?_⟩
 refine oG (fun i ys H'=>H'=H3∧∃ zs:List Str,ys=zs.map V.str∧zs.length=i∧GoodS zs) (Nat.le_trans (show w2.toNat≤1000 by omega) (by decide)) ⟨rfl,[],rfl,rfl,by intro y hy;cases hy⟩ (by rintro i ys H ⟨_,zs,rfl,hl,_⟩;simp [hl]) ?_ ?_
 ·rintro i ys H' hi ⟨rfl,zs,rfl,hl,hz⟩
  walk_at "sts"
  refine ⟨KeepSt.set rfl,?_⟩
  walk_at "sts"
  try with_reducible refine jn ?_
  walk_at "sts"
  obtain ⟨c,hc,ec⟩:=Ud (ns:=(Str.ofString "abcdefghijklmnopqrstuvwxyz").cps.toList) (d:=(d1+w1*(0+(i:Int))) % 26) (by omega) (by
   have:(Str.ofString "abcdefghijklmnopqrstuvwxyz").cps.toList.length=26:=by decide+kernel
   omega)
  refine vf (by decide+kernel) ec ⟨rfl,zs ++ [⟨#[c]⟩],by simp,by simp [hl],fun y hy=>?_⟩
  rcases List.mem_append.mp hy with h | h
  ·exact hz y h
  ·rw [List.mem_singleton.mp h];exact ⟨c,rfl,Dt c hc⟩
 ·rintro ys H' ⟨rfl,zs,rfl,hl,hz⟩ D hD
  have nP:D≠p:=P3.ne hD
  refine q D zs _ ?_ (P3.new hD) ?_ ao (by intro z;subst z;simp at hl;omega) (by omega) hz
  ·exact C1.none_ ((Chg.new (Chg.refl p H1) n1).trans C2 |>.none_ (((Chg.new (Chg.refl p H2) n2).trans C3).none_ hD nP) nP) nP
  ·exact (C1.trans ((Chg.new (Chg.refl p H1) n1).trans (C2.trans ((Chg.new (Chg.refl p H2) n2).trans C3)))).new hD
theorem o8:aP ["_law_purse_here","_law_signs","_law_most","_law_size"] ["_law_purse_here","_law_signs","_law_most"] (au cV):=⟨rfl,rfl,rfl,by decide+kernel,rfl,by decide+kernel,by decide+kernel⟩
theorem iU (T:Txt K mg):nO P w K mg base 2 "_law_drawn" ["_law_purse_here","_law_signs","_law_most"] K6:=by
 have aC:=aC (P:=P) (w:=w) (base:=base) T
 refine gR T.d_law_drawn o8 (fun _ _ _ _ _ _ us hl=>L2.vI (fun _ _ _=>rfl) us hl) ?_ fun f cdv A outer s H vs Q E hr h=>?_
 ·rintro vs H Q E ⟨p,q,ys,m,rfl,_⟩;rfl
 obtain ⟨p,r,ys,m,rfl,hP,hr0,hne,hle,hone,hm0,hm1,q⟩:=h
 have nrp:r≠p:=by
  obtain ⟨a,b,c,e,_⟩:=hP
  intro z;subst z;rw [hr0] at e
  have e':=HO.lst.inj (Option.some.inj e)
  cases ys with
  | nil=>cases e'
  | cons y ys=>cases e'
 refine ⟨_,(aq (aR (i:=3) o8.nd rfl (Or.inl Vy) (aL aC (hr.mono (by decide)) (bL Vz) (aa (gH 0 VB) (aa (bB (K:=K) rfl (bU (aa az (aa az (aa az (aa az (aa az (aa az (aa az (aa (bu aH (ak 2 kz38) az) aj))))))))) (aL aC (hr.mono (by decide)) (bL Vz) (aa (gH 0 VB) (aa az aj)) (by decide+kernel))) aj)) (by decide+kernel)) rfl) (aA (aG (jq (K:=K) rfl PySem.F.plainAttrs_str PySem.F.slot_str_join PySem.F.type_str_join JP xH (aa (iZ (sub:=[none,some 1,some 0]) (cQ (N:=["_law_purse_here","_law_signs","_law_most","_law_size"]) (sc:=au cV) (N':=["_law_k","_law_signs","_law_purse_here"]) (by decide+kernel)) rfl rfl rfl (fK (bL kz35) T.b_range (aa (ak 3 Vy) aj)) (fun C s₀ H₀ ex=>(mJ 0 (by decide+kernel) ug)) (fun C s₀ H₀ ex=>fc) (fun C s₀ H₀ ex=>(bB (K:=K) rfl (ie 1 (by decide+kernel)) (aL aC (hr.mono (by decide)) (J9 (by decide+kernel)) (aa (ie 2 (by decide+kernel)) (aa (aM (bH (K:=K) rfl) (J9 (by decide+kernel)) T.b_len dz (aa (ie 1 (by decide+kernel)) aj) (by decide+kernel) (by decide+kernel)) aj)) (by decide+kernel))))) aj))))),?_⟩
 walk_at "sts"
 refine ⟨by simp;decide,fun m1 n1=>?_⟩
 walk_at "sts"
 refine ⟨p,8,rfl,hP.new n1,by omega,by omega,fun d2 H2 a2 b2 P2 C2=>?_⟩
 obtain ⟨w1,hw1,e1⟩:=Gb (ns:=[3,5,7,9,9,9,13,m+1]) a2 b2
 refine bh (SqL.of (C2.at_ ao (hP.ne n1))) e1 ?_
 have g1:1≤w1∧w1≤49:=by
  simp only [List.mem_cons,List.mem_nil_iff,or_false] at hw1
  omega
 walk_at "sts"
 refine ⟨p,w1,rfl,P2,by omega,by omega,fun d3 H3 a3 b3 P3 C3=>?_⟩
 have C03:Chg p H H3:=((Chg.refl p H).new n1).trans (C2.trans C3)
 walk_at "sts"
 refine ⟨rfl,?_⟩
 walk_at "sts"
 refine ⟨_,rfl,by omega,by omega,?_⟩
 refine oG (fun i us H'=>Pur H' p∧Chg p H3 H'∧∃ zs:List Str,us=zs.map V.str∧zs.length=i∧GoodS zs) (Nat.le_trans (show d3.toNat≤1000 by omega) (by decide)) ⟨P3,Chg.refl _ _,[],rfl,rfl,by intro y hy;cases hy⟩ (by rintro i ys H ⟨_,_,zs,rfl,hl,_⟩;simp [hl]) ?_ ?_
 ·rintro i us H4 hi ⟨P4,C4,zs,rfl,hl,hz⟩
  have hr4:H4 r=some (.lst (ys.map V.str)):=C4.at_ (C03.at_ hr0 nrp) nrp
  walk_at "sts"
  refine ⟨KeepSt.set rfl,?_⟩
  walk_at "sts"
  try with_reducible refine jn ?_
  walk_at "sts"
  refine mG (SqL.of hr4) ?_
  walk_at "sts"
  have hlen:0 < ys.length:=List.length_pos_iff.mpr hne
  refine ⟨p,_,rfl,P4,by simp;omega,by simp;omega,fun d5 H5 a5 b5 P5 C5=>?_⟩
  rw [List.length_map] at b5
  obtain ⟨y,hy,ey⟩:=Uc (ns:=ys) a5 b5
  refine bh (SqL.of (C5.at_ hr4 nrp)) ey ⟨P5,C4.trans C5,zs ++ [y],by simp,by simp [hl],fun x hx=>?_⟩
  rcases List.mem_append.mp hx with h | h
  ·exact hz x h
  ·rw [List.mem_singleton.mp h];exact hone y hy
 ·rintro us H4 ⟨P4,C4,zs,rfl,hl,hz⟩ D hD
  walk_at "sts"
  have hs1:=Gf hz.ones
  have e0:(Str.ofString "").length=0:=by decide+kernel
  refine PQ ao (by rw [hs1,e0];omega) ?_
  exact q _ _ (QQ hz (by omega)) (P4.new hD) ((C03.trans C4).new hD)
theorem HW {H:Hp} {p r:Addr} {ys:List Str} (hP:Pur H p) (hr0:H r=some (.lst (ys.map V.str))):r≠p:=by
 obtain ⟨a,b,c,e,_⟩:=hP
 intro z;subst z;rw [hr0] at e
 have e':=HO.lst.inj (Option.some.inj e)
 cases ys with
 | nil=>cases e'
 | cons y ys=>cases e'
def Dy:Sp:=fun vs H Q _=>∃ side top:Str,vs=[.str side,.str top]∧Row side∧Row top∧
 ∀ t rs H',H t=none→(∀ r∈rs,H r=none)→Same H H'→Tab H' t rs (j7 side.cps.toList top.cps.toList (side.length+1) (top.length+1))→Q (.ref t) H'
theorem du:aP ["_law_side","_law_top","_law_table_here","_law_sign","_law_row_here","_law_at","_law_most"] ["_law_side","_law_top"] (au bI):=⟨rfl,rfl,rfl,by decide+kernel,rfl,by decide+kernel,by decide+kernel⟩
theorem kj (T:Txt K mg):nO P w K mg base 1 "_law_table" ["_law_side","_law_top"] Dy:=by
 refine gR T.d_law_table du (fun _ _ _ _ _ _ us hl=>L2.rT (fun _ _=>rfl) us hl) ?_ fun f cdv A outer s H vs Q E hr h=>?_
 ·rintro vs H Q E ⟨side,top,rfl,_⟩;rfl
 obtain ⟨side,top,rfl,hs,ht,q⟩:=h
 have hu:=hr.units0
 have hu64:=hr.units
 refine ⟨_,(aq (aR (i:=2) du.nd rfl (Or.inl HQ) (bU (aa (bu ig (bU (aa az aj)) (bu aH (aM (bH (K:=K) rfl) (bL Vm) T.b_len dz (aa (ak 1 Rg) aj) (by decide+kernel) (by decide+kernel)) az)) aj)) rfl) (aq (d9 PassesOwn.never rfl (dB (K:=K) rfl (ak 0 kz1w)) (bO (i:=3) du.nd rfl (Or.inl Vl) rfl) (aq (aR (i:=4) du.nd rfl (Or.inl Ln) (bU (aa az aj)) rfl) (aq (d9 PassesOwn.never rfl (fK (bL kz1z) T.b_range (aa (aM (bH (K:=K) rfl) (bL Vm) T.b_len dz (aa (ak 1 Rg) aj) (by decide+kernel) (by decide+kernel)) aj)) (bO (i:=5) du.nd rfl (Or.inl HR) rfl) (aq (aR (i:=6) du.nd rfl (Or.inl Rh) (aM (uF rfl) (bL kz24) T.b_max FW (aa (bB (K:=K) rfl (bB (K:=K) rfl (ak 2 HQ) (xJ jR az)) (bu aH (ak 5 HR) az)) (aa (bB (K:=K) rfl (ak 4 Ln) (ak 5 HR)) aj)) (by decide+kernel) (by decide+kernel)) rfl) (aq (bZ (bW (ju (K:=K) rfl hu64) (ak 3 Vl) (bB (K:=K) rfl (ak 1 Rg) (ak 5 HR)) (by first | exact aW _ | with_unfolding_all rfl)) (aA (aR (i:=6) du.nd rfl (Or.inl Rh) (bu aH (bB (K:=K) rfl (bB (K:=K) rfl (ak 2 HQ) (xJ jR az)) (ak 5 HR)) az) rfl)) bC) (aA (dX (jq (K:=K) rfl PySem.F.plainAttrs_list PySem.F.slot_list_append PySem.F.type_list_append iw (ak 4 Ln) (aa (ak 6 Rh) aj))))))) (aA (dX (jq (K:=K) rfl PySem.F.plainAttrs_list PySem.F.slot_list_append PySem.F.type_list_append iw (ak 2 HQ) (aa (ak 4 Ln) aj))))))) (aA (aG (ak 2 HQ))))),?_⟩
 walk_at "sts"
 have lt1:top.length≤sizeLine:=Nat.le_trans ht.1 (by decide)
 have ht1:=ht.1
 have hs1:=hs.1
 refine ⟨by simp;decide,fun p0 n0=>?_⟩
 walk_at "sts"
 refine mH lt1 ?_
 walk_at "sts"
 refine Qd ao (by omega) (by omega) (Nat.le_trans (show [V.int 0].length*((top.length:Int)+1).toNat≤1000 by simp;omega) (by decide)) fun p1 n1=>?_
 walk_at "sts"
 refine ⟨by simp;decide,fun t n2=>?_⟩
 walk_at "sts"
 refine .inr (.inr ⟨side,rfl,?_⟩)
 have e0:(List.replicate ((top.length:Int)+1).toNat [V.int 0]).flatten=(jP side.cps.toList top.cps.toList 0 (top.length+1)).map V.int:=by
  rw [show ((top.length:Int)+1).toNat=top.length+1 by omega]
  exact zeros _ _ _
 rw [e0] at n2 ⊢
 have nt:H t=none:=(((Same.refl H).upd n0).upd n1).free n2
 have npt:p1≠t:=fun z=>by rw [z,ao] at n2;cases n2
 refine Kg (z:=side) (fun i σ H'=>Same H H'∧(∃ rs,(∀ r∈rs,H r=none)∧Tab H' t rs (j7 side.cps.toList top.cps.toList (i+1) (top.length+1)))∧∃ x3 x4 x5 x6,σ=[some (.str side),some (.str top),some (.ref t),x3,x4,x5,x6])
  ⟨((((Same.refl H).upd n0).upd n1).upd n2),⟨[p1],fun r hr=>by rw [List.mem_singleton.mp hr];exact ((Same.refl H).upd n0).free n1,⟨ao,by simp [j7],by simp,by simpa using Ne.symm npt,fun i r xs e1 e2=>?_⟩⟩,none,none,none,none,rfl⟩ ?_ ?_
 ·have hi:i=0:=by
   have:=(List.getElem?_eq_some_iff.mp e1).1
   simp at this;exact this
  subst hi
  simp [j7] at e1 e2
  subst e1 e2
  exact eZ n2 ao
 ·rintro i σ H2 c hc ⟨S2,⟨rs,fr,TB⟩,x3,x4,x5,x6,rfl⟩
  have hi:i < side.length:=by
   have:=(List.getElem?_eq_some_iff.mp hc).1
   simpa [Str.length] using this
  have hrl:rs.length=i+1:=by rw [TB.len];simp [j7]
  obtain ⟨r,er⟩:∃ r,rs[i]?=some r:=⟨_,List.getElem?_eq_getElem (show i < rs.length by omega)⟩
  have hrow:=TB.row i r (jP side.cps.toList top.cps.toList i (top.length+1)) er (by unfold j7;rw [List.getElem?_map,List.getElem?_range (by omega)];rfl)
  walk_at "sts"
  refine ⟨by simp;decide,fun r2 nr2=>?_⟩
  walk_at "sts"
  refine mH lt1 ?_
  walk_at "sts"
  refine ⟨_,rfl,by omega,by omega,?_⟩
  refine kY (fun j σ H'=>Same H2 H'∧H' r2=some (.lst ((jP side.cps.toList top.cps.toList (i+1) (j+1)).map V.int))∧∃ x5 x6,σ=[some (.str side),some (.str top),some (.ref t),some (.str ⟨#[c]⟩),some (.ref r2),x5,x6])
   ⟨(Same.refl H2).upd nr2,by rw [ao];simp [jP,Dq],_,_,rfl⟩ ?_ ?_
  ·rintro j σ H3 hj ⟨S3,hr3,x5,x6,rfl⟩
   have hj':j < top.length:=by omega
   have hl:((jP side.cps.toList top.cps.toList (i+1) (j+1)).map V.int).length < sizeLine:=by
    rw [List.length_map,ye]
    exact Nat.lt_of_lt_of_le (show j+1 < 1000 by omega) (by decide)
   obtain ⟨d,ed,fd⟩:=tZ (z:=top) (k:=0+(j:Int)) (j:=j) (by omega) hj'
   have tl:nR (rs.map V.ref) (-1)=some (.ref r):=wu (n:=i) (by simp [hrl]) (by rw [List.getElem?_map,er];rfl)
   walk_at "sts"
   refine bh (SqL.of (S3 _ _ TB.at_)) tl ?_
   walk_at "sts"
   refine bh (SqL.of (S3 _ _ hrow)) (wy (j:=j+1) (by omega) (by omega)) ?_
   walk_at "sts"
   refine bh (SqL.of hr3) (wy (j:=j) (by omega) (by omega)) ?_
   walk_at "sts"
   refine vf lt1 fd ?_
   walk_at "sts"
   refine jM (fun hk=>?_) (fun hk=>?_)
   ·have ec:side.cps.toList[i]?=top.cps.toList[j]?:=by rw [hc,ed,rM.mp hk]
    walk_at "sts"
    refine bh (SqL.of (S3 _ _ TB.at_)) tl ?_
    walk_at "sts"
    refine bh (SqL.of (S3 _ _ hrow)) (wy (j:=j) (by omega) (by omega)) ?_
    walk_at "sts"
    refine ⟨.inl ⟨rfl,_,SqL.of hr3⟩,?_⟩
    walk_at "sts"
    refine iz hr3 hl ⟨over S3 nr2,?_,_,_,rfl⟩
    rw [ao,qy _ _ (i+1) (j+1),Bk ec,List.map_append];rfl
   ·have ec:¬ side.cps.toList[i]?=top.cps.toList[j]?:=by
     rw [hc,ed]
     intro z
     exact hk (by rw [Option.some.inj z])
    walk_at "sts"
    refine ⟨.inl ⟨rfl,_,SqL.of hr3⟩,?_⟩
    walk_at "sts"
    refine iz hr3 hl ⟨over S3 nr2,?_,_,_,rfl⟩
    rw [ao,qy _ _ (i+1) (j+1),zE,if_neg ec,List.map_append];rfl
  ·rintro σ H3 ⟨S3,hr3,x5,x6,rfl⟩
   rw [show ((top.length:Int)).toNat=top.length by omega] at hr3
   walk_at "sts"
   refine ⟨.inl ⟨rfl,_,SqL.of (S3 _ _ TB.at_)⟩,?_⟩
   walk_at "sts"
   refine iz (S3 _ _ TB.at_) (by rw [List.length_map,hrl];exact Nat.lt_of_lt_of_le (show i+1 < 1000 by omega) (by decide)) ?_
   exact ⟨over (S2.trans S3) nt,⟨rs ++ [r2],fun r hr=>(List.mem_append.mp hr).elim (fr r) fun z=>by rw [List.mem_singleton.mp z];exact S2.free nr2,TB.grow S3 nr2 hr3⟩,_,_,_,_,rfl⟩
 ·rintro σ H2 ⟨S2,⟨rs,fr,TB⟩,x3,x4,x5,x6,rfl⟩
  walk_at "sts"
  exact q t rs H2 nt fr S2 TB
theorem jC:aP ["_law_side","_law_top","_law_found","_law_i"] ["_law_side","_law_top"] (au cC):=⟨rfl,rfl,rfl,by decide+kernel,rfl,by decide+kernel,by decide+kernel⟩
theorem cY (T:Txt K mg):nO P w K mg base 1 "_law_pairs" ["_law_side","_law_top"] K9:=by
 refine gR T.d_law_pairs jC (fun _ _ _ _ _ _ us hl=>L2.rT (fun _ _=>rfl) us hl) ?_ fun f cdv A outer s H vs Q E hr h=>?_
 ·rintro vs H Q E ⟨side,top,rfl,_⟩;rfl
 obtain ⟨side,top,rfl,hs,ht,q⟩:=h
 have hu:=hr.units0
 have hu64:=hr.units
 refine ⟨_,(aq (aR (i:=2) jC.nd rfl (Or.inl Ri) (bU aj) rfl) (aq (d9 PassesOwn.never rfl (fK (bL Vn) T.b_range (aa (aM (bH (K:=K) rfl) (bL Vo) T.b_len dz (aa (gH 0 kz28) aj) (by decide+kernel) (by decide+kernel)) aj)) (bO (i:=3) jC.nd rfl (Or.inr kz29) rfl) (aA (dX (jq (K:=K) rfl PySem.F.plainAttrs_list PySem.F.slot_list_extend PySem.F.type_list_extend uL (ak 2 Ri) (aa (iZ (sub:=[none,some 3,some 0,some 1]) (cQ (N:=["_law_side","_law_top","_law_found","_law_i"]) (sc:=au cC) (N':=["_law_j","_law_i","_law_side","_law_top"]) (by decide+kernel)) rfl rfl rfl (fK (bL Vn) T.b_range (aa (aM (bH (K:=K) rfl) (bL Vo) T.b_len dz (aa (gH 1 kz2a) aj) (by decide+kernel) (by decide+kernel)) aj)) (fun C s₀ H₀ ex=>(mJ 0 (by decide+kernel) uf)) (fun C s₀ H₀ ex=>(Am (bW (ju (K:=K) rfl hu64) (bB (K:=K) rfl (ie 2 (by decide+kernel)) (ie 1 (by decide+kernel))) (bB (K:=K) rfl (ie 3 (by decide+kernel)) (g8 0 (by decide+kernel))) (by first | exact aW _ | with_unfolding_all rfl)))) (fun C s₀ H₀ ex=>(gr (aa (ie 1 (by decide+kernel)) (aa (g8 0 (by decide+kernel)) aj))))) aj))))) (aA (aG (ak 2 Ri))))),?_⟩
 walk_at "sts"
 have ls:side.length≤sizeLine:=Nat.le_trans hs.1 (by decide)
 have lt1:top.length≤sizeLine:=Nat.le_trans ht.1 (by decide)
 have ht1:=ht.1
 have hs1:=hs.1
 refine ⟨by simp,fun pq npq=>?_⟩
 walk_at "sts"
 refine mH ls ?_
 walk_at "sts"
 refine ⟨_,rfl,by omega,by omega,?_⟩
 refine kY (fun i σ H'=>Same H H'∧PL H' pq (prs side.cps.toList top.cps.toList i)∧∃ x3,σ=[some (.str side),some (.str top),some (.ref pq),x3])
  ⟨(Same.refl H).upd npq,⟨[],ao,cJ.mpr rfl⟩,none,rfl⟩ ?_ ?_
 ·rintro i σ H2 hi ⟨S2,PL2,x3,rfl⟩
  obtain ⟨vs,e0,hvl,hvd⟩:=PL2.len
  obtain ⟨d1,ed1,fd1⟩:=tZ (z:=side) (k:=0+(i:Int)) (j:=i) (by omega) (by omega)
  walk_at "sts"
  refine ⟨.inl ⟨rfl,_,SqL.of e0⟩,?_⟩
  walk_at "sts"
  refine mH lt1 ?_
  walk_at "sts"
  refine ⟨_,rfl,by omega,by omega,?_⟩
  refine oG (fun j ys H'=>Same H2 H'∧DRs H' ((o5 side.cps.toList top.cps.toList i j).map pD) ys) (Nat.le_trans (show _≤1000 by omega) (by decide)) ⟨Same.refl _,cJ.mpr rfl⟩ (by
   rintro j ys H' ⟨_,hd⟩
   have a:=oK hd
   have b:=o6 side.cps.toList top.cps.toList i j
   rw [List.length_map] at a
   omega) ?_ ?_
  ·rintro j ys H3 hj ⟨S3,hd⟩
   obtain ⟨d2,ed2,fd2⟩:=tZ (z:=top) (k:=0+(j:Int)) (j:=j) (by omega) (by omega)
   walk_at "sts"
   refine ⟨KeepSt.set rfl,?_⟩
   walk_at "sts"
   refine vf ls fd1 ?_
   walk_at "sts"
   refine vf lt1 fd2 ?_
   walk_at "sts"
   refine jM (fun hk=>?_) (fun hk=>?_)
   ·have ec:side.cps.toList[i]?=top.cps.toList[j]?:=by rw [ed1,ed2,rM.mp hk]
    walk_at "sts"
    refine ⟨by simp;decide,fun T nT=>⟨S3.upd nT,?_⟩⟩
    rw [lN,if_pos ec,List.map_append]
    refine jt (gf (TK.new nT) _ _ hd) (vZ (vA.mpr ⟨T,rfl,?_⟩))
    rw [ao];simp
   ·have ec:¬ side.cps.toList[i]?=top.cps.toList[j]?:=by
     rw [ed1,ed2]
     intro z
     exact hk (by rw [Option.some.inj z])
    refine ⟨S3,?_⟩
    rw [lN,if_neg ec,List.append_nil]
    exact hd
  ·rintro ys H3 ⟨S3,hd⟩ D hD
   have e1:upd H3 D (.lst ys) pq=some (.lst vs):=eZ hD (S3 _ _ e0)
   have b:=o6 side.cps.toList top.cps.toList i ((top.length:Int)).toNat
   have a:=oK hd
   have c:=rK side.cps.toList top.cps.toList i
   have d:i*top.cps.toList.length≤48*48:=Nat.mul_le_mul (by omega) (by rw [← dj];exact ht1)
   rw [List.length_map] at a
   walk_at "sts"
   refine ⟨pq,D,vs,ys,rfl,rfl,e1,ao,Nat.le_trans (show _≤5000 by omega) (by decide),?_⟩
   refine ⟨over ((S2.trans S3).upd hD) npq,⟨vs ++ ys,ao,?_⟩,_,rfl⟩
   have tk:=(TK.new (H:=H3) (o:=.lst ys) hD).trans (TK.lst (o:=.lst (vs ++ ys)) e1)
   have el:((top.length:Int)).toNat=top.cps.toList.length:=by rw [← dj];omega
   rw [el] at hd
   rw [prs,List.map_append]
   exact jt (gf ((TK.same S3).trans tk) _ _ hvd) (gf tk _ _ hd)
 ·rintro σ H2 ⟨S2,PL2,x3,rfl⟩
  rw [show ((side.length:Int)).toNat=side.length by omega] at PL2
  walk_at "sts"
  exact q pq H2 npq S2 PL2
def Ru:Sp:=fun vs H Q _=>∃ (p q:Addr) (ys:List Str) (m:Int),vs=[.ref p,.ref q,.int m]∧Pur H p∧H q=some (.lst (ys.map V.str))∧ys≠[]∧ys.length≤26∧GoodS ys∧0≤m∧m≤48∧
 ∀ (z:Str) (H':Hp),Row z→Pur H' p→Chg p H H'→Q (.str z) H'
theorem zJ:aP ["_law_purse_here","_law_signs","_law_most"] ["_law_purse_here","_law_signs","_law_most"] (au fP):=⟨rfl,rfl,rfl,by decide+kernel,rfl,by decide+kernel,by decide+kernel⟩
theorem lO (T:Txt K mg):nO P w K mg base 3 "_law_row" ["_law_purse_here","_law_signs","_law_most"] Ru:=by
 have aC:=aC (P:=P) (w:=w) (base:=base) T
 have iU:=iU (P:=P) (w:=w) (base:=base) T
 refine gR T.d_law_row zJ (fun _ _ _ _ _ _ us hl=>L2.vI (fun _ _ _=>rfl) us hl) ?_ fun f cdv A outer s H vs Q E hr h=>?_
 ·rintro vs H Q E ⟨p,r,ys,m,rfl,_⟩;rfl
 obtain ⟨p,r,ys,m,rfl,hP,hr0,hne,hle,hone,m0,m1,q⟩:=h
 have hu:=hr.units0
 have hu64:=hr.units
 refine ⟨_,(aq (bZ (bW (ju (K:=K) rfl hu64) (aL aC (hr.mono (by decide)) (bL kz2f) (aa (ak 0 Rj) (aa az aj)) (by decide+kernel)) az (by first | exact aW _ | with_unfolding_all rfl)) (aA (aG (aL iU (hr.mono (by decide)) (bL Vp) (aa (ak 0 Rj) (aa (bu aH (ak 1 Vr) (bU (aa xH aj))) (aa (ak 2 Vq) aj))) (by decide+kernel)))) bC) (aA (aG (aL iU (hr.mono (by decide)) (bL Vp) (aa (ak 0 Rj) (aa (ak 1 Vr) (aa (ak 2 Vq) aj))) (by decide+kernel))))),?_⟩
 walk_at "sts"
 have nrp:=HW hP hr0
 refine ⟨p,3,rfl,hP,by omega,by omega,fun d2 H2 a2 b2 P2 C2=>?_⟩
 walk_at "sts"
 have hr2:=C2.at_ hr0 nrp
 refine jM (fun h1=>?_) (fun h1=>?_)
 ·walk_at "sts"
  refine ⟨by simp;decide,fun m1 n1=>?_⟩
  refine yZ (eZ n1 hr2) ao (by simp;exact Nat.le_trans (show ys.length+1≤1000 by omega) (by decide)) fun m2 n2=>?_
  walk_at "sts"
  refine ⟨p,m2,ys ++ [Str.ofString "."],m,rfl,(P2.new n1).new n2,by rw [ao];simp,by simp,by simp;omega,fun y hy=>?_,by omega,by omega,fun z H' hz P' C'=>q z H' hz P' ((((C2.new n1).new n2)).trans C')⟩
  rcases List.mem_append.mp hy with h | h
  ·exact hone y h
  ·rw [List.mem_singleton.mp h];exact ⟨46,by decide+kernel,by decide+kernel⟩
 ·walk_at "sts"
  exact ⟨p,r,ys,m,rfl,P2,hr2,hne,by omega,hone,by omega,by omega,fun z H' hz P' C'=>q z H' hz P' (C2.trans C')⟩
theorem eV:aP ["_law_side","_law_top","_law_table_here","_law_found","_law_i","_law_j"] ["_law_side","_law_top"] (au bx):=⟨rfl,rfl,rfl,by decide+kernel,rfl,by decide+kernel,by decide+kernel⟩
theorem jD (T:Txt K mg):nO P w K mg base 2 "_law_levels" ["_law_side","_law_top"] La:=by
 have kj:=kj (P:=P) (w:=w) (base:=base) T
 have cY:=cY (P:=P) (w:=w) (base:=base) T
 refine gR T.d_law_levels eV (fun _ _ _ _ _ _ us hl=>L2.rT (fun _ _=>rfl) us hl) ?_ fun f cdv A outer s H vs Q E hr h=>?_
 ·rintro vs H Q E ⟨side,top,rfl,_⟩;rfl
 obtain ⟨side,top,rfl,hs,ht,q⟩:=h
 have hu:=hr.units0
 have hu64:=hr.units
 refine ⟨_,(aq (aR (i:=2) eV.nd rfl (Or.inl Ro) (aL kj (hr.mono (by decide)) (bL kz2o) (aa (ak 0 Vt) (aa (ak 1 Vs) aj)) (by decide+kernel)) rfl) (aq (rD (i:=3) eV.nd rfl (Or.inl Rk) (sub:=[none]) (cQ (N:=["_law_side","_law_top","_law_table_here","_law_found","_law_i","_law_j"]) (sc:=au bx) (N':=["_law_k"]) (by decide+kernel)) rfl rfl rfl (fK (bL kz2n) T.b_range (aa (bB (K:=K) rfl (bB (K:=K) rfl (ak 2 Ro) (xJ jR az)) (xJ jR az)) aj)) (fun C s₀ H₀ ex=>(mJ 0 (by decide+kernel) rm)) (fun C s₀ H₀ ex=>fc) (fun C s₀ H₀ ex=>(bU aj)) rfl) (aq (d9 PassesOwn.never rfl (dB (K:=K) rfl (aL cY (hr.mono (by decide)) (bL kz2h) (aa (ak 0 Vt) (aa (ak 1 Vs) aj)) (by decide+kernel))) (qe (K:=K) rfl rfl (cR (bO (i:=4) eV.nd rfl (Or.inl Rn) rfl) (cR (bO (i:=5) eV.nd rfl (Or.inl Rm) rfl) jr))) (aA (dX (jq (K:=K) rfl PySem.F.plainAttrs_list PySem.F.slot_list_append PySem.F.type_list_append iw (bB (K:=K) rfl (ak 3 Rk) (bB (K:=K) rfl (bB (K:=K) rfl (ak 2 Ro) (ak 4 Rn)) (ak 5 Rm))) (aa (gr (aa (ak 4 Rn) (aa (ak 5 Rm) aj))) aj))))) (aA (aG (ak 3 Rk)))))),?_⟩
 walk_at "sts"
 refine ⟨side,top,rfl,hs,ht,fun t rs H1 nt fr S1 TB=>?_⟩
 have hrl:rs.length=side.length+1:=by rw [TB.len];simp [j7]
 obtain ⟨r1,a1,er1,b1⟩:=Hz TB (k:=(side.length:Int)) (i:=side.length) rfl (by omega)
 have l0:=Nk side.cps.toList top.cps.toList side.length top.length
 have l1:=zF side.cps.toList top.cps.toList side.length top.length
 have hs1:=hs.1
 walk_at "sts"
 refine bh (SqL.of TB.at_) (wu (n:=side.length) (v:=.ref r1) (by simp [hrl]) (by rw [List.getElem?_map,er1];rfl)) ?_
 walk_at "sts"
 refine bh (SqL.of b1) (wu (n:=top.length) (v:=.int (lt side.cps.toList top.cps.toList side.length top.length)) (by rw [List.length_map,ye]) (by rw [List.getElem?_map,Bg (by omega)];rfl)) ?_
 walk_at "sts"
 refine ⟨_,rfl,by omega,by omega,?_⟩
 refine oG (fun i ys H'=>Same H1 H'∧∃ rs':List Addr,ys=rs'.map V.ref∧rs'.length=i∧rs'.Nodup∧∀ r∈rs',H1 r=none∧H' r=some (.lst [])) (Nat.le_trans (show _≤1000 by omega) (by decide)) ⟨Same.refl _,[],rfl,rfl,by simp,by simp⟩ (by rintro i ys H ⟨_,zs,rfl,hl,_⟩;simp [hl]) ?_ ?_
 ·rintro i ys H2 hi ⟨S2,rs',rfl,hl,hnd,hrs⟩
  walk_at "sts"
  refine ⟨KeepSt.set rfl,?_⟩
  walk_at "sts"
  try with_reducible refine jn ?_
  walk_at "sts"
  refine ⟨by simp,fun r nr=>⟨S2.upd nr,rs' ++ [r],by simp,by simp [hl],?_,fun r' hr'=>?_⟩⟩
  ·rw [List.nodup_append]
   exact ⟨hnd,by simp,fun a ha b hb z=>by rw [List.mem_singleton.mp hb] at z;rw [z] at ha;rw [(hrs r ha).2] at nr;cases nr⟩
  ·rcases List.mem_append.mp hr' with h | h
   ·exact ⟨(hrs r' h).1,eZ nr (hrs r' h).2⟩
   ·rw [List.mem_singleton.mp h];exact ⟨S2.free nr,ao⟩
 ·rintro ys H2 ⟨S2,rs',rfl,hl,hnd,hrs⟩ D hD
  walk_at "sts"
  refine ⟨side,top,rfl,hs,ht,fun q1 H3 nq1 S3 PL3=>?_⟩
  obtain ⟨vs,hv,hvl,hvd⟩:=PL3.len
  have S12:Same H1 (upd H2 D (.lst (rs'.map V.ref))):=S2.upd hD
  have HT2:HTab (upd H2 D (.lst (rs'.map V.ref))) D rs' (lev side.cps.toList top.cps.toList (lt side.cps.toList top.cps.toList side.length top.length).toNat []):=HTab.start (H1:=H1) hl hnd hrs hD
  have HT3:=HT2.same S3
  have TB3:=TB.same (S12.trans S3)
  have lrs:∀ r∈rs',∃ xs,H3 r=some (.lst xs):=fun r hr=>HT3.mem hr
  have nH1:∀ r∈rs',H1 r=none:=fun r hr=>(hrs r hr).1
  have ntr:t ∉ rs':=fun z=>by have:=nH1 t z;rw [TB.at_] at this;cases this
  have nrr:∀ r∈rs,r ∉ rs':=fun r hr z=>by have:=nH1 r z;obtain ⟨xs,e⟩:=TB.mem hr;rw [e] at this;cases this
  have nqr:q1 ∉ rs':=fun z=>by obtain ⟨xs,e⟩:=HT2.mem z;rw [e] at nq1;cases nq1
  refine .inl ⟨q1,rfl,⟨_,SqL.of hv⟩,?_⟩
  refine gG (xs:=vs) (fun k σ H'=>Out rs' H3 H'∧HTab H' D rs' (lev side.cps.toList top.cps.toList (lt side.cps.toList top.cps.toList side.length top.length).toNat ((prs side.cps.toList top.cps.toList side.length).take k))∧∃ x4 x5,σ=[some (.str side),some (.str top),some (.ref t),some (.ref D),x4,x5])
   ⟨Out.refl _ _,by simpa using HT3,none,none,rfl⟩ (fun i σ H' _ h=>SqL.of (h.1 _ _ nqr hv)) ?_ ?_
  ·rintro k v σ H4 hk ⟨O4,HT4,x4,x5,rfl⟩
   have tk4:=TK.out O4 lrs
   have TB4:=TB3.out O4 ntr nrr
   obtain ⟨p,a,ep,rfl,ha⟩:=PL.at_ (q:=q1) (gf tk4 _ _ hvd) hk
   have hm:=List.mem_of_getElem? ep
   obtain ⟨m1,m2,m3⟩:=il hm
   obtain ⟨v1,v2⟩:=Bl (n:=top.length) (by simp [Str.length]) hm
   have m2':p.2 < top.length:=by simpa [Str.length] using m2
   obtain ⟨r5,a5,er5,b5⟩:=Hz TB4 (k:=(p.1:Int)) (i:=p.1) rfl (by omega)
   have hL:(lt side.cps.toList top.cps.toList p.1 p.2).toNat < rs'.length:=by omega
   have er6:rs'[(lt side.cps.toList top.cps.toList p.1 p.2).toNat]?=some rs'[(lt side.cps.toList top.cps.toList p.1 p.2).toNat]:=List.getElem?_eq_getElem hL
   obtain ⟨ws0,hw0⟩:=HT4.mem (List.mem_of_getElem? er6)
   refine gU (SqT.of ha) rfl ?_
   walk_at "sts"
   refine bh (SqL.of TB4.at_) a5 ?_
   walk_at "sts"
   refine bh (SqL.of b5) (wy (j:=p.2) rfl (by omega)) ?_
   walk_at "sts"
   refine bh (SqL.of HT4.at_) (dW v1 (v:=.ref rs'[(lt side.cps.toList top.cps.toList p.1 p.2).toNat]) (by rw [List.getElem?_map,er6];rfl)) ?_
   refine ⟨.inl ⟨rfl,_,SqL.of hw0⟩,?_⟩
   walk_at "sts"
   refine ⟨by simp;decide,fun T6 nT6=>?_⟩
   walk_at "sts"
   obtain ⟨ws,hw,hwl,HT5⟩:=(HT4.same ((Same.refl _).upd nT6 (o:=.tup [.int p.1,.int p.2]))).push er6 (ww (by omega)) (T:=T6) ao
   have hz:ws.length < sizeLine:=by
    have a:=rK side.cps.toList top.cps.toList side.length
    have c:side.length*top.cps.toList.length≤48*48:=Nat.mul_le_mul hs1 (by have:=ht.1;rw [dj] at this;exact this)
    have e:=List.length_filter_le (fun p':PP=>decide (lt side.cps.toList top.cps.toList p'.1 p'.2=(((lt side.cps.toList top.cps.toList p.1 p.2).toNat:Nat):Int))) ((prs side.cps.toList top.cps.toList side.length).take k)
    have f:((prs side.cps.toList top.cps.toList side.length).take k).length≤(prs side.cps.toList top.cps.toList side.length).length:=by rw [List.length_take];omega
    exact Nat.lt_of_lt_of_le (show ws.length < 5000 by omega) (by decide)
   refine iz hw hz ⟨(O4.new nT6).step (List.getElem_mem hL),?_,_,_,rfl⟩
   have et:(prs side.cps.toList top.cps.toList side.length).take (k+1)=(prs side.cps.toList top.cps.toList side.length).take k ++ [p]:=by rw [List.take_add_one,ep];rfl
   rw [et,Hv (k:=(lt side.cps.toList top.cps.toList p.1 p.2).toNat) (by omega) (by omega)]
   exact HT5
  ·rintro σ H4 ⟨O4,HT4,x4,x5,rfl⟩
   walk_at "sts"
   have nHD:H D=none:=S1.free (S2.free hD)
   refine q D rs' H4 nHD (fun r hr=>S1.free (nH1 r hr)) (O4.same ((S1.trans S12).trans S3) fun r hr=>S1.free (nH1 r hr)) ?_
   rw [hvl,List.take_of_length_le (Nat.le_refl _)] at HT4
   exact HT4
end
local macro_rules | `(tactic| walk_at "sts") => `(tactic| (with_reducible repeat (first | refine Cu ?_ | refine jn ?_ | refine xj ?_ | refine vo ?_ | refine vp ?_ | refine qp ?_ | refine qt ?_ | (refine' uZ ?hz0 ?_; (case hz0 => with_unfolding_all rfl)) | refine R0 ?_ | refine CJ ?_ | refine p7 ?_ | refine pR ?_ | refine u0 ?_ | refine Ga ?_ | refine uU ?_ | refine pM ?_ | refine uW ?_ | refine pL ?_ | refine Cp ?_ | refine pO ?_ | refine CK ?_ | refine Cw ?_ | refine pU ?_ | refine Cq ?_ | refine uX ?_ | refine uY ?_ | refine Cr ?_ | refine pP ?_ | refine pQ ?_ | refine uV ?_ | refine pN ?_ | refine Cv ?_ | refine Hf ?_ | refine Hd ?_ | refine Cy ?_ | refine u5 ?_ | refine Cz ?_ | refine u6 ?_ | refine pW ?_ | refine pX ?_ | refine pY ?_ | refine pZ ?_ | refine p6 ?_ | refine u9 ?_ | refine R6 ?_ | refine lg ?_ | refine qg ?_ | (refine' gU (SqT.of ?hz0) ?hz1 ?_; (case hz0 => first | assumption | exact ao); (case hz1 => rfl)) | refine lC ?_ | refine lE ?_ | refine lD ?_ | refine qm ?_ | refine mU ?_ | refine mV ?_ | refine CN ?_ | refine mL ?_ | refine qi ?_ | refine mO ?_ | refine mQ ?_ | refine mR ?_ | refine lw ?_ | refine sV ?_ | refine qd ?_ | (refine' R5 ?hz0 ?_; (case hz0 => with_unfolding_all first | assumption | omega | (dsimp only <;> omega) | exact ⟨by omega, by omega⟩ | exact .inl ⟨by omega, by omega⟩ | exact .inr ⟨by omega, by omega⟩ | exact ⟨by decide, by decide, by decide⟩)) | (refine' p8 ?hz0 ?_; (case hz0 => with_unfolding_all first | assumption | omega | (dsimp only <;> omega) | exact ⟨by omega, by omega⟩ | exact .inl ⟨by omega, by omega⟩ | exact .inr ⟨by omega, by omega⟩ | exact ⟨by decide, by decide, by decide⟩)) | (refine' bh (SqL.of ?hz0) ?hz1 ?_; (case hz0 => first | assumption | exact ao); (case hz1 => with_unfolding_all rfl)) | (refine' vd (SqT.of ?hz0) ?hz1 ?_; (case hz0 => first | assumption | exact ao); (case hz1 => with_unfolding_all rfl)) | (refine' mF ?hz0 ?hz1 ?_; (case hz0 => first | assumption | exact ao); (case hz1 => with_unfolding_all rfl)) | refine Hq ?_ | refine Bf ?_ | refine v7 ?_ | refine rE ?_ | refine Ay ?_ | refine GQ ?_ | refine Ha ?_ | refine Hb ?_ | refine Hc ?_)))
local macro_rules | `(tactic| walk_at "stn") => `(tactic| (with_reducible repeat (first | refine Cu ?_ | refine jn ?_ | refine xj ?_ | refine vo ?_ | refine vp ?_ | refine qp ?_ | refine qt ?_ | (refine' uZ ?hz0 ?_; (case hz0 => with_unfolding_all rfl)) | refine R0 ?_ | refine CJ ?_ | refine p7 ?_ | refine pR ?_ | refine u0 ?_ | refine uU ?_ | refine pM ?_ | refine uW ?_ | refine pL ?_ | refine Cp ?_ | refine pO ?_ | refine CK ?_ | refine Cw ?_ | refine pU ?_ | refine Cq ?_ | refine uX ?_ | refine uY ?_ | refine Cr ?_ | refine pP ?_ | refine pQ ?_ | refine uV ?_ | refine pN ?_ | refine Cv ?_ | refine Hf ?_ | refine Hd ?_ | refine Cy ?_ | refine u5 ?_ | refine Cz ?_ | refine u6 ?_ | refine pW ?_ | refine pX ?_ | refine pY ?_ | refine pZ ?_ | refine p6 ?_ | refine u9 ?_ | refine R6 ?_ | refine lg ?_ | refine qg ?_ | (refine' gU (SqT.of ?hz0) ?hz1 ?_; (case hz0 => first | assumption | exact ao); (case hz1 => rfl)) | refine lC ?_ | refine lE ?_ | refine lD ?_ | refine qm ?_ | refine mU ?_ | refine mV ?_ | refine CN ?_ | refine mL ?_ | refine qi ?_ | refine mO ?_ | refine mQ ?_ | refine mR ?_ | refine lw ?_ | refine sV ?_ | refine qd ?_ | (refine' R5 ?hz0 ?_; (case hz0 => with_unfolding_all first | assumption | omega | (dsimp only <;> omega) | exact ⟨by omega, by omega⟩ | exact .inl ⟨by omega, by omega⟩ | exact .inr ⟨by omega, by omega⟩ | exact ⟨by decide, by decide, by decide⟩)) | (refine' p8 ?hz0 ?_; (case hz0 => with_unfolding_all first | assumption | omega | (dsimp only <;> omega) | exact ⟨by omega, by omega⟩ | exact .inl ⟨by omega, by omega⟩ | exact .inr ⟨by omega, by omega⟩ | exact ⟨by decide, by decide, by decide⟩)) | (refine' bh (SqL.of ?hz0) ?hz1 ?_; (case hz0 => first | assumption | exact ao); (case hz1 => with_unfolding_all rfl)) | (refine' vd (SqT.of ?hz0) ?hz1 ?_; (case hz0 => first | assumption | exact ao); (case hz1 => with_unfolding_all rfl)) | (refine' mF ?hz0 ?hz1 ?_; (case hz0 => first | assumption | exact ao); (case hz1 => with_unfolding_all rfl)) | refine Hq ?_ | refine Bf ?_ | refine v7 ?_ | refine rE ?_ | refine Ay ?_ | refine GQ ?_ | refine Ha ?_ | refine Hb ?_ | refine Hc ?_)))
section
variable {P:Program} {w:World} {K:PySem.W.Frag} {mg:Str→Option Value} {base:Heap}
def Ah (p q:PP):Prop:=p.1 < q.1∧p.2 < q.2
def Mt (S P:List Nat) (p:PP):Prop:=p.1 < S.length∧p.2 < P.length∧S[p.1]?=P[p.2]?
theorem uh {S P:List Nat}:∀ {m:Nat} {p:PP},p.1 < m→p.2 < P.length→S[p.1]?=P[p.2]?→p∈prs S P m
 | 0,p,h,_,_=>by omega
 | m+1,p,h,h2,h3=>by
  rw [prs]
  by_cases e:p.1 < m
  ·exact List.mem_append_left _ (uh e h2 h3)
  ·refine List.mem_append_right _ ?_
   have e':p.1=m:=by omega
   unfold o5
   exact List.mem_map.mpr ⟨p.2,List.mem_filter.mpr ⟨List.mem_range.mpr h2,decide_eq_true (by rw [← e'];exact h3)⟩,by rw [← e']⟩
theorem zK (S P:List Nat):∀ m,(prs S P m).Nodup
 | 0=>.nil
 | m+1=>by
  rw [prs,List.nodup_append]
  refine ⟨zK S P m,?_,fun a ha b hb e=>?_⟩
  ·unfold o5
   refine List.Pairwise.map _ ?_ (List.Pairwise.filter _ List.nodup_range)
   intro a b hab e
   exact hab (Prod.mk.inj e).2
  ·have:=(il ha).1
   have:=(tY hb).1
   subst e
   omega
theorem yq {z y:Str} {p:PP} (h:Mt z.cps.toList y.cps.toList p):eN z y (pD p)=true:=by
 obtain ⟨h1,h2,h3⟩:=h
 show m9 z y (p.1:Int) (p.2:Int)=true
 unfold m9
 have l1:z.length=z.cps.toList.length:=dj z
 have l2:y.length=y.cps.toList.length:=dj y
 rw [decide_eq_true (show (0:Int)≤(p.1:Int) by omega),decide_eq_true (show (p.1:Int) < (z.length:Int) by omega),decide_eq_true (show (0:Int)≤(p.2:Int) by omega),decide_eq_true (show (p.2:Int) < (y.length:Int) by omega),Int.toNat_natCast,Int.toNat_natCast,decide_eq_true h3]
 rfl
theorem HX {p q:PP}:iD (pD p) (pD q)=(decide (p.1 < q.1) && decide (p.2 < q.2)):=by
 show (decide ((p.1:Int) < (q.1:Int)) && decide ((p.2:Int) < (q.2:Int)))=_
 congr 1
 ·exact decide_eq_decide.mpr (by omega)
 ·exact decide_eq_decide.mpr (by omega)
theorem vC {p q:PP}:iD (pD p) (pD q)=true↔Ah p q:=by
 rw [HX,Bool.and_eq_true,decide_eq_true_eq,decide_eq_true_eq];rfl
def hD (h:List PP):PyData:=.list (h.map pD)
def cP (p:PP):Int×Int:=((p.1:Int),(p.2:Int))
theorem HY {p q:PP} (h:cP p=cP q):p=q:=by
 unfold cP at h
 obtain ⟨h1,h2⟩:=Prod.mk.inj h
 exact Prod.ext (by omega) (by omega)
theorem Ia:∀ hs:List (List PP),fl (hs.map hD)=hs.flatten.map cP
 | []=>rfl
 | h :: hs=>by
  have ih:=Ia hs
  unfold fl at ih ⊢
  rw [List.map_cons,List.map_cons,List.flatten_cons,ih,List.flatten_cons,List.map_append]
  congr 1
  show (h.map pD).map q9=h.map cP
  rw [List.map_map];rfl
theorem Rv {h:List PP} (hn:∀ p∈h,∀ q∈h,¬ Ah p q):cX (zH (hD h))=false:=by
 show cX (h.map pD)=false
 unfold cX
 rw [List.any_eq_false]
 intro i hi
 have hi':i < h.length:=by have:=List.mem_range.mp hi;simpa using this
 rw [Bool.not_eq_true,List.any_eq_false]
 intro e he
 have e1:(h.map pD).getD i .none=pD h[i]:=by rw [List.getD_eq_getElem?_getD,List.getElem?_map,List.getElem?_eq_getElem hi'];rfl
 obtain ⟨p,hp,rfl⟩:=List.mem_map.mp (List.mem_of_mem_take he)
 rw [e1]
 intro z
 have z':(iD (pD p) (pD h[i]) || iD (pD h[i]) (pD p))=true:=z
 rw [Bool.or_eq_true,vC,vC] at z'
 rcases z' with z' | z'
 ·exact hn p hp _ (List.getElem_mem hi') z'
 ·exact hn _ (List.getElem_mem hi') p hp z'
theorem Lp {hs:List (List PP)} {ps:List PP} (hp:hs.flatten.Perm ps) (nd:ps.Nodup):(fl (hs.map hD)).Nodup:=by
 rw [Ia]
 refine List.Pairwise.map _ (fun a b hab e=>hab (HY e)) (hp.nodup_iff.mpr nd)
theorem Ib {z y:Str} {hs:List (List PP)} (h0:∀ h∈hs,h≠[]) (hp:hs.flatten.Perm (prs z.cps.toList y.cps.toList z.length)) (hn:∀ h∈hs,∀ p∈h,∀ q∈h,¬ Ah p q):gD z y (.list (hs.map hD))=true:=by
 have l1:z.length=z.cps.toList.length:=dj z
 have mt:∀ h∈hs,∀ p∈h,Mt z.cps.toList y.cps.toList p:=fun h hh p hp'=>by
  have:=il (hp.mem_iff.mp (List.mem_flatten.mpr ⟨h,hh,hp'⟩))
  exact ⟨by omega,this.2.1,this.2.2⟩
 show ((hs.map hD).all (gk z y) && (jJ z y (hs.map hD) && !(hs.map hD).any fun h=>cX (zH h)))=true
 rw [Bool.and_eq_true,Bool.and_eq_true]
 refine ⟨?_,?_,?_⟩
 ·rw [List.all_eq_true]
  intro d hd
  obtain ⟨h,hh,rfl⟩:=List.mem_map.mp hd
  show (!(h.map pD).isEmpty && (h.map pD).all (eN z y))=true
  rw [Bool.and_eq_true]
  refine ⟨?_,?_⟩
  ·cases h with
   | nil=>exact absurd rfl (h0 _ hh)
   | cons a b=>rfl
  ·rw [List.all_eq_true]
   intro d hd
   obtain ⟨p,hp',rfl⟩:=List.mem_map.mp hd
   exact yq (mt h hh p hp')
 ·unfold jJ
  rw [decide_eq_true (Lp hp (zK _ _ _)),Bool.true_and]
  refine decide_eq_true ?_
  rw [Ia,List.length_map]
  exact hp.length_eq
 ·rw [Bool.not_eq_true',List.any_eq_false]
  intro d hd
  obtain ⟨h,hh,rfl⟩:=List.mem_map.mp hd
  rw [Rv (hn h hh)];decide
def Wg (p q:Int×Int):Prop:=p.1 < q.1∧p.2 < q.2
def Lq (p q:Int×Int):Prop:=p.1 < q.1∨p.1=q.1∧p.2≤q.2
def pI (p:Int×Int):PyData:=.tuple [.int p.1,.int p.2]
def kI (p:Int×Int):List Int:=[p.1,p.2]
theorem Ie {p q:Int×Int} (h:HT.lexLt (kI q) (kI p)=false):Lq p q:=by
 unfold kI at h
 unfold Lq
 rw [HT.lexLt_cons,HT.lexLt_cons,HT.lexLt_nil_nil] at h
 by_cases e:q.1=p.1
 ·rw [if_pos e] at h
  by_cases e2:q.2=p.2
  ·omega
  ·rw [if_neg e2,decide_eq_false_iff_not] at h
   omega
 ·rw [if_neg e,decide_eq_false_iff_not] at h
  omega
theorem yr {α:Type} [DecidableEq α]:∀ {l m:List α},l.Nodup→(∀ x∈l,x∈m)→l.length=m.length→l.Perm m
 | [],m,_,_,h=>by
  have:m=[]:=List.length_eq_zero_iff.mp h.symm
  rw [this]
 | a :: l,m,nd,hs,h=>by
  rw [List.nodup_cons] at nd
  have ha:a∈m:=hs a List.mem_cons_self
  have ih:=yr (l:=l) (m:=m.erase a) nd.2 (fun x hx=>(List.mem_erase_of_ne (fun e:x=a=>nd.1 (by rw [← e];exact hx))).mpr (hs x (List.mem_cons_of_mem _ hx))) (by
   rw [List.length_erase_of_mem ha,← h];rfl)
  exact (ih.cons a).trans (List.perm_cons_erase ha).symm
theorem ul (S P:List Nat):∀ m,((prs S P m).map cP).Pairwise Lq
 | 0=>.nil
 | m+1=>by
  rw [prs,List.map_append,List.pairwise_append]
  refine ⟨ul S P m,?_,fun a ha b hb=>?_⟩
  ·unfold o5
   rw [List.map_map,List.pairwise_map]
   refine (List.Pairwise.filter _ List.pairwise_lt_range).imp fun {a b} h=>.inr ⟨rfl,?_⟩
   show ((a:Nat):Int)≤((b:Nat):Int)
   omega
  ·obtain ⟨p,hp,rfl⟩:=List.mem_map.mp ha
   obtain ⟨q,hq,rfl⟩:=List.mem_map.mp hb
   have:=(il hp).1
   have:=(tY hq).1
   left
   show ((p.1:Nat):Int) < ((q.1:Nat):Int)
   omega
theorem Ig {S P:List Nat} {m:Nat} {qs ps:List (Int×Int)} (hp:qs.Perm ps) (hs:qs.Pairwise Lq):decide (qs=(prs S P m).map cP)=decide (ps.Perm ((prs S P m).map cP)):=by
 refine decide_eq_decide.mpr ⟨fun e=>by rw [← e];exact hp.symm,fun h=>?_⟩
 refine List.Perm.eq_of_pairwise (le:=Lq) (fun a b _ _ h1 h2=>?_) hs (ul S P m) (hp.trans h)
 unfold Lq at h1 h2
 exact Prod.ext (by omega) (by omega)
theorem Bo {ds:List PyData} (h:∀ d∈ds,∃ i j,d= .tuple [.int i,.int j]):cX ds=true↔∃ p∈ds.map q9,∃ q∈ds.map q9,Wg p q:=by
 have ah:∀ d∈ds,∀ e∈ds,(iD d e=true↔Wg (q9 d) (q9 e)):=fun d hd e he=>by
  obtain ⟨i,j,rfl⟩:=h d hd
  obtain ⟨k,l,rfl⟩:=h e he
  show (decide (i < k) && decide (j < l))=true↔i < k∧j < l
  rw [Bool.and_eq_true,decide_eq_true_eq,decide_eq_true_eq]
 unfold cX
 rw [List.any_eq_true]
 constructor
 ·rintro ⟨i,hi,h1⟩
  have hi':=List.mem_range.mp hi
  rw [List.any_eq_true] at h1
  obtain ⟨e,he,h2⟩:=h1
  have e1:ds.getD i .none=ds[i]:=by rw [List.getD_eq_getElem?_getD,List.getElem?_eq_getElem hi'];rfl
  rw [e1] at h2
  have m1:=List.mem_of_mem_take he
  have m2:ds[i]∈ds:=List.getElem_mem hi'
  unfold my at h2
  rw [Bool.or_eq_true,ah _ m1 _ m2,ah _ m2 _ m1] at h2
  rcases h2 with h2 | h2
  ·exact ⟨_,List.mem_map.mpr ⟨_,m1,rfl⟩,_,List.mem_map.mpr ⟨_,m2,rfl⟩,h2⟩
  ·exact ⟨_,List.mem_map.mpr ⟨_,m2,rfl⟩,_,List.mem_map.mpr ⟨_,m1,rfl⟩,h2⟩
 ·rintro ⟨p,hp,q,hq,h2⟩
  obtain ⟨d,hd,rfl⟩:=List.mem_map.mp hp
  obtain ⟨e,he,rfl⟩:=List.mem_map.mp hq
  obtain ⟨i,hi,ei⟩:=List.getElem_of_mem hd
  obtain ⟨j,hj,ej⟩:=List.getElem_of_mem he
  have gi:ds.getD i .none=d:=by rw [List.getD_eq_getElem?_getD,List.getElem?_eq_getElem hi];exact ei
  have gj:ds.getD j .none=e:=by rw [List.getD_eq_getElem?_getD,List.getElem?_eq_getElem hj];exact ej
  rcases Nat.lt_trichotomy i j with hij | hij | hij
  ·refine ⟨j,List.mem_range.mpr hj,?_⟩
   rw [List.any_eq_true]
   refine ⟨d,List.mem_of_getElem? (i:=i) (by rw [List.getElem?_take_of_lt hij,List.getElem?_eq_getElem hi,ei]),?_⟩
   rw [gj]
   unfold my
   rw [(ah d hd e he).mpr h2,Bool.true_or]
  ·subst hij
   rw [gi] at gj
   subst gj
   unfold Wg at h2
   omega
  ·refine ⟨i,List.mem_range.mpr hi,?_⟩
   rw [List.any_eq_true]
   refine ⟨e,List.mem_of_getElem? (i:=j) (by rw [List.getElem?_take_of_lt hij,List.getElem?_eq_getElem hj,ej]),?_⟩
   rw [gi]
   unfold my
   rw [(ah d hd e he).mpr h2,Bool.or_true]
def um:PyData→Bool
 | .list es=>!es.isEmpty && (es.all b8 && !cX es)
 | _=>false
theorem Ih {z y:Str} {p:Int×Int} (h:eN z y (pI p)=true):p∈(prs z.cps.toList y.cps.toList z.length).map cP:=by
 have h':m9 z y p.1 p.2=true:=h
 unfold m9 at h'
 simp only [Bool.and_eq_true,decide_eq_true_eq] at h'
 obtain ⟨⟨⟨⟨h1,h2⟩,h3⟩,h4⟩,h5⟩:=h'
 have l2:y.length=y.cps.toList.length:=dj y
 refine List.mem_map.mpr ⟨(p.1.toNat,p.2.toNat),uh (by show p.1.toNat < z.length;omega) (by show p.2.toNat < y.cps.toList.length;omega) h5,?_⟩
 exact Prod.ext (by show ((p.1.toNat:Nat):Int)=p.1;omega) (by show ((p.2.toNat:Nat):Int)=p.2;omega)
theorem Ii {z y:Str} {p:PP} (h:p∈prs z.cps.toList y.cps.toList z.length):eN z y (pD p)=true:=by
 have l1:z.length=z.cps.toList.length:=dj z
 have:=il h
 exact yq ⟨by omega,this.2.1,this.2.2⟩
theorem vD (z y:Str) (hs:List PyData):gD z y (.list hs)=(hs.all um && decide ((fl hs).Perm ((prs z.cps.toList y.cps.toList z.length).map cP))):=by
 rw [Bool.eq_iff_iff]
 show (hs.all (gk z y) && (jJ z y hs && !hs.any fun h=>cX (zH h)))=true↔_
 unfold jJ
 rw [Bool.and_eq_true,Bool.and_eq_true,Bool.and_eq_true,Bool.and_eq_true,decide_eq_true_eq,decide_eq_true_eq,decide_eq_true_eq,List.all_eq_true,List.all_eq_true,Bool.not_eq_true',List.any_eq_false]
 constructor
 ·rintro ⟨h1,⟨h2,h3⟩,h4⟩
  have g:∀ h∈hs,∃ es,h= .list es∧es≠[]∧∀ d∈es,∃ p:Int×Int,d=pI p∧eN z y (pI p)=true:=fun h hh=>by
   have:=h1 h hh
   cases h with
   | list es=>
    have this:(!es.isEmpty && es.all (eN z y))=true:=this
    rw [Bool.and_eq_true,List.all_eq_true] at this
    refine ⟨es,rfl,(fun e=>by rw [e] at this;cases this.1),fun d hd=>?_⟩
    obtain ⟨i,j,rfl⟩:=t8 (this.2 d hd)
    exact ⟨(i,j),rfl,this.2 _ hd⟩
   | _=>cases this
  refine ⟨fun h hh=>?_,yr h2 (fun p hp=>?_) (by rw [h3,List.length_map])⟩
  ·have hn:=h4 h hh
   obtain ⟨es,rfl,n0,hp⟩:=g h hh
   show (!es.isEmpty && (es.all b8 && !cX es))=true
   rw [Bool.and_eq_true,Bool.and_eq_true,List.all_eq_true,Bool.not_eq_true',Bool.not_eq_true',List.isEmpty_eq_false_iff]
   refine ⟨n0,fun d hd=>?_,Bool.not_eq_true _ ▸ hn⟩
   obtain ⟨p,rfl,_⟩:=hp d hd
   rfl
  ·unfold fl at hp
   obtain ⟨l,hl,hp⟩:=List.mem_flatten.mp hp
   obtain ⟨h,hh,rfl⟩:=List.mem_map.mp hl
   obtain ⟨es,rfl,_,hq⟩:=g h hh
   obtain ⟨d,hd,rfl⟩:=List.mem_map.mp hp
   obtain ⟨p,rfl,hm⟩:=hq d hd
   exact Ih hm
 ·rintro ⟨h1,h2⟩
  have g:∀ h∈hs,∃ es,h= .list es∧es≠[]∧(∀ d∈es,∃ p:Int×Int,d=pI p)∧cX es=false:=fun h hh=>by
   have:=h1 h hh
   cases h with
   | list es=>
    have this:(!es.isEmpty && (es.all b8 && !cX es))=true:=this
    rw [Bool.and_eq_true,Bool.and_eq_true,List.all_eq_true,Bool.not_eq_true',Bool.not_eq_true'] at this
    refine ⟨es,rfl,(fun e=>by rw [e] at this;cases this.1),fun d hd=>?_,this.2.2⟩
    obtain ⟨i,j,rfl⟩:=rO (this.2.1 d hd)
    exact ⟨(i,j),rfl⟩
   | _=>cases this
  have nd:(fl hs).Nodup:=h2.nodup_iff.mpr (List.Pairwise.map _ (fun a b hab e=>hab (HY e)) (zK _ _ _))
  refine ⟨fun h hh=>?_,⟨nd,by rw [h2.length_eq,List.length_map]⟩,fun h hh=>?_⟩
  ·obtain ⟨es,rfl,n0,hp,_⟩:=g h hh
   show (!es.isEmpty && es.all (eN z y))=true
   rw [Bool.and_eq_true,List.all_eq_true,Bool.not_eq_true',List.isEmpty_eq_false_iff]
   refine ⟨n0,fun d hd=>?_⟩
   obtain ⟨p,rfl⟩:=hp d hd
   have:p∈fl hs:=List.mem_flatten.mpr ⟨_,List.mem_map.mpr ⟨_,hh,rfl⟩,List.mem_map.mpr ⟨_,hd,rfl⟩⟩
   obtain ⟨q,hq,rfl⟩:=List.mem_map.mp (h2.mem_iff.mp this)
   exact Ii hq
  ·obtain ⟨es,rfl,_,_,hn⟩:=g h hh
   show ¬ cX es=true
   rw [hn];decide
end
section
variable {P:Program} {w:World} {K:PySem.W.Frag} {mg:Str→Option Value} {base:Heap}
theorem qD:(["_law_pair_here"]:List Str).Nodup:=by decide+kernel
theorem VD:cM dO "isinstance":=by decide+kernel
theorem kz3b:cM dO "bool":=by decide+kernel
theorem VF:bV dO "_law_found":=by decide+kernel
theorem kz3d:cM dO "int":=by decide+kernel
theorem kz3e:cM bM "sorted":=by decide+kernel
theorem kz3f:bV bM "_law_heap":=by decide+kernel
theorem Rw:bV bM "_law_less":=by decide+kernel
theorem kz3h:bV bM "_law_i":=by decide+kernel
theorem Lr:bV bM "_law_least":=by decide+kernel
theorem kz3j:cM bM "min":=by decide+kernel
theorem wH:aP ["_law_found"] ["_law_found"] (au dO):=⟨rfl,rfl,rfl,by decide+kernel,rfl,by decide+kernel,by decide+kernel⟩
theorem iV (T:Txt K mg):nO P w K mg base 1 "_law_whole" ["_law_found"] Nm:=by
 refine gR T.d_law_whole wH (fun _ _ _ _ _ _ us hl=>L2.uv (fun _=>rfl) us hl) ?_ fun f cdv A outer s H vs Q E hr h=>?_
 ·rintro vs H Q E ⟨v,d,rfl,_⟩;rfl
 obtain ⟨v,d,rfl,hd,q⟩:=h
 have hu:=hr.units0
 have hu64:=hr.units
 refine ⟨_,(aA (aG (qM (aM (cL (K:=K) rfl) (bL VD) T.b_isinstance bw (aa (ak 0 VF) (aa (qZ (bL kz3d) T.b_int FZ (by decide+kernel) (by decide+kernel)) aj)) (by decide+kernel) (by decide+kernel)) (xK (Gk (aM (cL (K:=K) rfl) (bL VD) T.b_isinstance bw (aa (ak 0 VF) (aa (qZ (bL kz3b) T.b_bool vW (by decide+kernel) (by decide+kernel)) aj)) (by decide+kernel) (by decide+kernel))))))),?_⟩
 walk_at "sts"
 cases d with
 | int n=>
  refine cB (dH hd) rfl ?_
  walk_at "sts"
  refine cB (dH hd) rfl ?_
  walk_at "sts"
  exact q
 | bool n=>
  refine cB (b:=true) (dH hd) rfl ?_
  walk_at "sts"
  refine cB (b:=true) (dH hd) rfl ?_
  walk_at "sts"
  exact q
 | none=>
  refine cB (dH hd) rfl ?_
  walk_at "sts"
  exact q
 | str n=>
  refine cB (dH hd) rfl ?_
  walk_at "sts"
  exact q
 | list n=>
  refine cB (dH hd) rfl ?_
  walk_at "sts"
  exact q
 | tuple n=>
  refine cB (dH hd) rfl ?_
  walk_at "sts"
  exact q
 | dict n=>
  refine cB (dH hd) rfl ?_
  walk_at "sts"
  exact q
def je (H:Hp) (a:Addr):Int×Int:=match H a with
 | some (.tup [.int i,.int j])=>(i,j)
 | _=>(0,0)
def PrA (H:Hp) (a:Addr):Prop:=∃ i j:Int,H a=some (.tup [.int i,.int j])
theorem nG {H:Hp} {a:Addr} {i j:Int} (h:H a=some (.tup [.int i,.int j])):je H a=(i,j):=by unfold je;rw [h]
theorem PrA.at_ {H:Hp} {a:Addr} (h:PrA H a):H a=some (.tup ((kI (je H a)).map V.int)):=by
 obtain ⟨i,j,e⟩:=h
 rw [nG e,e];rfl
theorem PrA.at2 {H:Hp} {a:Addr} (h:PrA H a):H a=some (.tup [.int (je H a).1,.int (je H a).2]):=h.at_
theorem PrA.same {H H':Hp} {a:Addr} (s:Same H H') (h:PrA H a):PrA H' a:=by
 obtain ⟨i,j,e⟩:=h
 exact ⟨i,j,s _ _ e⟩
theorem km {H H':Hp} {a:Addr} (s:Same H H') (h:PrA H a):je H' a=je H a:=by
 obtain ⟨i,j,e⟩:=h
 rw [nG e,nG (s _ _ e)]
def wR (p:Int×Int):Int×Int:=(p.1,0 - p.2)
theorem VG {p q:Int×Int} (h:Lq (wR p) (wR q)):p.1 < q.1∨p.1=q.1∧q.2≤p.2:=by
 unfold Lq wR at h
 simp only at h
 omega
theorem Ij {H:Hp} {d:PyData} {v:V} (hd:∃ i j,d= .tuple [.int i,.int j]) (h:RD H d v):∃ a,v= .ref a∧PrA H a∧je H a=q9 d:=by
 obtain ⟨i,j,rfl⟩:=hd
 obtain ⟨a,rfl,e⟩:=ir.mp h
 exact ⟨a,rfl,⟨i,j,e⟩,nG e⟩
def Ik:Sp:=fun vs H Q _=>∃ (a:Addr) (us:List V) (ds:List PyData),vs=[.ref a]∧H a=some (.lst us)∧RDs H ds us∧ds.length≤5000∧(∀ d∈ds,∃ i j,d= .tuple [.int i,.int j])∧(∀ p∈ds.map q9,p.2≤1000)∧∀ H',Same H H'→Q (.bl (!cX ds)) H'
theorem dU:aP ["_law_heap","_law_least","_law_i","_law_less"] ["_law_heap"] (au bM):=⟨rfl,rfl,rfl,by decide+kernel,rfl,by decide+kernel,by decide+kernel⟩
theorem jf (T:Txt K mg):nO P w K mg base 1 "_law_is_heap" ["_law_heap"] Ik:=by
 refine gR T.d_law_is_heap dU (fun _ _ _ _ _ _ us hl=>L2.uv (fun _=>rfl) us hl) ?_ fun f cdv A outer s H vs Q E hr h=>?_
 ·rintro vs H Q E ⟨a,us,ds,rfl,_⟩;rfl
 obtain ⟨a,us,ds,rfl,ha,hR,h5,hp,hj,q⟩:=h
 have hu:=hr.units0
 have hu64:=hr.units
 refine ⟨_,(aq (aR (i:=1) dU.nd rfl (Or.inl Lr) (bu Ek az az) rfl) (aq (d9 PassesOwn.never rfl (dB (K:=K) rfl (aM oZ (bL kz3e) T.b_sorted uT (aa (iZ (sub:=[none]) (cQ (N:=["_law_heap","_law_least","_law_i","_law_less"]) (sc:=au bM) (N':=["_law_pair_here"]) (by decide+kernel)) rfl rfl rfl (dB (K:=K) rfl (ak 0 kz3f)) (fun C s₀ H₀ ex=>(mJ 0 (by decide+kernel) qD)) (fun C s₀ H₀ ex=>fc) (fun C s₀ H₀ ex=>(gr (aa (bB (K:=K) rfl (g8 0 (by decide+kernel)) az) (aa (bu pH az (bB (K:=K) rfl (g8 0 (by decide+kernel)) az)) aj))))) aj) (by decide+kernel) (by decide+kernel))) (qe (K:=K) rfl rfl (cR (bO (i:=2) dU.nd rfl (Or.inl kz3h) rfl) (cR (bO (i:=3) dU.nd rfl (Or.inl Rw) rfl) jr))) (aq (bZ (bW Em (bu pH az (ak 3 Rw)) (ak 1 Lr) (by first | exact aW _ | with_unfolding_all rfl)) (aA (aG gJ)) bC) (aA (aR (i:=1) dU.nd rfl (Or.inl Lr) (aM (Dp rfl) (bL kz3j) T.b_min Pz (aa (ak 1 Lr) (aa (bu pH az (ak 3 Rw)) aj)) (by decide+kernel) (by decide+kernel)) rfl)))) (aA (aG gJ)))),?_⟩
 walk_at "sts"
 have hl:=bA hR
 have hz:us.length≤sizeLine:=Nat.le_trans (show us.length≤5000 by omega) (by decide)
 refine .inl ⟨a,rfl,⟨_,SqL.of ha⟩,?_⟩
 refine fJ (xs:=us) (fun i ys H'=>Same H H'∧∃ as:List Addr,ys=as.map V.ref∧as.length=i∧(∀ b∈as,PrA H' b)∧as.map (je H')=(ds.take i).map fun d=>wR (q9 d)) hz ⟨Same.refl _,[],rfl,rfl,by simp,rfl⟩ ?_ ?_ ?_ ?_
 ·rintro i ys H' ⟨_,as,rfl,h,_⟩
  simp [h]
 ·rintro i ys H' ⟨S1,_⟩
  exact SqL.of (S1 _ _ ha)
 ·rintro i ys H1 x hx ⟨S1,as,rfl,la,pa,ka⟩
  obtain ⟨d,e1,e2⟩:=gB hR hx
  obtain ⟨b,rfl,pb,kb⟩:=Ij (hp d (List.mem_of_getElem? e1)) e2
  have hb:=(pb.same S1).at2
  rw [km S1 pb,kb] at hb
  walk_at "sts"
  refine ⟨KeepSt.set rfl,?_⟩
  walk_at "sts"
  try with_reducible refine jn ?_
  walk_at "sts"
  refine zu rfl fun T nT=>?_
  have S2:=(Same.refl H1).upd (o:=.tup [.int (q9 d).1,.int (0 - (q9 d).2)]) nT
  refine ⟨S1.trans S2,as ++ [T],by simp,by simp [la],fun c hc=>?_,?_⟩
  ·rcases List.mem_append.mp hc with h | h
   ·exact (pa c h).same S2
   ·rw [List.mem_singleton.mp h];exact ⟨_,_,ao⟩
  ·rw [List.map_append,List.take_add_one,e1,List.map_append,← ka]
   congr 1
   ·exact List.map_congr_left fun c hc=>km S2 (pa c hc)
   ·show [je _ T]=[wR (q9 d)]
    rw [nG ao];rfl
 ·rintro ys H1 ⟨S1,as,rfl,la,pa,ka⟩ D nD
  rw [hl,List.take_length] at ka
  have S2:=S1.upd (o:=.lst (as.map V.ref)) nD
  have pa2:∀ b∈as,PrA (upd H1 D (.lst (as.map V.ref))) b:=fun b hb=>(pa b hb).same ((Same.refl H1).upd nD)
  walk_at "sts"
  refine yd (fun b=>kI (je (upd H1 D (.lst (as.map V.ref))) b)) ao (by omega) (fun b hb=>⟨(pa2 b hb).at_,by simp [kI]⟩) fun m bs H2 nm S3 hm pm so=>?_
  have ka2:bs.map (je H2)=bs.map (je H1):=List.map_congr_left fun b hb=>km (((Same.refl H1).upd nD).trans S3) (pa b (pm.mem_iff.mp hb))
  have pb:∀ b∈bs,PrA H2 b:=fun b hb=>(pa2 b (pm.mem_iff.mp hb)).same S3
  have hq:∃ qs:List (Int×Int),bs.map (je H2)=qs.map wR∧qs.Perm (ds.map q9)∧qs.Pairwise fun p q=>p.1 < q.1∨p.1=q.1∧q.2≤p.2:=by
   have p1:(bs.map (je H2)).Perm ((ds.map q9).map wR):=by
    rw [ka2,List.map_map]
    exact ka ▸ pm.map _
   have inv:∀ l:List (Int×Int),l=(l.map wR).map wR:=fun l=>by
    rw [List.map_map]
    refine (List.map_id l).symm.trans (List.map_congr_left fun p _=>?_)
    show p=(p.1,0 - (0 - p.2))
    exact Prod.ext rfl (by show p.2=0 - (0 - p.2);omega)
   refine ⟨(bs.map (je H2)).map wR,inv _,?_,?_⟩
   ·have:=p1.map wR
    rwa [← inv] at this
   ·rw [List.map_map,List.pairwise_map]
    refine so.imp_of_mem fun {b c} hb hc h=>?_
    have h2:=Ie h
    rw [← km S3 (pa2 b (pm.mem_iff.mp hb)),← km S3 (pa2 c (pm.mem_iff.mp hc))] at h2
    refine VG (p:=wR (je H2 b)) (q:=wR (je H2 c)) ?_
    have i2:∀ p:Int×Int,wR (wR p)=p:=fun p=>Prod.ext rfl (by show 0 - (0 - p.2)=p.2;omega)
    rw [i2,i2];exact h2
  obtain ⟨qs,hq1,hq2,hq3⟩:=hq
  have S4:=S2.trans S3
  have lq:qs.length=bs.length:=by have:=congrArg List.length hq1;simpa using this.symm
  refine .inl ⟨m,rfl,⟨_,SqL.of hm⟩,?_⟩
  refine gG (xs:=bs.map V.ref) (fun k σ H'=>H'=H2∧∃ (le:Int) (x2 x3:Option V),σ=[some (.ref a),some (.int le),x2,x3]∧le≤1000000000∧(∀ p∈qs.take k,le≤p.2)∧(le=1000000000∨∃ p∈qs.take k,p.2=le)∧∀ p∈qs.take k,∀ p'∈qs.take k,¬ Wg p p')
   ⟨rfl,1000000000,_,_,rfl,by omega,by simp,.inl rfl,by simp⟩ (fun i σ H' _ h=>by rw [h.1];exact SqL.of hm) ?_ ?_
  ·rintro k x σ H3 hx ⟨rfl,le,x2,x3,rfl,l1,l2,l3,l4⟩
   rw [List.getElem?_map] at hx
   obtain ⟨b,eb,rfl⟩:=Option.map_eq_some_iff.mp hx
   have hb:=(pb b (List.mem_of_getElem? eb)).at2
   have eq:qs[k]?=some (wR (je H3 b)):=by
    have:=congrArg (fun l=>l[k]?) hq1
    simp only [List.getElem?_map,eb,Option.map_some] at this
    obtain ⟨p,e1,e2⟩:=Option.map_eq_some_iff.mp this.symm
    rw [e1,← e2]
    exact congrArg some (Prod.ext rfl (by show p.2=0 - (0 - p.2);omega))
   have hk:k < qs.length:=(List.getElem?_eq_some_iff.mp eq).1
   have tk:qs.take (k+1)=qs.take k ++ [wR (je H3 b)]:=by rw [List.take_add_one,eq];rfl
   have bef:∀ p∈qs.take k,p.1 < (je H3 b).1∨p.1=(je H3 b).1∧0 - (je H3 b).2≤p.2:=fun p hp'=>by
    have:qs=qs.take k ++ wR (je H3 b) :: qs.drop (k+1):=by
     have e:=(List.getElem?_eq_some_iff.mp eq).2
     rw [← e,List.getElem_cons_drop,List.take_append_drop]
    rw [this,List.pairwise_append] at hq3
    exact hq3.2.2 p hp' _ List.mem_cons_self
   have qj:0 - (je H3 b).2≤1000:=hj _ (hq2.mem_iff.mp (List.mem_of_getElem? eq))
   refine gU (SqT.of hb) rfl ?_
   walk_at "sts"
   refine jM (fun h=>?_) (fun h=>?_)
   ·walk_at "sts"
    have:cX ds=true:=by
     refine (Bo hp).mpr ?_
     rcases l3 with l3 | ⟨p,hp',e⟩
     ·omega
     ·refine ⟨p,hq2.mem_iff.mp (List.mem_of_mem_take hp'),_,hq2.mem_iff.mp (List.mem_of_getElem? eq),?_⟩
      have:=bef p hp'
      exact ⟨by show p.1 < (je H3 b).1;omega,by show p.2 < 0 - (je H3 b).2;omega⟩
    rw [this] at q
    exact q _ S4
   ·walk_at "sts"
    refine ⟨rfl,_,_,_,rfl,?_,?_,?_,?_⟩
    ·split <;> omega
    ·rw [tk]
     intro p hp'
     rcases List.mem_append.mp hp' with h1 | h1
     ·have:=l2 p h1
      split <;> omega
     ·rw [List.mem_singleton.mp h1]
      show _≤0 - (je H3 b).2
      split <;> omega
    ·by_cases h1:0 - (je H3 b).2 < le
     ·rw [if_pos h1]
      exact .inr ⟨_,by rw [tk];exact List.mem_append_right _ (List.mem_singleton.mpr rfl),rfl⟩
     ·rw [if_neg h1]
      rcases l3 with l3 | ⟨p,hp',e⟩
      ·exact .inl l3
      ·exact .inr ⟨p,by rw [tk];exact List.mem_append_left _ hp',e⟩
    ·rw [tk]
     intro p hp' p' hp2 ah
     rcases List.mem_append.mp hp' with h1 | h1 <;> rcases List.mem_append.mp hp2 with h2 | h2
     ·exact l4 p h1 p' h2 ah
     ·rw [List.mem_singleton.mp h2] at ah
      have:=l2 p h1
      have a2:p.2 < 0 - (je H3 b).2:=ah.2
      omega
     ·rw [List.mem_singleton.mp h1] at ah
      have:=bef p' h2
      have a2:(je H3 b).1 < p'.1:=ah.1
      omega
     ·rw [List.mem_singleton.mp h1,List.mem_singleton.mp h2] at ah
      have:=ah.1
      omega
  ·rintro σ H3 ⟨rfl,le,x2,x3,rfl,l1,l2,l3,l4⟩
   walk_at "sts"
   have:cX ds=false:=by
    rw [Bool.eq_false_iff]
    intro h
    obtain ⟨p,hp1,p',hp2,ah⟩:=(Bo hp).mp h
    rw [List.length_map,← lq,List.take_length] at l4
    exact l4 p (hq2.mem_iff.mpr hp1) p' (hq2.mem_iff.mpr hp2) ah
   rw [this] at q
   exact q _ S4
end
section
variable {P:Program} {w:World} {K:PySem.W.Frag} {mg:Str→Option Value} {base:Heap}
theorem kz3k:cM aF "sorted":=by decide+kernel
theorem Rx:bV aF "_law_found":=by decide+kernel
theorem kz3m:cM aF "_law_pairs":=by decide+kernel
theorem kz3n:bV aF "_law_top":=by decide+kernel
theorem kz3o:bV aF "_law_side":=by decide+kernel
theorem VH:bV aF "_law_thing":=by decide+kernel
theorem Dz:bV aF "_law_heap":=by decide+kernel
theorem kz3r:cM aF "_law_is_heap":=by decide+kernel
theorem Il:bV aF "_law_pair_here":=by decide+kernel
theorem VJ:cM aF "_law_whole":=by decide+kernel
theorem kz3u:cM aF "len":=by decide+kernel
theorem Ry:cM aF "isinstance":=by decide+kernel
theorem kz3w:cM aF "tuple":=by decide+kernel
theorem VL:cM aF "list":=by decide+kernel
theorem PrA.keep {H H':Hp} {a:Addr} (t:TK H H') (h:PrA H a):PrA H' a:=by
 obtain ⟨i,j,e⟩:=h
 exact ⟨i,j,t _ _ e⟩
theorem Im {H H':Hp} {a:Addr} (t:TK H H') (h:PrA H a):je H' a=je H a:=by
 obtain ⟨i,j,e⟩:=h
 rw [nG e,nG (t _ _ e)]
theorem qF {H H':Hp} {as:List Addr} (t:TK H H') (h:∀ a∈as,PrA H a):as.map (je H')=as.map (je H):=List.map_congr_left fun a ha=>Im t (h a ha)
theorem Bp {H:Hp}:∀ {ds:List PyData} {ws:List V},(∀ d∈ds,∃ i j,d= .tuple [.int i,.int j])→RDs H ds ws→∃ bs:List Addr,ws=bs.map V.ref∧(∀ b∈bs,PrA H b)∧bs.map (je H)=ds.map q9
 | [],ws,_,h=>by
  rw [aK] at h
  exact ⟨[],h,by simp,rfl⟩
 | d :: ds,ws,hp,h=>by
  rw [cH] at h
  obtain ⟨v,r,rfl,h1,h2⟩:=h
  obtain ⟨bs,rfl,h3,h4⟩:=Bp (fun x hx=>hp x (List.mem_cons_of_mem _ hx)) h2
  obtain ⟨b,rfl,h5,h6⟩:=Ij (hp d List.mem_cons_self) h1
  refine ⟨b :: bs,rfl,fun c hc=>?_,by rw [List.map_cons,List.map_cons,h4,h6]⟩
  rcases List.mem_cons.mp hc with rfl | hc
  ·exact h5
  ·exact h3 c hc
theorem Bq {H:Hp}:∀ {bs:List Addr},(∀ b∈bs,PrA H b)→DRs H ((bs.map (je H)).map pI) (bs.map V.ref)
 | [],_=>cJ.mpr rfl
 | b :: bs,h=>cT.mpr ⟨_,_,rfl,sZ.mpr ⟨b,_,rfl,(h b List.mem_cons_self).at_,xM (kI (je H b))⟩,Bq fun c hc=>h c (List.mem_cons_of_mem _ hc)⟩
mutual
theorem Br {H:Hp}:∀ (d:PyData) (v:V),d.canLay0=true→RD H d v→DR H d v
 | .none,_,_,h=>by rw [RD] at h;rw [DR];exact h
 | .bool _,_,_,h=>by rw [RD] at h;rw [DR];exact h
 | .int _,_,_,h=>by rw [RD] at h;rw [DR];exact h
 | .str _,_,_,h=>by rw [RD] at h;rw [DR];exact h
 | .list ds,_,c,h=>by
  obtain ⟨a,vs,rfl,e,r⟩:=aJ.mp h
  rw [PyData.canLay0] at c
  exact lu.mpr ⟨a,vs,rfl,e,rP ds vs c r⟩
 | .tuple ds,_,c,h=>by
  obtain ⟨a,vs,rfl,e,r⟩:=fY.mp h
  rw [PyData.canLay0] at c
  exact sZ.mpr ⟨a,vs,rfl,e,rP ds vs c r⟩
 | .dict _,_,c,_=>by rw [PyData.canLay0] at c;cases c
theorem rP {H:Hp}:∀ (ds:List PyData) (vs:List V),PyData.canLayAll0 ds=true→RDs H ds vs→DRs H ds vs
 | [],_,_,h=>by rw [RDs] at h;rw [DRs];exact h
 | d :: ds,_,c,h=>by
  rw [RDs] at h
  obtain ⟨v,r,rfl,h1,h2⟩:=h
  rw [PyData.canLayAll0,Bool.and_eq_true] at c
  rw [DRs]
  exact ⟨v,r,rfl,Br d v c.1 h1,rP ds r c.2 h2⟩
end
theorem Rz:∀ ps qs:List (Int×Int),PyData.eqv (.list (ps.map pI)) (.list (qs.map pI))=decide (ps=qs):=by
 have key:∀ ps qs:List (Int×Int),PyData.eqvAll (ps.map pI) (qs.map pI)=decide (ps=qs):=by
  intro ps
  induction ps with
  | nil=>intro qs;cases qs <;> simp [PyData.eqvAll]
  | cons p ps ih=>
   intro qs
   cases qs with
   | nil=>simp [PyData.eqvAll]
   | cons q qs=>
    rw [List.map_cons,List.map_cons,PyData.eqvAll,ih qs]
    obtain ⟨p1,p2⟩:=p
    obtain ⟨q1,q2⟩:=q
    by_cases h1:p1=q1
    ·by_cases h2:p2=q2
     ·by_cases h3:ps=qs
      ·simp [pI,PyData.eqv,PyData.eqvAll,h1,h2,h3]
      ·simp [pI,PyData.eqv,PyData.eqvAll,h1,h2,h3]
     ·simp [pI,PyData.eqv,PyData.eqvAll,h1,h2]
    ·simp [pI,PyData.eqv,PyData.eqvAll,h1]
 intro ps qs
 rw [PyData.eqv]
 exact key ps qs
theorem wI (es:List PyData):PyData.eqv (.list es) (.list [])=es.isEmpty:=by
 cases es <;> simp [PyData.eqv,PyData.eqvAll]
theorem vG (ps:List (Int×Int)):PySem.SeqAt.shaped (.list (ps.map pI))=true:=jx (n:=2) (tG (n:=1) fun d hd=>by
 obtain ⟨p,_,rfl⟩:=List.mem_map.mp hd
 exact vm (n:=0) fun e he=>by
  simp only [List.mem_cons,List.mem_nil_iff,or_false] at he
  rcases he with rfl | rfl <;> exact KD _) (by omega)
structure HLd (d:PyData):Prop where
 ly:∀ hs,d= .list hs→∀ h∈hs,PySem.SeqAt.shaped h=true
 jb:∀ hs,d= .list hs→∀ h∈hs,∀ es,h= .list es→∀ i j,PyData.tuple [.int i,.int j]∈es→j≤1000
def Io:Sp:=fun vs H Q _=>∃ (z y:Str) (v:V) (d:PyData),vs=[.str z,.str y,v]∧Row z∧Row y∧RD H d v∧HBd d∧HLd d∧∀ H',Same H H'→Q (.bl (gD z y d)) H'
theorem rQ {z y:Str} {hs:List PyData} {h:PyData} (hm:h∈hs) (hg:um h=false):gD z y (.list hs)=false:=by
 rw [vD]
 have:hs.all um=false:=by
  rw [Bool.eq_false_iff]
  intro e
  have:=List.all_eq_true.mp e h hm
  rw [hg] at this
  cases this
 rw [this,Bool.false_and]
theorem dZ:aP ["_law_side","_law_top","_law_thing","_law_found","_law_heap","_law_pair_here"] ["_law_side","_law_top","_law_thing"] (au aF):=⟨rfl,rfl,rfl,by decide+kernel,rfl,by decide+kernel,by decide+kernel⟩
theorem cN (T:Txt K mg):nO P w K mg base 2 "_law_are_heaps" ["_law_side","_law_top","_law_thing"] Io:=by
 have jf:=jf (P:=P) (w:=w) (base:=base) T
 have iV:=iV (P:=P) (w:=w) (base:=base) T
 have cY:=cY (P:=P) (w:=w) (base:=base) T
 refine gR T.d_law_are_heaps dZ (fun _ _ _ _ _ _ us hl=>L2.vI (fun _ _ _=>rfl) us hl) ?_ fun f cdv A outer s H vs Q E hr h=>?_
 ·rintro vs H Q E ⟨z,y,v,d,rfl,_⟩;rfl
 obtain ⟨z,y,v,d,rfl,hz,hy,hd,hB,hL,q⟩:=h
 have hu:=hr.units0
 have hu64:=hr.units
 refine ⟨_,(aq (bZ (c7 (cG (aM (cL (K:=K) rfl) (bL Ry) T.b_isinstance bw (aa (ak 2 VH) (aa (qZ (bL VL) T.b_list kZ (by decide+kernel) (by decide+kernel)) aj)) (by decide+kernel) (by decide+kernel)))) (aA (aG gJ)) bC) (aq (aR (i:=3) dZ.nd rfl (Or.inl Rx) (bU aj) rfl) (aq (d9 PassesOwn.never rfl (dB (K:=K) rfl (ak 2 VH)) (bO (i:=4) dZ.nd rfl (Or.inl Dz) rfl) (aq (bZ (mj (jH (c7 (cG (aM (cL (K:=K) rfl) (bL Ry) T.b_isinstance bw (aa (ak 4 Dz) (aa (qZ (bL VL) T.b_list kZ (by decide+kernel) (by decide+kernel)) aj)) (by decide+kernel) (by decide+kernel)))) (jo (bW (fB (K:=K) rfl hu64) (ak 4 Dz) (bU aj) (by first | exact aW _ | with_unfolding_all rfl))))) (aA (aG gJ)) bC) (aq (d9 PassesOwn.never rfl (dB (K:=K) rfl (ak 4 Dz)) (bO (i:=5) dZ.nd rfl (Or.inl Il) rfl) (aA (bZ (mj (jH (c7 (cG (aM (cL (K:=K) rfl) (bL Ry) T.b_isinstance bw (aa (ak 5 Il) (aa (qZ (bL kz3w) T.b_tuple oE (by decide+kernel) (by decide+kernel)) aj)) (by decide+kernel) (by decide+kernel)))) (jH (bW (mX (K:=K) rfl hu64) (aM (bH (K:=K) rfl) (bL kz3u) T.b_len dz (aa (ak 5 Il) aj) (by decide+kernel) (by decide+kernel)) az (by first | exact aW _ | with_unfolding_all rfl)) (jH (c7 (cG (aL iV (hr.mono (by decide)) (bL VJ) (aa (bB (K:=K) rfl (ak 5 Il) az) aj) (by decide+kernel)))) (jo (c7 (cG (aL iV (hr.mono (by decide)) (bL VJ) (aa (bB (K:=K) rfl (ak 5 Il) az) aj) (by decide+kernel))))))))) (aA (aG gJ)) bC))) (aq (bZ (c7 (cG (aL jf (hr.mono (by decide)) (bL kz3r) (aa (ak 4 Dz) aj) (by decide+kernel)))) (aA (aG gJ)) bC) (aA (dX (jq (K:=K) rfl PySem.F.plainAttrs_list PySem.F.slot_list_extend PySem.F.type_list_extend uL (ak 3 Rx) (aa (ak 4 Dz) aj)))))))) (aA (aG (jX (fB (K:=K) rfl hu64) (aM oZ (bL kz3k) T.b_sorted uT (aa (ak 3 Rx) aj) (by decide+kernel) (by decide+kernel)) (aL cY (hr.mono (by decide)) (bL kz3m) (aa (ak 0 kz3o) (aa (ak 1 kz3n) aj)) (by decide+kernel)) (by first | exact aW _ | with_unfolding_all rfl))))))),?_⟩
 walk_at "sts"
 cases hl0:t6 d with
 | false=>
  refine cB (dH hd) (by rw [rN,hl0]) ?_
  walk_at "sts"
  have:gD z y d=false:=by unfold gD;split <;> first | rfl | cases hl0
  rw [this] at q
  exact q _ (Same.refl _)
 | true=>
  obtain ⟨hs,rfl⟩:∃ hs,d= .list hs:=by cases d <;> first | exact ⟨_,rfl⟩ | cases hl0
  obtain ⟨a,us,rfl,ha,hR⟩:=aJ.mp hd
  obtain ⟨h5,hfl,h6⟩:=hB hs rfl
  have hl:=bA hR
  refine cB (.lst ha) rfl ?_
  walk_at "sts"
  refine zu rfl fun f nf=>?_
  walk_at "sts"
  refine .inl ⟨a,rfl,⟨_,SqL.of (eZ nf ha)⟩,?_⟩
  refine gG (xs:=us) (fun k σ H'=>Same H H'∧(∀ h∈hs.take k,um h=true)∧(∃ as:List Addr,H' f=some (.lst (as.map V.ref))∧(∀ b∈as,PrA H' b)∧as.map (je H')=fl (hs.take k))∧∃ x4 x5,σ=[some (.str z),some (.str y),some (.ref a),some (.ref f),x4,x5])
   ⟨(Same.refl H).upd nf,by simp,⟨[],ao,by simp,rfl⟩,none,none,rfl⟩ (fun i σ H' _ h=>SqL.of (h.1 _ _ ha)) ?_ ?_
  ·rintro k x σ H1 hx ⟨S1,g1,⟨as,hf,pa,ka⟩,x4,x5,rfl⟩
   obtain ⟨h,eh,rh0⟩:=gB hR hx
   have hm:=List.mem_of_getElem? eh
   have rh:=RD.same S1 _ _ rh0
   have bad:um h=false→Q (.bl false) H1:=fun e=>by rw [rQ hm e] at q;exact q _ S1
   cases hh:t6 h with
   | false=>
    walk_at "sts"
    refine cB (dH rh) (by rw [rN,hh]) ?_
    walk_at "sts"
    exact bad (by cases h <;> first | rfl | cases hh)
   | true=>
    obtain ⟨es,rfl⟩:∃ es,h= .list es:=by cases h <;> first | exact ⟨_,rfl⟩ | cases hh
    obtain ⟨c,ws,rfl,hc,hW⟩:=aJ.mp rh
    have hwl:=bA hW
    have h7:=h6 _ hm es rfl
    have hsh:=hL.ly hs rfl _ hm
    walk_at "sts"
    refine cB (.lst hc) rfl ?_
    walk_at "sts"
    refine zu rfl fun e0 n0=>?_
    have S2:=(Same.refl H1).upd (o:=.lst []) n0
    refine lL (d:=.list es) (e:=.list []) (Br _ _ (PySem.SeqAt.canLay_of_shaped hsh) (RD.same S2 _ _ rh)) (lu.mpr ⟨e0,[],rfl,ao,cJ.mpr rfl⟩) hsh rfl ?_
    rw [wI]
    cases he:es.isEmpty with
    | true=>
     walk_at "sts"
     have:es=[]:=by cases es <;> first | rfl | cases he
     subst this
     rw [rQ hm rfl] at q
     exact q _ (S1.trans S2)
    | false=>
     walk_at "sts"
     refine .inl ⟨c,rfl,⟨_,SqL.of (eZ n0 hc)⟩,?_⟩
     refine gG (xs:=ws) (fun j σ H'=>H'=upd H1 e0 (.lst [])∧(∀ p∈es.take j,b8 p=true)∧∃ x5,σ=[some (.str z),some (.str y),some (.ref a),some (.ref f),some (.ref c),x5])
      ⟨rfl,by simp,_,rfl⟩ (fun i σ H' _ h=>by rw [h.1];exact SqL.of (eZ n0 hc)) ?_ ?_
     ·rintro j x σ H2 hx2 ⟨rfl,g2,x5,rfl⟩
      obtain ⟨p,ep,rp⟩:=gB (RDs.same S2 _ _ hW) hx2
      have bad2:b8 p=false→Q (.bl false) (upd H1 e0 (.lst [])):=fun e=>by
       have:um (.list es)=false:=by
        show (!es.isEmpty && (es.all b8 && !cX es))=false
        have:es.all b8=false:=by
         rw [Bool.eq_false_iff]
         intro e2
         have:=List.all_eq_true.mp e2 p (List.mem_of_getElem? ep)
         rw [e] at this
         cases this
        rw [this,Bool.false_and,Bool.and_false]
       rw [rQ hm this] at q
       exact q _ (S1.trans S2)
      have good2:b8 p=true→∀ p∈es.take (j+1),b8 p=true:=fun e p' hp'=>by
       rw [List.take_add_one,ep] at hp'
       rcases List.mem_append.mp hp' with h | h
       ·exact g2 _ h
       ·rw [List.mem_singleton.mp h];exact e
      cases ht:wz p with
      | false=>
       walk_at "sts"
       refine cB (dH rp) (by rw [Bm,ht]) ?_
       walk_at "sts"
       exact bad2 (by cases p <;> first | rfl | cases ht)
      | true=>
       obtain ⟨ts,rfl⟩:∃ ts,p= .tuple ts:=by cases p <;> first | exact ⟨_,rfl⟩ | cases ht
       obtain ⟨b,us2,rfl,hb,hU⟩:=fY.mp rp
       have hl2:=bA hU
       walk_at "sts"
       refine cB (.tup hb) rfl ?_
       walk_at "sts"
       refine Gg (SqT.of hb) ?_
       walk_at "sts"
       by_cases h2:ts.length=2
       ·match ts,h2,hU with
        | [d1,d2],_,hU=>
         obtain ⟨v1,v2,rfl,r1,r2⟩:=wB hU
         rw [show (!decide (V.int (([v1,v2]:List V).length:Int)=V.int 2))=false from rfl]
         walk_at "sts"
         refine ⟨v1,d1,rfl,r1,?_⟩
         walk_at "sts"
         cases hn:dD d1 with
         | true=>
          walk_at "sts"
          refine ⟨v2,d2,rfl,r2,?_⟩
          walk_at "sts"
          cases hn2:dD d2 with
          | true=>
           walk_at "sts"
           exact ⟨rfl,good2 (by show (dD d1 && dD d2)=_;rw [hn,hn2];rfl),_,rfl⟩
          | false=>
           walk_at "sts"
           exact bad2 (by show (dD d1 && dD d2)=_;rw [hn2,Bool.and_false])
         | false=>
          walk_at "sts"
          exact bad2 (by show (dD d1 && dD d2)=_;rw [hn,Bool.false_and])
       ·rw [decide_eq_false (by intro z;injection z with z;omega)]
        walk_at "sts"
        exact bad2 (t7 h2)
     ·rintro σ H2 ⟨rfl,g2,x5,rfl⟩
      rw [hwl,List.take_length] at g2
      have gp:∀ d∈es,∃ i j,d= .tuple [.int i,.int j]:=fun d hd=>rO (g2 d hd)
      walk_at "sts"
      refine ⟨c,ws,es,rfl,eZ n0 hc,RDs.same S2 _ _ hW,h7,gp,fun p hp=>?_,fun H3 S3=>?_⟩
      ·obtain ⟨d,hd',rfl⟩:=List.mem_map.mp hp
       obtain ⟨i,j,rfl⟩:=gp d hd'
       exact hL.jb hs rfl _ hm es rfl i j hd'
      ·have S4:=(S1.trans S2).trans S3
       have gh:um (.list es)=!cX es:=by
        show (!es.isEmpty && (es.all b8 && !cX es))=_
        rw [he,List.all_eq_true.mpr g2];rfl
       cases ho:cX es with
       | true=>
        walk_at "sts"
        rw [rQ hm (by rw [gh,ho];rfl)] at q
        exact q _ S4
       | false=>
        walk_at "sts"
        obtain ⟨bs,rfl,pb,kb⟩:=Bp gp hW
        have S5:=S2.trans S3
        have tk:=wC eh
        have spl:=ym eh
        have len:as.length+bs.length≤5000:=by
         have e1:=congrArg List.length ka
         have e2:=congrArg List.length kb
         have e3:=congrArg List.length spl
         simp only [List.length_map,List.length_append] at e1 e2 e3
         have e4:(zH (PyData.list es)).length=es.length:=rfl
         omega
        refine ⟨.inl ⟨rfl,_,SqL.of (S5 _ _ hf)⟩,?_⟩
        walk_at "sts"
        refine ⟨f,c,_,_,rfl,rfl,S5 _ _ hf,S5 _ _ hc,by simp only [List.length_map];exact Nat.le_trans len (by decide),?_⟩
        walk_at "sts"
        have T1:TK H1 (upd H3 f (.lst (as.map V.ref ++ bs.map V.ref))):=(TK.same S5).trans (TK.lst (S5 _ _ hf))
        refine ⟨over S4 nf,fun h hh=>?_,⟨as ++ bs,by rw [ao,List.map_append],fun b hb=>?_,?_⟩,_,_,rfl⟩
        ·rw [List.take_add_one,eh] at hh
         rcases List.mem_append.mp hh with h1 | h1
         ·exact g1 _ h1
         ·rw [List.mem_singleton.mp h1,gh,ho];rfl
        ·rcases List.mem_append.mp hb with h1 | h1
         ·exact (pa b h1).keep T1
         ·exact (pb b h1).keep T1
        ·rw [List.map_append,qF T1 pa,qF T1 pb,ka,kb,tk];rfl
  ·rintro σ H1 ⟨S1,g1,⟨as,hf,pa,ka⟩,x4,x5,rfl⟩
   rw [hl,List.take_length] at g1 ka
   have la:as.length≤100000:=by
    have e1:=congrArg List.length ka
    rw [List.length_map] at e1
    omega
   walk_at "sts"
   refine yd (fun b=>kI (je H1 b)) hf la (fun b hb=>⟨(pa b hb).at_,by simp [kI]⟩) fun m bs H2 nm S2 hm pm so=>?_
   have pb:∀ b∈bs,PrA H1 b:=fun b hb=>pa b (pm.mem_iff.mp hb)
   walk_at "sts"
   refine ⟨z,y,rfl,hz,hy,fun q1 H3 nq1 S3 PL3=>?_⟩
   obtain ⟨vs,hv,hvd⟩:=PL3
   have S4:=S2.trans S3
   have d1:DR H3 (.list ((bs.map (je H1)).map pI)) (.ref m):=lu.mpr ⟨m,_,rfl,S3 _ _ hm,by
    rw [← qF (TK.same S4) pb]
    exact Bq fun b hb=>(pb b hb).keep (TK.same S4)⟩
   have e1:(prs z.cps.toList y.cps.toList z.length).map pD=((prs z.cps.toList y.cps.toList z.length).map cP).map pI:=by rw [List.map_map];rfl
   rw [e1] at hvd
   refine lL d1 (lu.mpr ⟨q1,vs,rfl,hv,hvd⟩) (vG _) (vG _) ?_
   have so2:(bs.map (je H1)).Pairwise Lq:=by
    rw [List.pairwise_map]
    exact so.imp fun h=>Ie h
   rw [Rz,Ig (pm.map (je H1)) so2,ka]
   rw [vD,List.all_eq_true.mpr g1,Bool.true_and] at q
   exact q _ (S1.trans S4)
end
section
variable {P:Program} {w:World} {K:PySem.W.Frag} {mg:Str→Option Value} {base:Heap}
theorem DG:bV dq "_law_some":=by decide+kernel
theorem kz3z:cM dq "_law_take":=by decide+kernel
theorem kz40:bV dq "_law_purse_here":=by decide+kernel
theorem o9:bV dq "_law_other":=by decide+kernel
theorem nJ:bV dq "_law_one":=by decide+kernel
theorem kz43:bV dq "_law_pair_here":=by decide+kernel
def Hx (p:Addr) (H:Hp):Hp:=fun b=>if b=p then none else H b
theorem d7 (p:Addr) (H:Hp):Same (Hx p H) H:=fun b o e=>by
 unfold Hx at e
 split at e
 ·cases e
 ·exact e
theorem iW {p b:Addr} {H:Hp} {o:HO} (h:H b=some o) (n:b≠p):Hx p H b=some o:=by unfold Hx;rw [if_neg n];exact h
theorem wJ {p:Addr} {H H':Hp} (c:Chg p H H'):Same (Hx p H) (Hx p H'):=fun b o e=>by
 unfold Hx at e ⊢
 split at e
 ·cases e
 ·rename_i h
  rw [if_neg h];exact c b o h e
structure Lf (d:PyData):Prop where
 sh:d.showable=true
 dp:d.depth=0
 lv:d.leavesShort 60=true
 bk:d.bulk≤19
structure Wh (d:PyData):Prop where
 sh:d.showable=true
 dp:d.depth≤1
 lv:d.leavesShort 60=true
 bk:d.bulk≤60
theorem wK {n:Int} (h0: -100≤n) (h1:n≤100):Lf (.int n):=by
 have key:∀ m:Fin 201,(PyData.int ((m:Nat) - 100:Int)).showable=true∧(PyData.int ((m:Nat) - 100:Int)).leavesShort 60=true:=by decide+kernel
 have:=key ⟨(n+100).toNat,by omega⟩
 rw [show (((⟨(n+100).toNat,by omega⟩:Fin 201):Nat):Int) - 100=n by show (((n+100).toNat:Nat):Int) - 100=n;omega] at this
 exact ⟨this.1,rfl,this.2,by show 0≤19;omega⟩
theorem Ls (b:Bool):Lf (.bool b):=⟨rfl,rfl,rfl,by show 0≤19;omega⟩
theorem Lw:Lf .none:=⟨rfl,rfl,rfl,by show 0≤19;omega⟩
theorem Lf.e {d:PyData} (h:Lf d):Wh d:=⟨h.sh,by rw [h.dp];omega,h.lv,by have:=h.bk;omega⟩
theorem zL:∀ {ds:List PyData},(∀ d∈ds,Lf d)→PyData.showableAll ds=true∧PyData.depthAll ds=0∧PyData.leavesShortAll 60 ds=true∧PyData.bulkAll ds≤20*ds.length
 | [],_=>⟨rfl,rfl,rfl,by simp [PyData.bulkAll]⟩
 | d :: ds,h=>by
  obtain ⟨a,b,c,e⟩:=zL fun x hx=>h x (List.mem_cons_of_mem _ hx)
  have hd:=h d (by simp)
  have:=hd.bk
  simp only [PyData.showableAll,PyData.depthAll,PyData.leavesShortAll,PyData.bulkAll,a,b,c,hd.sh,hd.dp,hd.lv,List.length_cons]
  exact ⟨rfl,rfl,rfl,by omega⟩
theorem Bs {ds:List PyData} (h:∀ d∈ds,Lf d) (hl:ds.length≤3):Wh (.tuple ds):=by
 obtain ⟨a,b,c,e⟩:=zL h
 exact ⟨by simp only [PyData.showable];exact a,by simp only [PyData.depth,b];omega,by simp only [PyData.leavesShort];exact c,by simp only [PyData.bulk];omega⟩
theorem Lx {ds:List PyData} (h:∀ d∈ds,Lf d) (hl:ds.length≤3):Wh (.list ds):=by
 obtain ⟨a,b,c,e⟩:=zL h
 exact ⟨by simp only [PyData.showable];exact a,by simp only [PyData.depth,b];omega,by simp only [PyData.leavesShort];exact c,by simp only [PyData.bulk];omega⟩
theorem uo {H:Hp}:∀ {ds:List PyData} {vs:List V},vs.map CZ=ds.map some→RDs H ds vs
 | [],vs,h=>by
  cases vs with
  | nil=>exact aK.mpr rfl
  | cons _ _=>simp at h
 | d :: ds,vs,h=>by
  cases vs with
  | nil=>simp at h
  | cons v vs=>
   simp only [List.map_cons,List.cons.injEq] at h
   refine aZ ?_ (uo h.2)
   have e:=h.1
   cases v <;> simp only [CZ,Option.some.injEq,reduceCtorEq] at e
   ·subst e;exact lG.mpr rfl
   ·subst e;exact v9.mpr rfl
   ·subst e;exact qu.mpr rfl
   ·subst e;exact v8.mpr rfl
theorem gY {H:Hp} {e:Addr} {vs:List V} {ds:List PyData} (h:H e=some (.tup vs)) (f:vs.map CZ=ds.map some):RD H (.tuple ds) (.ref e):=fY.mpr ⟨e,vs,rfl,h,uo f⟩
theorem RC {H:Hp} {e:Addr} {vs:List V} {ds:List PyData} (h:H e=some (.lst vs)) (f:vs.map CZ=ds.map some):RD H (.list ds) (.ref e):=aJ.mpr ⟨e,vs,rfl,h,uo f⟩
theorem VM {p:Addr} {H H':Hp} {d:PyData} {v:V} (h:RD (Hx p H) d v) (c:Chg p H H'):RD (Hx p H') d v:=RD.same (wJ c) _ _ h
theorem aV {H H':Hp} {p:Addr} (h:Pur H p) (s:Same H H'):Pur H' p:=by
 obtain ⟨a,b,c,e,r⟩:=h
 exact ⟨a,b,c,s _ _ e,r⟩
theorem bY {H:Hp} {Q:VK} {a b:Addr} {xs ys:List V} (ha:H a=some (.lst xs)) (hb:H b=some (.lst ys)) (c:xs.length+ys.length≤sizeLine) (h:∀ p H',H p=none→Same H H'→H' p=some (.lst (xs ++ ys))→Q (.ref p) H'):xx (.ref a) (.ref b) H Q:=
 yZ ha hb c fun p n=>h p _ n ((Same.refl H).upd n) ao
structure Odd (d:PyData):Prop where
 e:Wh d
 ly:d.canLay0=true
 jb:∀ i j:Int,d= .tuple [.int i,.int j]→j≤1000
 bk:d.bulk≤10
def HN (H H':Hp):Hp:=fun b=>if H b=none then H' b else none
theorem VN {H H':Hp} {b:Addr} {o:HO} (h:H' b=some o) (n:H b=none):HN H H' b=some o:=by unfold HN;rw [if_pos n];exact h
theorem RG {H H':Hp} {b:Addr} {o:HO} (h:HN H H' b=some o):H b=none∧H' b=some o:=by
 unfold HN at h
 split at h
 ·exact ⟨by assumption,h⟩
 ·cases h
def Ly:Sp:=fun vs H Q _=>∃ (p b:Addr) (i j:Nat),vs=[.ref p,.ref b]∧Pur H p∧H b=some (.tup [.int i,.int j])∧i≤48∧j≤48∧
 ∀ v d H',RD (HN H H') d v→Odd d→Pur H' p→Chg p H H'→Q v H'
theorem fV:aP ["_law_purse_here","_law_pair_here","_law_one","_law_other","_law_some"] ["_law_purse_here","_law_pair_here"] (au dq):=⟨rfl,rfl,rfl,by decide+kernel,rfl,by decide+kernel,by decide+kernel⟩
theorem nM (T:Txt K mg):nO P w K mg base 2 "_law_pair" ["_law_purse_here","_law_pair_here"] Ly:=by
 have aC:=aC (P:=P) (w:=w) (base:=base) T
 refine gR T.d_law_pair fV (fun _ _ _ _ _ _ us hl=>L2.rT (fun _ _=>rfl) us hl) ?_ fun f cdv A outer s H vs Q E hr h=>?_
 ·rintro vs H Q E ⟨p,b,i,j,rfl,_⟩;rfl
 obtain ⟨p,b,i,j,rfl,hP,hb,hi,hj,q⟩:=h
 have hu:=hr.units0
 have hu64:=hr.units
 refine ⟨_,(aq (Kf (ak 1 kz43) (Ke (K:=K) rfl rfl (cR (bO (i:=2) fV.nd rfl (Or.inl nJ) rfl) (cR (bO (i:=3) fV.nd rfl (Or.inl o9) rfl) jr)))) (aq (aR (i:=4) fV.nd rfl (Or.inl DG) (bU (aa (gr (aa (bu aH (ak 2 nJ) az) (aa (ak 3 o9) aj))) (aa (gr (aa (ak 2 nJ) (aa (bu aH (ak 3 o9) az) aj))) (aa (gr (aa (bu pH (ak 2 nJ) az) (aa (ak 3 o9) aj))) (aa (gr (aa (ak 2 nJ) (aa (bu pH (ak 3 o9) az) aj))) (aa (bU (aa (ak 2 nJ) (aa (ak 3 o9) aj))) (aa (gr (aa (ak 2 nJ) (aa (ak 3 o9) (aa az aj)))) aj))))))) rfl) (aq (aR (i:=4) fV.nd rfl (Or.inl DG) (bu aH (ak 4 DG) (bU (aa (gr (aa (jX (fB (K:=K) rfl hu64) (ak 2 nJ) (ak 2 nJ) (by first | exact aW _ | with_unfolding_all rfl)) (aa (ak 3 o9) aj))) (aa (gr (aa (ak 2 nJ) (aa (jX (fB (K:=K) rfl hu64) (ak 3 o9) (ak 3 o9) (by first | exact aW _ | with_unfolding_all rfl)) aj))) (aa Ak (aa (gr (aa (ak 2 nJ) aj)) (aa (gr (aa (ak 3 o9) (aa (ak 2 nJ) aj))) (aa xH (aa (gr aj) aj))))))))) rfl) (aq (aR (i:=4) fV.nd rfl (Or.inl DG) (bu aH (ak 4 DG) (bU (aa (gr (aa (jX (mX (K:=K) rfl hu64) (ak 2 nJ) (ak 2 nJ) (by first | exact aW _ | with_unfolding_all rfl)) (aa (ak 3 o9) aj))) (aa (gr (aa (ak 2 nJ) (aa (jX (mX (K:=K) rfl hu64) (ak 3 o9) (ak 3 o9) (by first | exact aW _ | with_unfolding_all rfl)) aj))) aj)))) rfl) (aA (aG (bB (K:=K) rfl (ak 4 DG) (aL aC (hr.mono (by decide)) (bL kz3z) (aa (ak 0 kz40) (aa az aj)) (by decide+kernel))))))))),?_⟩
 walk_at "sts"
 refine ⟨b,_,rfl,.inl (SqT.of hb),rfl,?_⟩
 walk_at "sts"
 refine aX rfl fun e1 G1 n1 S1 f1=>?_
 walk_at "sts"
 refine aX rfl fun e2 G2 n2 S2 f2=>?_
 walk_at "sts"
 refine aX rfl fun e3 G3 n3 S3 f3=>?_
 walk_at "sts"
 refine aX rfl fun e4 G4 n4 S4 f4=>?_
 walk_at "sts"
 refine aX rfl fun e5 G5 n5 S5 f5=>?_
 walk_at "sts"
 refine aX rfl fun e6 G6 n6 S6 f6=>?_
 walk_at "sts"
 refine aX rfl fun e7 G7 n7 S7 f7=>?_
 walk_at "sts"
 refine aX rfl fun e8 G8 n8 S8 f8=>?_
 walk_at "sts"
 refine aX rfl fun e9 G9 n9 S9 f9=>?_
 walk_at "sts"
 refine aX rfl fun e10 G10 n10 S10 f10=>?_
 walk_at "sts"
 refine aX rfl fun e11 G11 n11 S11 f11=>?_
 walk_at "sts"
 refine aX rfl fun e12 G12 n12 S12 f12=>?_
 walk_at "sts"
 refine aX rfl fun e13 G13 n13 S13 f13=>?_
 walk_at "sts"
 have R7:=S8.trans (S9.trans (S10.trans (S11.trans (S12.trans S13))))
 refine bY (R7 _ _ f7) f13 (by simp;decide) fun e14 G14 n14 S14 f14=>?_
 walk_at "sts"
 refine aX rfl fun e15 G15 n15 S15 f15=>?_
 walk_at "sts"
 refine aX rfl fun e16 G16 n16 S16 f16=>?_
 walk_at "sts"
 refine aX rfl fun e17 G17 n17 S17 f17=>?_
 walk_at "sts"
 have R14:=S15.trans (S16.trans S17)
 refine bY (R14 _ _ f14) f17 (by simp;decide) fun e18 G18 n18 S18 f18=>?_
 walk_at "sts"
 have A0:=Same.refl H
 have A1:=A0.trans S1
 have A2:=A1.trans S2
 have A3:=A2.trans S3
 have A4:=A3.trans S4
 have A5:=A4.trans S5
 have A6:=A5.trans S6
 have A7:=A6.trans S7
 have A8:=A7.trans S8
 have A9:=A8.trans S9
 have A10:=A9.trans S10
 have A11:=A10.trans S11
 have A12:=A11.trans S12
 have A13:=A12.trans S13
 have A14:=A13.trans S14
 have A15:=A14.trans S15
 have A16:=A15.trans S16
 have A17:=A16.trans S17
 have A18:=A17.trans S18
 have B18:=Same.refl G18
 have B17:=S18.trans B18
 have B16:=S17.trans B17
 have B15:=S16.trans B16
 have B14:=S15.trans B15
 have B13:=S14.trans B14
 have B12:=S13.trans B13
 have B11:=S12.trans B12
 have B10:=S11.trans B11
 have B9:=S10.trans B10
 have B8:=S9.trans B9
 have B7:=S8.trans B8
 have B6:=S7.trans B7
 have B5:=S6.trans B6
 have B4:=S5.trans B5
 have B3:=S4.trans B4
 have B2:=S3.trans B3
 have B1:=S2.trans B2
 refine ⟨p,15,rfl,aV hP A18,by omega,by omega,fun c H8 c0 c1 P8 C8=>?_⟩
 walk_at "sts"
 have at_:∀ {e:Addr} {G G':Hp} {o:HO},Same H G→G e=none→Same G' G18→G' e=some o→HN H H8 e=some o:=fun {e G G' o} s n s2 h=>VN (C8.at_ (s2 _ _ h) (hP.ne (s.free n))) (s.free n)
 have CC:Chg p H H8:=(Chg.of_same A18).trans C8
 have m18:e18≠p:=hP.ne (A17.free n18)
 obtain ⟨t,ht,et⟩:=Gd (vs:=[.ref e1,.ref e2,.ref e3,.ref e4,.ref e5,.ref e6] ++ [.ref e8,.ref e9,.non,.ref e10,.ref e11,.str (Str.ofString "ab"),.ref e12] ++ [.ref e15,.ref e16]) (d:=c) c0 (by simpa using c1)
 refine bh (SqL.of (C8.at_ f18 m18)) et ?_
 walk_at "sts"
 have fin:∀ ds,RD (HN H H8) (.tuple ds) t→(∀ d∈ds,Lf d∧d.canLay0=true)→ds.length≤3→(∀ i j:Int,ds=[.int i,.int j]→j≤1000)→PyData.bulkAll ds≤10→Q t H8:=fun ds r l n jb bk=>q t _ _ r ⟨Bs (fun d hd=>(l d hd).1) n,(vm (n:=0) fun d hd=>⟨(l d hd).2,by rw [(l d hd).1.dp];omega⟩).1,fun i j e=>jb i j (PyData.tuple.inj e),by rw [PyData.bulk];exact bk⟩ P8 CC
 have li:∀ n:Int,-100≤n→n≤100→Lf (.int n)∧(PyData.int n).canLay0=true:=fun n a b=>⟨wK a b,rfl⟩
 have lb:∀ n:Bool,Lf (.bool n)∧(PyData.bool n).canLay0=true:=fun n=>⟨Ls n,rfl⟩
 simp only [List.cons_append,List.nil_append,List.mem_cons,List.mem_nil_iff,or_false] at ht
 rcases ht with rfl | rfl | rfl | rfl | rfl | rfl | rfl | rfl | rfl | rfl | rfl | rfl | rfl | rfl | rfl
 ·exact fin [.int ((i:Int)+1),.int j] (gY (at_ A0 n1 B1 f1) rfl) (by simp only [List.mem_cons,List.mem_nil_iff,or_false];rintro d (rfl | rfl) <;> first | exact li _ (by omega) (by omega) | exact lb _) (by simp) (fun a b e=>by simp only [List.cons.injEq,PyData.int.injEq,reduceCtorEq,false_and,and_false,and_true] at e;omega) (by simp [PyData.bulk,PyData.bulkAll])
 ·exact fin [.int i,.int ((j:Int)+1)] (gY (at_ A1 n2 B2 f2) rfl) (by simp only [List.mem_cons,List.mem_nil_iff,or_false];rintro d (rfl | rfl) <;> first | exact li _ (by omega) (by omega) | exact lb _) (by simp) (fun a b e=>by simp only [List.cons.injEq,PyData.int.injEq,reduceCtorEq,false_and,and_false,and_true] at e;omega) (by simp [PyData.bulk,PyData.bulkAll])
 ·exact fin [.int ((i:Int) - 1),.int j] (gY (at_ A2 n3 B3 f3) rfl) (by simp only [List.mem_cons,List.mem_nil_iff,or_false];rintro d (rfl | rfl) <;> first | exact li _ (by omega) (by omega) | exact lb _) (by simp) (fun a b e=>by simp only [List.cons.injEq,PyData.int.injEq,reduceCtorEq,false_and,and_false,and_true] at e;omega) (by simp [PyData.bulk,PyData.bulkAll])
 ·exact fin [.int i,.int ((j:Int) - 1)] (gY (at_ A3 n4 B4 f4) rfl) (by simp only [List.mem_cons,List.mem_nil_iff,or_false];rintro d (rfl | rfl) <;> first | exact li _ (by omega) (by omega) | exact lb _) (by simp) (fun a b e=>by simp only [List.cons.injEq,PyData.int.injEq,reduceCtorEq,false_and,and_false,and_true] at e;omega) (by simp [PyData.bulk,PyData.bulkAll])
 ·refine q _ (.list [.int i,.int j]) H8 (RC (at_ A4 n5 B5 f5) rfl) ⟨Lx (by simp only [List.mem_cons,List.mem_nil_iff,or_false];rintro d (rfl | rfl) <;> exact (li _ (by omega) (by omega)).1) (by simp),rfl,(fun i j e=>by cases e),by simp [PyData.bulk,PyData.bulkAll]⟩ P8 CC
 ·exact fin [.int i,.int j,.int 0] (gY (at_ A5 n6 B6 f6) rfl) (by simp only [List.mem_cons,List.mem_nil_iff,or_false];rintro d (rfl | rfl | rfl) <;> first | exact li _ (by omega) (by omega) | exact lb _) (by simp) (fun a b e=>by simp at e) (by simp [PyData.bulk,PyData.bulkAll])
 ·exact fin [.bool true,.int j] (gY (at_ A7 n8 B8 f8) (by simp [CZ])) (by simp only [List.mem_cons,List.mem_nil_iff,or_false];rintro d (rfl | rfl) <;> first | exact li _ (by omega) (by omega) | exact lb _) (by simp) (fun a b e=>by simp at e) (by simp [PyData.bulk,PyData.bulkAll])
 ·exact fin [.int i,.bool true] (gY (at_ A8 n9 B9 f9) (by simp [CZ])) (by simp only [List.mem_cons,List.mem_nil_iff,or_false];rintro d (rfl | rfl) <;> first | exact li _ (by omega) (by omega) | exact lb _) (by simp) (fun a b e=>by simp at e) (by simp [PyData.bulk,PyData.bulkAll])
 ·exact q _ .none H8 (lG.mpr rfl) ⟨Lw.e,rfl,(fun i j e=>by cases e),by decide+kernel⟩ P8 CC
 ·exact fin [.int i] (gY (at_ A9 n10 B10 f10) rfl) (by simp only [List.mem_cons,List.mem_nil_iff,or_false];rintro d rfl <;> first | exact li _ (by omega) (by omega) | exact lb _) (by simp) (fun a b e=>by simp at e) (by simp [PyData.bulk,PyData.bulkAll])
 ·exact fin [.int j,.int i] (gY (at_ A10 n11 B11 f11) rfl) (by simp only [List.mem_cons,List.mem_nil_iff,or_false];rintro d (rfl | rfl) <;> first | exact li _ (by omega) (by omega) | exact lb _) (by simp) (fun a b e=>by simp only [List.cons.injEq,PyData.int.injEq,reduceCtorEq,false_and,and_false,and_true] at e;omega) (by simp [PyData.bulk,PyData.bulkAll])
 ·exact q _ (.str (Str.ofString "ab")) H8 (v8.mpr rfl) ⟨⟨rfl,by decide+kernel,by decide+kernel,by decide+kernel⟩,by decide+kernel,(fun i j e=>by cases e),by decide+kernel⟩ P8 CC
 ·exact fin [] (gY (at_ A11 n12 B12 f12) rfl) (by simp) (by simp) (fun a b e=>by simp at e) (by simp [PyData.bulk,PyData.bulkAll])
 ·exact fin [.bool false,.int j] (gY (at_ A14 n15 B15 f15) (by simp [CZ])) (by simp only [List.mem_cons,List.mem_nil_iff,or_false];rintro d (rfl | rfl) <;> first | exact li _ (by omega) (by omega) | exact lb _) (by simp) (fun a b e=>by simp at e) (by simp [PyData.bulk,PyData.bulkAll])
 ·exact fin [.int i,.bool false] (gY (at_ A15 n16 B16 f16) (by simp [CZ])) (by simp only [List.mem_cons,List.mem_nil_iff,or_false];rintro d (rfl | rfl) <;> first | exact li _ (by omega) (by omega) | exact lb _) (by simp) (fun a b e=>by simp at e) (by simp [PyData.bulk,PyData.bulkAll])
end
section
variable {P:Program} {w:World} {K:PySem.W.Frag} {mg:Str→Option Value} {base:Heap}
def dF:PyData→Nat
 | .list es=>es.length
 | .tuple es=>es.length
 | _=>0
def HpOk (g:PyData):Prop:=g= .none∨∃ es,(g= .list es∨g= .tuple es)∧∀ e∈es,Odd e
structure Th (gs:List PyData):Prop where
 len:gs.length≤3000
 ok:∀ g∈gs,HpOk g
 cn:(gs.map dF).sum≤4700
theorem sum_set:∀ {l:List Nat} {k x:Nat} (h:k < l.length),(l.set k x).sum+l[k]=l.sum+x
 | a :: l,0,x,h=>by simp;omega
 | a :: l,k+1,x,h=>by
  have:=sum_set (l:=l) (k:=k) (x:=x) (by simpa using h)
  simp only [List.set_cons_succ,List.sum_cons,List.getElem_cons_succ]
  omega
theorem wL {l:List PyData} {g:PyData} (h:g∈l):dF g≤(l.map dF).sum:=by
 induction l with
 | nil=>cases h
 | cons a l ih=>
  simp only [List.map_cons,List.sum_cons]
  rcases List.mem_cons.mp h with rfl | h
  ·omega
  ·have:=ih h;omega
theorem uq {p:PP} (h1:p.1≤48) (h2:p.2≤48):Odd (pD p):=by
 have l:∀ d∈[PyData.int p.1,.int p.2],Lf d:=by
  simp only [List.mem_cons,List.mem_nil_iff,or_false]
  rintro d (rfl | rfl) <;> exact wK (by omega) (by omega)
 refine ⟨Bs l (by simp),rfl,fun i j e=>?_,by simp [pD,PyData.bulk,PyData.bulkAll]⟩
 unfold pD at e
 simp only [PyData.tuple.injEq,List.cons.injEq,PyData.int.injEq] at e
 omega
theorem wM:∀ {es:List PyData},(∀ e∈es,Odd e)→PyData.showableAll es=true∧PyData.depthAll es≤1∧PyData.leavesShortAll 60 es=true∧PyData.bulkAll es≤11*es.length∧PyData.canLayAll0 es=true
 | [],_=>⟨rfl,by simp [PyData.depthAll],rfl,by simp [PyData.bulkAll],rfl⟩
 | d :: ds,h=>by
  obtain ⟨a,b,c,e,f⟩:=wM fun x hx=>h x (List.mem_cons_of_mem _ hx)
  have hd:=h d (by simp)
  have:=hd.bk
  have:=hd.e.dp
  simp only [PyData.showableAll,PyData.depthAll,PyData.leavesShortAll,PyData.bulkAll,PyData.canLayAll0,a,c,f,hd.e.sh,hd.e.lv,hd.ly,List.length_cons]
  exact ⟨rfl,by omega,rfl,by omega,rfl⟩
theorem HpOk.all {g:PyData} (h:HpOk g):g.showable=true∧g.depth≤2∧g.leavesShort 60=true∧g.bulk≤11*dF g∧g.canLay0=true:=by
 rcases h with rfl | ⟨es,rfl | rfl,h⟩
 ·exact ⟨rfl,by simp [PyData.depth],rfl,by simp [PyData.bulk],rfl⟩
 ·obtain ⟨a,b,c,e,f⟩:=wM h
  exact ⟨by simp only [PyData.showable];exact a,by simp only [PyData.depth];omega,by simp only [PyData.leavesShort];exact c,by simp only [PyData.bulk];exact e,by simp only [PyData.canLay0];exact f⟩
 ·obtain ⟨a,b,c,e,f⟩:=wM h
  exact ⟨by simp only [PyData.showable];exact a,by simp only [PyData.depth];omega,by simp only [PyData.leavesShort];exact c,by simp only [PyData.bulk];exact e,by simp only [PyData.canLay0];exact f⟩
theorem ur:∀ {gs:List PyData},(∀ g∈gs,HpOk g)→PyData.showableAll gs=true∧PyData.depthAll gs≤2∧PyData.leavesShortAll 60 gs=true∧PyData.bulkAll gs≤11*(gs.map dF).sum+gs.length
 | [],_=>⟨rfl,by simp [PyData.depthAll],rfl,by simp [PyData.bulkAll]⟩
 | d :: ds,h=>by
  obtain ⟨a,b,c,e⟩:=ur fun x hx=>h x (List.mem_cons_of_mem _ hx)
  obtain ⟨a',b',c',e',_⟩:=(h d (by simp)).all
  simp only [PyData.showableAll,PyData.depthAll,PyData.leavesShortAll,PyData.bulkAll,a,c,a',c',List.length_cons,List.map_cons,List.sum_cons]
  exact ⟨rfl,by omega,rfl,by omega⟩
structure Ask (d:PyData):Prop where
 sh:d.showable=true
 dp:d.depth≤60
 ft:d.shown.length≤sizeLine
 hb:HBd d
 hl:HLd d
theorem zM {d:PyData} (lv:d.leavesShort 60=true) (bk:d.bulk≤100000):d.shown.length≤sizeLine:=by
 have e:=PyData.shown_le_bulk 60 (by omega) d lv
 refine Nat.le_trans (show d.shown.length≤62*100000+60 from ?_) (by decide)
 have:=Nat.mul_le_mul_left (60+2) bk
 omega
theorem RJ (gs:List PyData):(fl gs).length≤(gs.map dF).sum:=by
 unfold fl
 induction gs with
 | nil=>simp
 | cons g gs ih=>
  simp only [List.map_cons,List.flatten_cons,List.length_append,List.length_map,List.sum_cons] at ih ⊢
  have:(zH g).length≤dF g:=by cases g <;> simp [zH,dF]
  omega
theorem Th.ask {gs:List PyData} (h:Th gs):Ask (.list gs):=by
 obtain ⟨a,b,c,e⟩:=ur h.ok
 have h1:=h.len
 have h2:=h.cn
 refine ⟨by simp only [PyData.showable];exact a,by simp only [PyData.depth];omega,zM (by simp only [PyData.leavesShort];exact c) (by simp only [PyData.bulk];omega),?_,⟨?_,?_⟩⟩
 ·intro ds e
  cases e
  have:=RJ gs
  refine ⟨by omega,by omega,fun g hg es eg=>?_⟩
  have:=wL hg
  rw [eg] at this
  simp only [dF] at this
  omega
 ·intro ds e g hg
  cases e
  obtain ⟨_,d2,_,_,f⟩:=(h.ok g hg).all
  exact jx (n:=2) ⟨f,d2⟩ (by omega)
 ·intro ds e g hg es eg i j hm
  cases e
  rcases h.ok g hg with rfl | ⟨es',h' | h',ho⟩
  ·cases eg
  ·rw [eg] at h';cases h'
   exact (ho _ hm).jb i j rfl
  ·rw [eg] at h';cases h'
theorem Th.askT {gs:List PyData} (h:Th gs):Ask (.tuple gs):=by
 obtain ⟨a,b,c,e⟩:=ur h.ok
 have h1:=h.len
 have h2:=h.cn
 refine ⟨by simp only [PyData.showable];exact a,by simp only [PyData.depth];omega,zM (by simp only [PyData.leavesShort];exact c) (by simp only [PyData.bulk];omega),?_,⟨?_,?_⟩⟩
 ·intro ds e;cases e
 ·intro ds e;cases e
 ·intro ds e;cases e
theorem kE {d:PyData} (hs:d.showable=true) (dp:d.depth≤60) (lv:d.leavesShort 60=true) (bk:d.bulk≤100000) (n:∀ ds,d≠.list ds):Ask d:=
 ⟨hs,dp,zM lv bk,fun ds e=>absurd e (n ds),⟨fun ds e=>absurd e (n ds),fun ds e=>absurd e (n ds)⟩⟩
theorem aN {H:Hp}:∀ {ds es:List PyData} {vs us:List V},RDs H ds vs→RDs H es us→RDs H (ds ++ es) (vs ++ us)
 | [],es,vs,us,h,h'=>by rw [aK] at h;subst h;exact h'
 | d :: ds,es,vs,us,h,h'=>by
  rw [cH] at h
  obtain ⟨v,r,rfl,h1,h2⟩:=h
  exact aZ h1 (aN h2 h')
theorem jk {H:Hp}:∀ {ds:List PyData} {vs:List V} (k:Nat),RDs H ds vs→RDs H (ds.take k) (vs.take k)
 | _,_,0,_=>by simp [aK]
 | [],vs,k+1,h=>by rw [aK] at h;subst h;simp [aK]
 | d :: ds,vs,k+1,h=>by
  rw [cH] at h
  obtain ⟨v,r,rfl,h1,h2⟩:=h
  exact aZ h1 (jk k h2)
theorem jl {H:Hp}:∀ {ds:List PyData} {vs:List V} (k:Nat),RDs H ds vs→RDs H (ds.drop k) (vs.drop k)
 | _,_,0,h=>by simpa using h
 | [],vs,k+1,h=>by rw [aK] at h;subst h;simp [aK]
 | d :: ds,vs,k+1,h=>by
  rw [cH] at h
  obtain ⟨v,r,rfl,h1,h2⟩:=h
  exact jl k h2
theorem Bt {H:Hp}:∀ {ds:List PyData} {vs:List V} {d:PyData} {v:V} (k:Nat),RDs H ds vs→RD H d v→RDs H (ds.set k d) (vs.set k v)
 | [],vs,d,v,k,h,_=>by rw [aK] at h;subst h;simp [aK]
 | a :: ds,vs,d,v,0,h,h'=>by
  rw [cH] at h
  obtain ⟨u,r,rfl,h1,h2⟩:=h
  exact aZ h' h2
 | a :: ds,vs,d,v,k+1,h,h'=>by
  rw [cH] at h
  obtain ⟨u,r,rfl,h1,h2⟩:=h
  exact aZ h1 (Bt k h2 h')
theorem jE {H:Hp}:∀ {ds:List PyData} {vs:List V} {k:Nat} {d:PyData},RDs H ds vs→ds[k]?=some d→∃ v,vs[k]?=some v∧RD H d v
 | [],vs,k,d,h,e=>by simp at e
 | a :: ds,vs,0,d,h,e=>by
  rw [cH] at h
  obtain ⟨u,r,rfl,h1,h2⟩:=h
  simp at e
  subst e
  exact ⟨u,rfl,h1⟩
 | a :: ds,vs,k+1,d,h,e=>by
  rw [cH] at h
  obtain ⟨u,r,rfl,h1,h2⟩:=h
  obtain ⟨v,e1,e2⟩:=jE (k:=k) h2 (by simpa using e)
  exact ⟨v,by simpa using e1,e2⟩
end
section
variable {P:Program} {w:World} {K:PySem.W.Frag} {mg:Str→Option Value} {base:Heap}
theorem lW:bV bJ "_law_heaps":=by decide+kernel
theorem Lz:bV bJ "_law_way":=by decide+kernel
theorem LC:bV bJ "_law_to":=by decide+kernel
theorem LK:bV bJ "_law_pair_here":=by decide+kernel
theorem yt:bV bJ "_law_spot":=by decide+kernel
theorem ut:bV bJ "_law_at":=by decide+kernel
theorem kz4a:cM bJ "_law_pair":=by decide+kernel
theorem RK:bV bJ "_law_purse_here":=by decide+kernel
theorem VP:cM bJ "_law_take":=by decide+kernel
theorem kz4d:cM bJ "len":=by decide+kernel
def Hy (p f:Addr) (H:Hp):Hp:=Hx f (Hx p H)
theorem ph (p f:Addr) (H:Hp):Same (Hy p f H) H:=(d7 f _).trans (d7 p H)
theorem qU {p f b:Addr} {H:Hp} {o:HO} (h:H b=some o) (n:b≠p) (n':b≠f):Hy p f H b=some o:=iW (iW h n) n'
theorem Ip {p f b:Addr} {H:Hp} {o:HO} (h:Hy p f H b=some o):b≠p∧b≠f:=by
 unfold Hy Hx at h
 split at h
 ·cases h
 ·rename_i h1
  split at h
  ·cases h
  ·rename_i h2
   exact ⟨h2,h1⟩
def Chg2 (p f:Addr) (H H':Hp):Prop:=∀ b o,b≠p→b≠f→H b=some o→H' b=some o
theorem gn {p f:Addr} {H H':Hp} (c:Chg2 p f H H'):Same (Hy p f H) (Hy p f H'):=fun b o e=>by
 unfold Hy Hx at e ⊢
 split at e
 ·cases e
 ·rename_i h1
  split at e
  ·cases e
  ·rename_i h2
   rw [if_neg h1,if_neg h2]
   exact c b o h2 h1 e
theorem Chg2.of {p f:Addr} {H H':Hp} (c:Chg p H H'):Chg2 p f H H':=fun b o n _ e=>c b o n e
theorem Chg2.trans {p f:Addr} {H H1 H2:Hp} (a:Chg2 p f H H1) (b:Chg2 p f H1 H2):Chg2 p f H H2:=fun c o n m e=>b c o n m (a c o n m e)
theorem Chg2.put {p f:Addr} {H:Hp} {o:HO}:Chg2 p f H (upd H f o):=fun b u _ m e=>by rw [aB m];exact e
structure HS (hs:List (List PP)):Prop where
 ne:∀ h∈hs,h≠[]
 few:∀ h∈hs,∀ x∈h,x.1≤48∧x.2≤48
 len:hs.length≤100
 all:(hs.map List.length).sum≤2304
theorem kJ (hs:List (List PP)):(hs.map hD).map dF=hs.map List.length:=by
 rw [List.map_map]
 exact List.map_congr_left fun h _=>by simp [hD,dF]
theorem lQ {es:List PyData} (h:∀ e∈es,Odd e):HpOk (.list es):=.inr ⟨es,.inl rfl,h⟩
theorem rR {h:List PP} (hf:∀ x∈h,x.1≤48∧x.2≤48):HpOk (hD h):=lQ fun e he=>by
 obtain ⟨x,hx,rfl⟩:=List.mem_map.mp he
 exact uq (hf x hx).1 (hf x hx).2
theorem HS.ok {hs:List (List PP)} (h:HS hs):∀ g∈hs.map hD,HpOk g:=fun g hg=>by
 obtain ⟨x,hx,rfl⟩:=List.mem_map.mp hg
 exact rR (h.few x hx)
theorem RL {gs:List PyData} {k:Nat} {g:PyData} (h:∀ g∈gs,HpOk g) (h':HpOk g):∀ x∈gs.set k g,HpOk x:=fun x hx=>by
 rcases List.mem_or_eq_of_mem_set hx with h1 | h1
 ·exact h x h1
 ·rw [h1];exact h'
theorem Ir {gs:List PyData} {k:Nat} {g g0:PyData} (e:gs[k]?=some g0):((gs.set k g).map dF).sum+dF g0=(gs.map dF).sum+dF g:=by
 obtain ⟨hk,e'⟩:=List.getElem?_eq_some_iff.mp e
 rw [List.map_set]
 have:=sum_set (l:=gs.map dF) (k:=k) (x:=dF g) (by simpa using hk)
 rwa [List.getElem_map,e'] at this
theorem jK {hs:List (List PP)} (hf:∀ h∈hs,∀ x∈h,x.1≤48∧x.2≤48) (hl:hs.length≤3000) (hc:(hs.map List.length).sum≤4700):Th (hs.map hD):=
 ⟨by rw [List.length_map];omega,fun g hg=>by
  obtain ⟨x,hx,rfl⟩:=List.mem_map.mp hg
  exact rR (hf x hx),by rw [kJ];exact hc⟩
theorem gP {hs:List (List PP)} {k:Nat} {h:List PP} (hk:k < hs.length):((hs.set k h).map List.length).sum+hs[k].length=(hs.map List.length).sum+h.length:=by
 rw [List.map_set]
 have:=sum_set (l:=hs.map List.length) (k:=k) (x:=h.length) (by simpa using hk)
 rwa [List.getElem_map] at this
theorem iY {hs:List (List PP)} {k:Nat} {h:List PP} (hf:∀ h∈hs,∀ x∈h,x.1≤48∧x.2≤48) (h':∀ x∈h,x.1≤48∧x.2≤48):∀ g∈hs.set k h,∀ x∈g,x.1≤48∧x.2≤48:=fun g hg=>by
 rcases List.mem_or_eq_of_mem_set hg with h1 | h1
 ·exact hf g h1
 ·rw [h1];exact h'
theorem jF (hs:List (List PP)) (k:Nat) (h:List PP):(hs.set k h).map hD=(hs.map hD).set k (hD h):=List.map_set
theorem pA {p f:Addr} {H:Hp} {gs:List PyData} {us:List V} {k:Nat} {g:PyData} {m:Addr} (hR:RDs (Hy p f H) gs us) (r:RD (Hy p f H) g (.ref m)):RDs (Hy p f (upd H f (.lst (us.set k (.ref m))))) (gs.set k g) (us.set k (.ref m)):=
 Bt k (RDs.same (gn Chg2.put) _ _ hR) (RD.same (gn Chg2.put) _ _ r)
theorem Chg2.sm {p f:Addr} {H H':Hp} (s:Same H H'):Chg2 p f H H':=fun b o _ _ e=>s b o e
def LQ:Sp:=fun vs H Q _=>∃ (p f:Addr) (us:List V) (hs:List (List PP)) (a t:Nat),vs=[.ref p,.ref f,.int a,.int t]∧Pur H p∧f≠p∧H f=some (.lst us)∧RDs (Hy p f H) (hs.map hD) us∧HS hs∧a < hs.length∧t < hs.length∧
 ∀ gs H',RD (Hx p H') (.list gs) (.ref f)→Th gs→Pur H' p→Chg2 p f H H'→Q (.ref f) H'
theorem iu:aP ["_law_purse_here","_law_heaps","_law_at","_law_to","_law_spot","_law_pair_here","_law_way"] ["_law_purse_here","_law_heaps","_law_at","_law_to"] (au bJ):=⟨rfl,rfl,rfl,by decide+kernel,rfl,by decide+kernel,by decide+kernel⟩
theorem kO (T:Txt K mg):nO P w K mg base 3 "_law_moved" ["_law_purse_here","_law_heaps","_law_at","_law_to"] LQ:=by
 have aC:=aC (P:=P) (w:=w) (base:=base) T
 have nM:=nM (P:=P) (w:=w) (base:=base) T
 refine gR T.d_law_moved iu (fun _ _ _ _ _ _ us hl=>L2.usN4 (fun _ _ _ _=>rfl) us hl) ?_ fun f cdv A outer s H vs Q E hr h=>?_
 ·rintro vs H Q E ⟨p,f,us,hs,a,t,rfl,_⟩;rfl
 obtain ⟨p,f,us,hs,a,t,rfl,hP,nf,hf,hR,hS,ha,ht,q⟩:=h
 have hu:=hr.units0
 have hu64:=hr.units
 refine ⟨_,(aq (aR (i:=4) iu.nd rfl (Or.inl yt) (aL aC (hr.mono (by decide)) (bL VP) (aa (ak 0 RK) (aa (aM (bH (K:=K) rfl) (bL kz4d) T.b_len dz (aa (bB (K:=K) rfl (ak 1 lW) (ak 2 ut)) aj) (by decide+kernel) (by decide+kernel)) aj)) (by decide+kernel)) rfl) (aq (aR (i:=5) iu.nd rfl (Or.inl LK) (bB (K:=K) rfl (bB (K:=K) rfl (ak 1 lW) (ak 2 ut)) (ak 4 yt)) rfl) (aq (aR (i:=6) iu.nd rfl (Or.inl Lz) (aL aC (hr.mono (by decide)) (bL VP) (aa (ak 0 RK) (aa az aj)) (by decide+kernel)) rfl) (aq (bZ (bW (fB (K:=K) rfl hu64) (ak 6 Lz) az (by first | exact aW _ | with_unfolding_all rfl)) (aq (iM (ts:=oM) (bu aH (cI (cU (K:=K) rfl) (bB (K:=K) rfl (ak 1 lW) (ak 2 ut)) bT (b7 (ak 4 yt))) (cI (cU (K:=K) rfl) (bB (K:=K) rfl (ak 1 lW) (ak 2 ut)) (b7 (bu aH (ak 4 yt) az)) bT)) (jY (ak 1 lW) (ak 2 ut) (lF hu64))) (aA (iM (ts:=oM) (bu aH (bB (K:=K) rfl (ak 1 lW) (ak 3 LC)) (bU (aa (ak 5 LK) aj))) (jY (ak 1 lW) (ak 3 LC) (lF hu64))))) (aA (bZ (bW (fB (K:=K) rfl hu64) (ak 6 Lz) az (by first | exact aW _ | with_unfolding_all rfl)) (aA (iM (ts:=oM) (bu aH (bB (K:=K) rfl (ak 1 lW) (ak 3 LC)) (bU (aa (ak 5 LK) aj))) (jY (ak 1 lW) (ak 3 LC) (lF hu64)))) (aA (bZ (bW (fB (K:=K) rfl hu64) (ak 6 Lz) az (by first | exact aW _ | with_unfolding_all rfl)) (aA (iM (ts:=oM) (bu aH (cI (cU (K:=K) rfl) (bB (K:=K) rfl (ak 1 lW) (ak 2 ut)) bT (b7 (ak 4 yt))) (cI (cU (K:=K) rfl) (bB (K:=K) rfl (ak 1 lW) (ak 2 ut)) (b7 (bu aH (ak 4 yt) az)) bT)) (jY (ak 1 lW) (ak 2 ut) (lF hu64)))) (aA (iM (ts:=oM) (bu aH (bu aH (cI (cU (K:=K) rfl) (bB (K:=K) rfl (ak 1 lW) (ak 2 ut)) bT (b7 (ak 4 yt))) (bU (aa (aL nM (hr.mono (by decide)) (bL kz4a) (aa (ak 0 RK) (aa (ak 5 LK) aj)) (by decide+kernel)) aj))) (cI (cU (K:=K) rfl) (bB (K:=K) rfl (ak 1 lW) (ak 2 ut)) (b7 (bu aH (ak 4 yt) az)) bT)) (jY (ak 1 lW) (ak 2 ut) (lF hu64))))))))) (aA (aG (ak 1 lW))))))),?_⟩
 walk_at "sts"
 have hl:=bA hR
 rw [List.length_map] at hl
 obtain ⟨va,ea,ra⟩:=jE (k:=a) hR (by rw [List.getElem?_map,List.getElem?_eq_getElem ha];rfl)
 obtain ⟨c,ws,rfl,hc,hW⟩:=aJ.mp ra
 obtain ⟨vt,et,rt⟩:=jE (k:=t) hR (by rw [List.getElem?_map,List.getElem?_eq_getElem ht];rfl)
 obtain ⟨ct,wt,rfl,hct,hWt⟩:=aJ.mp rt
 have hc0:=ph _ _ _ _ _ hc
 have hct0:=ph _ _ _ _ _ hct
 have hwl:=bA hW
 rw [List.length_map] at hwl
 have hne:hs[a]≠[]:=hS.ne _ (List.getElem_mem ha)
 have hpos:0 < hs[a].length:=List.length_pos_iff.mpr hne
 have iA:nR us (a:Int)=some (.ref c):=dW (by omega) (by simpa using ea)
 have iT:nR us (t:Int)=some (.ref ct):=dW (by omega) (by simpa using et)
 have fx:(hs[a]∈hs):=List.getElem_mem ha
 have wl:ws.length≤2304:=by
  have h1:=hS.all
  have h2:=wL (l:=hs.map hD) (List.mem_map.mpr ⟨_,fx,rfl⟩)
  rw [kJ] at h2
  have h3:dF (hD hs[a])=hs[a].length:=by simp [hD,dF]
  omega
 refine bh (SqL.of hf) iA ?_
 walk_at "sts"
 refine mG (SqL.of hc0) ?_
 walk_at "sts"
 refine ⟨p,_,rfl,hP,by omega,by omega,fun sp H1 s0 s1 P1 C1=>?_⟩
 walk_at "sts"
 obtain ⟨k,rfl⟩:∃ k:Nat,sp=(k:Int):=⟨sp.toNat,by omega⟩
 have hk:k < hs[a].length:=by omega
 have nc:=Ip hc
 have nct:=Ip hct
 have hf1:=C1.at_ hf nf
 have hc1:=C1.at_ hc0 nc.1
 have hct1:=C1.at_ hct0 nct.1
 obtain ⟨vk,ek,rk⟩:=jE (k:=k) hW (by rw [List.getElem?_map,List.getElem?_eq_getElem hk];rfl)
 have rk':RD (Hy p f H) (pD hs[a][k]) vk:=rk
 obtain ⟨b,rfl,hb⟩:=ir.mp rk'
 have nb:=Ip hb
 have hb0:=ph _ _ _ _ _ hb
 have iK:nR ws (k:Int)=some (.ref b):=dW (by omega) (by simpa using ek)
 refine bh (SqL.of hf1) iA ?_
 walk_at "sts"
 refine bh (SqL.of hc1) iK ?_
 walk_at "sts"
 refine ⟨p,4,rfl,P1,by omega,by omega,fun way H2 w0 w1 P2 C2=>?_⟩
 walk_at "sts"
 have C02:Chg p H H2:=C1.trans C2
 have hf2:=C02.at_ hf nf
 have hc2:=C02.at_ hc0 nc.1
 have hct2:=C02.at_ hct0 nct.1
 have hb2:=C02.at_ hb0 nb.1
 have ft:(hs[t]∈hs):=List.getElem_mem ht
 have fk:hs[a][k].1≤48∧hs[a][k].2≤48:=hS.few _ fx _ (List.getElem_mem hk)
 have ixA:z8 us.length (a:Int)=some a:=by unfold z8;rw [if_pos (by omega),if_pos (by omega),Int.toNat_natCast]
 have ixT:z8 us.length (t:Int)=some t:=by unfold z8;rw [if_pos (by omega),if_pos (by omega),Int.toNat_natCast]
 have R2:RDs (Hy p f H2) (hs.map hD) us:=RDs.same (gn (Chg2.of C02)) _ _ hR
 have W2:RDs (Hy p f H2) (hs[a].map pD) ws:=RDs.same (gn (Chg2.of C02)) _ _ hW
 have Wt2:RDs (Hy p f H2) (hs[t].map pD) wt:=RDs.same (gn (Chg2.of C02)) _ _ hWt
 have Rb2:RD (Hy p f H2) (pD hs[a][k]) (.ref b):=RD.same (gn (Chg2.of C02)) _ _ rk
 have zl:sizeLine≥5000:=by decide
 have wtl:wt.length≤2304:=by
  have h0:=bA hWt
  have h1:=hS.all
  have h2:=wL (l:=hs.map hD) (List.mem_map.mpr ⟨_,ft,rfl⟩)
  rw [kJ] at h2
  have h3:dF (hD hs[t])=hs[t].length:=by simp [hD,dF]
  rw [List.length_map] at h0
  omega
 have fin:∀ gs us' H',H' f=some (.lst us')→RDs (Hy p f H') gs us'→Th gs→Pur H' p→Chg2 p f H H'→Q (.ref f) H':=fun gs us' H' h r th P C=>
  q gs H' (aJ.mpr ⟨f,us',rfl,iW h nf,RDs.same (d7 f _) _ _ r⟩) th P C
 have wo:(hs[a].take k ++ hs[a].drop (k+1)).length+1=hs[a].length:=by simp;omega
 have wof:∀ x∈hs[a].take k ++ hs[a].drop (k+1),x.1≤48∧x.2≤48:=fun x hx=>by
  rcases List.mem_append.mp hx with h | h
  ·exact hS.few _ fx _ (List.mem_of_mem_take h)
  ·exact hS.few _ fx _ (List.mem_of_mem_drop h)
 have hD_wo:hD (hs[a].take k ++ hs[a].drop (k+1))= .list ((hs[a].map pD).take k ++ (hs[a].map pD).drop (k+1)):=by
  unfold hD
  rw [List.map_append,List.map_take,List.map_drop]
 have k1:((k:Int)+1)=((k+1:Nat):Int):=by omega
 have hsl:=hS.len
 have hsa:=hS.all
 refine jM (fun hw=>?_) (fun hw=>?_)
 ·walk_at "sts"
  refine bh (SqL.of hf2) iA ?_
  walk_at "sts"
  refine eG hc2 fun m1 G1 n1 S1 g1=>?_
  walk_at "sts"
  rw [gK] at g1
  refine bh (SqL.of (S1 _ _ hf2)) iA ?_
  walk_at "sts"
  rw [k1]
  refine eG (S1 _ _ hc2) fun m2 G2 n2 S2 g2=>?_
  walk_at "sts"
  rw [dM] at g2
  have S12:=S1.trans S2
  refine bY (S2 _ _ g1) g2 (by rw [List.length_take,List.length_drop];omega) fun m3 G3 n3 S3 g3=>?_
  walk_at "sts"
  have S13:=S12.trans S3
  have P3:=aV P2 S13
  have n3p:m3≠p:=(aV P2 S12).ne n3
  have n3f:m3≠f:=fun e=>by rw [e,S12 _ _ hf2] at n3;cases n3
  refine oN (S13 _ _ hf2) ixA ?_
  have C3:=gn (Chg2.sm (p:=p) (f:=f) S13)
  have R3:RDs (Hy p f (upd G3 f (.lst (us.set a (.ref m3))))) ((hs.set a (hs[a].take k ++ hs[a].drop (k+1))).map hD) (us.set a (.ref m3)):=by
   rw [jF,hD_wo]
   refine pA (RDs.same C3 _ _ R2) (aJ.mpr ⟨m3,_,rfl,qU g3 n3p n3f,?_⟩)
   exact RDs.same C3 _ _ (aN (jk k W2) (jl (k+1) W2))
  have hf3:upd G3 f (.lst (us.set a (.ref m3))) f=some (.lst (us.set a (.ref m3))):=ao
  have P3':Pur (upd G3 f (.lst (us.set a (.ref m3)))) p:=by
   obtain ⟨x,y,z,e,r⟩:=P3
   exact ⟨x,y,z,by rw [aB (Ne.symm nf)];exact e,r⟩
  have C3':Chg2 p f H (upd G3 f (.lst (us.set a (.ref m3)))):=((Chg2.of C02).trans (Chg2.sm S13)).trans Chg2.put
  have hb3:upd G3 f (.lst (us.set a (.ref m3))) b=some (.tup [.int (hs[a][k].1:Int),.int (hs[a][k].2:Int)]):=by rw [aB nb.2];exact S13 _ _ hb2
  generalize upd G3 f (.lst (us.set a (.ref m3)))=G4 at R3 hf3 P3' C3' hb3 ⊢
  have hl1:(hs.set a (hs[a].take k ++ hs[a].drop (k+1))).length=hs.length:=List.length_set
  have sm1:=gP (h:=hs[a].take k ++ hs[a].drop (k+1)) ha
  have few1:=iY (k:=a) hS.few wof
  generalize hs.set a (hs[a].take k ++ hs[a].drop (k+1))=hs1 at R3 hl1 sm1 few1
  have hul:us.length=(us.set a (V.ref m3)).length:=List.length_set.symm
  rw [hul] at ixT
  generalize us.set a (V.ref m3)=us1 at R3 hf3 ixT
  have ht1:t < hs1.length:=by omega
  obtain ⟨vt1,et1,rt1⟩:=jE (k:=t) R3 (by rw [List.getElem?_map,List.getElem?_eq_getElem ht1];rfl)
  obtain ⟨c1,wt1,rfl,hc1',hWt1⟩:=aJ.mp rt1
  have l1:=bA hWt1
  rw [List.length_map] at l1
  have l2:hs1[t].length≤2304:=by
   have h2:=wL (l:=hs1.map hD) (List.mem_map.mpr ⟨_,List.getElem_mem ht1,rfl⟩)
   rw [kJ] at h2
   have h3:dF (hD hs1[t])=hs1[t].length:=by simp [hD,dF]
   omega
  walk_at "sts"
  refine bh (SqL.of hf3) (dW (v:=.ref c1) (by omega) (by simpa using et1)) ?_
  walk_at "sts"
  refine aX rfl fun m5 G5 n5 S5 g5=>?_
  walk_at "sts"
  refine bY (S5 _ _ (ph _ _ _ _ _ hc1')) g5 (by simp;omega) fun m6 G6 n6 S6 g6=>?_
  walk_at "sts"
  have S46:=S5.trans S6
  have n6p:m6≠p:=(aV P3' S5).ne n6
  have n6f:m6≠f:=fun e=>by rw [e,S5 _ _ hf3] at n6;cases n6
  refine oN (S46 _ _ hf3) ixT ?_
  walk_at "sts"
  have C6:=gn (Chg2.sm (p:=p) (f:=f) S46)
  have sm2:=gP (h:=hs1[t] ++ [hs[a][k]]) ht1
  rw [List.length_append] at sm2
  refine fin ((hs1.set t (hs1[t] ++ [hs[a][k]])).map hD) _ _ ao ?_ (jK (iY few1 fun x hx=>?_) (by rw [List.length_set];omega) (by rw [List.length_singleton] at sm2;omega)) ?_ ((C3'.trans (Chg2.sm S46)).trans Chg2.put)
  ·rw [jF]
   refine pA (RDs.same C6 _ _ R3) (aJ.mpr ⟨m6,_,rfl,qU g6 n6p n6f,?_⟩)
   rw [List.map_append]
   refine aN (RDs.same C6 _ _ hWt1) (aZ (ir.mpr ⟨b,rfl,?_⟩) (aK.mpr rfl))
   exact qU (S46 _ _ hb3) nb.1 nb.2
  ·rcases List.mem_append.mp hx with h | h
   ·exact few1 _ (List.getElem_mem ht1) _ h
   ·rw [List.mem_singleton.mp h];exact fk
  ·obtain ⟨x,y,z,e,r⟩:=aV P3' S46
   exact ⟨x,y,z,by rw [aB (Ne.symm nf)];exact e,r⟩
 ·walk_at "sts"
  refine jM (fun hw=>?_) (fun hw=>?_)
  ·walk_at "sts"
   refine bh (SqL.of hf2) iT ?_
   walk_at "sts"
   refine aX rfl fun m5 G5 n5 S5 g5=>?_
   walk_at "sts"
   refine bY (S5 _ _ hct2) g5 (by simp;omega) fun m6 G6 n6 S6 g6=>?_
   walk_at "sts"
   have S46:=S5.trans S6
   have n6p:m6≠p:=(aV P2 S5).ne n6
   have n6f:m6≠f:=fun e=>by rw [e,S5 _ _ hf2] at n6;cases n6
   refine oN (S46 _ _ hf2) ixT ?_
   walk_at "sts"
   have C6:=gn (Chg2.sm (p:=p) (f:=f) S46)
   have sm2:=gP (h:=hs[t] ++ [hs[a][k]]) ht
   rw [List.length_append] at sm2
   refine fin ((hs.set t (hs[t] ++ [hs[a][k]])).map hD) _ _ ao ?_ (jK (iY hS.few fun x hx=>?_) (by rw [List.length_set];omega) (by rw [List.length_singleton] at sm2;omega)) ?_ (((Chg2.of C02).trans (Chg2.sm S46)).trans Chg2.put)
   ·rw [jF]
    refine pA (RDs.same C6 _ _ R2) (aJ.mpr ⟨m6,_,rfl,qU g6 n6p n6f,?_⟩)
    rw [List.map_append]
    exact aN (RDs.same C6 _ _ Wt2) (aZ (RD.same C6 _ _ Rb2) (aK.mpr rfl))
   ·rcases List.mem_append.mp hx with h | h
    ·exact hS.few _ ft _ h
    ·rw [List.mem_singleton.mp h];exact fk
   ·obtain ⟨x,y,z,e,r⟩:=aV P2 S46
    exact ⟨x,y,z,by rw [aB (Ne.symm nf)];exact e,r⟩
  ·walk_at "sts"
   refine jM (fun hw=>?_) (fun hw=>?_)
   ·walk_at "sts"
    refine bh (SqL.of hf2) iA ?_
    walk_at "sts"
    refine eG hc2 fun m1 G1 n1 S1 g1=>?_
    walk_at "sts"
    rw [gK] at g1
    refine bh (SqL.of (S1 _ _ hf2)) iA ?_
    walk_at "sts"
    rw [k1]
    refine eG (S1 _ _ hc2) fun m2 G2 n2 S2 g2=>?_
    walk_at "sts"
    rw [dM] at g2
    have S12:=S1.trans S2
    refine bY (S2 _ _ g1) g2 (by rw [List.length_take,List.length_drop];omega) fun m3 G3 n3 S3 g3=>?_
    walk_at "sts"
    have S13:=S12.trans S3
    have n3p:m3≠p:=(aV P2 S12).ne n3
    have n3f:m3≠f:=fun e=>by rw [e,S12 _ _ hf2] at n3;cases n3
    refine oN (S13 _ _ hf2) ixA ?_
    walk_at "sts"
    have C3:=gn (Chg2.sm (p:=p) (f:=f) S13)
    have sm1:=gP (h:=hs[a].take k ++ hs[a].drop (k+1)) ha
    refine fin ((hs.set a (hs[a].take k ++ hs[a].drop (k+1))).map hD) _ _ ao ?_ (jK (iY hS.few wof) (by rw [List.length_set];omega) (by omega)) ?_ (((Chg2.of C02).trans (Chg2.sm S13)).trans Chg2.put)
    ·rw [jF,hD_wo]
     refine pA (RDs.same C3 _ _ R2) (aJ.mpr ⟨m3,_,rfl,qU g3 n3p n3f,?_⟩)
     exact RDs.same C3 _ _ (aN (jk k W2) (jl (k+1) W2))
    ·obtain ⟨x,y,z,e,r⟩:=aV P2 S13
     exact ⟨x,y,z,by rw [aB (Ne.symm nf)];exact e,r⟩
   ·walk_at "sts"
    refine bh (SqL.of hf2) iA ?_
    walk_at "sts"
    refine eG hc2 fun m1 G1 n1 S1 g1=>?_
    walk_at "sts"
    rw [gK] at g1
    have n1p:m1≠p:=P2.ne n1
    have n1f:m1≠f:=fun e=>by rw [e,hf2] at n1;cases n1
    walk_at "sts"
    refine ⟨p,b,hs[a][k].1,hs[a][k].2,rfl,aV P2 S1,S1 _ _ hb2,fk.1,fk.2,fun v d G2 rv od Q2 D2=>?_⟩
    walk_at "sts"
    have K2:Chg2 p f H2 G2:=(Chg2.sm S1).trans (Chg2.of D2)
    have hf3:=D2.at_ (S1 _ _ hf2) nf
    have hc3:=D2.at_ (S1 _ _ hc2) nc.1
    refine aX rfl fun m3 G3 n3 S3 g3=>?_
    walk_at "sts"
    refine bY (S3 _ _ (D2.at_ g1 n1p)) g3 (by rw [List.length_take];simp;omega) fun m4 G4 n4 S4 g4=>?_
    walk_at "sts"
    have S34:=S3.trans S4
    refine bh (SqL.of (S34 _ _ hf3)) iA ?_
    walk_at "sts"
    rw [k1]
    refine eG (S34 _ _ hc3) fun m5 G5 n5 S5 g5=>?_
    walk_at "sts"
    rw [dM] at g5
    have S35:=S34.trans S5
    refine bY (S5 _ _ g4) g5 (by rw [List.length_append,List.length_take,List.length_drop];simp;omega) fun m6 G6 n6 S6 g6=>?_
    walk_at "sts"
    have S36:=S35.trans S6
    have n6p:m6≠p:=(aV Q2 S35).ne n6
    have n6f:m6≠f:=fun e=>by rw [e,S35 _ _ hf3] at n6;cases n6
    refine oN (S36 _ _ hf3) ixA ?_
    walk_at "sts"
    have C6:=gn (Chg2.sm (p:=p) (f:=f) S36)
    have C2':=gn K2
    have e0:(hs.map hD)[a]?=some (hD hs[a]):=by rw [List.getElem?_map,List.getElem?_eq_getElem ha];rfl
    have sm:=Ir (g:=.list ((hs[a].map pD).take k ++ [d] ++ (hs[a].map pD).drop (k+1))) e0
    have cg:dF (.list ((hs[a].map pD).take k ++ [d] ++ (hs[a].map pD).drop (k+1)))=hs[a].length:=by simp [dF];omega
    have ca:dF (hD hs[a])=hs[a].length:=by simp [hD,dF]
    rw [kJ] at sm
    refine fin ((hs.map hD).set a (.list ((hs[a].map pD).take k ++ [d] ++ (hs[a].map pD).drop (k+1)))) _ _ ao ?_ ⟨by rw [List.length_set,List.length_map];omega,RL hS.ok (lQ fun e he=>?_),by omega⟩ ?_ ((((Chg2.of C02).trans K2).trans (Chg2.sm S36)).trans Chg2.put)
    ·refine pA (RDs.same C6 _ _ (RDs.same C2' _ _ R2)) (aJ.mpr ⟨m6,_,rfl,qU g6 n6p n6f,?_⟩)
     refine aN (aN (RDs.same C6 _ _ (RDs.same C2' _ _ (jk k W2))) (aZ ?_ (aK.mpr rfl))) (RDs.same C6 _ _ (RDs.same C2' _ _ (jl (k+1) W2)))
     refine RD.same (H:=HN G1 G2) (fun e o h=>?_) _ _ rv
     obtain ⟨h1,h2⟩:=RG h
     have ep:e≠p:=(aV P2 S1).ne h1
     have ef:e≠f:=fun z=>by rw [z,S1 _ _ hf2] at h1;cases h1
     exact qU (S36 _ _ h2) ep ef
    ·rcases List.mem_append.mp he with h | h
     ·rcases List.mem_append.mp h with h | h
      ·obtain ⟨x,hx,rfl⟩:=List.mem_map.mp (List.mem_of_mem_take h)
       exact uq (hS.few _ fx _ hx).1 (hS.few _ fx _ hx).2
      ·rw [List.mem_singleton.mp h];exact od
     ·obtain ⟨x,hx,rfl⟩:=List.mem_map.mp (List.mem_of_mem_drop h)
      exact uq (hS.few _ fx _ hx).1 (hS.few _ fx _ hx).2
    ·obtain ⟨x,y,z,e,r⟩:=aV Q2 S36
     exact ⟨x,y,z,by rw [aB (Ne.symm nf)];exact e,r⟩
end
section
variable {P:Program} {w:World} {K:PySem.W.Frag} {mg:Str→Option Value} {base:Heap}
theorem jL:(["_law_k","_law_heap","_law_at","_law_to"]:List Str).Nodup:=by decide+kernel
theorem rn:(["_law_heap"]:List Str).Nodup:=by decide+kernel
theorem kz4e:cM aQ "_law_moved":=by decide+kernel
theorem LR:Hr aQ "_law_to":=by decide+kernel
theorem lX:Hr aQ "_law_at":=by decide+kernel
theorem gQ:bV aQ "_law_found":=by decide+kernel
theorem DK:bV aQ "_law_purse_here":=by decide+kernel
theorem zN:bV aQ "_law_way":=by decide+kernel
theorem VR:cM aQ "tuple":=by decide+kernel
theorem kz4l:cM aQ "enumerate":=by decide+kernel
theorem RM:bV aQ "_law_cut":=by decide+kernel
theorem Iu:cM aQ "_law_take":=by decide+kernel
theorem RN:cM aQ "len":=by decide+kernel
theorem V0:bV aQ "_law_some":=by decide+kernel
theorem kz4q:bV aQ "_law_heaps":=by decide+kernel
theorem bQ {p:Addr} {H H':Hp} (s:Same H H'):Same (Hx p H) (Hx p H'):=wJ (Chg.of_same s)
theorem Bu {H:Hp} {Q:VK} {a:Addr} {xs:List V} (ha:H a=some (.lst xs)) (h:∀ p H',H p=none→Same H H'→H' p=some (.tup xs)→Q (.ref p) H'):MF K [.ref a] H Q:=
 .inl ⟨a,xs,rfl,.inl ⟨SqL.of ha,fun p n=>h p _ n ((Same.refl H).upd n) ao⟩⟩
theorem Iv {H:Hp} {Q:VK} {a:Addr} {xs:List V} (ha:H a=some (.lst xs)) (h:∀ p H',H p=none→Same H H'→H' p=some (.lst xs)→Q (.ref p) H'):yW K [.ref a] H Q:=
 Aj (SqL.of ha) fun p n=>h p _ n ((Same.refl H).upd n) ao
theorem qG {gs es:List PyData} (h:Th gs) (hl:gs.length≤100) (h':∀ g∈es,HpOk g) (hl':es.length≤100) (hc:(gs.map dF).sum+(es.map dF).sum≤4700):Th (gs ++ es):=
 ⟨by rw [List.length_append];omega,fun g hg=>by
  rcases List.mem_append.mp hg with h1 | h1
  ·exact h.ok g h1
  ·exact h' g h1,by rw [List.map_append,List.sum_append];exact hc⟩
theorem Iw {g:PyData} (h:HpOk g) (hc:dF g≤4700):Th [g]:=⟨by simp,by simpa using h,by simpa using hc⟩
theorem vH {hs:List (List PP)} {a:Nat} (ha:a < hs.length):(hs.map List.length).sum=((hs.take a).map List.length).sum+hs[a].length+((hs.drop (a+1)).map List.length).sum:=by
 have:hs=hs.take a ++ hs[a] :: hs.drop (a+1):=by rw [List.getElem_cons_drop,List.take_append_drop]
 have e:=congrArg (fun l:List (List PP)=>(l.map List.length).sum) this
 simp only [List.map_append,List.sum_append,List.map_cons,List.sum_cons] at e
 omega
theorem pB {hs:List (List PP)} {a:Nat} (ha:a < hs.length) (h:(hs.map List.length).sum≤2304):hs[a].length≤2304:=by
 have:=vH ha
 omega
def Iz:Sp:=fun vs H Q _=>∃ (p a:Addr) (hs:List (List PP)),vs=[.ref p,.ref a]∧Pur H p∧RD (Hx p H) (.list (hs.map hD)) (.ref a)∧HS hs∧
 ∀ v d H',RD (Hx p H') d v→Ask d→Pur H' p→Chg p H H'→Q v H'
theorem di:aP ["_law_purse_here","_law_heaps","_law_found","_law_way","_law_some","_law_at","_law_to","_law_cut"] ["_law_purse_here","_law_heaps"] (au aQ):=⟨rfl,rfl,rfl,by decide+kernel,rfl,by decide+kernel,by decide+kernel⟩
theorem jG (T:Txt K mg):nO P w K mg base 4 "_law_spoilt" ["_law_purse_here","_law_heaps"] Iz:=by
 have aC:=aC (P:=P) (w:=w) (base:=base) T
 have kO:=kO (P:=P) (w:=w) (base:=base) T
 refine gR T.d_law_spoilt di (fun _ _ _ _ _ _ us hl=>L2.rT (fun _ _=>rfl) us hl) ?_ fun f cdv A outer s H vs Q E hr h=>?_
 ·rintro vs H Q E ⟨p,a,hs,rfl,_⟩;rfl
 obtain ⟨p,a,hs,rfl,hP,hA,hS,q⟩:=h
 have hu:=hr.units0
 have hu64:=hr.units
 refine ⟨_,(aq (rD (i:=2) di.nd rfl (Or.inl gQ) (sub:=[none]) (cQ (N:=["_law_purse_here","_law_heaps","_law_found","_law_way","_law_some","_law_at","_law_to","_law_cut"]) (sc:=au aQ) (N':=["_law_heap"]) (by decide+kernel)) rfl rfl rfl (dB (K:=K) rfl (ak 1 kz4q)) (fun C s₀ H₀ ex=>(mJ 0 (by decide+kernel) rn)) (fun C s₀ H₀ ex=>fc) (fun C s₀ H₀ ex=>(oH (sU (K:=K) rfl rfl) (J9 (by decide+kernel)) T.b_list kZ (aa (g8 0 (by decide+kernel)) aj) (by decide+kernel) (by decide+kernel))) rfl) (aq (aR (i:=3) di.nd rfl (Or.inl zN) (aL aC (hr.mono (by decide)) (bL Iu) (aa (ak 0 DK) (aa az aj)) (by decide+kernel)) rfl) (aq (bZ (mj (jH (bW (fB (K:=K) rfl hu64) (ak 2 gQ) (bU aj) (by first | exact aW _ | with_unfolding_all rfl)) (jo (bW (fB (K:=K) rfl hu64) (ak 3 zN) az (by first | exact aW _ | with_unfolding_all rfl))))) (aq (aR (i:=4) di.nd rfl (Or.inl V0) (bU (aa (oH (qL (K:=K) rfl rfl) (bL VR) T.b_tuple oE (aa (ak 2 gQ) aj) (by decide+kernel) (by decide+kernel)) (aa Ak (aa Ky (aa az (aa gJ (aa xH (aa (bu aH (ak 2 gQ) (bU (aa (bU aj) aj))) (aa (bU (aa (gr aj) aj)) (aa (bu aH (ak 2 gQ) (bU (aa (bU (aa (gr (aa az (aa az aj))) aj)) aj))) (aa (bU (aa Ak aj)) (aa (bu aH (ak 2 gQ) (bU (aa Ak aj))) aj)))))))))))) rfl) (aA (aG (bB (K:=K) rfl (ak 4 V0) (aL aC (hr.mono (by decide)) (bL Iu) (aa (ak 0 DK) (aa az aj)) (by decide+kernel)))))) bC) (aq (aR (i:=5) di.nd rfl (Or.inr lX) (aL aC (hr.mono (by decide)) (bL Iu) (aa (ak 0 DK) (aa (aM (bH (K:=K) rfl) (bL RN) T.b_len dz (aa (ak 2 gQ) aj) (by decide+kernel) (by decide+kernel)) aj)) (by decide+kernel)) rfl) (aq (aR (i:=6) di.nd rfl (Or.inr LR) (aL aC (hr.mono (by decide)) (bL Iu) (aa (ak 0 DK) (aa (aM (bH (K:=K) rfl) (bL RN) T.b_len dz (aa (ak 2 gQ) aj) (by decide+kernel) (by decide+kernel)) aj)) (by decide+kernel)) rfl) (aq (bZ (bW (fB (K:=K) rfl hu64) (ak 3 zN) az (by first | exact aW _ | with_unfolding_all rfl)) (aq (aR (i:=7) di.nd rfl (Or.inl RM) (aL aC (hr.mono (by decide)) (bL Iu) (aa (ak 0 DK) (aa (bu aH (aM (bH (K:=K) rfl) (bL RN) T.b_len dz (aa (bB (K:=K) rfl (ak 2 gQ) (gH 5 lX)) aj) (by decide+kernel) (by decide+kernel)) az) aj)) (by decide+kernel)) rfl) (aA (aG (bu aH (bu aH (cI (cU (K:=K) rfl) (ak 2 gQ) bT (b7 (gH 5 lX))) (bU (aa (cI (cU (K:=K) rfl) (bB (K:=K) rfl (ak 2 gQ) (gH 5 lX)) (b7 (ak 7 RM)) bT) (aa (cI (cU (K:=K) rfl) (bB (K:=K) rfl (ak 2 gQ) (gH 5 lX)) bT (b7 (ak 7 RM))) aj)))) (cI (cU (K:=K) rfl) (ak 2 gQ) (b7 (bu aH (gH 5 lX) az)) bT))))) bC) (aq (bZ (bW (fB (K:=K) rfl hu64) (ak 3 zN) az (by first | exact aW _ | with_unfolding_all rfl)) (aA (aG (bu aH (bU (aa (bu aH (bB (K:=K) rfl (ak 2 gQ) (gH 5 lX)) (bB (K:=K) rfl (ak 2 gQ) (gH 6 LR))) aj)) (iZ (sub:=[none,none,some 5,some 6]) (cQ (N:=["_law_purse_here","_law_heaps","_law_found","_law_way","_law_some","_law_at","_law_to","_law_cut"]) (sc:=au aQ) (N':=["_law_k","_law_heap","_law_at","_law_to"]) (by decide+kernel)) rfl rfl rfl (GP (K:=K) rfl rfl (bL kz4l) T.b_enumerate (aa (ak 2 gQ) aj)) (fun C s₀ H₀ ex=>(qe (K:=K) (n:=2) rfl rfl (cR (mJ 0 (by decide+kernel) jL) (cR (mJ 1 (by decide+kernel) jL) jr)))) (fun C s₀ H₀ ex=>(Am (mj (P0 (bW (mX (K:=K) rfl hu64) (g8 0 (by decide+kernel)) (ie 2 (by decide+kernel)) (by first | exact aW _ | with_unfolding_all rfl)) (Kc (bW (mX (K:=K) rfl hu64) (g8 0 (by decide+kernel)) (ie 3 (by decide+kernel)) (by first | exact aW _ | with_unfolding_all rfl))))))) (fun C s₀ H₀ ex=>(g8 1 (by decide+kernel))))))) bC) (aq (bZ (bW (fB (K:=K) rfl hu64) (ak 3 zN) az (by first | exact aW _ | with_unfolding_all rfl)) (aA (aG (bu aH (cI (cU (K:=K) rfl) (ak 2 gQ) bT (b7 (gH 5 lX))) (cI (cU (K:=K) rfl) (ak 2 gQ) (b7 (bu aH (gH 5 lX) az)) bT)))) bC) (aq (bZ (bW (fB (K:=K) rfl hu64) (ak 3 zN) az (by first | exact aW _ | with_unfolding_all rfl)) (aA (aG (bu aH (bu aH (cI (cU (K:=K) rfl) (ak 2 gQ) bT (b7 (gH 5 lX))) (bU (aa (oH (qL (K:=K) rfl rfl) (bL VR) T.b_tuple oE (aa (bB (K:=K) rfl (ak 2 gQ) (gH 5 lX)) aj) (by decide+kernel) (by decide+kernel)) aj))) (cI (cU (K:=K) rfl) (ak 2 gQ) (b7 (bu aH (gH 5 lX) az)) bT)))) bC) (aq (bZ (bW (fB (K:=K) rfl hu64) (ak 3 zN) az (by first | exact aW _ | with_unfolding_all rfl)) (aA (aG (bu aH (bu aH (cI (cU (K:=K) rfl) (ak 2 gQ) bT (b7 (gH 5 lX))) (bU (aa (bu aH (bB (K:=K) rfl (ak 2 gQ) (gH 5 lX)) (bB (K:=K) rfl (ak 2 gQ) (gH 6 LR))) aj))) (cI (cU (K:=K) rfl) (ak 2 gQ) (b7 (bu aH (gH 5 lX) az)) bT)))) bC) (aA (aG (aL kO (hr.mono (by decide)) (bL kz4e) (aa (ak 0 DK) (aa (ak 2 gQ) (aa (gH 5 lX) (aa (gH 6 LR) aj)))) (by decide+kernel)))))))))))))),?_⟩
 walk_at "sts"
 obtain ⟨a',us0,ea,ha,hR0⟩:=aJ.mp hA
 cases ea
 have ha0:=d7 _ _ _ _ ha
 have hl0:=bA hR0
 rw [List.length_map] at hl0
 have hsl:=hS.len
 have hsa:=hS.all
 have zl:sizeLine≥5000:=by decide
 have hz:us0.length≤sizeLine:=Nat.le_trans (show us0.length≤5000 by omega) (by decide)
 refine .inl ⟨a,rfl,⟨_,SqL.of ha0⟩,?_⟩
 refine fJ (xs:=us0) (fun i ys H'=>Same H H'∧RDs (Hx p H') ((hs.map hD).take i) ys) hz ⟨Same.refl _,aK.mpr rfl⟩ ?_ ?_ ?_ ?_
 ·rintro i ys H' ⟨_,h⟩
  have:=bA h
  rw [List.length_take] at this
  omega
 ·rintro i ys H' ⟨S1,_⟩
  exact SqL.of (S1 _ _ ha0)
 ·rintro i ys H1 x hx ⟨S1,r⟩
  obtain ⟨d,e1,e2⟩:=gB hR0 hx
  obtain ⟨h,eh,rfl⟩:=Option.map_eq_some_iff.mp (by rw [List.getElem?_map] at e1;exact e1)
  obtain ⟨c,ws,rfl,hc,hW⟩:=aJ.mp e2
  walk_at "sts"
  refine ⟨KeepSt.set rfl,?_⟩
  walk_at "sts"
  try with_reducible refine jn ?_
  walk_at "sts"
  refine Aj (SqL.of (S1 _ _ (d7 _ _ _ _ hc))) fun m nm=>?_
  have S2:=(Same.refl H1).upd (o:=.lst ws) nm
  have mp:m≠p:=(aV hP S1).ne nm
  refine ⟨S1.trans S2,?_⟩
  rw [List.take_add_one,e1]
  refine aN (RDs.same (bQ S2) _ _ r) (aZ (aJ.mpr ⟨m,ws,rfl,iW ao mp,?_⟩) (aK.mpr rfl))
  exact RDs.same (bQ (S1.trans S2)) _ _ hW
 ·rintro us H1 ⟨S1,r1⟩ f nf0
  rw [hl0,List.take_of_length_le (by simp)] at r1
  have hl:=bA r1
  rw [List.length_map] at hl
  have S1':=S1.upd (o:=.lst us) nf0
  have fp:f≠p:=(aV hP S1).ne nf0
  have hP1:=aV hP S1'
  walk_at "sts"
  refine ⟨p,9,rfl,hP1,by omega,by omega,fun way H2 w0 w1 P2 C2=>?_⟩
  walk_at "sts"
  have C02:Chg p H H2:=(Chg.of_same S1').trans C2
  have hf2:H2 f=some (.lst us):=C2.at_ ao fp
  have R2:RDs (Hy p f H2) (hs.map hD) us:=RDs.same (fun b o e=>by
   have e2:=d7 _ _ _ _ e
   have np:b≠p:=fun z=>by unfold Hx at e;rw [if_pos z] at e;cases e
   exact qU (C2.at_ (eZ nf0 e2) np) np fun z=>by rw [z,nf0] at e2;cases e2) _ _ r1
  refine aX rfl fun e0 G0 n0 S0 g0=>?_
  have R20:RDs (Hy p f G0) (hs.map hD) us:=RDs.same (gn (Chg2.sm S0)) _ _ R2
  have shp:PySem.SeqAt.shaped (.list (hs.map hD))=true:=jx (n:=3) (tG (n:=2) fun d hd=>by
   obtain ⟨_,d2,_,_,f⟩:=(hS.ok d hd).all
   exact ⟨f,d2⟩) (by omega)
  refine lL (d:=.list (hs.map hD)) (e:=.list []) (Br _ _ (PySem.SeqAt.canLay_of_shaped shp) (aJ.mpr ⟨f,us,rfl,S0 _ _ hf2,RDs.same (ph _ _ _) _ _ R20⟩)) (lu.mpr ⟨e0,[],rfl,g0,cJ.mpr rfl⟩) shp rfl ?_
  rw [wI]
  have hfG:=S0 _ _ hf2
  have PG:=aV P2 S0
  have CG:=C02.trans (Chg.of_same S0)
  have tri:((hs.map hD).isEmpty=false∧way≠0)∨(hs.map hD).isEmpty=true∨((hs.map hD).isEmpty=false∧way=0):=by
   cases (hs.map hD).isEmpty
   ·by_cases h:way=0
    ·exact .inr (.inr ⟨rfl,h⟩)
    ·exact .inl ⟨rfl,h⟩
   ·exact .inr (.inl rfl)
  have th0:Th (hs.map hD):=jK hS.few (by omega) (by omega)
  rcases tri with ⟨h,hw⟩ | h | ⟨h,hw⟩
  ·rw [h]
   walk_at "sts"
   refine jM (fun hw2=>absurd (V.int.inj hw2) hw) (fun hw2=>?_)
   walk_at "sts"
   have hpos:0 < hs.length:=by
    cases hs with
    | nil=>cases h
    | cons _ _=>simp
   refine mG (SqL.of hfG) ?_
   walk_at "sts"
   refine ⟨p,_,rfl,PG,by omega,by omega,fun a1 H3 a0 a2 P3 C3=>?_⟩
   walk_at "sts"
   obtain ⟨at_,rfl⟩:∃ k:Nat,a1=(k:Int):=⟨a1.toNat,by omega⟩
   have hf3:=C3.at_ hfG fp
   refine mG (SqL.of hf3) ?_
   walk_at "sts"
   refine ⟨p,_,rfl,P3,by omega,by omega,fun t1 H4 t0 t2 P4 C4=>?_⟩
   walk_at "sts"
   obtain ⟨to,rfl⟩:∃ k:Nat,t1=(k:Int):=⟨t1.toNat,by omega⟩
   have hla:at_ < hs.length:=by omega
   have hlt:to < hs.length:=by omega
   have hf4:=C4.at_ hf3 fp
   have CG4:Chg p H H4:=(CG.trans C3).trans C4
   have R4y:RDs (Hy p f H4) (hs.map hD) us:=RDs.same (gn (Chg2.of (C3.trans C4))) _ _ R20
   have R4:RDs (Hx p H4) (hs.map hD) us:=RDs.same (d7 f _) _ _ R4y
   obtain ⟨va,ea,ra⟩:=jE (k:=at_) R4 (by rw [List.getElem?_map,List.getElem?_eq_getElem hla];rfl)
   obtain ⟨c,ws,rfl,hc,W4⟩:=aJ.mp ra
   obtain ⟨vt,et,rt⟩:=jE (k:=to) R4 (by rw [List.getElem?_map,List.getElem?_eq_getElem hlt];rfl)
   obtain ⟨ct,wt,rfl,hct,Wt4⟩:=aJ.mp rt
   have hc4:=d7 _ _ _ _ hc
   have hct4:=d7 _ _ _ _ hct
   have lws:=bA W4
   have lwt:=bA Wt4
   rw [List.length_map] at lws lwt
   have lha:=pB hla hsa
   have lht:=pB hlt hsa
   have iA:nR us (at_:Int)=some (.ref c):=dW (by omega) (by simpa using ea)
   have iT:nR us (to:Int)=some (.ref ct):=dW (by omega) (by simpa using et)
   have ss:=vH hla
   have a1':((at_:Int)+1)=((at_+1:Nat):Int):=by omega
   have fxa:hs[at_]∈hs:=List.getElem_mem hla
   have fxt:hs[to]∈hs:=List.getElem_mem hlt
   have fin:∀ (m:Addr) (vs:List V) (gs:List PyData) (H':Hp),H' m=some (.lst vs)→m≠p→RDs (Hx p H') gs vs→Th gs→Pur H' p→Chg p H4 H'→Q (.ref m) H':=fun m vs gs H' h n r th P C=>
    q _ (.list gs) H' (aJ.mpr ⟨m,vs,rfl,iW h n,r⟩) th.ask P (CG4.trans C)
   have takeR:RDs (Hx p H4) ((hs.take at_).map hD) (us.take at_):=by rw [List.map_take];exact jk _ R4
   have dropR:RDs (Hx p H4) ((hs.drop (at_+1)).map hD) (us.drop (at_+1)):=by rw [List.map_drop];exact jl _ R4
   have thR:∀ hs':List (List PP),(∀ h∈hs',∀ x∈h,x∈hs[at_]∨x∈hs[to])→hs'.length≤2→(hs'.map List.length).sum≤4608 - ((hs.take at_).map List.length).sum - ((hs.drop (at_+1)).map List.length).sum→Th ((hs.take at_).map hD ++ hs'.map hD ++ (hs.drop (at_+1)).map hD):=fun hs' h1 h2 h3=>by
    rw [← List.map_append,← List.map_append]
    refine jK (fun h hh x hx=>?_) (by simp only [List.length_append,List.length_take,List.length_drop];omega) (by simp only [List.map_append,List.sum_append];omega)
    rcases List.mem_append.mp hh with hh | hh
    ·rcases List.mem_append.mp hh with hh | hh
     ·exact hS.few _ (List.mem_of_mem_take hh) x hx
     ·rcases h1 h hh x hx with h4 | h4
      ·exact hS.few _ fxa x h4
      ·exact hS.few _ fxt x h4
    ·exact hS.few _ (List.mem_of_mem_drop hh) x hx
   refine jM (fun hw=>?_) (fun hw=>?_)
   ·walk_at "sts"
    refine bh (SqL.of hf4) iA ?_
    walk_at "sts"
    refine mG (SqL.of hc4) ?_
    walk_at "sts"
    refine ⟨p,_,rfl,P4,by omega,by omega,fun k1 H5 k0 k2 P5 C5=>?_⟩
    walk_at "sts"
    obtain ⟨k,rfl⟩:∃ k:Nat,k1=(k:Int):=⟨k1.toNat,by omega⟩
    have np:∀ {b:Addr} {o:HO},Hx p H4 b=some o→b≠p:=fun e z=>by unfold Hx at e;rw [if_pos z] at e;cases e
    have hf5:=C5.at_ hf4 fp
    have hc5:=C5.at_ hc4 (np hc)
    refine eG hf5 fun m1 G1 n1 S1 g1=>?_
    walk_at "sts"
    rw [gK] at g1
    refine bh (SqL.of (S1 _ _ hf5)) iA ?_
    walk_at "sts"
    refine eG (S1 _ _ hc5) fun m2 G2 n2 S2 g2=>?_
    walk_at "sts"
    rw [dM] at g2
    have S12:=S1.trans S2
    refine bh (SqL.of (S12 _ _ hf5)) iA ?_
    walk_at "sts"
    refine eG (S12 _ _ hc5) fun m3 G3 n3 S3 g3=>?_
    walk_at "sts"
    rw [gK] at g3
    have S13:=S12.trans S3
    refine aX rfl fun m4 G4 n4 S4 g4=>?_
    walk_at "sts"
    have S14:=S13.trans S4
    refine bY ((S2.trans (S3.trans S4)) _ _ g1) g4 (by rw [List.length_take];simp;omega) fun m5 G5 n5 S5 g5=>?_
    walk_at "sts"
    have S15:=S14.trans S5
    rw [a1']
    refine eG (S15 _ _ hf5) fun m6 G6 n6 S6 g6=>?_
    walk_at "sts"
    rw [dM] at g6
    have S16:=S15.trans S6
    refine bY (S6 _ _ g5) g6 (by rw [List.length_append,List.length_take,List.length_drop];simp;omega) fun m7 G7 n7 S7 g7=>?_
    walk_at "sts"
    have S17:=S16.trans S7
    have T:Same (Hx p H4) (Hx p G7):=(wJ C5).trans (bQ S17)
    have x2:=iW ((S3.trans (S4.trans (S5.trans (S6.trans S7)))) _ _ g2) ((aV P5 S1).ne n2)
    have x3:=iW ((S4.trans (S5.trans (S6.trans S7))) _ _ g3) ((aV P5 S12).ne n3)
    refine fin m7 _ ((hs.take at_).map hD ++ [hs[at_].drop k,hs[at_].take k].map hD ++ (hs.drop (at_+1)).map hD) _ g7 ((aV P5 S16).ne n7) ?_ (thR _ (fun h hh x hx=>?_) (by simp) ?_) (aV P5 S17) (C5.trans (Chg.of_same S17))
    ·refine aN (aN (RDs.same T _ _ takeR) (aZ (aJ.mpr ⟨m2,_,rfl,x2,?_⟩) (aZ (aJ.mpr ⟨m3,_,rfl,x3,?_⟩) (aK.mpr rfl)))) (RDs.same T _ _ dropR)
     ·rw [List.map_drop];exact RDs.same T _ _ (jl k W4)
     ·rw [List.map_take];exact RDs.same T _ _ (jk k W4)
    ·simp only [List.mem_cons,List.mem_nil_iff,or_false] at hh
     rcases hh with rfl | rfl
     ·exact .inl (List.mem_of_mem_drop hx)
     ·exact .inl (List.mem_of_mem_take hx)
    ·simp only [List.map_cons,List.map_nil,List.sum_cons,List.sum_nil,List.length_take,List.length_drop]
     omega
   walk_at "sts"
   refine jM (fun hw=>?_) (fun hw=>?_)
   ·walk_at "sts"
    refine bh (SqL.of hf4) iA ?_
    walk_at "sts"
    refine bh (SqL.of hf4) iT ?_
    walk_at "sts"
    refine bY hc4 hct4 (by omega) fun m1 G1 n1 S1 g1=>?_
    walk_at "sts"
    refine aX rfl fun m2 G2 n2 S2 g2=>?_
    walk_at "sts"
    have S12:=S1.trans S2
    have P12:=aV P4 S12
    refine .inr (.inl ⟨f,_,rfl,SqL.of (S12 _ _ hf4),?_⟩)
    refine zB (xs:=us) (fun i ys H'=>Same G2 H'∧∃ hs':List (List PP),RDs (Hx p H') (hs'.map hD) ys∧(∀ h∈hs',h∈hs)∧hs'.length≤i∧(hs'.map List.length).sum+(if at_ < i then hs[at_].length else 0)≤((hs.take i).map List.length).sum) (by omega) ⟨Same.refl _,[],aK.mpr rfl,by simp,by simp,by simp⟩ ?_ ?_ ?_ ?_
    ·rintro i ys H' ⟨_,hs',r,_,l,_⟩
     have:=bA r
     rw [List.length_map] at this
     omega
    ·rintro i ys H' ⟨S5,_⟩
     exact SqL.of ((S12.trans S5) _ _ hf4)
    ·rintro i ys H5 T x hx ⟨S5,hs',r,hin,l,sm⟩ nT
     have hi:i < us.length:=(List.getElem?_eq_some_iff.mp hx).1
     have s2:=S5.upd nT (o:=.tup [.int (i:Int),x])
     have s5:=(Same.refl H5).upd nT (o:=.tup [.int (i:Int),x])
     have g2':=ao (H:=H5) (a:=T) (o:=.tup [.int (i:Int),x])
     generalize upd H5 T (.tup [.int (i:Int),x])=G6 at s2 s5 g2' ⊢
     have hih:i < hs.length:=by omega
     obtain ⟨d,e1,e2⟩:=gB (RDs.same (bQ (S12.trans s2)) _ _ R4) hx
     rw [List.getElem?_map,List.getElem?_eq_getElem hih] at e1
     obtain rfl:hD hs[i]=d:=by injection e1
     have tks:((hs.take (i+1)).map List.length).sum=((hs.take i).map List.length).sum+hs[i].length:=by
      rw [List.take_add_one,List.getElem?_eq_getElem hih,List.map_append,List.sum_append]
      simp
     have keep:i=at_∨i=to→Same G2 G6∧∃ hs':List (List PP),RDs (Hx p G6) (hs'.map hD) ys∧(∀ h∈hs',h∈hs)∧hs'.length≤i+1∧(hs'.map List.length).sum+(if at_ < i+1 then hs[at_].length else 0)≤((hs.take (i+1)).map List.length).sum:=fun h=>by
      refine ⟨s2,hs',RDs.same (bQ s5) _ _ r,hin,by omega,?_⟩
      rw [tks]
      by_cases ei:i=at_
      ·subst ei
       rw [if_neg (by omega)] at sm
       rw [if_pos (by omega)]
       omega
      ·by_cases hlt2:at_ < i
       ·rw [if_pos hlt2] at sm
        rw [if_pos (by omega)]
        omega
       ·rw [if_neg hlt2] at sm
        rw [if_neg (by omega)]
        omega
     refine gU (SqT.of g2') rfl ?_
     walk_at "sts"
     refine ⟨KeepSt.trans (KeepSt.set rfl) (KeepSt.set rfl),?_⟩
     walk_at "sts"
     by_cases ha1:i=at_
     ·rw [decide_eq_true (by rw [ha1])]
      walk_at "sts"
      exact keep (.inl ha1)
     ·rw [decide_eq_false (fun z=>ha1 (by injection z with z;omega))]
      walk_at "sts"
      by_cases ha2:i=to
      ·rw [decide_eq_true (by rw [ha2])]
       walk_at "sts"
       exact keep (.inr ha2)
      ·rw [decide_eq_false (fun z=>ha2 (by injection z with z;omega))]
       walk_at "sts"
       refine ⟨s2,hs' ++ [hs[i]],?_,fun h hh=>?_,by simp;omega,?_⟩
       ·rw [List.map_append]
        exact aN (RDs.same (bQ s5) _ _ r) (aZ e2 (aK.mpr rfl))
       ·rcases List.mem_append.mp hh with hh | hh
        ·exact hin h hh
        ·rw [List.mem_singleton.mp hh];exact List.getElem_mem hih
       ·rw [tks,List.map_append,List.sum_append]
        simp only [List.map_cons,List.map_nil,List.sum_cons,List.sum_nil]
        by_cases hlt2:at_ < i
        ·rw [if_pos hlt2] at sm
         rw [if_pos (by omega)]
         omega
        ·rw [if_neg hlt2] at sm
         rw [if_neg (by omega)]
         omega
    ·rintro ys H5 D H6 ⟨S5,hs',r,hin,l,sm⟩ nD S6 hD'
     rw [hl,List.take_length,if_pos (by omega)] at sm
     have S26:=S5.trans S6
     have lys:=bA r
     rw [List.length_map] at lys
     walk_at "sts"
     refine bY (S26 _ _ g2) hD' (by simp;omega) fun m7 G7 n7 S7 g7=>?_
     walk_at "sts"
     have S27:=S26.trans S7
     have S17:=S12.trans S27
     have x1:=iW ((S2.trans S27) _ _ g1) (P4.ne n1)
     refine fin m7 _ ([hs[at_] ++ hs[to]].map hD ++ hs'.map hD) _ g7 ((aV P12 S26).ne n7) (aN (aZ (aJ.mpr ⟨m1,_,rfl,x1,?_⟩) (aK.mpr rfl)) (RDs.same (bQ (S6.trans S7)) _ _ r)) ?_ (aV P12 S27) (Chg.of_same S17)
     ·rw [List.map_append];exact RDs.same (bQ S17) _ _ (aN W4 Wt4)
     ·rw [← List.map_append]
      refine jK (fun h hh x hx=>?_) (by rw [List.length_append,List.length_singleton];omega) (by simp only [List.map_append,List.sum_append,List.map_cons,List.map_nil,List.sum_cons,List.sum_nil,List.length_append];omega)
      rcases List.mem_append.mp hh with hh | hh
      ·rw [List.mem_singleton.mp hh] at hx
       rcases List.mem_append.mp hx with hx | hx
       ·exact hS.few _ fxa x hx
       ·exact hS.few _ fxt x hx
      ·exact hS.few _ (hin h hh) x hx
   walk_at "sts"
   refine jM (fun hw=>?_) (fun hw=>?_)
   ·walk_at "sts"
    refine eG hf4 fun m1 G1 n1 S1 g1=>?_
    walk_at "sts"
    rw [gK] at g1
    rw [a1']
    refine eG (S1 _ _ hf4) fun m2 G2 n2 S2 g2=>?_
    walk_at "sts"
    rw [dM] at g2
    have S12:=S1.trans S2
    refine bY (S2 _ _ g1) g2 (by rw [List.length_take,List.length_drop];omega) fun m3 G3 n3 S3 g3=>?_
    walk_at "sts"
    have S13:=S12.trans S3
    have th:=thR [] (by simp) (by simp) (by simp)
    rw [List.map_nil,List.append_nil] at th
    exact fin m3 _ _ _ g3 ((aV P4 S12).ne n3) (aN (RDs.same (bQ S13) _ _ takeR) (RDs.same (bQ S13) _ _ dropR)) th (aV P4 S13) (Chg.of_same S13)
   walk_at "sts"
   refine jM (fun hw=>?_) (fun hw=>?_)
   ·walk_at "sts"
    refine eG hf4 fun m1 G1 n1 S1 g1=>?_
    walk_at "sts"
    rw [gK] at g1
    refine bh (SqL.of (S1 _ _ hf4)) iA ?_
    walk_at "sts"
    refine Bu (S1 _ _ hc4) fun m2 G2 n2 S2 g2=>?_
    walk_at "sts"
    refine aX rfl fun m3 G3 n3 S3 g3=>?_
    walk_at "sts"
    have S12:=S1.trans S2
    have S13:=S12.trans S3
    refine bY ((S2.trans S3) _ _ g1) g3 (by rw [List.length_take];simp;omega) fun m4 G4 n4 S4 g4=>?_
    walk_at "sts"
    have S14:=S13.trans S4
    rw [a1']
    refine eG (S14 _ _ hf4) fun m5 G5 n5 S5 g5=>?_
    walk_at "sts"
    rw [dM] at g5
    have S15:=S14.trans S5
    refine bY (S5 _ _ g4) g5 (by rw [List.length_append,List.length_take,List.length_drop];simp;omega) fun m6 G6 n6 S6 g6=>?_
    walk_at "sts"
    have S16:=S15.trans S6
    have x2:=iW ((S3.trans (S4.trans (S5.trans S6))) _ _ g2) ((aV P4 S1).ne n2)
    refine fin m6 _ ((hs.take at_).map hD ++ [.tuple (hs[at_].map pD)] ++ (hs.drop (at_+1)).map hD) _ g6 ((aV P4 S15).ne n6) (aN (aN (RDs.same (bQ S16) _ _ takeR) (aZ (fY.mpr ⟨m2,_,rfl,x2,RDs.same (bQ S16) _ _ W4⟩) (aK.mpr rfl))) (RDs.same (bQ S16) _ _ dropR)) ⟨?_,fun g hg=>?_,?_⟩ (aV P4 S16) (Chg.of_same S16)
    ·simp only [List.length_append,List.length_map,List.length_take,List.length_drop,List.length_singleton]
     omega
    ·rcases List.mem_append.mp hg with hh | hh
     ·rcases List.mem_append.mp hh with hh | hh
      ·obtain ⟨x,hx,rfl⟩:=List.mem_map.mp hh
       exact rR (hS.few _ (List.mem_of_mem_take hx))
      ·rw [List.mem_singleton.mp hh]
       refine .inr ⟨_,.inr rfl,fun e he=>?_⟩
       obtain ⟨x,hx,rfl⟩:=List.mem_map.mp he
       exact uq (hS.few _ fxa x hx).1 (hS.few _ fxa x hx).2
     ·obtain ⟨x,hx,rfl⟩:=List.mem_map.mp hh
      exact rR (hS.few _ (List.mem_of_mem_drop hx))
    ·rw [List.map_append,List.map_append,kJ,kJ,List.sum_append,List.sum_append]
     simp only [List.map_cons,List.map_nil,List.sum_cons,List.sum_nil,dF,List.length_map]
     omega
   walk_at "sts"
   refine jM (fun hw=>?_) (fun hw=>?_)
   ·walk_at "sts"
    refine eG hf4 fun m1 G1 n1 S1 g1=>?_
    walk_at "sts"
    rw [gK] at g1
    refine bh (SqL.of (S1 _ _ hf4)) iA ?_
    walk_at "sts"
    refine bh (SqL.of (S1 _ _ hf4)) iT ?_
    walk_at "sts"
    refine bY (S1 _ _ hc4) (S1 _ _ hct4) (by omega) fun m2 G2 n2 S2 g2=>?_
    walk_at "sts"
    refine aX rfl fun m3 G3 n3 S3 g3=>?_
    walk_at "sts"
    have S12:=S1.trans S2
    have S13:=S12.trans S3
    refine bY ((S2.trans S3) _ _ g1) g3 (by rw [List.length_take];simp;omega) fun m4 G4 n4 S4 g4=>?_
    walk_at "sts"
    have S14:=S13.trans S4
    rw [a1']
    refine eG (S14 _ _ hf4) fun m5 G5 n5 S5 g5=>?_
    walk_at "sts"
    rw [dM] at g5
    have S15:=S14.trans S5
    refine bY (S5 _ _ g4) g5 (by rw [List.length_append,List.length_take,List.length_drop];simp;omega) fun m6 G6 n6 S6 g6=>?_
    walk_at "sts"
    have S16:=S15.trans S6
    have x2:=iW ((S3.trans (S4.trans (S5.trans S6))) _ _ g2) ((aV P4 S1).ne n2)
    refine fin m6 _ ((hs.take at_).map hD ++ [hs[at_] ++ hs[to]].map hD ++ (hs.drop (at_+1)).map hD) _ g6 ((aV P4 S15).ne n6) (aN (aN (RDs.same (bQ S16) _ _ takeR) (aZ (aJ.mpr ⟨m2,_,rfl,x2,?_⟩) (aK.mpr rfl))) (RDs.same (bQ S16) _ _ dropR)) (thR _ (fun h hh x hx=>?_) (by simp) ?_) (aV P4 S16) (Chg.of_same S16)
    ·rw [List.map_append];exact RDs.same (bQ S16) _ _ (aN W4 Wt4)
    ·rw [List.mem_singleton.mp hh] at hx
     exact List.mem_append.mp hx
    ·simp only [List.map_cons,List.map_nil,List.sum_cons,List.sum_nil,List.length_append]
     omega
   walk_at "sts"
   refine ⟨p,f,us,hs,at_,to,rfl,P4,fp,hf4,R4y,hS,hla,hlt,fun gs H' r th P C=>?_⟩
   refine q _ _ H' r th.ask P fun b o n e=>C b o n (fun z=>?_) (CG4 b o n e)
   have nf:H f=none:=S1.free nf0
   rw [z,nf] at e
   cases e
  all_goals rw [h]
  all_goals
   walk_at "sts"
  all_goals first | (subst hw;refine jn ?_) | skip
  all_goals
   walk_at "sts"
   refine Bu hfG fun e1 G1 n1 S1 f1=>?_
   walk_at "sts"
   intro e2 n2
   have S2:=(Same.refl G1).upd (o:=.dK []) n2
   have f2:upd G1 e2 (.dK []) e2=some (.dK []):=ao
   generalize upd G1 e2 (.dK [])=G2 at S2 f2 ⊢
   walk_at "sts"
   refine aX rfl fun e3 G3 n3 S3 f3=>?_
   walk_at "sts"
   refine aX rfl fun e4 G4 n4 S4 f4=>?_
   walk_at "sts"
   have A0:=Same.refl G0
   have A1:=A0.trans S1
   have A2:=A1.trans S2
   have A3:=A2.trans S3
   have A4:=A3.trans S4
   refine bY (A4 _ _ hfG) f4 (by simp;omega) fun e5 G5 n5 S5 f5=>?_
   walk_at "sts"
   refine aX rfl fun e6 G6 n6 S6 f6=>?_
   walk_at "sts"
   refine aX rfl fun e7 G7 n7 S7 f7=>?_
   walk_at "sts"
   refine aX rfl fun e8 G8 n8 S8 f8=>?_
   walk_at "sts"
   refine aX rfl fun e9 G9 n9 S9 f9=>?_
   walk_at "sts"
   refine aX rfl fun e10 G10 n10 S10 f10=>?_
   walk_at "sts"
   have A5:=A4.trans S5
   have A6:=A5.trans S6
   have A7:=A6.trans S7
   have A8:=A7.trans S8
   have A9:=A8.trans S9
   have A10:=A9.trans S10
   refine bY (A10 _ _ hfG) f10 (by simp;omega) fun e11 G11 n11 S11 f11=>?_
   walk_at "sts"
   refine aX rfl fun e12 G12 n12 S12 f12=>?_
   walk_at "sts"
   refine aX rfl fun e13 G13 n13 S13 f13=>?_
   walk_at "sts"
   have A11:=A10.trans S11
   have A12:=A11.trans S12
   have A13:=A12.trans S13
   refine bY (A13 _ _ hfG) f13 (by simp;omega) fun e14 G14 n14 S14 f14=>?_
   walk_at "sts"
   refine aX rfl fun e15 G15 n15 S15 f15=>?_
   walk_at "sts"
   have A14:=A13.trans S14
   have A15:=A14.trans S15
   have B15:=Same.refl G15
   have B14:=S15.trans B15
   have B13:=S14.trans B14
   have B12:=S13.trans B13
   have B11:=S12.trans B12
   have B10:=S11.trans B11
   have B9:=S10.trans B10
   have B8:=S9.trans B9
   have B7:=S8.trans B8
   have B6:=S7.trans B7
   have B5:=S6.trans B6
   have B4:=S5.trans B5
   have B3:=S4.trans B4
   have B2:=S3.trans B3
   have B1:=S2.trans B2
   refine ⟨p,11,rfl,aV PG A15,by omega,by omega,fun c H8 c0 c1 P8 C8=>?_⟩
   walk_at "sts"
   have at_:∀ {e:Addr} {G G':Hp} {o:HO},Same G0 G→G e=none→Same G' G15→G' e=some o→Hx p H8 e=some o:=fun {e G G' o} s n s2 h=>iW (C8.at_ (s2 _ _ h) (PG.ne (s.free n))) (PG.ne (s.free n))
   have CC:Chg p H H8:=(CG.trans (Chg.of_same A15)).trans C8
   have R8:RDs (Hx p H8) (hs.map hD) us:=RDs.same (wJ C8) _ _ (RDs.same (bQ A15) _ _ (RDs.same (d7 f _) _ _ R20))
   obtain ⟨t,ht,et⟩:=Gd (vs:=[.ref e1,.non,.ref e2,.int 5,.bl true,.str (Str.ofString ""),.ref e5,.ref e7,.ref e11,.ref e12,.ref e14]) (d:=c) c0 (by simpa using c1)
   refine bh (SqL.of (C8.at_ f15 (PG.ne (A14.free n15)))) et ?_
   walk_at "sts"
   have hml:(hs.map hD).length≤100:=by rw [List.length_map];exact hsl
   have hmc:((hs.map hD).map dF).sum≤2304:=by rw [kJ];exact hsa
   have o00:Odd (.tuple [.int 0,.int 0]):=uq (p:=(0,0)) (by decide) (by decide)
   simp only [List.mem_cons,List.mem_nil_iff,or_false] at ht
   rcases ht with rfl | rfl | rfl | rfl | rfl | rfl | rfl | rfl | rfl | rfl | rfl
   ·exact q _ (.tuple (hs.map hD)) H8 (fY.mpr ⟨e1,us,rfl,at_ A0 n1 B1 f1,R8⟩) th0.askT P8 CC
   ·exact q _ .none H8 (lG.mpr rfl) (kE rfl (by decide) rfl (by decide) (fun _ e=>by cases e)) P8 CC
   ·exact q _ (.dict []) H8 (Az.mpr ⟨e2,[],rfl,at_ A1 n2 B2 f2,rfl⟩) (kE rfl (by decide+kernel) rfl (by decide+kernel) (fun _ e=>by cases e)) P8 CC
   ·exact q _ (.int 5) H8 (qu.mpr rfl) (kE (wK (by omega) (by omega)).sh (by decide) (wK (by omega) (by omega)).lv (by decide) (fun _ e=>by cases e)) P8 CC
   ·exact q _ (.bool true) H8 (v9.mpr rfl) (kE rfl (by decide) rfl (by decide) (fun _ e=>by cases e)) P8 CC
   ·exact q _ (.str (Str.ofString "")) H8 (v8.mpr rfl) (kE rfl (by decide) (by decide+kernel) (by decide+kernel) (fun _ e=>by cases e)) P8 CC
   ·exact q _ (.list (hs.map hD ++ [.list []])) H8 (aJ.mpr ⟨e5,_,rfl,at_ A4 n5 B5 f5,aN R8 (aZ (aJ.mpr ⟨e3,[],rfl,at_ A2 n3 B3 f3,aK.mpr rfl⟩) (aK.mpr rfl))⟩) (qG th0 hml (by simpa using lQ (es:=[]) (by simp)) (by simp) (by simp only [List.map_cons,List.map_nil,List.sum_cons,List.sum_nil,dF,List.length_nil];omega)).ask P8 CC
   ·exact q _ (.list [.tuple []]) H8 (aJ.mpr ⟨e7,_,rfl,at_ A6 n7 B7 f7,aZ (fY.mpr ⟨e6,[],rfl,at_ A5 n6 B6 f6,aK.mpr rfl⟩) (aK.mpr rfl)⟩) (Iw (.inr ⟨[],.inr rfl,by simp⟩) (by simp [dF])).ask P8 CC
   ·exact q _ (.list (hs.map hD ++ [.list [.tuple [.int 0,.int 0]]])) H8 (aJ.mpr ⟨e11,_,rfl,at_ A10 n11 B11 f11,aN R8 (aZ (aJ.mpr ⟨e9,_,rfl,at_ A8 n9 B9 f9,aZ (ir.mpr ⟨e8,rfl,at_ A7 n8 B8 f8⟩) (aK.mpr rfl)⟩) (aK.mpr rfl))⟩) (qG th0 hml (by simpa using lQ (es:=[.tuple [.int 0,.int 0]]) (by simpa using o00)) (by simp) (by simp only [List.map_cons,List.map_nil,List.sum_cons,List.sum_nil,dF,List.length_cons,List.length_nil];omega)).ask P8 CC
   ·exact q _ (.list [.none]) H8 (aJ.mpr ⟨e12,_,rfl,at_ A11 n12 B12 f12,aZ (lG.mpr rfl) (aK.mpr rfl)⟩) (Iw (.inl rfl) (by simp [dF])).ask P8 CC
   ·exact q _ (.list (hs.map hD ++ [.none])) H8 (aJ.mpr ⟨e14,_,rfl,at_ A13 n14 B14 f14,aN R8 (aZ (lG.mpr rfl) (aK.mpr rfl))⟩) (qG th0 hml (by simpa using .inl rfl) (by simp) (by simp only [List.map_cons,List.map_nil,List.sum_cons,List.sum_nil,dF];omega)).ask P8 CC
end
section
variable {P:Program} {w:World} {K:PySem.W.Frag} {mg:Str→Option Value} {base:Heap}
theorem qH:(["_law_heap"]:List Str).Nodup:=by decide+kernel
theorem kz4r:cM aY "range":=by decide+kernel
theorem kz4s:bV aY "_law_turn":=by decide+kernel
theorem V1:cM aY "repr":=by decide+kernel
theorem Ma:bV aY "_law_thing":=by decide+kernel
theorem V2:bV aY "_law_kept":=by decide+kernel
theorem RP:bV aY "_law_found":=by decide+kernel
theorem V3:bV aY "_law_due":=by decide+kernel
theorem kz4y:cM aY "isinstance":=by decide+kernel
theorem kz4z:cM aY "bool":=by decide+kernel
theorem kz50:cM aY "are_heaps":=by decide+kernel
theorem V4:bV aY "_law_top":=by decide+kernel
theorem V5:bV aY "_law_side":=by decide+kernel
theorem kz53:cM aY "_law_are_heaps":=by decide+kernel
theorem Mf:cM bN "_law_right":=by decide+kernel
theorem uC:bV bN "_law_thing":=by decide+kernel
theorem Mg:bV bN "_law_top":=by decide+kernel
theorem Mh:bV bN "_law_side":=by decide+kernel
theorem RQ:bV bN "_law_pair_here":=by decide+kernel
theorem kz59:bV bN "_law_heaps":=by decide+kernel
def Mi:Sp:=fun vs H Q _=>∃ (z y:Str) (v:V) (d:PyData),vs=[.str z,.str y,v]∧Row z∧Row y∧RD H d v∧Ask d∧∀ H',Same H H'→Q (.bl true) H'
theorem gq:aP ["_law_side","_law_top","_law_thing","_law_due","_law_kept","_law_turn","_law_found"] ["_law_side","_law_top","_law_thing"] (au aY):=⟨rfl,rfl,rfl,by decide+kernel,rfl,by decide+kernel,by decide+kernel⟩
theorem cF (T:Txt K mg):nO P w K mg base 8 "_law_right" ["_law_side","_law_top","_law_thing"] Mi:=by
 have cN:=cN (P:=P) (w:=w) (base:=base) T
 have j9:=j9 (P:=P) (w:=w) (base:=base) T
 refine gR T.d_law_right gq (fun _ _ _ _ _ _ us hl=>L2.vI (fun _ _ _=>rfl) us hl) ?_ fun f cdv A outer s H vs Q E hr h=>?_
 ·rintro vs H Q E ⟨z,y,v,d,rfl,_⟩;rfl
 obtain ⟨z,y,v,d,rfl,hz,hy,hd,hA,q⟩:=h
 have hu:=hr.units0
 have hu64:=hr.units
 refine ⟨_,(aq (aR (i:=3) gq.nd rfl (Or.inl V3) (aL cN (hr.mono (by decide)) (bL kz53) (aa (ak 0 V5) (aa (ak 1 V4) (aa (ak 2 Ma) aj))) (by decide+kernel)) rfl) (aq (aR (i:=4) gq.nd rfl (Or.inl V2) (aM (tH hr.gd hu64) (bL V1) T.b_repr Af (aa (ak 2 Ma) aj) (by decide+kernel) (by decide+kernel)) rfl) (aq (d9 PassesOwn.never rfl (fK (bL kz4r) T.b_range (aa az aj)) (bO (i:=5) gq.nd rfl (Or.inl kz4s) rfl) (aq (aR (i:=6) gq.nd rfl (Or.inl RP) (lB j9 (hr.mono (by decide)) (bL kz50) (MP fun _ _=>rfl) (aa (ak 0 V5) (aa (ak 1 V4) (aa (ak 2 Ma) aj))) (by decide+kernel)) rfl) (aA (bZ (mj (jH (c7 (cG (aM (cL (K:=K) rfl) (bL kz4y) T.b_isinstance bw (aa (ak 6 RP) (aa (qZ (bL kz4z) T.b_bool vW (by decide+kernel) (by decide+kernel)) aj)) (by decide+kernel) (by decide+kernel)))) (jH (bW (mX (K:=K) rfl hu64) (ak 6 RP) (ak 3 V3) (by first | exact aW _ | with_unfolding_all rfl)) (jo (bW (mX (K:=K) rfl hu64) (aM (tH hr.gd hu64) (bL V1) T.b_repr Af (aa (ak 2 Ma) aj) (by decide+kernel) (by decide+kernel)) (ak 4 V2) (by first | exact aW _ | with_unfolding_all rfl)))))) (aA (aG gJ)) bC)))) (aA (aG gJ))))),?_⟩
 walk_at "sts"
 refine ⟨z,y,v,d,rfl,hz,hy,hd,hA.hb,hA.hl,fun H1 S1=>?_⟩
 walk_at "sts"
 have hd1:=RD.same S1 _ _ hd
 refine Ba hd1 hA.sh hA.dp hA.ft ?_
 walk_at "sts"
 refine ⟨_,rfl,by omega,by omega,?_⟩
 refine kY (fun i σ H'=>Same H1 H'∧∃ x5 x6,σ=[some (.str z),some (.str y),some v,some (.bl (gD z y d)),some (.str d.shown),x5,x6]) ⟨Same.refl _,_,_,rfl⟩ ?_ ?_
 ·rintro i σ H2 hi ⟨S2,x5,x6,rfl⟩
  walk_at "sts"
  refine spX3.good hz.b hy.b ⟨d,RD.same S2 _ _ hd1,hA.hb,fun H3 S3=>?_⟩
  have S13:=S2.trans S3
  walk_at "sts"
  refine cB (.bl _) rfl ?_
  walk_at "sts"
  rw [show (!decide (V.bl (gD z y d)=V.bl (gD z y d)))=false by rw [decide_eq_true rfl];rfl]
  walk_at "sts"
  refine Ba (RD.same S13 _ _ hd1) hA.sh hA.dp hA.ft ?_
  walk_at "sts"
  rw [show (!decide (V.str d.shown=V.str d.shown))=false by rw [decide_eq_true rfl];rfl]
  walk_at "sts"
  exact ⟨S13,_,_,rfl⟩
 ·rintro σ H2 ⟨S2,x5,x6,rfl⟩
  walk_at "sts"
  exact q _ (S1.trans S2)
theorem yu {H:Hp}:∀ {ds:List PyData} {vs:List V} (k:Nat),DRs H ds vs→DRs H (ds.take k) (vs.take k)
 | _,_,0,_=>by simp [cJ]
 | [],vs,k+1,h=>by rw [cJ] at h;subst h;simp [cJ]
 | d :: ds,vs,k+1,h=>by
  rw [cT] at h
  obtain ⟨v,r,rfl,h1,h2⟩:=h
  exact cT.mpr ⟨v,_,rfl,h1,yu k h2⟩
theorem wN {H:Hp}:∀ {ps:List PP} {vs:List V},DRs H (ps.map pD) vs→RDs H (ps.map pD) vs
 | [],vs,h=>by
  have h':DRs H [] vs:=h
  rw [cJ] at h'
  exact aK.mpr h'
 | p :: ps,vs,h=>by
  have h':DRs H (pD p :: ps.map pD) vs:=h
  rw [cT] at h'
  obtain ⟨v,r,rfl,h1,h2⟩:=h'
  obtain ⟨a,rfl,e⟩:=vA.mp h1
  exact aZ (ir.mpr ⟨a,rfl,e⟩) (wN h2)
theorem IK:∀ ps:List PP,PyData.canLayAll0 (ps.map pD)=true
 | []=>rfl
 | p :: ps=>by rw [List.map_cons,PyData.canLayAll0,IK ps];rfl
theorem HTab.put {H:Hp} {t:Addr} {rs:List Addr} {hs:List (List PP)} {k:Nat} {r:Addr} {ps':List PP} {vs vs':List V} (h:HTab H t rs hs) (er:rs[k]?=some r) (h1:H r=some (.lst vs)) (hd:DRs H (ps'.map pD) vs'):
  HTab (upd H r (.lst vs')) t rs (hs.set k ps'):=by
 have hm:r∈rs:=List.mem_of_getElem? er
 have ntr:t≠r:=fun z=>h.ne (by rw [z];exact hm)
 refine ⟨by rw [aB ntr];exact h.at_,by rw [List.length_set];exact h.len,h.nd,h.ne,fun i' r' ps2 e1 e2=>?_⟩
 by_cases hik:i'=k
 ·subst hik
  rw [er] at e1
  cases e1
  rw [List.getElem?_set_self (by rw [← h.len];exact (List.getElem?_eq_some_iff.mp er).1)] at e2
  cases e2
  exact ⟨vs',ao,gf (TK.lst h1) _ _ hd⟩
 ·rw [List.getElem?_set_ne (Ne.symm hik)] at e2
  have nrr:r'≠r:=fun z=>by
   subst z
   obtain ⟨q1,_⟩:=List.getElem?_eq_some_iff.mp e1
   exact hik ((List.getElem?_inj q1 h.nd).mp (e1.trans er.symm))
  exact (h.row i' r' ps2 e1 e2).keep (TK.lst h1) fun _ e=>by rw [aB nrr];exact e
theorem yw {H:Hp}:∀ {rs:List Addr} {hs:List (List PP)},rs.length=hs.length→(∀ (i:Nat) (r:Addr) (ps:List PP),rs[i]?=some r→hs[i]?=some ps→PL H r ps)→RDs H (hs.map hD) (rs.map V.ref)
 | [],hs,hl,_=>by
  have:hs=[]:=List.length_eq_zero_iff.mp hl.symm
  subst this
  exact aK.mpr rfl
 | r :: rs,[],hl,_=>by simp at hl
 | r :: rs,ps :: hs,hl,h=>by
  obtain ⟨vs,e,d⟩:=h 0 r ps rfl rfl
  exact aZ (aJ.mpr ⟨r,vs,rfl,e,wN d⟩) (yw (by simpa using hl) fun i r' ps' e1 e2=>h (i+1) r' ps' e1 e2)
theorem HTab.rd {H:Hp} {t:Addr} {rs:List Addr} {hs:List (List PP)} (h:HTab H t rs hs):RD H (.list (hs.map hD)) (.ref t):=aJ.mpr ⟨t,_,rfl,h.at_,yw h.len h.row⟩
theorem HTab.pop {H:Hp} {t:Addr} {rs:List Addr} {hs:List (List PP)} {k:Nat} {r:Addr} {ps:List PP} (h:HTab H t rs hs) (er:rs[k]?=some r) (eh:hs[k]?=some ps) (hne:ps≠[]):
  ∃ vs y pp T,H r=some (.lst vs)∧vs[vs.length - 1]?=some y∧HTab (upd H r (.lst vs.dropLast)) t rs (hs.set k ps.dropLast)∧pp∈ps∧y= .ref T∧upd H r (.lst vs.dropLast) T=some (.tup [.int ((pp:PP).1:Int),.int (pp.2:Int)]):=by
 obtain ⟨vs,hv,hvl,hvd⟩:=(h.row k r ps er eh).len
 have hp0:0 < ps.length:=List.length_pos_iff.mpr hne
 have eLast:vs[vs.length - 1]?=some vs[vs.length - 1]:=List.getElem?_eq_getElem (by omega)
 obtain ⟨pp,T,ep,eT,hT⟩:=PL.at_ (q:=r) hvd eLast
 refine ⟨vs,_,pp,T,hv,eLast,h.put er hv ?_,List.mem_of_getElem? ep,eT,TK.lst hv _ _ hT⟩
 rw [List.dropLast_eq_take,List.dropLast_eq_take,List.map_take,hvl]
 exact yu _ hvd
theorem yx {h:List PP} (hf:∀ x∈h,x.1≤48∧x.2≤48):∀ x∈h.dropLast,x.1≤48∧x.2≤48:=fun x hx=>by
 rw [List.dropLast_eq_take] at hx
 exact hf x (List.mem_of_mem_take hx)
theorem wO {h:List PP} {p:PP} (hf:∀ x∈h,x.1≤48∧x.2≤48) (hp:p.1≤48∧p.2≤48):∀ x∈h ++ [p],x.1≤48∧x.2≤48:=fun x hx=>by
 rcases List.mem_append.mp hx with hx | hx
 ·exact hf x hx
 ·rw [List.mem_singleton.mp hx];exact hp
def DN:Sp:=fun vs H Q _=>∃ (z y:Str) (a:Addr) (hs:List (List PP)),vs=[.str z,.str y,.ref a]∧Row z∧Row y∧RD H (.list (hs.map hD)) (.ref a)∧HS hs∧∀ H',Same H H'→Q (.bl true) H'
theorem iG:aP ["_law_side","_law_top","_law_heaps","_law_thing","_law_pair_here"] ["_law_side","_law_top","_law_heaps"] (au bN):=⟨rfl,rfl,rfl,by decide+kernel,rfl,by decide+kernel,by decide+kernel⟩
theorem jg (T:Txt K mg):nO P w K mg base 9 "_law_changed" ["_law_side","_law_top","_law_heaps"] DN:=by
 have cF:=cF (P:=P) (w:=w) (base:=base) T
 refine gR T.d_law_changed iG (fun _ _ _ _ _ _ us hl=>L2.vI (fun _ _ _=>rfl) us hl) ?_ fun f cdv A outer s H vs Q E hr h=>?_
 ·rintro vs H Q E ⟨z,y,a,hs,rfl,_⟩;rfl
 obtain ⟨z,y,a,hs,rfl,hz,hy,hA,hS,q⟩:=h
 have hu:=hr.units0
 have hu64:=hr.units
 refine ⟨_,(aq (rD (i:=3) iG.nd rfl (Or.inl uC) (sub:=[none]) (cQ (N:=["_law_side","_law_top","_law_heaps","_law_thing","_law_pair_here"]) (sc:=au bN) (N':=["_law_heap"]) (by decide+kernel)) rfl rfl rfl (dB (K:=K) rfl (ak 2 kz59)) (fun C s₀ H₀ ex=>(mJ 0 (by decide+kernel) qH)) (fun C s₀ H₀ ex=>fc) (fun C s₀ H₀ ex=>(oH (sU (K:=K) rfl rfl) (J9 (by decide+kernel)) T.b_list kZ (aa (g8 0 (by decide+kernel)) aj) (by decide+kernel) (by decide+kernel))) rfl) (aq (bZ (c7 (cG (aL cF (hr.mono (by decide)) (bL Mf) (aa (ak 0 Mh) (aa (ak 1 Mg) (aa (ak 3 uC) aj))) (by decide+kernel)))) (aA (aG gJ)) bC) (aq (bZ (bW (fB (K:=K) rfl hu64) (ak 3 uC) (bU aj) (by first | exact aW _ | with_unfolding_all rfl)) (aA (aG gJ)) bC) (aq (aR (i:=4) iG.nd rfl (Or.inl RQ) (Al (K:=K) rfl PySem.F.plainAttrs_list PySem.F.slot_list_pop PySem.F.type_list_pop Ez (bB (K:=K) rfl (ak 3 uC) (xJ jR az))) rfl) (aq (bZ (c7 (cG (aL cF (hr.mono (by decide)) (bL Mf) (aa (ak 0 Mh) (aa (ak 1 Mg) (aa (ak 3 uC) aj))) (by decide+kernel)))) (aA (aG gJ)) bC) (aq (dX (jq (K:=K) rfl PySem.F.plainAttrs_list PySem.F.slot_list_append PySem.F.type_list_append iw (bB (K:=K) rfl (ak 3 uC) az) (aa (ak 4 RQ) aj))) (aq (bZ (c7 (cG (aL cF (hr.mono (by decide)) (bL Mf) (aa (ak 0 Mh) (aa (ak 1 Mg) (aa (ak 3 uC) aj))) (by decide+kernel)))) (aA (aG gJ)) bC) (aq (dX (Al (K:=K) rfl PySem.F.plainAttrs_list PySem.F.slot_list_pop PySem.F.type_list_pop Ez (bB (K:=K) rfl (ak 3 uC) az))) (aq (dX (jq (K:=K) rfl PySem.F.plainAttrs_list PySem.F.slot_list_append PySem.F.type_list_append iw (bB (K:=K) rfl (ak 3 uC) (xJ jR az)) (aa (ak 4 RQ) aj))) (aA (aG (aL cF (hr.mono (by decide)) (bL Mf) (aa (ak 0 Mh) (aa (ak 1 Mg) (aa (ak 3 uC) aj))) (by decide+kernel))))))))))))),?_⟩
 walk_at "sts"
 obtain ⟨a',us0,ea,ha,hR0⟩:=aJ.mp hA
 cases ea
 have hl0:=bA hR0
 rw [List.length_map] at hl0
 have hsl:=hS.len
 have hsa:=hS.all
 have zl:sizeLine≥5000:=by decide
 refine .inl ⟨a,rfl,⟨_,SqL.of ha⟩,?_⟩
 refine fJ (xs:=us0) (fun i ys H'=>Same H H'∧∃ rs:List Addr,ys=rs.map V.ref∧rs.length=i∧rs.Nodup∧(∀ r∈rs,H r=none∧H' r≠none)∧∀ (k:Nat) (r:Addr) (ps:List PP),rs[k]?=some r→hs[k]?=some ps→PL H' r ps) (by omega) ⟨Same.refl _,[],rfl,rfl,.nil,by simp,fun k r ps e=>by simp at e⟩ ?_ ?_ ?_ ?_
 ·rintro i ys H' ⟨_,rs,rfl,h,_⟩
  simp [h]
 ·rintro i ys H' ⟨S1,_⟩
  exact SqL.of (S1 _ _ ha)
 ·rintro i ys H1 x hx ⟨S1,rs,rfl,lr,nd,fr,row⟩
  obtain ⟨d,e1,e2⟩:=gB hR0 hx
  obtain ⟨h,eh,rfl⟩:=Option.map_eq_some_iff.mp (by rw [List.getElem?_map] at e1;exact e1)
  obtain ⟨c,ws,rfl,hc,hW⟩:=aJ.mp e2
  walk_at "sts"
  refine ⟨KeepSt.set rfl,?_⟩
  walk_at "sts"
  try with_reducible refine jn ?_
  walk_at "sts"
  refine Iv (S1 _ _ hc) fun m H2 nm S2 g2=>?_
  refine ⟨S1.trans S2,rs ++ [m],by simp,by simp [lr],?_,fun r hr=>?_,fun k r ps e1 e2=>?_⟩
  ·rw [List.nodup_append]
   refine ⟨nd,by simp,fun x hx y hy e=>?_⟩
   rw [List.mem_singleton.mp hy] at e
   subst e
   exact (fr _ hx).2 nm
  ·rcases List.mem_append.mp hr with h1 | h1
   ·refine ⟨(fr r h1).1,fun z=>?_⟩
    cases h2:H1 r with
    | none=>exact (fr r h1).2 h2
    | some o=>rw [S2 _ _ h2] at z;cases z
   ·rw [List.mem_singleton.mp h1]
    exact ⟨S1.free nm,by rw [g2];simp⟩
  ·by_cases hk:k < rs.length
   ·rw [List.getElem?_append_left hk] at e1
    exact (row k r ps e1 e2).same S2
   ·have hk2:k=rs.length:=by
     have:=(List.getElem?_eq_some_iff.mp e1).1
     simp at this
     omega
    subst hk2
    rw [List.getElem?_concat_length] at e1
    cases e1
    rw [lr,eh] at e2
    cases e2
    exact ⟨ws,g2,rP _ _ (IK _) (RDs.same (S1.trans S2) _ _ hW)⟩
 ·rintro ys H1 ⟨S1,rs,rfl,lr,nd,fr,row⟩ f nf
  have S2:=(Same.refl H1).upd (o:=.lst (rs.map V.ref)) nf
  have T2:HTab (upd H1 f (.lst (rs.map V.ref))) f rs hs:=⟨ao,by omega,nd,fun z=>(fr f z).2 nf,fun i r ps e1 e2=>(row i r ps e1 e2).same S2⟩
  have S02:=S1.trans S2
  generalize upd H1 f (.lst (rs.map V.ref))=H2 at T2 S02
  have frN:∀ r∈rs,H r=none:=fun r hr=>(fr r hr).1
  walk_at "sts"
  refine ⟨z,y,.ref f,_,rfl,hz,hy,T2.rd,(jK hS.few (by omega) (by omega)).ask,fun H3 S3=>?_⟩
  walk_at "sts"
  have T3:=T2.same S3
  have S03:=S02.trans S3
  refine aX rfl fun e0 H4 n0 S4 g0=>?_
  have T4:=T3.same S4
  have S04:=S03.trans S4
  have shp:PySem.SeqAt.shaped (.list (hs.map hD))=true:=jx (n:=3) (tG (n:=2) fun d hd=>by
   obtain ⟨_,d2,_,_,f⟩:=(hS.ok d hd).all
   exact ⟨f,d2⟩) (by omega)
  refine lL (d:=.list (hs.map hD)) (e:=.list []) (Br _ _ (PySem.SeqAt.canLay_of_shaped shp) T4.rd) (lu.mpr ⟨e0,[],rfl,g0,cJ.mpr rfl⟩) shp rfl ?_
  rw [wI]
  cases he:(hs.map hD).isEmpty with
  | true=>
   walk_at "sts"
   exact q _ S04
  | false=>
   have hpos:0 < hs.length:=by
    cases hs with
    | nil=>cases he
    | cons _ _=>simp
   have lrh:rs.length=hs.length:=T4.len
   obtain ⟨n,hn⟩:∃ n,rs.length=n+1:=⟨rs.length - 1,by omega⟩
   have hnr:n < rs.length:=by omega
   have hnh:n < hs.length:=by omega
   have h0r:0 < rs.length:=by omega
   have eL:rs[n]?=some rs[n]:=List.getElem?_eq_getElem hnr
   have e0r:rs[0]?=some rs[0]:=List.getElem?_eq_getElem h0r
   have iL:nR (rs.map V.ref) (-1)=some (.ref rs[n]):=wu (n:=n) (by rw [List.length_map];exact hn) (by rw [List.getElem?_map,eL];rfl)
   have i0:nR (rs.map V.ref) 0=some (.ref rs[0]):=dW (by omega) (by rw [List.getElem?_map];show Option.map V.ref rs[0]?=_;rw [e0r];rfl)
   have hne:hs[n]≠[]:=hS.ne _ (List.getElem_mem hnh)
   have hp0:0 < hs[n].length:=List.length_pos_iff.mpr hne
   obtain ⟨vs,yv,pp,T0,hv,eLast,T5,mpp,rfl,hT⟩:=T4.pop eL (List.getElem?_eq_getElem hnh) hne
   have fpp:=hS.few _ (List.getElem_mem hnh) pp mpp
   have S05:Same H (upd H4 rs[n] (.lst vs.dropLast)):=over S04 (frN _ (List.getElem_mem hnr))
   have l5:(hs.set n hs[n].dropLast).length=hs.length:=List.length_set
   have s5:=gP (h:=hs[n].dropLast) hnh
   rw [List.length_dropLast] at s5
   have w5:=iY (k:=n) hS.few (yx (hS.few _ (List.getElem_mem hnh)))
   walk_at "sts"
   refine bh (SqL.of T4.at_) iL ?_
   walk_at "sts"
   refine ⟨.inl ⟨rfl,_,SqL.of hv⟩,_,vs,_,rfl,rfl,hv,eLast,?_⟩
   generalize upd H4 rs[n] (.lst vs.dropLast)=H5 at T5 S05 hT ⊢
   generalize hs.set n hs[n].dropLast=hs5 at T5 l5 s5 w5
   walk_at "sts"
   refine ⟨z,y,.ref f,_,rfl,hz,hy,T5.rd,(jK w5 (by omega) (by omega)).ask,fun H6 S6=>?_⟩
   walk_at "sts"
   have T6:=T5.same S6
   have S06:=S05.trans S6
   have hT6:=S6 _ _ hT
   have h05:0 < hs5.length:=by omega
   have e05:hs5[0]?=some hs5[0]:=List.getElem?_eq_getElem h05
   obtain ⟨vs7,hv7,l7,T7⟩:=T6.push (i:=pp.1) (j:=pp.2) e0r e05 hT6
   have ll5:=pB h05 (by omega)
   have S07:Same H (upd H6 rs[0] (.lst (vs7 ++ [.ref T0]))):=over S06 (frN _ (List.getElem_mem h0r))
   have hT7:=TK.lst (o:=.lst (vs7 ++ [.ref T0])) hv7 _ _ hT6
   have l77:(hs5.set 0 (hs5[0] ++ [(pp.1,pp.2)])).length=hs5.length:=List.length_set
   have s7:=gP (h:=hs5[0] ++ [(pp.1,pp.2)]) h05
   rw [List.length_append,List.length_singleton] at s7
   have w7:=iY (k:=0) w5 (wO (p:=(pp.1,pp.2)) (w5 _ (List.getElem_mem h05)) fpp)
   have ne7:(hs5.set 0 (hs5[0] ++ [(pp.1,pp.2)]))[0]?=some (hs5[0] ++ [(pp.1,pp.2)]):=List.getElem?_set_self h05
   refine bh (SqL.of T6.at_) i0 ?_
   walk_at "sts"
   refine ⟨.inl ⟨rfl,_,SqL.of hv7⟩,?_⟩
   walk_at "sts"
   refine iz hv7 (by omega) ?_
   generalize upd H6 rs[0] (.lst (vs7 ++ [.ref T0]))=H7 at T7 S07 hT7 ⊢
   generalize hs5.set 0 (hs5[0] ++ [(pp.1,pp.2)])=hs7 at T7 l77 s7 w7 ne7
   walk_at "sts"
   refine ⟨z,y,.ref f,_,rfl,hz,hy,T7.rd,(jK w7 (by omega) (by omega)).ask,fun H8 S8=>?_⟩
   walk_at "sts"
   have T8:=T7.same S8
   have S08:=S07.trans S8
   have hT8:=S8 _ _ hT7
   have h07:0 < hs7.length:=by omega
   have g7:hs7[0]=hs5[0] ++ [(pp.1,pp.2)]:=(List.getElem?_eq_some_iff.mp ne7).2
   obtain ⟨vs9,yv9,pp9,T09,hv9,eLast9,T9,_,_,_⟩:=T8.pop e0r ne7 (by simp)
   have S09:Same H (upd H8 rs[0] (.lst vs9.dropLast)):=over S08 (frN _ (List.getElem_mem h0r))
   have hT9:=TK.lst (o:=.lst vs9.dropLast) hv9 _ _ hT8
   have l9:(hs7.set 0 (hs5[0] ++ [(pp.1,pp.2)]).dropLast).length=hs7.length:=List.length_set
   have s9:=gP (h:=(hs5[0] ++ [(pp.1,pp.2)]).dropLast) h07
   rw [List.length_dropLast,g7] at s9
   have w9:=iY (k:=0) w7 (yx (wO (p:=(pp.1,pp.2)) (w5 _ (List.getElem_mem h05)) fpp))
   refine bh (SqL.of T8.at_) i0 ?_
   walk_at "sts"
   refine ⟨.inl ⟨rfl,_,SqL.of hv9⟩,_,vs9,_,rfl,rfl,hv9,eLast9,?_⟩
   generalize upd H8 rs[0] (.lst vs9.dropLast)=H9 at T9 S09 hT9 ⊢
   generalize hs7.set 0 (hs5[0] ++ [(pp.1,pp.2)]).dropLast=hs9 at T9 l9 s9 w9
   have hn9:n < hs9.length:=by omega
   obtain ⟨vsA,hvA,lA,TA⟩:=T9.push (i:=pp.1) (j:=pp.2) eL (List.getElem?_eq_getElem hn9) hT9
   have llA:=pB hn9 (by omega)
   have S0A:Same H (upd H9 rs[n] (.lst (vsA ++ [.ref T0]))):=over S09 (frN _ (List.getElem_mem hnr))
   have l10:(hs9.set n (hs9[n] ++ [(pp.1,pp.2)])).length=hs9.length:=List.length_set
   have s10:=gP (h:=hs9[n] ++ [(pp.1,pp.2)]) hn9
   rw [List.length_append,List.length_singleton] at s10
   have w10:=iY (k:=n) w9 (wO (p:=(pp.1,pp.2)) (w9 _ (List.getElem_mem hn9)) fpp)
   walk_at "sts"
   refine bh (SqL.of T9.at_) iL ?_
   walk_at "sts"
   refine ⟨.inl ⟨rfl,_,SqL.of hvA⟩,?_⟩
   walk_at "sts"
   refine iz hvA (by omega) ?_
   walk_at "sts"
   refine ⟨z,y,.ref f,_,rfl,hz,hy,TA.rd,(jK w10 (by omega) (by omega)).ask,fun HB SB=>?_⟩
   exact q _ (S0A.trans SB)
end
section
variable {P:Program} {w:World} {K:PySem.W.Frag} {mg:Str→Option Value} {base:Heap}
theorem wQ {S P:List Nat}:∀ (n i j:Nat),i+j≤n→i≤S.length→j≤P.length→∀ k:Int,0≤k→k < lt S P i j→∃ p:PP,p.1 < i∧p.2 < j∧S[p.1]?=P[p.2]?∧lt S P p.1 p.2=k
 | _,0,j,_,_,_,k,h0,h1=>by rw [lt_0] at h1;omega
 | _,i+1,0,_,_,_,k,h0,h1=>by rw [Dq] at h1;omega
 | 0,i+1,j+1,h,_,_,_,_,_=>by omega
 | n+1,i+1,j+1,h,hi,hj,k,h0,h1=>by
  by_cases e:S[i]?=P[j]?
  ·rw [Bk e] at h1
   by_cases h2:k=lt S P i j
   ·exact ⟨(i,j),by show i < i+1;omega,by show j < j+1;omega,e,h2.symm⟩
   ·obtain ⟨p,a,b,c,d⟩:=wQ (S:=S) (P:=P) n i j (by omega) (by omega) (by omega) k h0 (by omega)
    exact ⟨p,by omega,by omega,c,d⟩
  ·rw [zE,if_neg e] at h1
   unfold mx at h1
   split at h1
   ·obtain ⟨p,a,b,c,d⟩:=wQ (S:=S) (P:=P) n (i+1) j (by omega) (by omega) (by omega) k h0 h1
    exact ⟨p,by omega,by omega,c,d⟩
   ·obtain ⟨p,a,b,c,d⟩:=wQ (S:=S) (P:=P) n i (j+1) (by omega) (by omega) (by omega) k h0 h1
    exact ⟨p,by omega,by omega,c,d⟩
theorem yz (f:PP→Int) (ps:List PP):∀ L:Nat,((List.range L).map fun (k:Nat)=>ps.filter fun p=>decide (f p=(k:Int))).flatten.Perm (ps.filter fun p=>decide (0≤f p) && decide (f p < (L:Int)))
 | 0=>by
  have:(ps.filter fun p=>decide (0≤f p) && decide (f p < ((0:Nat):Int)))=[]:=by
   rw [List.filter_eq_nil_iff]
   intro p _
   simp
  rw [this];exact .nil
 | L+1=>by
  rw [List.range_succ,List.map_append,List.flatten_append]
  refine ((yz f ps L).append_right _).trans ?_
  have key:=List.filter_append_perm (fun p=>decide (f p < (L:Int))) (ps.filter fun p=>decide (0≤f p) && decide (f p < ((L+1:Nat):Int)))
  rw [List.filter_filter,List.filter_filter] at key
  have e1:(ps.filter fun a=>decide (f a < (L:Int)) && (decide (0≤f a) && decide (f a < ((L+1:Nat):Int))))=ps.filter fun p=>decide (0≤f p) && decide (f p < (L:Int)):=by
   refine List.filter_congr fun p _=>?_
   rw [Bool.eq_iff_iff]
   simp
   omega
  have e2:(ps.filter fun a=>(!decide (f a < (L:Int))) && (decide (0≤f a) && decide (f a < ((L+1:Nat):Int))))=ps.filter fun p=>decide (f p=(L:Int)):=by
   refine List.filter_congr fun p _=>?_
   rw [Bool.eq_iff_iff]
   simp
   omega
  rw [e1,e2] at key
  simpa using key
theorem IV {S P:List Nat} {m n:Nat} (hn:n=P.length):(lev S P (lt S P m n).toNat (prs S P m)).flatten.Perm (prs S P m):=by
 have h:=yz (fun p=>lt S P p.1 p.2) (prs S P m) (lt S P m n).toNat
 have e:((prs S P m).filter fun p=>decide (0≤lt S P p.1 p.2) && decide (lt S P p.1 p.2 < (((lt S P m n).toNat:Nat):Int)))=prs S P m:=by
  rw [List.filter_eq_self]
  intro p hp
  obtain ⟨a,b⟩:=Bl hn hp
  rw [decide_eq_true a,decide_eq_true (by omega)];rfl
 rw [e] at h
 exact h
theorem RT {S P:List Nat} {h:List PP} (hh:h∈lev S P (lt S P S.length P.length).toNat (prs S P S.length)):h≠[]:=by
 unfold lev at hh
 obtain ⟨k,hk,rfl⟩:=List.mem_map.mp hh
 have hk':=List.mem_range.mp hk
 obtain ⟨p,a,b,c,d⟩:=wQ (S:=S) (P:=P) _ S.length P.length (Nat.le_refl _) (Nat.le_refl _) (Nat.le_refl _) (k:Int) (by omega) (by omega)
 intro z
 have:p∈(prs S P S.length).filter fun p=>decide (lt S P p.1 p.2=(k:Int)):=List.mem_filter.mpr ⟨uh a b c,decide_eq_true d⟩
 rw [z] at this
 cases this
theorem IW {S P:List Nat} {h:List PP} {L m:Nat} (hh:h∈lev S P L (prs S P m)):∀ p∈h,∀ q∈h,¬ Ah p q:=by
 unfold lev at hh
 obtain ⟨k,hk,rfl⟩:=List.mem_map.mp hh
 intro p hp q hq ha
 obtain ⟨p1,p2⟩:=List.mem_filter.mp hp
 obtain ⟨q1,q2⟩:=List.mem_filter.mp hq
 have e1:=of_decide_eq_true p2
 have e2:=of_decide_eq_true q2
 have e3:=Bk (il p1).2.2
 have:lt S P (p.1+1) (p.2+1)≤lt S P q.1 q.2:=Hu (by have:=ha.1;omega) (by have:=ha.2;omega)
 omega
theorem Mj:∀ hs:List (List PP),(hs.map List.length).sum=hs.flatten.length
 | []=>rfl
 | h :: hs=>by simp
structure GH (z y:Str) (hs:List (List PP)):Prop where
 ne:∀ h∈hs,h≠[]
 pm:hs.flatten.Perm (prs z.cps.toList y.cps.toList z.length)
 an:∀ h∈hs,∀ p∈h,∀ q∈h,¬ Ah p q
 ln:hs.length≤48
theorem GH.lev {z y:Str} (hz:z.length≤48):GH z y (lev z.cps.toList y.cps.toList (lt z.cps.toList y.cps.toList z.length y.length).toNat (prs z.cps.toList y.cps.toList z.length)):=by
 have l1:z.length=z.cps.toList.length:=dj z
 have l2:y.length=y.cps.toList.length:=dj y
 refine ⟨fun h hh=>?_,IV l2,fun h hh=>IW hh,?_⟩
 ·rw [l1,l2] at hh
  exact RT hh
 ·rw [o7]
  have:=zF z.cps.toList y.cps.toList z.length y.length
  omega
theorem Ja (hs:List (List PP)):(hs.map List.reverse).reverse.flatten=hs.flatten.reverse:=by
 induction hs with
 | nil=>rfl
 | cons h hs ih=>rw [List.map_cons,List.reverse_cons,List.flatten_append,ih];simp
theorem GH.rev {z y:Str} {hs:List (List PP)} (g:GH z y hs):GH z y (hs.map List.reverse).reverse:=by
 have mem:∀ h∈(hs.map List.reverse).reverse,∃ h0∈hs,h=h0.reverse:=fun h hh=>by
  obtain ⟨h0,h1,h2⟩:=List.mem_map.mp (List.mem_reverse.mp hh)
  exact ⟨h0,h1,h2.symm⟩
 refine ⟨fun h hh=>?_,?_,fun h hh=>?_,by simpa using g.ln⟩
 ·obtain ⟨h0,h1,rfl⟩:=mem h hh
  intro z
  exact g.ne h0 h1 (List.reverse_eq_nil_iff.mp z)
 ·rw [Ja]
  exact (List.reverse_perm _).trans g.pm
 ·obtain ⟨h0,h1,rfl⟩:=mem h hh
  intro p hp q hq
  exact g.an h0 h1 p (List.mem_reverse.mp hp) q (List.mem_reverse.mp hq)
theorem Bv {z y:Str} (hz:z.length≤48) (hy:y.length≤48):(prs z.cps.toList y.cps.toList z.length).length≤2304:=by
 have:=rK z.cps.toList y.cps.toList z.length
 have l2:y.length=y.cps.toList.length:=dj y
 have:z.length*y.cps.toList.length≤48*48:=Nat.mul_le_mul hz (by omega)
 omega
theorem GH.hs {z y:Str} {hs:List (List PP)} (g:GH z y hs) (hz:z.length≤48) (hy:y.length≤48):HS hs:=by
 have l2:y.length=y.cps.toList.length:=dj y
 refine ⟨g.ne,fun h hh x hx=>?_,by have:=g.ln;omega,?_⟩
 ·have:=il (g.pm.mem_iff.mp (List.mem_flatten.mpr ⟨h,hh,hx⟩))
  omega
 ·rw [Mj,g.pm.length_eq]
  exact Bv hz hy
theorem GH.good {z y:Str} {hs:List (List PP)} (g:GH z y hs):gD z y (.list (hs.map hD))=true:=Ib g.ne g.pm g.an
end
section
variable {P:Program} {w:World} {K:PySem.W.Frag} {mg:Str→Option Value} {base:Heap}
theorem Jb:(["_law_pair_here"]:List Str).Nodup:=by decide+kernel
theorem Jc:(["_law_heap"]:List Str).Nodup:=by decide+kernel
theorem V6:bV cW "_law_script":=by decide+kernel
theorem kz5b:cM cW "_law_cell":=by decide+kernel
theorem V7:bV cW "_law_cell_here":=by decide+kernel
theorem V8:cM cW "_law_right":=by decide+kernel
theorem V9:bV cW "_law_split":=by decide+kernel
theorem zO:bV cW "_law_top":=by decide+kernel
theorem zP:bV cW "_law_side":=by decide+kernel
theorem kz5h:cM cW "_law_pairs":=by decide+kernel
theorem kz5i:cM cW "range":=by decide+kernel
theorem kz5j:bV cW "_law_k":=by decide+kernel
theorem kz5k:cM cW "_law_spoilt":=by decide+kernel
theorem Ml:bV cW "_law_heaps":=by decide+kernel
theorem DP:bV cW "_law_purse_here":=by decide+kernel
theorem kz5n:cM cW "_law_are_heaps":=by decide+kernel
theorem kz5o:cM cW "_law_changed":=by decide+kernel
theorem kz5p:cM cW "_law_levels":=by decide+kernel
theorem Wa:cM cW "_law_row":=by decide+kernel
theorem RV:bV cW "_law_most":=by decide+kernel
theorem RW:bV cW "_law_letters_here":=by decide+kernel
theorem kz5t:cM cW "_law_take":=by decide+kernel
theorem kz5u:cM cW "_law_letters":=by decide+kernel
theorem kz5v:cM cW "_law_purse":=by decide+kernel
theorem Mm (ns:List Int) (lo hi:Option Int):∃ ms:List Int,lR (ns.map V.int) lo hi=ms.map V.int:=by
 unfold lR
 exact ⟨_,by rw [← List.map_drop,← List.map_take]⟩
theorem kW {H:Hp}:∀ {ds:List PyData} {vs:List V},RDs H ds vs→RDs H ds.reverse vs.reverse
 | [],vs,h=>by rw [aK] at h;subst h;exact aK.mpr rfl
 | d :: ds,vs,h=>by
  rw [cH] at h
  obtain ⟨v,r,rfl,h1,h2⟩:=h
  rw [List.reverse_cons,List.reverse_cons]
  exact aN (kW h2) (aZ h1 (aK.mpr rfl))
theorem Jd {H:Hp} {p:Addr} {ps:List PP} {vs:List V} (hP:Pur H p) (h:DRs H (ps.map pD) vs):RDs (Hx p H) (ps.map pD) vs:=
 wN (gf (fun b xs e=>iW e fun z=>by
  obtain ⟨x,y,w,e2,_⟩:=hP
  rw [z,e2] at e
  cases e) _ _ h)
def Np (K:PySem.W.Frag):Sp:=fun vs H Q _=>∃ (a:Addr) (ns:List Int),vs=[.ref a]∧SqL K H a (ns.map V.int)∧ns.length≤63∧∀ H',Q (.bl true) H'
theorem jh:aP ["_law_script","_law_cell_here","_law_purse_here","_law_letters_here","_law_most","_law_side","_law_top","_law_heaps","_law_k","_law_split"] ["_law_script"] (au cW):=⟨rfl,rfl,rfl,by decide+kernel,rfl,by decide+kernel,by decide+kernel⟩
theorem RX (T:Txt K mg) {f0:Addr} {fd0:FuncData} (F0:Fun K "law" "law" cW f0 fd0):pJ P w K mg base yP 10 f0 fd0 ["_law_script"] (Np K):=by
 have kh:=kh (P:=P) (w:=w) (base:=base) T
 have jd:=jd (P:=P) (w:=w) (base:=base) T
 have lO:=lO (P:=P) (w:=w) (base:=base) T
 have nu:=nu (P:=P) (w:=w) (base:=base) T
 have aC:=aC (P:=P) (w:=w) (base:=base) T
 have cF:=cF (P:=P) (w:=w) (base:=base) T
 have jg:=jg (P:=P) (w:=w) (base:=base) T
 have cN:=cN (P:=P) (w:=w) (base:=base) T
 have cY:=cY (P:=P) (w:=w) (base:=base) T
 have jD:=jD (P:=P) (w:=w) (base:=base) T
 have jG:=jG (P:=P) (w:=w) (base:=base) T
 refine okJ F0 jh ?_ fun f cdv A outer s H vs Q E hr h=>?_
 ·rintro vs H Q E ⟨a,ns,rfl,_⟩;rfl
 obtain ⟨a,ns,rfl,hS,hlen,q⟩:=h
 have hu:=hr.units0
 have hu64:=hr.units
 refine ⟨_,(aq (d9 PassesOwn.never rfl (dB (K:=K) rfl (bu aH (cI (cU (K:=K) rfl) (ak 0 V6) bT (b7 az)) (bU (aa (aL nu (hr.mono (by decide)) (bL kz5b) (aa (ak 0 V6) (aa az aj)) (by decide+kernel)) aj)))) (bO (i:=1) jh.nd rfl (Or.inl V7) rfl) (aq (aR (i:=2) jh.nd rfl (Or.inl DP) (aL kh (hr.mono (by decide)) (bL kz5v) (aa (ak 1 V7) aj) (by decide+kernel)) rfl) (aq (aR (i:=3) jh.nd rfl (Or.inl RW) (aL jd (hr.mono (by decide)) (bL kz5u) (aa (ak 2 DP) aj) (by decide+kernel)) rfl) (aq (aR (i:=4) jh.nd rfl (Or.inl RV) (bB (K:=K) rfl (bU (aa az (aa az (aa az (aa az aj))))) (aL aC (hr.mono (by decide)) (bL kz5t) (aa (ak 2 DP) (aa az aj)) (by decide+kernel))) rfl) (aq (aR (i:=5) jh.nd rfl (Or.inl zP) (aL lO (hr.mono (by decide)) (bL Wa) (aa (ak 2 DP) (aa (ak 3 RW) (aa (ak 4 RV) aj))) (by decide+kernel)) rfl) (aq (aR (i:=6) jh.nd rfl (Or.inl zO) (aL lO (hr.mono (by decide)) (bL Wa) (aa (ak 2 DP) (aa (ak 3 RW) (aa (ak 4 RV) aj))) (by decide+kernel)) rfl) (aq (aR (i:=7) jh.nd rfl (Or.inl Ml) (vq (K:=K) rfl (iZ (sub:=[none]) (cQ (N:=["_law_script","_law_cell_here","_law_purse_here","_law_letters_here","_law_most","_law_side","_law_top","_law_heaps","_law_k","_law_split"]) (sc:=au cW) (N':=["_law_heap"]) (by decide+kernel)) rfl rfl rfl (dB (K:=K) rfl (aL jD (hr.mono (by decide)) (bL kz5p) (aa (ak 5 zP) (aa (ak 6 zO) aj)) (by decide+kernel))) (fun C s₀ H₀ ex=>(mJ 0 (by decide+kernel) Jc)) (fun C s₀ H₀ ex=>fc) (fun C s₀ H₀ ex=>(vq (K:=K) rfl (g8 0 (by decide+kernel)) bT bT (b7 (xJ jR az))))) bT bT (b7 (xJ jR az))) rfl) (aq (bZ (mj (jH (c7 (cG (aL jg (hr.mono (by decide)) (bL kz5o) (aa (ak 5 zP) (aa (ak 6 zO) (aa (ak 7 Ml) aj))) (by decide+kernel)))) (jo (c7 (cG (aL cN (hr.mono (by decide)) (bL kz5n) (aa (ak 5 zP) (aa (ak 6 zO) (aa (ak 7 Ml) aj))) (by decide+kernel))))))) (aA (aG gJ)) bC) (aq (d9 PassesOwn.never rfl (fK (bL kz5i) T.b_range (aa az aj)) (bO (i:=8) jh.nd rfl (Or.inl kz5j) rfl) (aA (bZ (c7 (cG (aL cF (hr.mono (by decide)) (bL V8) (aa (ak 5 zP) (aa (ak 6 zO) (aa (aL jG (hr.mono (by decide)) (bL kz5k) (aa (ak 2 DP) (aa (ak 7 Ml) aj)) (by decide+kernel)) aj))) (by decide+kernel)))) (aA (aG gJ)) bC))) (aq (rD (i:=9) jh.nd rfl (Or.inl V9) (sub:=[none]) (cQ (N:=["_law_script","_law_cell_here","_law_purse_here","_law_letters_here","_law_most","_law_side","_law_top","_law_heaps","_law_k","_law_split"]) (sc:=au cW) (N':=["_law_pair_here"]) (by decide+kernel)) rfl rfl rfl (dB (K:=K) rfl (aL cY (hr.mono (by decide)) (bL kz5h) (aa (ak 5 zP) (aa (ak 6 zO) aj)) (by decide+kernel))) (fun C s₀ H₀ ex=>(mJ 0 (by decide+kernel) Jb)) (fun C s₀ H₀ ex=>fc) (fun C s₀ H₀ ex=>(bU (aa (g8 0 (by decide+kernel)) aj))) rfl) (aA (bZ (c7 (cG (aL cF (hr.mono (by decide)) (bL V8) (aa (ak 5 zP) (aa (ak 6 zO) (aa (ak 9 V9) aj))) (by decide+kernel)))) (aA (aG gJ)) bC)))))))))))) (aA (aG gJ))),?_⟩
 walk_at "sts"
 have hs5:20000≤sizeLine:=by decide
 refine .inl (Gh hS fun m1 n1=>?_)
 obtain ⟨ms,hms⟩:=Mm ns none (some 6)
 have lm:ms.length≤63:=by
  have:=jU (ns.map V.int) none (some 6)
  rw [hms] at this
  simp at this
  omega
 rw [hms]
 walk_at "sts"
 refine ⟨a,ns,6,rfl,((Same.refl H).upd n1).seq hS,by omega,fun c5=>?_⟩
 walk_at "sts"
 refine aX rfl fun m2 G2 n2 S2 g2=>?_
 walk_at "sts"
 refine yZ (S2 _ _ ao) g2 (by simp;omega) fun L n3=>?_
 have e3:ms.map V.int ++ [V.int c5]=(ms ++ [c5]).map V.int:=by simp
 rw [e3]
 refine .inl ⟨L,rfl,⟨_,SqL.of ao⟩,?_⟩
 refine gG (xs:=(ms ++ [c5]).map V.int) (fun i σ H'=>H' L=some (.lst ((ms ++ [c5]).map V.int))∧∃ x1 x2 x3 x4 x5 x6 x7 x8 x9,σ=[some (.ref a),x1,x2,x3,x4,x5,x6,x7,x8,x9])
  ⟨ao,none,none,none,none,none,none,none,none,none,rfl⟩ (fun i σ H' _ h=>SqL.of h.1) ?_ ?_
 ·rintro i y σ H1 hi ⟨hL,x1,x2,x3,x4,x5,x6,x7,x8,x9,rfl⟩
  obtain ⟨n,rfl⟩:∃ n,y=V.int n:=by
   rw [List.getElem?_map] at hi
   cases e:(ms ++ [c5])[i]? with
   | none=>rw [e] at hi;cases hi
   | some n=>rw [e] at hi;exact ⟨n,(Option.some.inj hi).symm⟩
  walk_at "sts"
  refine ⟨n,rfl,fun p H2 hp C2 P2=>?_⟩
  walk_at "sts"
  have nLp:L≠p:=fun z=>by rw [z,hp] at hL;cases hL
  have hL2:=C2.at_ hL nLp
  refine ⟨p,rfl,P2,fun r ys H3 nr P3 C3 hr3 hne hle hg=>?_⟩
  walk_at "sts"
  have hL3:=C3.at_ hL2 nLp
  refine aX rfl fun m5 G5 n5 S5 g5=>?_
  walk_at "sts"
  have P5:=aV P3 S5
  refine ⟨p,4,rfl,P5,by omega,by omega,fun c H6 c0 c1 P6 C6=>?_⟩
  walk_at "sts"
  obtain ⟨t,htm,et⟩:=Gd (vs:=[.int 8,.int 12,.int 16,.int 48]) (d:=c) c0 (by simpa using c1)
  have hL6:=C6.at_ (S5 _ _ hL3) nLp
  have hr6:=C6.at_ (S5 _ _ hr3) (HW P3 hr3)
  refine bh (SqL.of (C6.at_ g5 (P3.ne n5))) et ?_
  walk_at "sts"
  obtain ⟨mo,rfl,mo0,mo1⟩:∃ mo:Int,t= .int mo∧0≤mo∧mo≤48:=by
   simp only [List.mem_cons,List.mem_nil_iff,or_false] at htm
   rcases htm with rfl | rfl | rfl | rfl <;> exact ⟨_,rfl,by omega,by omega⟩
  refine ⟨p,r,ys,mo,rfl,P6,hr6,hne,by omega,hg,by omega,by omega,fun side H7 hs P7 C7=>?_⟩
  walk_at "sts"
  have hL7:=C7.at_ hL6 nLp
  have hr7:=C7.at_ hr6 (HW P6 hr6)
  refine ⟨p,r,ys,mo,rfl,P7,hr7,hne,by omega,hg,by omega,by omega,fun top H8 ht P8 C8=>?_⟩
  walk_at "sts"
  have hL8:=C8.at_ hL7 nLp
  have lz:=hs.1
  have ly:=ht.1
  refine ⟨side,top,rfl,hs,ht,fun D rs H9 nD frs S9 TT=>?_⟩
  walk_at "sts"
  have P9:=aV P8 S9
  have hL9:=S9 _ _ hL8
  have GH0:=GH.lev (y:=top) lz
  generalize lev side.cps.toList top.cps.toList (lt side.cps.toList top.cps.toList side.length top.length).toNat (prs side.cps.toList top.cps.toList side.length)=levs at TT GH0
  have lrs:=TT.len
  have ll:=GH0.ln
  have HS0:=GH0.hs lz ly
  have GH1:=GH0.rev
  have HS1:=GH1.hs lz ly
  have hs0a:=HS0.all
  refine .inl ⟨D,rfl,⟨_,SqL.of TT.at_⟩,?_⟩
  refine fJ (xs:=rs.map V.ref) (fun i ys H'=>Same H9 H'∧RDs (Hx p H') (((levs.map List.reverse).take i).map hD) ys) (by rw [List.length_map];omega) ⟨Same.refl _,aK.mpr rfl⟩ ?_ ?_ ?_ ?_
  ·rintro i ys H' ⟨_,h⟩
   have:=bA h
   simp only [List.length_map,List.length_take] at this
   omega
  ·rintro i ys H' ⟨S1,_⟩
   exact SqL.of (S1 _ _ TT.at_)
  ·rintro i ys HA x hx ⟨SA,rA⟩
   rw [List.getElem?_map] at hx
   obtain ⟨ri,eri,rfl⟩:=Option.map_eq_some_iff.mp hx
   have hi':i < levs.length:=by have:=(List.getElem?_eq_some_iff.mp eri).1;omega
   have ell:levs[i]?=some levs[i]:=List.getElem?_eq_getElem hi'
   obtain ⟨vs,hv,hvl,hvd⟩:=((TT.same SA).row i ri _ eri ell).len
   have lev1:=pB hi' hs0a
   have PA:=aV P9 SA
   walk_at "sts"
   refine ⟨KeepSt.set rfl,?_⟩
   walk_at "sts"
   try with_reducible refine jn ?_
   walk_at "sts"
   refine ⟨ri,vs,-1,rfl,rfl,by decide,SqL.of hv,by rw [oR,List.length_reverse];omega,fun m nm=>?_⟩
   rw [oR]
   have SB:=(Same.refl HA).upd (o:=.lst vs.reverse) nm
   refine ⟨SA.trans SB,?_⟩
   rw [List.take_add_one,List.getElem?_map,ell,List.map_append]
   refine aN (RDs.same (bQ SB) _ _ rA) (aZ (aJ.mpr ⟨m,_,rfl,iW ao (PA.ne nm),?_⟩) (aK.mpr rfl))
   rw [List.map_reverse]
   exact kW (RDs.same (bQ SB) _ _ (Jd PA hvd))
  ·rintro us HA ⟨SA,rA⟩ D2 nD2
   rw [List.length_map,lrs,List.take_of_length_le (by simp)] at rA
   have lus:=bA rA
   simp only [List.length_map] at lus
   have SB:=(Same.refl HA).upd (o:=.lst us) nD2
   walk_at "sts"
   refine ⟨D2,us,-1,rfl,rfl,by decide,SqL.of ao,by rw [oR,List.length_reverse];omega,fun F nF=>?_⟩
   rw [oR]
   have S9B:=(SA.trans SB).upd (o:=.lst us.reverse) nF
   have PB:=aV P9 S9B
   have nFp:F≠p:=(aV P9 (SA.trans SB)).ne nF
   have RF:RD (Hx p (upd (upd HA D2 (.lst us)) F (.lst us.reverse))) (.list ((levs.map List.reverse).reverse.map hD)) (.ref F):=by
    refine aJ.mpr ⟨F,_,rfl,iW ao nFp,?_⟩
    rw [List.map_reverse]
    exact RDs.same (bQ (SB.upd nF)) _ _ (kW rA)
   generalize upd (upd HA D2 (.lst us)) F (.lst us.reverse)=HB at S9B PB RF ⊢
   have hLB:=S9B _ _ hL9
   generalize (levs.map List.reverse).reverse=hh at GH1 HS1 RF
   have ask1:=(jK HS1.few (by have:=HS1.len;omega) (by have:=HS1.all;omega)).ask
   walk_at "sts"
   refine ⟨side,top,F,hh,rfl,hs,ht,RD.same (d7 _ _) _ _ RF,HS1,fun HC SC=>?_⟩
   walk_at "sts"
   have RFC:=RD.same (bQ (p:=p) SC) _ _ RF
   refine ⟨side,top,.ref F,_,rfl,hs,ht,RD.same (d7 _ _) _ _ RFC,ask1.hb,ask1.hl,fun HD SD=>?_⟩
   walk_at "sts"
   rw [GH1.good]
   walk_at "sts"
   refine ⟨_,rfl,by omega,by omega,?_⟩
   refine kY (fun i σ H'=>H' L=some (.lst ((ms ++ [c5]).map V.int))∧Pur H' p∧RD (Hx p H') (.list (hh.map hD)) (.ref F)∧∃ x8 x9,σ=[some (.ref a),some (.int n),some (.ref p),some (.ref r),some (.int mo),some (.str side),some (.str top),some (.ref F),x8,x9])
    ⟨SD _ _ (SC _ _ hLB),aV (aV PB SC) SD,RD.same (bQ SD) _ _ RFC,_,_,rfl⟩ ?_ ?_
   ·rintro k σ HE hk ⟨hLE,PE,RE,x8,x9,rfl⟩
    walk_at "sts"
    refine ⟨p,F,hh,rfl,PE,RE,HS1,fun v d HF rv ask PF CF=>?_⟩
    walk_at "sts"
    refine ⟨side,top,v,d,rfl,hs,ht,RD.same (d7 _ _) _ _ rv,ask,fun HG SG=>?_⟩
    walk_at "sts"
    exact ⟨SG _ _ (CF.at_ hLE nLp),aV PF SG,RD.same (bQ SG) _ _ (VM RE CF),_,_,rfl⟩
   ·rintro σ HE ⟨hLE,PE,RE,x8,x9,rfl⟩
    walk_at "sts"
    refine ⟨side,top,rfl,hs,ht,fun q1 HF nq1 SF PL3=>?_⟩
    walk_at "sts"
    obtain ⟨vs,hv,hvl,hvd⟩:=PL3.len
    have pf:=Bv lz ly
    refine .inl ⟨q1,rfl,⟨_,SqL.of hv⟩,?_⟩
    refine fJ (xs:=vs) (fun i ys H'=>Same HF H'∧RDs H' ((((prs side.cps.toList top.cps.toList side.length).take i).map fun x=>[x]).map hD) ys) (by omega) ⟨Same.refl _,aK.mpr rfl⟩ ?_ ?_ ?_ ?_
    ·rintro i ys H' ⟨_,h⟩
     have:=bA h
     simp only [List.length_map,List.length_take] at this
     omega
    ·rintro i ys H' ⟨S1,_⟩
     exact SqL.of (S1 _ _ hv)
    ·rintro i ys HG x hx ⟨SG,rG⟩
     obtain ⟨pp,b,ep,rfl,hb⟩:=PL.at_ (q:=q1) hvd hx
     walk_at "sts"
     refine ⟨KeepSt.set rfl,?_⟩
     walk_at "sts"
     try with_reducible refine jn ?_
     walk_at "sts"
     refine aX rfl fun m HH nm SH gm=>⟨SG.trans SH,?_⟩
     rw [List.take_add_one,ep,List.map_append,List.map_append]
     refine aN (RDs.same SH _ _ rG) (aZ (aJ.mpr ⟨m,_,rfl,gm,aZ (ir.mpr ⟨b,rfl,(SG.trans SH) _ _ hb⟩) (aK.mpr rfl)⟩) (aK.mpr rfl))
    ·rintro us2 HG ⟨SG,rG⟩ D3 nD3
     rw [hvl,List.take_length] at rG
     have l2:top.length=top.cps.toList.length:=dj top
     have SH:=(Same.refl HG).upd (o:=.lst us2) nD3
     have sm1:∀ l:List PP,((l.map fun x=>[x]).map List.length).sum=l.length:=fun l=>by
      induction l with
      | nil=>rfl
      | cons a l ih=>simp only [List.map_cons,List.sum_cons,ih,List.length_cons,List.length_nil];omega
     walk_at "sts"
     refine ⟨side,top,.ref D3,_,rfl,hs,ht,aJ.mpr ⟨D3,us2,rfl,ao,RDs.same SH _ _ rG⟩,(jK (fun h hh' x hx=>?_) (by rw [List.length_map];omega) (by rw [sm1];omega)).ask,fun HI SI=>?_⟩
     ·obtain ⟨x0,hx0,rfl⟩:=List.mem_map.mp hh'
      rw [List.mem_singleton.mp hx]
      have:=il hx0
      omega
     ·walk_at "sts"
      exact ⟨(((SF.trans SG).trans SH).trans SI) _ _ hLE,_,_,_,_,_,_,_,_,_,rfl⟩
 ·rintro σ H1 ⟨hL,x1,x2,x3,x4,x5,x6,x7,x8,x9,rfl⟩
  walk_at "sts"
  exact q _
end
end My
def PySem.W.Fast.tw7817164145230770705:Nat:=0
def PySem.W.Fast.tw15551469666069879539:Nat:=0
def PySem.W.Fast.tw16226849335812484376:Nat:=0
def PySem.W.Fast.tw11417232819737220596:Nat:=0
def PySem.W.Fast.tw9749058973001682750:Nat:=0
def PySem.W.Fast.tw17491988544551222195:Nat:=0
def PySem.W.Fast.tw5825920646759834172:Nat:=0
def PySem.W.Fast.tw3939676990181068880:Nat:=0
def PySem.W.Fast.tw1806597013195930726:Nat:=0
def PySem.W.Fast.tw13918720948600488963:Nat:=0
def PySem.W.Fast.tw5997049644968024843:Nat:=0
def PySem.W.Fast.tw5036988449493621060:Nat:=0
def PySem.W.Fast.tw15648957828775772533:Nat:=0
def PySem.W.Fast.tw17919287704562539573:Nat:=0
def PySem.W.Fast.tw11443209105502434795:Nat:=0
def PySem.W.Fast.tw17797443010904251124:Nat:=0
def PySem.W.Fast.tw6830742262597424396:Nat:=0
def PySem.W.Fast.tw11442567745748645615:Nat:=0
def PySem.W.Fast.tw14612472258487127204:Nat:=0
def PySem.W.Fast.tw742561031891261960:Nat:=0
def PySem.W.Fast.tw13290335462617124930:Nat:=0
def PySem.W.Fast.tw17194727813298974601:Nat:=0
def PySem.W.Fast.tw12778549228843874405:Nat:=0
def PySem.W.Fast.tw8301308756670205296:Nat:=0
def PySem.W.Fast.tw3813790322881439911:Nat:=0
def PySem.W.Fast.tw12897657322080843490:Nat:=0
def PySem.W.Fast.tw10875045993056871664:Nat:=0
def PySem.W.Fast.tw10927227233610652919:Nat:=0
def PySem.W.Fast.tw15695072452832484555:Nat:=0
def PySem.W.Fast.tw7579003546271379939:Nat:=0
def PySem.W.Fast.tw1566359345519187866:Nat:=0
def PySem.W.Fast.tw4666043382429638407:Nat:=0
def PySem.W.Fast.tw10038394060471692201:Nat:=0
def PySem.W.Fast.tw9928562109239503780:Nat:=0
def PySem.W.Fast.tw7052933653947947388:Nat:=0
def PySem.W.Fast.tw8491928945676950547:Nat:=0
def PySem.W.Fast.tw13137227362344582950:Nat:=0
def PySem.W.Fast.tw9174473864104271144:Nat:=0
def PySem.W.Fast.tw11604901040199532654:Nat:=0
def PySem.W.Fast.tw3123487261199003001:Nat:=0
def PySem.W.Fast.tw13343510689612422630:Nat:=0
def PySem.W.Fast.tw10611730457185310872:Nat:=0
def PySem.W.Fast.tw16262593685049018317:Nat:=0
def PySem.W.Fast.tw9745421367844475832:Nat:=0
def PySem.W.Fast.tw2375143374814713987:Nat:=0
def PySem.W.Fast.tw15624790949692895605:Nat:=0
def PySem.W.Fast.tw16435567016326334950:Nat:=0
def PySem.W.Fast.tw7658945448442442979:Nat:=0
def PySem.W.Fast.tw12290282537797165716:Nat:=0
def PySem.W.Fast.tw11499118502464631115:Nat:=0
def PySem.W.Fast.tw13847363088379365434:Nat:=0
def PySem.W.Fast.tw14593212611500811147:Nat:=0
def PySem.W.Fast.tw10862310974258134542:Nat:=0
def PySem.W.Fast.tw4104806921454872478:Nat:=0
def PySem.W.Fast.tw3624456192722050025:Nat:=0
def PySem.W.Fast.tw16816582965645137161:Nat:=0
def PySem.W.Fast.tw7658922416861707357:Nat:=0
def PySem.W.Fast.tw16481817743338261752:Nat:=0
def PySem.W.Fast.tw6776607751860142842:Nat:=0
def PySem.W.Fast.tw8462741706336294050:Nat:=0
def PySem.W.Fast.tw5667495285534594207:Nat:=0
def PySem.W.Fast.tw12422062871652632814:Nat:=0
def PySem.W.Fast.tw1559155875173579121:Nat:=0
def PySem.W.Fast.tw12177150555800036119:Nat:=0
def PySem.W.Fast.tw9842000068056965277:Nat:=0
def PySem.W.Fast.tw11829928005956606594:Nat:=0
def PySem.W.Fast.tw4214560886619515857:Nat:=0
def PySem.W.Fast.tw9538381545373730334:Nat:=0
def PySem.W.Fast.tw5161189809439059121:Nat:=0
def PySem.W.Fast.tw11754702683934543030:Nat:=0
def PySem.W.Fast.tw16911931068712880362:Nat:=0
def PySem.W.Fast.tw17129231872830097002:Nat:=0
def PySem.W.Fast.tw3653902187769208028:Nat:=0
def PySem.W.Fast.tw13919353894271892337:Nat:=0
def PySem.W.Fast.tw4171430334364339400:Nat:=0
def PySem.W.Fast.tw12627887644904270699:Nat:=0
def PySem.W.Fast.tw16125983928474681165:Nat:=0
def PySem.W.Fast.tw2793820355434871672:Nat:=0
def PySem.W.Fast.tw741446221859018288:Nat:=0
def PySem.W.Fast.tw18084847724617556822:Nat:=0
def PySem.W.Fast.tw3830926969760055955:Nat:=0
def PySem.W.Fast.tw17783366415223914391:Nat:=0
def PySem.W.Fast.tw15459050640621382668:Nat:=0
def PySem.W.Fast.tw10187879636567469258:Nat:=0
def PySem.W.Fast.tw1787002093262264819:Nat:=0
def PySem.W.Fast.tw12789464486378070509:Nat:=0
def PySem.W.Fast.tw12193504925813429529:Nat:=0
def PySem.W.Fast.tw12610623016516109987:Nat:=0
def PySem.W.Fast.tw8007956648875614618:Nat:=0
def PySem.W.Fast.tw2400388134149099295:Nat:=0
def PySem.W.Fast.tw803293467467459101:Nat:=0
def PySem.W.Fast.tw10955629747625519724:Nat:=0
def PySem.W.Fast.tw11061512385689427483:Nat:=0
def PySem.W.Fast.tw12681007568873459474:Nat:=0
def PySem.W.Fast.tw16917473226347186134:Nat:=0
def PySem.W.Fast.tw4195140043871504398:Nat:=0
def PySem.W.Fast.tw7934036750376601743:Nat:=0
def PySem.W.Fast.tw2074242063211419361:Nat:=0
def PySem.W.Fast.tw2414245797827692655:Nat:=0
def PySem.W.Fast.tw8358739524483993595:Nat:=0
def PySem.W.Fast.tw608392324963697739:Nat:=0
def PySem.W.Fast.tw6703874118821468037:Nat:=0
def PySem.W.Fast.tw253866873938889723:Nat:=0
def PySem.W.Fast.tw9508924021995430350:Nat:=0
def PySem.W.Fast.tw12516699856999546914:Nat:=0
def PySem.W.Fast.tw12751154937569394487:Nat:=0
def PySem.W.Fast.tw13937426427871911438:Nat:=0
def PySem.W.Fast.tw8931633762934576558:Nat:=0
def PySem.W.Fast.tw7443847724222014316:Nat:=0
def PySem.W.Fast.tw7709990432324949043:Nat:=0
def PySem.W.Fast.tw4523811821456788706:Nat:=0
def PySem.W.Fast.tw13947032899931069023:Nat:=0
def PySem.W.Fast.tw16080190590202183561:Nat:=0
def PySem.W.Fast.tw1589992278592149805:Nat:=0
def PySem.W.Fast.tw11959076053280964248:Nat:=0
def PySem.W.Fast.tw7438200545072317673:Nat:=0
def PySem.W.Fast.tw5177337536229422135:Nat:=0
def PySem.W.Fast.tw13128675210801277764:Nat:=0
def PySem.W.Fast.tw14857550704115201949:Nat:=0
def PySem.W.Fast.tw11890933152721514125:Nat:=0
def PySem.W.Fast.tw15847117906963680180:Nat:=0
def PySem.W.Fast.tw2734253343882175462:Nat:=0
def PySem.W.Fast.tw16705153710619210280:Nat:=0
def PySem.W.Fast.tw7135392423029020869:Nat:=0
def PySem.W.Fast.tw1519841966529303381:Nat:=0
def PySem.W.Fast.tw17887087858706772269:Nat:=0
def PySem.W.Fast.tw3671337451155923690:Nat:=0
def PySem.W.Fast.tw3055041660529070019:Nat:=0
def PySem.W.Fast.tw4678102351902809805:Nat:=0
def PySem.W.Fast.tw2745917127085651086:Nat:=0
def PySem.W.Fast.tw6050753034981183291:Nat:=0
def PySem.W.Fast.tw13251280081204186526:Nat:=0
def PySem.W.Fast.tw16091754833501678560:Nat:=0
def PySem.W.Fast.tw6548062252066610889:Nat:=0
def PySem.W.Fast.tw4626807675423309526:Nat:=0
def PySem.W.Fast.tw16746660544507833252:Nat:=0
def PySem.W.Fast.tw4786529800314022625:Nat:=0
def PySem.W.Fast.tw2364861030682749289:Nat:=0
def PySem.W.Fast.tw3622948826704575188:Nat:=0
def PySem.W.Fast.tw4051348323662939940:Nat:=0
def PySem.W.Fast.tw10484672019562657048:Nat:=0
def PySem.W.Fast.tw16626796011355721685:Nat:=0
def PySem.W.Fast.tw8945036490604408736:Nat:=0
def PySem.W.Fast.tw17651279544188135700:Nat:=0
def PySem.W.Fast.tw12996229762189846842:Nat:=0
def PySem.W.Fast.tw3178439209481808979:Nat:=0
def PySem.W.Fast.tw8541341165677368970:Nat:=0
def PySem.W.Fast.tw10500601811906963178:Nat:=0
def PySem.W.Fast.tw9529685527964805980:Nat:=0
def PySem.W.Fast.tw6481314238184088475:Nat:=0
def PySem.W.Fast.tw18283616771328379913:Nat:=0
def PySem.W.Fast.tw10521460802447654604:Nat:=0
def PySem.W.Fast.tw13685381105802191947:Nat:=0
def PySem.W.Fast.tw902678989767256029:Nat:=0
def PySem.W.Fast.tw10188554550152143805:Nat:=0
def PySem.W.Fast.tw15622424939877404934:Nat:=0
def PySem.W.Fast.tw12166523760694622410:Nat:=0
def PySem.W.Fast.tw7858176657964437227:Nat:=0
def PySem.W.Fast.tw1670978588616892161:Nat:=0
def PySem.W.Fast.tw10032933113154120254:Nat:=0
def PySem.W.Fast.tw15803709428133294919:Nat:=0
def PySem.W.Fast.tw8482641911979267145:Nat:=0
def PySem.W.Fast.tw208800504077387156:Nat:=0
def PySem.W.Fast.tw15588911525685053340:Nat:=0
def PySem.W.Fast.tw15146847160662667974:Nat:=0
def PySem.W.Fast.tw15887636967880103595:Nat:=0
def PySem.W.Fast.tw13592364099387264099:Nat:=0
def PySem.W.Fast.tw7406061627228351896:Nat:=0
def PySem.W.Fast.tw8087763393132595805:Nat:=0
def PySem.W.Fast.tw6480331670367921469:Nat:=0
def PySem.W.Fast.tw5401489892781879638:Nat:=0
def PySem.W.Fast.tw2706015489187344602:Nat:=0
def PySem.W.Fast.tw2003037592130910614:Nat:=0
def PySem.W.Fast.tw6715277044700782386:Nat:=0
def PySem.W.Fast.tw1899833599884737351:Nat:=0
def PySem.W.Fast.tw11423047098560566426:Nat:=0
def PySem.W.Fast.tw3795346125458656945:Nat:=0
def PySem.W.Fast.tw1208028037178508729:Nat:=0
def PySem.W.Fast.tw6588594226664961446:Nat:=0
def PySem.W.Fast.tw7355689689551666384:Nat:=0
def PySem.W.Fast.tw8409268960942288809:Nat:=0
def PySem.W.Fast.tw5798934860426581140:Nat:=0
def PySem.W.Fast.tw14992861892652584507:Nat:=0
def PySem.W.Fast.tw14311146115204851692:Nat:=0
def PySem.W.Fast.tw3065164545773219305:Nat:=0
def PySem.W.Fast.tw7001274693146830036:Nat:=0
def PySem.W.Fast.tw2301162813413661616:Nat:=0
def PySem.W.Fast.tw5286301075023248441:Nat:=0
def PySem.W.Fast.tw10492590055801768157:Nat:=0
def PySem.W.Fast.tw2741227043878964890:Nat:=0
def PySem.W.Fast.tw15214704580693945338:Nat:=0
def PySem.W.Fast.tw17093270862125844880:Nat:=0
def PySem.W.Fast.tw14069947582981361712:Nat:=0
def PySem.W.Fast.tw10863716497528784757:Nat:=0
def PySem.W.Fast.tw14962294023798646066:Nat:=0
def PySem.W.Fast.tw8567615631698308148:Nat:=0
def PySem.W.Fast.tw5278607773123235119:Nat:=0
def PySem.W.Fast.tw16049176141874093323:Nat:=0
def PySem.W.Fast.tw7460445277015663703:Nat:=0
def PySem.W.Fast.tw16559361839278704690:Nat:=0
def PySem.W.Fast.tw3294652097960731397:Nat:=0
def PySem.W.Fast.tw14743026687239756477:Nat:=0
def PySem.W.Fast.tw6121640875489102909:Nat:=0
def PySem.W.Fast.tw2333299555584448221:Nat:=0
def PySem.W.Fast.tw6506231790859806498:Nat:=0
def PySem.W.Fast.tw3493322377643868011:Nat:=0
def PySem.W.Fast.tw17538177144534049308:Nat:=0
def PySem.W.Fast.tw17945271703593797558:Nat:=0
def PySem.W.Fast.tw15305801817343126274:Nat:=0
def PySem.W.Fast.tw14575156267293797598:Nat:=0
def PySem.W.Fast.tw2430026967600138311:Nat:=0
def PySem.W.Fast.tw17087690269582264451:Nat:=0
def PySem.W.Fast.tw14584661365695969724:Nat:=0
def PySem.W.Fast.tw16947405232961493079:Nat:=0
open PySem PySem.W PyProof.Rows
set_option maxRecDepth 100000 in
set_option maxHeartbeats 0 in
theorem PySem.Challenge.cw_panethread_k12_heaps_spoilt_holds : PySem.Challenge.rw_panethread_k12_heaps_spoilt.Holds := by
 w_on;o_law;k_head;(case hw=>w_witness2)
 k_fill
 refine L2.Ug (l:=PySem.Challenge.rw_panethread_k12_heaps_spoilt) (st:=My.cW) (k:=10) (x:="_law_script") (sp:=My.Np) rfl rfl rfl ⟨rfl,by decide,by decide,rfl⟩ (fun w h Y=>PySem.W.kIn_of Y) (fun _ _ _ _ _ _ us hl=>L2.uv (fun _=>rfl) us hl) ?F (fun K H a ns hl hS=>⟨a,ns,rfl,hS,hl,fun _=>rfl⟩)
 case F=>
  intro w mg h KX G
  have b_all:mg "all"=none:=by
   refine' PySem.W.mg_none_of KX G ?a
   (case a=>k_is)
  have b_any:mg "any"=none:=by
   refine' PySem.W.mg_none_of KX G ?a
   (case a=>k_is)
  have b_bool:mg "bool"=none:=by
   refine' PySem.W.mg_none_of KX G ?a
   (case a=>k_is)
  have b_enumerate:mg "enumerate"=none:=by
   refine' PySem.W.mg_none_of KX G ?a
   (case a=>k_is)
  have b_int:mg "int"=none:=by
   refine' PySem.W.mg_none_of KX G ?a
   (case a=>k_is)
  have b_isinstance:mg "isinstance"=none:=by
   refine' PySem.W.mg_none_of KX G ?a
   (case a=>k_is)
  have b_len:mg "len"=none:=by
   refine' PySem.W.mg_none_of KX G ?a
   (case a=>k_is)
  have b_list:mg "list"=none:=by
   refine' PySem.W.mg_none_of KX G ?a
   (case a=>k_is)
  have b_max:mg "max"=none:=by
   refine' PySem.W.mg_none_of KX G ?a
   (case a=>k_is)
  have b_min:mg "min"=none:=by
   refine' PySem.W.mg_none_of KX G ?a
   (case a=>k_is)
  have b_range:mg "range"=none:=by
   refine' PySem.W.mg_none_of KX G ?a
   (case a=>k_is)
  have b_repr:mg "repr"=none:=by
   refine' PySem.W.mg_none_of KX G ?a
   (case a=>k_is)
  have b_sorted:mg "sorted"=none:=by
   refine' PySem.W.mg_none_of KX G ?a
   (case a=>k_is)
  have b_str:mg "str"=none:=by
   refine' PySem.W.mg_none_of KX G ?a
   (case a=>k_is)
  have b_tuple:mg "tuple"=none:=by
   refine' PySem.W.mg_none_of KX G ?a
   (case a=>k_is)
  have c_LETTERS:∃ t,mg "LETTERS"=some (.str "abcdefghijklmnopqrstuvwxyz" t):=by
   refine' L2.sW KX G ?a ?h
   (case a=>k_is);(case h=>exact ⟨_,by with_unfolding_all rfl⟩)
  have c_MOST_SIGNS:∃ t,mg "MOST_SIGNS"=some (.int 48 t):=by
   refine' L2.sW KX G ?a ?h
   (case a=>k_is);(case h=>exact ⟨_,by with_unfolding_all rfl⟩)
  have c_POINT:∃ t,mg "POINT"=some (.str "." t):=by
   refine' L2.sW KX G ?a ?h
   (case a=>k_is);(case h=>exact ⟨_,by with_unfolding_all rfl⟩)
  have d_is_number:L2.eO (L2.KOf KX) mg "is_number" My.dN:=by
   dsimp only [L2.KOf]
   refine' L2.bK KX G ?a ?l ?c ?k
   (case a=>k_is);(case l=>k_is);(case c=>k_is);(case k=>k_is)
  have d_is_pair:L2.eO (L2.KOf KX) mg "is_pair" My.fM:=by
   dsimp only [L2.KOf]
   refine' L2.bK KX G ?a ?l ?c ?k
   (case a=>k_is);(case l=>k_is);(case c=>k_is);(case k=>k_is)
  have d_is_row:L2.eO (L2.KOf KX) mg "is_row" My.eU:=by
   dsimp only [L2.KOf]
   refine' L2.bK KX G ?a ?l ?c ?k
   (case a=>k_is);(case l=>k_is);(case c=>k_is);(case k=>k_is)
  have d_need_row:L2.eO (L2.KOf KX) mg "need_row" My.gw:=by
   dsimp only [L2.KOf]
   refine' L2.bK KX G ?a ?l ?c ?k
   (case a=>k_is);(case l=>k_is);(case c=>k_is);(case k=>k_is)
  have d_need_rows:L2.eO (L2.KOf KX) mg "need_rows" My.fO:=by
   dsimp only [L2.KOf]
   refine' L2.bK KX G ?a ?l ?c ?k
   (case a=>k_is);(case l=>k_is);(case c=>k_is);(case k=>k_is)
  have d_is_match:L2.eO (L2.KOf KX) mg "is_match" My.dg:=by
   dsimp only [L2.KOf]
   refine' L2.bK KX G ?a ?l ?c ?k
   (case a=>k_is);(case l=>k_is);(case c=>k_is);(case k=>k_is)
  have d_is_ahead:L2.eO (L2.KOf KX) mg "is_ahead" My.iC:=by
   dsimp only [L2.KOf]
   refine' L2.bK KX G ?a ?l ?c ?k
   (case a=>k_is);(case l=>k_is);(case c=>k_is);(case k=>k_is)
  have d_pairs_of:L2.eO (L2.KOf KX) mg "pairs_of" My.cu:=by
   dsimp only [L2.KOf]
   refine' L2.bK KX G ?a ?l ?c ?k
   (case a=>k_is);(case l=>k_is);(case c=>k_is);(case k=>k_is)
  have d_is_stack:L2.eO (L2.KOf KX) mg "is_stack" My.dm:=by
   dsimp only [L2.KOf]
   refine' L2.bK KX G ?a ?l ?c ?k
   (case a=>k_is);(case l=>k_is);(case c=>k_is);(case k=>k_is)
  have d_holds_all_once:L2.eO (L2.KOf KX) mg "holds_all_once" My.aU:=by
   dsimp only [L2.KOf]
   refine' L2.bK KX G ?a ?l ?c ?k
   (case a=>k_is);(case l=>k_is);(case c=>k_is);(case k=>k_is)
  have d_has_one_ahead:L2.eO (L2.KOf KX) mg "has_one_ahead" My.bF:=by
   dsimp only [L2.KOf]
   refine' L2.bK KX G ?a ?l ?c ?k
   (case a=>k_is);(case l=>k_is);(case c=>k_is);(case k=>k_is)
  have d_are_heaps:L2.eO (L2.KOf KX) mg "are_heaps" My.bz:=by
   dsimp only [L2.KOf]
   refine' L2.bK KX G ?a ?l ?c ?k
   (case a=>k_is);(case l=>k_is);(case c=>k_is);(case k=>k_is)
  have d_law_cell:L2.eO (L2.KOf KX) mg "_law_cell" My.gA:=by
   dsimp only [L2.KOf]
   refine' L2.bK KX G ?a ?l ?c ?k
   (case a=>k_is);(case l=>k_is);(case c=>k_is);(case k=>k_is)
  have d_law_purse:L2.eO (L2.KOf KX) mg "_law_purse" My.gM:=by
   dsimp only [L2.KOf]
   refine' L2.bK KX G ?a ?l ?c ?k
   (case a=>k_is);(case l=>k_is);(case c=>k_is);(case k=>k_is)
  have d_law_take:L2.eO (L2.KOf KX) mg "_law_take" My.fG:=by
   dsimp only [L2.KOf]
   refine' L2.bK KX G ?a ?l ?c ?k
   (case a=>k_is);(case l=>k_is);(case c=>k_is);(case k=>k_is)
  have d_law_letters:L2.eO (L2.KOf KX) mg "_law_letters" My.bD:=by
   dsimp only [L2.KOf]
   refine' L2.bK KX G ?a ?l ?c ?k
   (case a=>k_is);(case l=>k_is);(case c=>k_is);(case k=>k_is)
  have d_law_drawn:L2.eO (L2.KOf KX) mg "_law_drawn" My.cV:=by
   dsimp only [L2.KOf]
   refine' L2.bK KX G ?a ?l ?c ?k
   (case a=>k_is);(case l=>k_is);(case c=>k_is);(case k=>k_is)
  have d_law_row:L2.eO (L2.KOf KX) mg "_law_row" My.fP:=by
   dsimp only [L2.KOf]
   refine' L2.bK KX G ?a ?l ?c ?k
   (case a=>k_is);(case l=>k_is);(case c=>k_is);(case k=>k_is)
  have d_law_table:L2.eO (L2.KOf KX) mg "_law_table" My.bI:=by
   dsimp only [L2.KOf]
   refine' L2.bK KX G ?a ?l ?c ?k
   (case a=>k_is);(case l=>k_is);(case c=>k_is);(case k=>k_is)
  have d_law_pairs:L2.eO (L2.KOf KX) mg "_law_pairs" My.cC:=by
   dsimp only [L2.KOf]
   refine' L2.bK KX G ?a ?l ?c ?k
   (case a=>k_is);(case l=>k_is);(case c=>k_is);(case k=>k_is)
  have d_law_levels:L2.eO (L2.KOf KX) mg "_law_levels" My.bx:=by
   dsimp only [L2.KOf]
   refine' L2.bK KX G ?a ?l ?c ?k
   (case a=>k_is);(case l=>k_is);(case c=>k_is);(case k=>k_is)
  have d_law_whole:L2.eO (L2.KOf KX) mg "_law_whole" My.dO:=by
   dsimp only [L2.KOf]
   refine' L2.bK KX G ?a ?l ?c ?k
   (case a=>k_is);(case l=>k_is);(case c=>k_is);(case k=>k_is)
  have d_law_is_heap:L2.eO (L2.KOf KX) mg "_law_is_heap" My.bM:=by
   dsimp only [L2.KOf]
   refine' L2.bK KX G ?a ?l ?c ?k
   (case a=>k_is);(case l=>k_is);(case c=>k_is);(case k=>k_is)
  have d_law_are_heaps:L2.eO (L2.KOf KX) mg "_law_are_heaps" My.aF:=by
   dsimp only [L2.KOf]
   refine' L2.bK KX G ?a ?l ?c ?k
   (case a=>k_is);(case l=>k_is);(case c=>k_is);(case k=>k_is)
  have d_law_pair:L2.eO (L2.KOf KX) mg "_law_pair" My.dq:=by
   dsimp only [L2.KOf]
   refine' L2.bK KX G ?a ?l ?c ?k
   (case a=>k_is);(case l=>k_is);(case c=>k_is);(case k=>k_is)
  have d_law_moved:L2.eO (L2.KOf KX) mg "_law_moved" My.bJ:=by
   dsimp only [L2.KOf]
   refine' L2.bK KX G ?a ?l ?c ?k
   (case a=>k_is);(case l=>k_is);(case c=>k_is);(case k=>k_is)
  have d_law_spoilt:L2.eO (L2.KOf KX) mg "_law_spoilt" My.aQ:=by
   dsimp only [L2.KOf]
   refine' L2.bK KX G ?a ?l ?c ?k
   (case a=>k_is);(case l=>k_is);(case c=>k_is);(case k=>k_is)
  have d_law_right:L2.eO (L2.KOf KX) mg "_law_right" My.aY:=by
   dsimp only [L2.KOf]
   refine' L2.bK KX G ?a ?l ?c ?k
   (case a=>k_is);(case l=>k_is);(case c=>k_is);(case k=>k_is)
  have d_law_changed:L2.eO (L2.KOf KX) mg "_law_changed" My.bN:=by
   dsimp only [L2.KOf]
   refine' L2.bK KX G ?a ?l ?c ?k
   (case a=>k_is);(case l=>k_is);(case c=>k_is);(case k=>k_is)
  have d_law:L2.eO (L2.KOf KX) mg "law" My.cW:=by
   dsimp only [L2.KOf]
   refine' L2.bK KX G ?a ?l ?c ?k
   (case a=>k_is);(case l=>k_is);(case c=>k_is);(case k=>k_is)
  have x_NoRow:L2.Kv (L2.KOf KX) mg "NoRow" ["found"] "NoRow.__init__" My.o4:=by
   dsimp only [L2.KOf]
   refine' L2.Ut KX G ?a ?b ?kp ?na ?i ?t ?l ?c ?k
   (case a=>k_is);(case b=>kernel_rfl);(case kp=>k_is);(case na=>kernel_rfl);(case i=>k_is);(case t=>k_is);(case l=>k_is);(case c=>k_is);(case k=>k_is)
  exact ⟨d_law,fun base f fd F=>My.RX ⟨b_all,b_any,b_bool,b_enumerate,b_int,b_isinstance,b_len,b_list,b_max,b_min,b_range,b_repr,b_sorted,b_str,b_tuple,c_LETTERS,c_MOST_SIGNS,c_POINT,d_is_number,d_is_pair,d_is_row,d_need_row,d_need_rows,d_is_match,d_is_ahead,d_pairs_of,d_is_stack,d_holds_all_once,d_has_one_ahead,d_are_heaps,d_law_cell,d_law_purse,d_law_take,d_law_letters,d_law_drawn,d_law_row,d_law_table,d_law_pairs,d_law_levels,d_law_whole,d_law_is_heap,d_law_are_heaps,d_law_pair,d_law_moved,d_law_spoilt,d_law_right,d_law_changed,d_law,x_NoRow⟩ F⟩
