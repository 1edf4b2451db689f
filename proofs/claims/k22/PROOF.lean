import PyProof.Rows.All
import Wide.All
import OpenK.AllK
import Wide.FinOn
import Lean
import PyProof.EqAt
import PyProof.EqKinds
import PyProof.TupleCall
import PyProof.ReprRoads
import KE.KSortTup
import PySem.Challenge.RW_panethread_k22_counts
noncomputable section
set_option compiler.extract_closed false
set_option Elab.async false
set_option linter.all false
set_option maxRecDepth 100000
namespace L2
@[elab_as_elim] theorem mL {p:List PySem.Value→Prop} (h:∀ a0:PySem.Value,p [a0]) (us:List PySem.Value) (hl:us.length=1):p us:=by
 rcases us with _ | ⟨a0,us0⟩
 ·cases hl
 rcases us0 with _ | ⟨b,us⟩
 ·exact h a0
 ·cases hl
@[elab_as_elim] theorem qP {p:List PySem.Value→Prop} (h:∀ a0 a1:PySem.Value,p [a0,a1]) (us:List PySem.Value) (hl:us.length=2):p us:=by
 rcases us with _ | ⟨a0,us0⟩
 ·cases hl
 rcases us0 with _ | ⟨a1,us1⟩
 ·cases hl
 rcases us1 with _ | ⟨b,us⟩
 ·exact h a0 a1
 ·cases hl
@[elab_as_elim] theorem K4 {p:List PySem.Value→Prop} (h:∀ a0 a1 a2:PySem.Value,p [a0,a1,a2]) (us:List PySem.Value) (hl:us.length=3):p us:=by
 rcases us with _ | ⟨a0,us0⟩
 ·cases hl
 rcases us0 with _ | ⟨a1,us1⟩
 ·cases hl
 rcases us1 with _ | ⟨a2,us2⟩
 ·cases hl
 rcases us2 with _ | ⟨b,us⟩
 ·exact h a0 a1 a2
 ·cases hl
@[elab_as_elim] theorem usN4 {p:List PySem.Value→Prop} (h:∀ a0 a1 a2 a3:PySem.Value,p [a0,a1,a2,a3]) (us:List PySem.Value) (hl:us.length=4):p us:=by
 rcases us with _ | ⟨a0,us0⟩
 ·cases hl
 rcases us0 with _ | ⟨a1,us1⟩
 ·cases hl
 rcases us1 with _ | ⟨a2,us2⟩
 ·cases hl
 rcases us2 with _ | ⟨a3,us3⟩
 ·cases hl
 rcases us3 with _ | ⟨b,us⟩
 ·exact h a0 a1 a2 a3
 ·cases hl
theorem auto1 (h:True:=by first | exact .inl rfl | exact .inr rfl | assumption):True:=h
theorem auto2 (h:True:=by decide):True:=h
theorem auto3 (h:True:=by intro _;rfl):True:=h
theorem auto4 (h:True:=by rfl):True:=h
theorem auto5 (h:True:=by with_unfolding_all rfl):True:=h
theorem auto6 (h:True:=by decide+kernel):True:=h
open PySem PySem.Spec PyProof.Rows
abbrev Key:=Sum Int Str
def tM:Key→Value→Bool
 | .inl k,v=>Value.isInt k v
 | .inr x,v=>Value.isStrOf x v
def keyH (w:World):Key→Int
 | .inl k=>hashInt k
 | .inr x=>hashStr w x
theorem cG:∀ {k:Key} {v:Value},tM k v=true→(∃ i t,k=Sum.inl i∧v=Value.int i t)∨(∃ x t,k=Sum.inr x∧v=Value.str x t)
 | .inl i,v,h=>by
  obtain ⟨t,e⟩:=Value.isInt_shape (k:=i) (v:=v) h
  exact .inl ⟨i,t,rfl,e⟩
 | .inr x,v,h=>by
  obtain ⟨t,e⟩:=Value.isStrOf_shape (x:=x) (v:=v) h
  exact .inr ⟨x,t,rfl,e⟩
theorem zN (i:Int) (t:Tok):tM (.inl i) (.int i t)=true:=by simp [tM,Value.isInt]
theorem zO (x:Str) (t:Tok):tM (.inr x) (.str x t)=true:=by simp [tM,Value.isStrOf]
theorem K5 (a b:Int):decide ((Sum.inl a:Key)=Sum.inl b)=(a == b):=by
 by_cases e:a=b
 ·subst e;simp
 ·have h:¬ (Sum.inl a:Key)=Sum.inl b:=fun q=>e (Sum.inl.inj q)
  rw [decide_eq_false h]
  exact (beq_eq_false_iff_ne.mpr e).symm
theorem K6 (a b:Str):decide ((Sum.inr a:Key)=Sum.inr b)=decide (a=b):=by
 by_cases e:a=b
 ·subst e;simp
 ·have h:¬ (Sum.inr a:Key)=Sum.inr b:=fun q=>e (Sum.inr.inj q)
  rw [decide_eq_false h,decide_eq_false e]
theorem K7 (a:Int) (b:Str):decide ((Sum.inl a:Key)=Sum.inr b)=false:=decide_eq_false (fun q=>nomatch q)
theorem K8 (a:Str) (b:Int):decide ((Sum.inr a:Key)=Sum.inl b)=false:=decide_eq_false (fun q=>nomatch q)
def bR (prog:Program) (w:World):PySem.KeyKind prog w Key where
 is:=tM
 hash:=keyH w
 inj:=fun v a b ha hb=>by
  rcases cG ha with ⟨i,t,rfl,rfl⟩ | ⟨x,t,rfl,rfl⟩
  ·rcases cG hb with ⟨j,u,rfl,e⟩ | ⟨y,u,rfl,e⟩
   ·injection e with e1 _;rw [e1]
   ·exact nomatch e
  ·rcases cG hb with ⟨j,u,rfl,e⟩ | ⟨y,u,rfl,e⟩
   ·exact nomatch e
   ·injection e with e1 _;rw [e1]
 byValue:=fun k v h=>by
  rcases cG h with ⟨i,t,rfl,rfl⟩ | ⟨x,t,rfl,rfl⟩ <;> rfl
 pyHash:=fun hv h=>by
  rcases cG hv with ⟨i,t,rfl,rfl⟩ | ⟨x,t,rfl,rfl⟩
  ·exact wpAny_pyHash_int h
  ·exact wpAny_pyHash_str h
 eqBool:=fun hu hv h=>by
  rcases cG hu with ⟨i,t,rfl,rfl⟩ | ⟨x,t,rfl,rfl⟩
  ·rcases cG hv with ⟨j,u,rfl,rfl⟩ | ⟨y,u,rfl,rfl⟩
   ·rw [K5] at h;exact wpAny_eqBool_int h
   ·rw [K7] at h;exact SeqAt.EqAt.int_str i t y u _ _ _ _ h
  ·rcases cG hv with ⟨j,u,rfl,rfl⟩ | ⟨y,u,rfl,rfl⟩
   ·rw [K8] at h;exact SeqAt.EqAt.str_int x t j u _ _ _ _ h
   ·rw [K6] at h;exact wpAny_eqBool_str h
 «strs»:=fun k x t v h=>by
  rcases cG h with ⟨i,u,rfl,e⟩ | ⟨y,u,rfl,e⟩
  ·exact nomatch e
  ·injection e with e1 _
   subst e1
   cases v <;> rfl
theorem vh (prog:Program) (w:World) (i:Int) (t:Tok):(bR prog w).is (.inl i) (.int i t)=true:=zN i t
theorem vm (prog:Program) (w:World) (x:Str) (t:Tok):(bR prog w).is (.inr x) (.str x t)=true:=zO x t
end L2
namespace L2
open PySem PySem.Spec PyProof.Rows
inductive V where
 | non | bl (b:Bool) | int (i:Int) | str (x:Str) | byt (b:Array UInt8) | flt (b:UInt64) | ref (a:Addr) | ty (n:String)
 deriving DecidableEq
def RelV:V→Value→Prop
 | .non,u=>u=Value.none
 | .bl b,u=>u=Value.bool b
 | .int i,u=>∃ t,u=Value.int i t
 | .str x,u=>∃ t,u=Value.str x t
 | .byt b,u=>∃ t,u=Value.bytes b t
 | .flt b,u=>∃ t,u=Value.float b t
 | .ref a,u=>u=Value.ref a
 | .ty n,u=>u=Value.type n
abbrev Vals:List V→List Value→Prop:=Paired RelV
theorem Vals.length {xs:List V} {us:List Value} (r:Vals xs us):xs.length=us.length:=Paired.length r
theorem Vals.get:∀ {xs:List V} {us:List Value} {i:Nat} {x:V},Vals xs us→xs[i]?=some x→∃ u,us[i]?=some u∧RelV x u
 | _,_,_,_,.nil,e=>by simp at e
 | _,_,0,_,.cons r _,e=>by simp at e;subst e;exact ⟨_,rfl,r⟩
 | _,_,i+1,x,.cons _ t,e=>by
  obtain ⟨u,h1,h2⟩:=Vals.get (i:=i) (x:=x) t (by simpa using e)
  exact ⟨u,by simpa using h1,h2⟩
theorem Vals.set {x:V} {u:Value} (r:RelV x u):∀ {xs:List V} {us:List Value} (i:Nat),Vals xs us→Vals (xs.set i x) (us.set i u)
 | _,_,_,.nil=>.nil
 | _,_,0,.cons _ t=>.cons r t
 | _,_,i+1,.cons q t=>.cons q (Vals.set r i t)
theorem Vals.append:∀ {xs ys:List V} {us ws:List Value},Vals xs us→Vals ys ws→Vals (xs ++ ys) (us ++ ws)
 | _,_,_,_,.nil,s=>s
 | _,_,_,_,.cons r t,s=>.cons r (Vals.append t s)
theorem Vals.take:∀ {xs:List V} {us:List Value} (n:Nat),Vals xs us→Vals (xs.take n) (us.take n)
 | _,_,0,_=>.nil
 | _,_,_+1,.nil=>.nil
 | _,_,n+1,.cons r t=>.cons r (Vals.take n t)
theorem Vals.drop:∀ {xs:List V} {us:List Value} (n:Nat),Vals xs us→Vals (xs.drop n) (us.drop n)
 | _,_,0,r=>r
 | _,_,_+1,.nil=>.nil
 | _,_,n+1,.cons _ t=>Vals.drop n t
def RelO:Option V→Option Value→Prop
 | some v,some u=>RelV v u
 | none,none=>True
 | _,_=>False
def KV {κ:Type}:List (κ×V)→List (κ×Value)→Prop:=Paired fun (p:κ×V) (q:κ×Value)=>p.1=q.1∧RelV p.2 q.2
def kV:Key→V
 | .inl i=>.int i
 | .inr x=>.str x
inductive HO where
 /-- a list -/
 | lst (xs:List V)
 /-- a tuple (never changes) -/
 | tup (xs:List V)
 /-- a dict whose keys are ints and texts;one whose keys are tuples of ints and texts (the empty one is both) -/
 | dK (kvs:List (Key×V)) | dT (kvs:List (List Key×V))
 /-- a set of ints:its members,its size -/
 | set (S:Int→Bool) (n:Nat)
 /-- an instance of the class at C,its dict at dx,its attributes -/
 | ins (C dx:Addr) (fs:List (Str×V))
 /-- the dict of the instance at x -/
 | own (x:Addr)
 /-- the dict of an exception -/
 | xd (fs:List (Str×V))
 /-- a bound method,f of x -/
 | met (f x:Addr)
 /-- a range object lo,lo+1,.. below hi -/
 | rng (lo hi:Int)
 /-- a thing that is known to the object (the script;a dict while a loop walks it):read,never written while it is so -/
 | frz (o:Obj) (u:HO)
 /-- a code object's table -/
 | tbl (ps:Array Value)
 /-- any other thing,by what is true of its one object (a def of one's own:SetO a S n:=HO.ext fun h=>..) -/
 | ext (φ:Heap→Prop)
abbrev Hp:=Addr→Option HO
def upd (H:Hp) (a:Addr) (o:HO):Hp:=fun b=>if b=a then some o else H b
theorem ak {H:Hp} {a:Addr} {o:HO}:upd H a o a=some o:=by unfold upd;rw [if_pos rfl]
theorem aB {H:Hp} {a b:Addr} {o:HO} (h:b≠a):upd H a o b=H b:=by unfold upd;rw [if_neg h]
theorem Qo {H:Hp} {a b:Addr} {o u:HO} (h:H a=some o) (h':H b=some u) (d:o≠u):a≠b:=by
 intro e;subst e;rw [h] at h';exact d (Option.some.inj h')
theorem gU {H:Hp} {a b:Addr} {o:HO} (h:H a=some o) (h':H b=none):a≠b:=by
 intro e;subst e;rw [h] at h';cases h'
section
variable (P:Program) (w:World)
def ObjOk (H:Hp) (h:Heap) (a:Addr):HO→Prop
 | .lst xs=>xs.length≤sizeLine∧∃ (its:List Value) (n:Nat),Vals xs its∧h.get? a=some {cls:=.type "list",data:=.seq its.toArray n}
 | .tup xs=>xs.length≤sizeLine∧∃ its:List Value,Vals xs its∧IsTup h a its.toArray
 | .dK kvs=>kvs.length≤sizeLine∧(a == sysModules)=false∧∃ vs,KV kvs vs∧h.DictOf (bR P w) a vs
 | .dT kvs=>kvs.length≤sizeLine∧(a == sysModules)=false∧∃ xs:List (List Key×Addr×Value),
   Paired (fun (p:List Key×V) (q:List Key×Addr×Value)=>p.1=q.1∧H q.2.1=some (.tup (p.1.map kV))∧RelV p.2 q.2.2) kvs xs∧
   ∃ o es ep,h.get? a=some o∧o.ExactDict∧o.data= .dict es ep∧es.toList=xs.map (entryOfKey (tupleKind (bR P w)))∧(xs.map (·.1)).Nodup
 | .set S n=>h.SetOf (intKind P w) a S n
 | .ins C dx fs=>H dx=some (.own a)∧fs.length≤1000∧dx≠a∧h.get? a=some (PySem.W.instObj C dx)∧
   ∃ mA,h.Ns1 dx mA∧(∀ f,RelO (fs.lookup f) (mA f))∧PySem.Within mA (fs.map (·.1))
 | .own _=>∃ o,h.get? a=some o
 | .xd fs=>∃ mA,h.Ns1 a mA∧∀ f,RelO (fs.lookup f) (mA f)
 | .rng lo hi=>∃ t u v,h.get? a=some {cls:=.type "range",data:=.fields #[.int lo t,.int hi u,.int 1 v]}
 | .frz o u=>h.get? a=some o∧ObjOk H h a u
 | .tbl ps=>h.get? a=some {cls:=.none,data:=.fields ps}
 | .met f x=>h.get? a=some (PySem.W.methodObj (.ref f) (.ref x))
 | .ext φ=>φ h∧(∃ o,h.get? a=some o)∧∀ h1 h2:Heap,φ h1→(∀ o,h1.get? a=some o→h2.get? a=some o)→φ h2
def HOk (H:Hp) (h:Heap):Prop:=∀ a o,H a=some o→ObjOk P w H h a o
end
section
variable {P:Program} {w:World} {H H':Hp} {h h':Heap} {a:Addr} {o:HO}
theorem ObjOk.lt (x:ObjOk P w H h a o):a < h.objs.size:=by
 cases o with
 | lst xs=>obtain ⟨_,_,_,_,e⟩:=x;exact Heap.lt_size e
 | tup xs=>obtain ⟨_,_,_,p⟩:=x;exact p.lt
 | dK kvs=>obtain ⟨_,_,_,_,o,_,_,e,_⟩:=x;exact Heap.lt_size e
 | dT kvs=>obtain ⟨_,_,_,_,o,_,_,e,_⟩:=x;exact Heap.lt_size e
 | set S n=>obtain ⟨o,_,_,_,e,_⟩:=x;exact Heap.lt_size e
 | ins C dx fs=>obtain ⟨_,_,_,e,_⟩:=x;exact Heap.lt_size e
 | own y=>obtain ⟨_,e⟩:=x;exact Heap.lt_size e
 | xd fs=>obtain ⟨_,⟨_,_,_,e,_⟩,_⟩:=x;exact Heap.lt_size e
 | rng lo hi=>obtain ⟨_,_,_,e⟩:=x;exact Heap.lt_size e
 | frz ob u=>obtain ⟨e,_⟩:=x;exact Heap.lt_size e
 | tbl ps=>exact Heap.lt_size (show h.get? a=some _ from x)
 | met f y=>exact Heap.lt_size (show h.get? a=some _ from x)
 | ext φ=>obtain ⟨_,⟨_,e⟩,_⟩:=x;exact Heap.lt_size e
theorem Paired.mapP {α β:Type} {F G:α→β→Prop}:∀ {l₁:List α} {l₂:List β},Paired F l₁ l₂→(∀ a b,F a b→G a b)→Paired G l₁ l₂
 | _,_,.nil,_=>.nil
 | _,_,.cons r t,f=>.cons (f _ _ r) (Paired.mapP t f)
theorem ObjOk.stay (x:ObjOk P w H h a o) (k:∀ b u,(b=a∨H b=some (.own a))→h.get? b=some u→h'.get? b=some u)
  (ho:∀ b,H b=some (.own a)→H' b=some (.own a)) (ht:∀ b xs,H b=some (.tup xs)→H' b=some (.tup xs)):ObjOk P w H' h' a o:=by
 induction o with
 | lst xs=>obtain ⟨z,its,n,r,e⟩:=x;exact ⟨z,its,n,r,k _ _ (.inl rfl) e⟩
 | tup xs=>obtain ⟨z,its,r,ob,e,c⟩:=x;exact ⟨z,its,r,ob,k _ _ (.inl rfl) e,c⟩
 | dK kvs=>obtain ⟨z,y,vs,r,ob,es,ep,e,c⟩:=x;exact ⟨z,y,vs,r,ob,es,ep,k _ _ (.inl rfl) e,c⟩
 | dT kvs=>
  obtain ⟨z,y,xs,r,ob,es,ep,e,c⟩:=x
  exact ⟨z,y,xs,Paired.mapP r fun p q z=>⟨z.1,ht _ _ z.2.1,z.2.2⟩,ob,es,ep,k _ _ (.inl rfl) e,c⟩
 | set S n=>obtain ⟨ob,es,ep,t,e,c⟩:=x;exact ⟨ob,es,ep,t,k _ _ (.inl rfl) e,c⟩
 | ins C dx fs=>
  obtain ⟨d,z,ne,e,mA,⟨od,es,ep,e2,c⟩,r⟩:=x
  exact ⟨ho _ d,z,ne,k _ _ (.inl rfl) e,mA,⟨od,es,ep,k _ _ (.inr d) e2,c⟩,r⟩
 | own y=>obtain ⟨ob,e⟩:=x;exact ⟨ob,k _ _ (.inl rfl) e⟩
 | xd fs=>obtain ⟨mA,⟨od,es,ep,e,c⟩,r⟩:=x;exact ⟨mA,⟨od,es,ep,k _ _ (.inl rfl) e,c⟩,r⟩
 | rng lo hi=>obtain ⟨t,u,v,e⟩:=x;exact ⟨t,u,v,k _ _ (.inl rfl) e⟩
 | frz ob u ih=>obtain ⟨e,q⟩:=x;exact ⟨k _ _ (.inl rfl) e,ih q⟩
 | tbl ps=>
  have e:h.get? a=some {cls:=.none,data:=.fields ps}:=x
  show h'.get? a=some {cls:=.none,data:=.fields ps}
  exact k a _ (.inl rfl) e
 | met f y=>
  have e:h.get? a=some (PySem.W.methodObj (.ref f) (.ref y)):=x
  show h'.get? a=some (PySem.W.methodObj (.ref f) (.ref y))
  exact k a _ (.inl rfl) e
 | ext φ=>obtain ⟨p,⟨o,e⟩,st⟩:=x;exact ⟨st _ _ p fun o q=>k _ _ (.inl rfl) q,⟨o,k _ _ (.inl rfl) e⟩,st⟩
theorem HOk.lt (x:HOk P w H h) (e:H a=some o):a < h.objs.size:=(x a o e).lt
theorem HOk.fresh (x:HOk P w H h) (e:h.objs.size≤a):H a=none:=by
 cases q:H a with
 | none=>rfl
 | some u=>exact absurd (Nat.lt_of_lt_of_le (x.lt q) e) (Nat.lt_irrefl _)
theorem HOk.kept (x:HOk P w H h) (k:∀ b u,h.get? b=some u→h'.get? b=some u):HOk P w H h':=fun a o e=>
 (x a o e).stay (fun b u _ q=>k b u q) (fun _ q=>q) fun _ _ q=>q
theorem HOk.laid (x:HOk P w H h) (k:∀ b u,h.get? b=some u→h'.get? b=some u) (hp:h.objs.size≤a) (new:ObjOk P w (upd H a o) h' a o):HOk P w (upd H a o) h':=fun b u e=>by
 have hn:=x.fresh hp
 by_cases hb:b=a
 ·subst hb;rw [ak] at e;cases e;exact new
 ·rw [aB hb] at e
  exact (x b u e).stay (fun c v _ q=>k c v q) (fun c q=>by rw [aB (gU q hn)];exact q) fun c xs q=>by rw [aB (gU q hn)];exact q
end
def Rd (H:Hp) (a:Addr) (u:HO):Prop:=H a=some u∨∃ o,H a=some (.frz o u)
theorem Rd.ok {P:Program} {w:World} {H:Hp} {h:Heap} {a:Addr} {u:HO} (r:Rd H a u) (x:HOk P w H h):ObjOk P w H h a u:=by
 rcases r with r | ⟨o,r⟩
 ·exact x a u r
 ·obtain ⟨_,q⟩:=x a _ r
  exact q
def Qp:Option HO→Prop
 | some (.lst _)=>True
 | some (.dK _)=>True
 | some (.dT _)=>True
 | some (.set _ _)=>True
 | some (.ins _ _ _)=>True
 | some (.ext _)=>True
 | _=>False
section
variable {P:Program} {w:World} {H:Hp} {h h':Heap} {x e:Addr} {o':HO}
theorem HOk.write (ok:HOk P w H h) (mu:Qp (H x)) (he:e=x∨H e=some (.own x)) (k:∀ b u,b≠e→h.get? b=some u→h'.get? b=some u) (heo:∃ u,h'.get? e=some u)
  (new:ObjOk P w (upd H x o') h' x o'):HOk P w (upd H x o') h':=fun b u q=>by
 have nown:∀ c y,H c=some (.own y)→c≠x:=fun c y r z=>by subst z;rw [r] at mu;exact mu
 have ntup:∀ c xs,H c=some (.tup xs)→c≠x:=fun c xs r z=>by subst z;rw [r] at mu;exact mu
 by_cases hb:b=x
 ·subst hb;rw [ak] at q;cases q;exact new
 ·rw [aB hb] at q
  by_cases hbe:b=e
  ·have q':H b=some (.own x):=by
    rcases he with z | z
    ·exact absurd (hbe.trans z) hb
    ·rw [hbe];exact z
   rw [q] at q';cases q'
   obtain ⟨v,hv⟩:=heo
   exact ⟨v,by rw [hbe];exact hv⟩
  ·refine (ok b u q).stay (fun c v hc r=>k c v ?_ r) (fun c r=>by rw [aB (nown c b r)];exact r) fun c xs r=>by rw [aB (ntup c xs r)];exact r
   rcases hc with rfl | hc
   ·exact hbe
   ·rintro rfl
    rcases he with z | z
    ·exact nown c b hc z
    ·rw [hc] at z;cases z;exact hb rfl
end
structure Un (fs ex:List Addr) (H H':Hp) (h h':Heap):Prop where
 keep:∀ b o,h.get? b=some o→H b=none→b ∉ fs→b ∉ ex→h'.get? b=some o
 slot:∀ b o,h.get? b=some o→H b=none→b∈fs→b ∉ ex→∃ sl,h'.get? b=some {o with slots:=sl}
 free:∀ b o,h.get? b=some o→H b=none→b ∉ ex→H' b=none
 there:∀ b o,h.get? b=some o→b ∉ ex→∃ o',h'.get? b=some o'
 tups:∀ b xs,H b=some (.tup xs)→H' b=some (.tup xs)
 frzs:∀ b o u,H b=some (.frz o u)→H' b=some (.frz o u)
 tbls:∀ b ps,H b=some (.tbl ps)→∃ more,H' b=some (.tbl (ps ++ more))
section
variable {fs fs' ex ex':List Addr} {H H1 H2:Hp} {h h1 h2 h':Heap} {a x e:Addr} {o:HO}
theorem Un.any (u:Un fs ex H H1 h h1) {b:Addr} {ob:Obj} (q:h.get? b=some ob) (n:H b=none) (hx:b ∉ ex):∃ sl,h1.get? b=some {ob with slots:=sl}:=by
 by_cases hb:b∈fs
 ·exact u.slot b ob q n hb hx
 ·exact ⟨ob.slots,u.keep b ob q n hb hx⟩
theorem Un.kept (k:∀ b u,h.get? b=some u→h'.get? b=some u):Un fs ex H H h h':=
 ⟨fun b ob q _ _ _=>k b ob q,fun b ob q _ _ _=>⟨ob.slots,k b ob q⟩,fun _ _ _ n _=>n,fun b ob q _=>⟨ob,k b ob q⟩,fun _ _ q=>q,fun _ _ _ q=>q,fun _ ps q=>⟨#[],by rw [q];simp⟩⟩
theorem Un.refl:Un fs ex H H h h:=Un.kept fun _ _ q=>q
theorem Un.laid (k:∀ b u,h.get? b=some u→h'.get? b=some u) (hp:h.objs.size≤a) (hn:H a=none):Un fs ex H (upd H a o) h h' where
 keep:=fun b u q _ _ _=>k b u q
 slot:=fun b u q _ _ _=>⟨u.slots,k b u q⟩
 free:=fun b u q n _=>by rw [aB (Nat.ne_of_lt (Nat.lt_of_lt_of_le (Heap.lt_size q) hp))];exact n
 there:=fun b u q _=>⟨u,k b u q⟩
 tups:=fun b xs q=>by rw [aB (gU q hn)];exact q
 frzs:=fun b u xs q=>by rw [aB (gU q hn)];exact q
 tbls:=fun b ps q=>⟨#[],by rw [aB (gU q hn),q];simp⟩
theorem Un.write (mu:Qp (H x)) (he:e=x∨H e=some (.own x)) (k:∀ b u,b≠e→h.get? b=some u→h'.get? b=some u) (heo:∃ u,h'.get? e=some u):Un fs ex H (upd H x o) h h':=by
 have hx:∀ b,H b=none→b≠x:=fun b n z=>by subst z;rw [n] at mu;exact mu
 have hb:∀ b,H b=none→b≠e:=fun b n z=>by
  subst z
  rcases he with r | r
  ·exact hx b n r
  ·rw [n] at r;cases r
 have hm:∀ b u,H b=some u→¬ Qp (some u)→b≠x:=fun b u q nm z=>by subst z;rw [q] at mu;exact nm mu
 refine ⟨fun b u q n _ _=>k b u (hb b n) q,fun b u q n _ _=>⟨u.slots,k b u (hb b n) q⟩,fun b u q n _=>by rw [aB (hx b n)];exact n,fun b u q _=>?_,
  fun b xs q=>by rw [aB (hm b _ q fun z=>z)];exact q,fun b u xs q=>by rw [aB (hm b _ q fun z=>z)];exact q,fun b ps q=>⟨#[],by rw [aB (hm b _ q fun z=>z),q];simp⟩⟩
 by_cases hbe:b=e
 ·subst hbe;exact heo
 ·exact ⟨u,k b u hbe q⟩
end
def GD (h:Heap) (H:Hp):List Addr:=(List.range h.objs.size).filter fun a=>(H a).isSome
def uA (h:Heap) (H:Hp):Heap:=PySem.W.hideAll h (GD h H)
theorem zP (h:Heap) (H:Hp):(uA h H).objs.size=h.objs.size:=PySem.W.hideAll_size _ _
theorem Ci {h:Heap} {H:Hp} {b:Addr} {o:Obj} (e:h.get? b=some o) (n:H b=none):(uA h H).get? b=some o:=
 PySem.W.hideAll_get _ e fun hm=>by
  have q:(H b).isSome=true:=(List.mem_filter.mp hm).2
  rw [n] at q;simp at q
theorem GQ {h:Heap} {H:Hp} {b:Addr} {o:Obj} (e:(uA h H).get? b=some o):h.get? b=some o∧H b=none:=by
 have e':h.get? b=some o:=PySem.W.of_hideAll (GD h H) e
 refine ⟨e',?_⟩
 cases q:H b with
 | none=>rfl
 | some x=>
  have hm:b∈GD h H:=List.mem_filter.mpr ⟨List.mem_range.mpr (Heap.lt_size e'),by simp [q]⟩
  have z:(uA h H).get? b=none:=PySem.W.hideAll_none (GD h H) hm
  rw [z] at e;cases e
end L2
namespace L2
open PySem PySem.Spec PyProof.Rows
structure Mod (K:PySem.W.Frag) (mg:Str→Option Value) (base:Heap):Prop where
 kin:K.In base
 glob:base.Ns mainGlobals mg
 blt:∃ mb,base.Ns builtinsNs mb∧∀ x:Str,x≠"__name__"→mb x=bootBuiltins x
 nolimit:base.NoLimit
 sysm:∃ mm,base.Ns sysModules mm
structure Cx where
 prog:Program
 w:World
 K:PySem.W.Frag
 mg:Str→Option Value
 base:Heap
 A:Around
 N:List Str
 s₀:Shared
 H₀:Hp
 env:Env
 outer:List Env
 stack:List Env
 ex:List Addr
 fn:Str→Bool
 calm:Bool
 pn:List (Addr×Obj)
 xe:Value→Shared→Prop
def frs (l:List Env):List Addr:=l.filterMap (·.frame)
abbrev Cx.fs (X:Cx):List Addr:=frs X.outer
def Ud (sc:Scope) (x:Str):Prop:=sc.names.lookup x=some .local∨sc.names.lookup x=some .cell∨sc.names.lookup x=some .free
def Loc (sc:Scope) (x:Str):Prop:=sc.names.lookup x=some .local∨sc.names.lookup x=some .cell
def Look (env:Env) (h:Heap) (m:Str→Option Value) (x:Str) (u:Value):Prop:=
 (env.kindOf x=some .local∧m x=some u)∨((env.kindOf x=some .cell∨env.kindOf x=some .free)∧∃ c,env.cells.lookup x=some c∧h.IsCell c (some u))
structure Cx.Ok (X:Cx):Prop where
 mod:Mod X.K X.mg X.base
 kind:X.env.scope.kind= .function
 glob:X.env.globals=mainGlobals
 blt:X.env.builtins=builtinsNs
 above:X.s₀.heap.objs.size≤X.env.locals
 inj:∀ x y c,X.env.cells.lookup x=some c→X.env.cells.lookup y=some c→x=y
 has:∀ x,(X.env.kindOf x=some .cell∨X.env.kindOf x=some .free)→∃ c,X.env.cells.lookup x=some c
 cab:∀ x c,X.fn x=true→X.env.cells.lookup x=some c→X.s₀.heap.objs.size≤c
 hd:X.calm=true→X.A.handled=none
 frames:X.A.frames=some X.stack
 stk:X.stack=X.outer∨(X.stack=X.env :: X.outer∧X.env.frame=some X.env.locals)
 exf:∀ b∈X.ex,b≠X.env.locals∧∀ x c,X.env.cells.lookup x=some c→c≠b
 bs:∀ b o,X.base.get? b=some o→X.s₀.heap.get? b=some o∧X.H₀ b=none
 bsz:X.base.objs.size≤X.s₀.heap.objs.size
 noex:∀ b o,X.base.get? b=some o→b ∉ X.ex
 exfs:∀ b∈X.ex,b ∉ X.fs
 funs:X.s₀.heap.FunFrames X.base X.outer
 frf:∀ b∈X.fs,X.H₀ b=none
structure Inv (X:Cx) (pins:List (Addr×Obj)) (σ:List (Option V)) (H:Hp) (s:Shared):Prop where
 ok:X.Ok
 os:s.os=X.s₀.os
 bare:AllBare s.gens
 base:Un X.fs X.ex X.H₀ H X.s₀.heap s.heap
 loc:∃ m,s.heap.Ns X.env.locals m∧∀ (i:Nat) (x:Str) (v:V),X.N[i]?=some x→σ[i]?=some (some v)→Ud X.env.scope x→∃ u,RelV v u∧Look X.env s.heap m x u
 cell:∀ x c,X.env.cells.lookup x=some c→∃ v,s.heap.IsCell c v
 free:H X.env.locals=none
 freeC:∀ x c,X.env.cells.lookup x=some c→H c=none
 pin:∀ p∈X.pn ++ pins,s.heap.get? p.1=some p.2∧H p.1=none∧p.1≠X.env.locals∧p.1 ∉ X.fs∧∀ v,p.2.data≠.cell v
 hok:HOk X.prog X.w H s.heap
 len:σ.length=X.N.length
section
variable {X:Cx} {pins:List (Addr×Obj)} {σ:List (Option V)} {H H':Hp} {s:Shared} {h':Heap}
theorem Cx.Ok.nofr (ok:X.Ok) {b:Addr} {o:Obj} (e:X.base.get? b=some o):b ∉ X.fs:=fun hb=>by
 have:=(ok.funs.mem hb).1
 rw [e] at this;cases this
theorem Inv.bs (I:Inv X pins σ H s):∀ b o,X.base.get? b=some o→s.heap.get? b=some o∧H b=none:=fun b o e=>
 ⟨I.base.keep b o (I.ok.bs b o e).1 (I.ok.bs b o e).2 (I.ok.nofr e) (I.ok.noex b o e),I.base.free b o (I.ok.bs b o e).1 (I.ok.bs b o e).2 (I.ok.noex b o e)⟩
theorem Inv.bk (I:Inv X pins σ H s):∀ b o,X.base.get? b=some o→s.heap.get? b=some o:=fun b o e=>(I.bs b o e).1
theorem Inv.mod (I:Inv X pins σ H s):Mod X.K X.mg X.base:=I.ok.mod
theorem Inv.kIn (I:Inv X pins σ H s):X.K.In s.heap:=I.ok.mod.kin.keeps I.bk
theorem Inv.lt (I:Inv X pins σ H s):X.env.locals < s.heap.objs.size:=let ⟨_,hn,_⟩:=I.loc;hn.lt
theorem Inv.sz (I:Inv X pins σ H s):X.s₀.heap.objs.size≤s.heap.objs.size:=Nat.le_trans I.ok.above (Nat.le_of_lt I.lt)
theorem Inv.nofs (I:Inv X pins σ H s) {a:Addr} (h:s.heap.objs.size≤a):a ∉ X.fs:=fun hb=>by
 obtain ⟨_,o,ho,_⟩:=I.ok.funs.mem hb
 exact absurd (Nat.lt_of_lt_of_le (Heap.lt_size ho) (Nat.le_trans I.sz h)) (Nat.lt_irrefl _)
theorem Inv.cne (I:Inv X pins σ H s):∀ x c,X.env.cells.lookup x=some c→c≠X.env.locals:=fun x c e z=>by
 obtain ⟨v,o,ho,hd⟩:=I.cell x c e
 obtain ⟨m,⟨o',es,ep,ho',hd',_⟩,_⟩:=I.loc
 rw [z,ho'] at ho;cases ho;rw [hd'] at hd;cases hd
theorem Inv.funs (I:Inv X pins σ H s):s.heap.FunFrames X.base X.outer:=by
 have all:∀ (l:List Env),(∀ b∈frs l,b∈X.fs)→X.s₀.heap.FunFrames X.base l→s.heap.FunFrames X.base l:=by
  intro l
  induction l with
  | nil=>intro _ _;trivial
  | cons env r ih=>
   intro hs hl
   obtain ⟨hk,⟨L,o,hf,hn,ho,hd⟩,hr⟩:=hl
   have hL:L∈X.fs:=hs L (by unfold frs;rw [List.filterMap_cons,hf];exact List.mem_cons_self)
   obtain ⟨sl,e⟩:=I.base.slot L o ho (I.ok.frf L hL) hL fun z=>I.ok.exfs L z hL
   exact ⟨hk,⟨L,_,hf,hn,e,hd⟩,ih (fun b hb=>hs b (by unfold frs;rw [List.filterMap_cons,hf];exact List.mem_cons_of_mem _ hb)) hr⟩
 exact all X.outer (fun _ hb=>hb) I.ok.funs
theorem Inv.stack (I:Inv X pins σ H s):s.heap.FunFrames X.base X.stack:=by
 rcases I.ok.stk with e | ⟨e,hf⟩
 ·rw [e];exact I.funs
 ·rw [e]
  obtain ⟨m,hn,_⟩:=I.loc
  refine .cons (by rw [I.ok.kind];decide) hf hn ?_ I.funs
  exact Heap.get?_none_of_le (Nat.le_trans I.ok.bsz I.ok.above)
theorem Inv.stkSub (I:Inv X pins σ H s):∀ b∈frs X.stack,b∈X.env.locals :: X.fs:=fun b hb=>by
 rcases I.ok.stk with e | ⟨e,hf⟩
 ·rw [e] at hb;exact List.mem_cons_of_mem _ hb
 ·rw [e] at hb
  unfold frs at hb
  rw [List.filterMap_cons,hf] at hb
  exact hb
theorem Inv.stkFree (I:Inv X pins σ H s):∀ b∈frs X.stack,H b=none:=fun b hb=>by
 rcases List.mem_cons.mp (I.stkSub b hb) with e | hb
 ·rw [e];exact I.free
 ·obtain ⟨_,o,ho,_⟩:=I.ok.funs.mem hb
  exact I.base.free b o ho (I.ok.frf b hb) fun z=>I.ok.exfs b z hb
theorem Inv.step {g':Array GenState} {t':Nat} {d':Drawn} {ch:List Addr} (I:Inv X pins σ H s)
  (hch:∀ b∈ch,(b∈X.ex∨X.s₀.heap.objs.size≤b)∧b≠X.env.locals∧(∀ x c,X.env.cells.lookup x=some c→c≠b)∧∀ p∈X.pn ++ pins,p.1≠b)
  (keep:∀ b o,b≠X.env.locals→b ∉ X.fs→b ∉ ch→s.heap.get? b=some o→H b=none→h'.get? b=some o)
  (slot:∀ b o,b≠X.env.locals→b∈X.fs→b ∉ ch→s.heap.get? b=some o→H b=none→∃ sl,h'.get? b=some {o with slots:=sl}) (free:∀ b o,b ∉ ch→s.heap.get? b=some o→H b=none→H' b=none)
  (there:∀ b o,b ∉ ch→s.heap.get? b=some o→∃ o',h'.get? b=some o')
  (tups:∀ b xs,H b=some (.tup xs)→H' b=some (.tup xs)) (frzs:∀ b o u,H b=some (.frz o u)→H' b=some (.frz o u)) (tbls:∀ b ps,H b=some (.tbl ps)→∃ more,H' b=some (.tbl (ps ++ more)))
  (ns:∀ m,s.heap.Ns X.env.locals m→h'.Ns X.env.locals m) (hok:HOk X.prog X.w H' h') (hg:AllBare g'):
  Inv X pins σ H' {s with heap:=h',gens:=g',drawn:=d',toks:=t'}:=by
 have neL:∀ b o,X.s₀.heap.get? b=some o→b≠X.env.locals:=fun b o e=>Nat.ne_of_lt (Nat.lt_of_lt_of_le (Heap.lt_size e) I.ok.above)
 have neC:∀ b o,X.s₀.heap.get? b=some o→b ∉ X.ex→b ∉ ch:=fun b o e hx hb=>by
  rcases (hch b hb).1 with z | z
  ·exact hx z
  ·exact absurd (Nat.lt_of_lt_of_le (Heap.lt_size e) z) (Nat.lt_irrefl _)
 have cellK:∀ x c,X.env.cells.lookup x=some c→∀ v,s.heap.IsCell c v→h'.IsCell c v:=fun x c e v ⟨o,ho,hd⟩=>by
  have nch:c ∉ ch:=fun z=>(hch c z).2.2.1 x c e rfl
  by_cases hc:c∈X.fs
  ·obtain ⟨sl,q⟩:=slot c o (I.cne x c e) hc nch ho (I.freeC x c e)
   exact ⟨_,q,hd⟩
  ·exact ⟨o,keep c o (I.cne x c e) hc nch ho (I.freeC x c e),hd⟩
 refine ⟨I.ok,I.os,hg,⟨fun b o e n hb hx=>?_,fun b o e n hb hx=>?_,fun b o e n hx=>?_,fun b o e hx=>?_,fun b xs e=>tups b xs (I.base.tups b xs e),fun b o xs e=>frzs b o xs (I.base.frzs b o xs e),fun b ps e=>?_⟩,?_,fun x c e=>?_,?_,fun x c e=>?_,fun p hp=>?_,hok,I.len⟩
 ·exact keep b o (neL b o e) hb (neC b o e hx) (I.base.keep b o e n hb hx) (I.base.free b o e n hx)
 ·obtain ⟨sl,e1⟩:=I.base.slot b o e n hb hx
  obtain ⟨sl',e2⟩:=slot b _ (neL b o e) hb (neC b o e hx) e1 (I.base.free b o e n hx)
  exact ⟨sl',e2⟩
 ·obtain ⟨o',e1⟩:=I.base.there b o e hx
  exact free b o' (neC b o e hx) e1 (I.base.free b o e n hx)
 ·obtain ⟨o',e1⟩:=I.base.there b o e hx
  exact there b o' (neC b o e hx) e1
 ·obtain ⟨m1,e1⟩:=I.base.tbls b ps e
  obtain ⟨m2,e2⟩:=tbls b _ e1
  exact ⟨m1 ++ m2,by rw [e2,Array.append_assoc]⟩
 ·obtain ⟨m,hn,hl⟩:=I.loc
  refine ⟨m,ns m hn,fun i x v e1 e2 e3=>?_⟩
  obtain ⟨u,r,l⟩:=hl i x v e1 e2 e3
  refine ⟨u,r,?_⟩
  rcases l with l | ⟨k,c,e,z⟩
  ·exact .inl l
  ·exact .inr ⟨k,c,e,cellK x c e _ z⟩
 ·obtain ⟨v,z⟩:=I.cell x c e
  exact ⟨v,cellK x c e v z⟩
 ·obtain ⟨m,⟨o,_,_,ho,_⟩,_⟩:=I.loc
  exact free _ o (fun z=>(hch _ z).2.1 rfl) ho I.free
 ·obtain ⟨v,o,ho,hd⟩:=I.cell x c e
  exact free c o (fun z=>(hch c z).2.2.1 x c e rfl) ho (I.freeC x c e)
 ·obtain ⟨e,n,ne,nf,d⟩:=I.pin p hp
  have nch:p.1 ∉ ch:=fun z=>(hch p.1 z).2.2.2 p hp rfl
  exact ⟨keep p.1 p.2 ne nf nch e n,free p.1 p.2 nch e n,ne,nf,d⟩
theorem Inv.un {t':Nat} (I:Inv X pins σ H s) (u:Un X.fs [] H H' s.heap h') (hok:HOk X.prog X.w H' h'):Inv X pins σ H' {s with heap:=h',toks:=t'}:=by
 obtain ⟨m,⟨o,es,ep,ho,r⟩,_⟩:=id I.loc
 obtain ⟨sl,hL⟩:=u.any ho I.free (by simp)
 exact I.step (g':=s.gens) (d':=s.drawn) (ch:=[]) (fun _ z=>nomatch z) (fun b o _ hb _ e n=>u.keep b o e n hb (by simp)) (fun b o _ hb _ e n=>u.slot b o e n hb (by simp)) (fun b o _ e n=>u.free b o e n (by simp)) (fun b o _ e=>u.there b o e (by simp)) u.tups u.frzs u.tbls (fun m' hm=>by
  obtain ⟨o',es',ep',ho',r'⟩:=hm
  rw [ho] at ho';cases ho'
  exact ⟨_,es',ep',hL,r'⟩) hok I.bare
theorem Inv.call {g':Array GenState} {t':Nat} {d':Drawn} {ch:List Addr} (I:Inv X pins σ H s) (u:Un (frs X.stack) ch H H' s.heap h') (hok:HOk X.prog X.w H' h') (hg:AllBare g')
  (hch:∀ b∈ch,(b∈X.ex∨X.s₀.heap.objs.size≤b)∧b≠X.env.locals∧(∀ x c,X.env.cells.lookup x=some c→c≠b)∧∀ p∈X.pn ++ pins,p.1≠b):
  Inv X pins σ H' {s with heap:=h',gens:=g',drawn:=d',toks:=t'}:=by
 obtain ⟨m,⟨o,es,ep,ho,r⟩,_⟩:=id I.loc
 obtain ⟨sl,hL⟩:=u.any ho I.free fun z=>(hch _ z).2.1 rfl
 exact I.step (ch:=ch) hch (fun b o hL hb hc e n=>u.keep b o e n (fun z=>(List.mem_cons.mp (I.stkSub b z)).elim hL hb) hc) (fun b o _ _ hc e n=>u.any e n hc) (fun b o hc e n=>u.free b o e n hc) (fun b o hc e=>u.there b o e hc) u.tups u.frzs u.tbls (fun m' hm=>by
  obtain ⟨o',es',ep',ho',r'⟩:=hm
  rw [ho] at ho';cases ho'
  exact ⟨_,es',ep',hL,r'⟩) hok hg
theorem Inv.turned {t':Nat} {it:Addr} (I:Inv X pins σ H s) (k:∀ b o,b≠it→s.heap.get? b=some o→h'.get? b=some o) (hn:H it=none) (hL:it≠X.env.locals)
  (h1:it∈X.ex∨X.s₀.heap.objs.size≤it) (h2:∀ x c,X.env.cells.lookup x=some c→c≠it) (h3:∀ p∈X.pn ++ pins,p.1≠it):Inv X pins σ H {s with heap:=h',toks:=t'}:=by
 have nit:∀ b u,H b=some u→b≠it:=fun b u e z=>by rw [z,hn] at e;cases e
 refine I.step (g':=s.gens) (d':=s.drawn) (ch:=[it]) (fun b hb=>?_) (fun b o _ _ hc e _=>k b o (fun z=>hc (by simp [z])) e) (fun b o _ _ hc e _=>⟨o.slots,k b o (fun z=>hc (by simp [z])) e⟩) (fun _ _ _ _ n=>n)
  (fun b o hc e=>⟨o,k b o (fun z=>hc (by simp [z])) e⟩) (fun _ _ e=>e) (fun _ _ _ e=>e) (fun b ps e=>⟨#[],by rw [e];simp⟩) (fun m hm=>?_) (fun b u e=>?_) I.bare
 ·have e:b=it:=by simpa using hb
  subst e
  exact ⟨h1,hL,h2,h3⟩
 ·obtain ⟨o,es,ep,ho,r⟩:=hm
  exact ⟨o,es,ep,k _ o (Ne.symm hL) ho,r⟩
 ·refine (I.hok b u e).stay (fun c v hc q=>k c v ?_ q) (fun _ q=>q) fun _ _ q=>q
  rcases hc with z | z
  ·rw [z];exact nit b u e
  ·exact nit c _ z
theorem Inv.tok (I:Inv X pins σ H s) (t:Nat):Inv X pins σ H {s with toks:=t}:=I.un (h':=s.heap) (t':=t) Un.refl I.hok
theorem Inv.kept {t':Nat} (I:Inv X pins σ H s) (k:∀ b u,s.heap.get? b=some u→h'.get? b=some u):Inv X pins σ H {s with heap:=h',toks:=t'}:=I.un (Un.kept k) (I.hok.kept k)
theorem Inv.laid {a:Addr} {o:HO} {t':Nat} (I:Inv X pins σ H s) (k:∀ b u,s.heap.get? b=some u→h'.get? b=some u) (hp:s.heap.objs.size≤a) (new:ObjOk X.prog X.w (upd H a o) h' a o):
  Inv X pins σ (upd H a o) {s with heap:=h',toks:=t'}:=I.un (Un.laid k hp (I.hok.fresh hp)) (I.hok.laid k hp new)
theorem Inv.write {x e:Addr} {o:HO} {t':Nat} (I:Inv X pins σ H s) (mu:Qp (H x)) (he:e=x∨H e=some (.own x)) (k:∀ b u,b≠e→s.heap.get? b=some u→h'.get? b=some u) (heo:∃ u,h'.get? e=some u)
  (new:ObjOk X.prog X.w (upd H x o) h' x o):Inv X pins σ (upd H x o) {s with heap:=h',toks:=t'}:=I.un (Un.write mu he k heo) (I.hok.write mu he k heo new)
theorem Inv.weak {σ':List (Option V)} (I:Inv X pins σ H s) (hl:σ'.length=σ.length) (w:∀ (i:Nat) v,σ'[i]?=some (some v)→σ[i]?=some (some v)):Inv X pins σ' H s:=
 ⟨I.ok,I.os,I.bare,I.base,let ⟨m,hn,hl'⟩:=I.loc;⟨m,hn,fun i x v e1 e2 e3=>hl' i x v e1 (w i v e2) e3⟩,I.cell,I.free,I.freeC,I.pin,I.hok,hl.trans I.len⟩
theorem Inv.pins_of {pins':List (Addr×Obj)} (I:Inv X pins σ H s) (h:∀ p∈pins',s.heap.get? p.1=some p.2∧H p.1=none∧p.1≠X.env.locals∧p.1 ∉ X.fs∧∀ v,p.2.data≠.cell v):Inv X pins' σ H s:=
 ⟨I.ok,I.os,I.bare,I.base,I.loc,I.cell,I.free,I.freeC,fun p hp=>(List.mem_append.mp hp).elim (fun z=>I.pin p (List.mem_append_left _ z)) (h p),I.hok,I.len⟩
theorem qQ {N:List Str} (hN:N.Nodup) {i j:Nat} {x:Str} (a:N[i]?=some x) (b:N[j]?=some x):i=j:=by
 obtain ⟨h1,e1⟩:=List.getElem?_eq_some_iff.mp a
 obtain ⟨h2,e2⟩:=List.getElem?_eq_some_iff.mp b
 exact (List.getElem_inj hN).mp (e1.trans e2.symm)
theorem tO {M:Model} {A:Around} {E:Value→Shared→Prop} {i:Nat} {x:Str} {v:V} {u:Value} {Q:Unit→Shared→Prop} (I:Inv X pins σ H s) (hN:X.N.Nodup) (hi:X.N[i]?=some x) (hx:Loc X.env.scope x) (r:RelV v u)
  (h:∀ s',Inv X pins (σ.set i (some v)) H s'→(∃ a,Heap.SameBut a s.heap s'.heap∧(a=X.env.locals∨X.env.cells.lookup x=some a))→Q () s') (hf:autoParam (X.fn x=true∨X.env.scope.names.lookup x=some .local) L2.auto1._auto_1):wpAny M A (storeName X.env x u) Q E s:=by
 obtain ⟨m,hn,hl⟩:=id I.loc
 have hcls:(X.env.scope.kind == .class || (X.env.scope.kind == .module && X.env.locals != X.env.globals))=false:=by rw [I.ok.kind];rfl
 have hiσ:i < σ.length:=by rw [I.len];exact (List.getElem?_eq_some_iff.mp hi).1
 have cne:=I.cne
 have tracked:∀ {a:Addr} {h':Heap},(∃ o,s.heap.get? a=some o∧H a=none)→Heap.SameBut a s.heap h'→HOk X.prog X.w H h':=fun {a h'} ha hs b ob e=>by
  obtain ⟨_,_,hfree⟩:=ha
  refine (I.hok b ob e).stay (fun c w' hc q=>(hs.2 c ?_).trans q) (fun _ q=>q) fun _ _ q=>q
  rintro rfl
  rcases hc with rfl | hc
  ·rw [hfree] at e;cases e
  ·rw [hfree] at hc;cases hc
 rcases hx with hk | hk
 ·refine wpAny_storeName_local hk hn (fun h' hn' hs=>?_) hcls
  obtain ⟨oL,_,_,hoL,_⟩:=id hn
  refine h _ ⟨I.ok,I.os,I.bare,⟨fun b o e n hb hx=>?_,fun b o e n hb hx=>?_,I.base.free,fun b o e hx=>?_,I.base.tups,I.base.frzs,I.base.tbls⟩,⟨_,hn',fun j y v' e1 e2 e3=>?_⟩,fun y c e=>?_,I.free,I.freeC,fun p hp=>?_,tracked ⟨oL,hoL,I.free⟩ hs,by simpa using I.len⟩ ⟨_,hs,.inl rfl⟩
  ·exact (hs.2 b (Nat.ne_of_lt (Nat.lt_of_lt_of_le (Heap.lt_size e) I.ok.above))).trans (I.base.keep b o e n hb hx)
  ·obtain ⟨sl,e1⟩:=I.base.slot b o e n hb hx
   exact ⟨sl,(hs.2 b (Nat.ne_of_lt (Nat.lt_of_lt_of_le (Heap.lt_size e) I.ok.above))).trans e1⟩
  ·obtain ⟨o',e1⟩:=I.base.there b o e hx
   exact ⟨o',(hs.2 b (Nat.ne_of_lt (Nat.lt_of_lt_of_le (Heap.lt_size e) I.ok.above))).trans e1⟩
  ·by_cases hj:j=i
   ·subst hj
    rw [hi] at e1;cases e1
    rw [List.getElem?_set_self hiσ] at e2
    cases e2
    exact ⟨u,r,.inl ⟨hk,by simp⟩⟩
   ·rw [List.getElem?_set_ne (Ne.symm hj)] at e2
    obtain ⟨u',r',q⟩:=hl j y v' e1 e2 e3
    refine ⟨u',r',?_⟩
    rcases q with ⟨k,e⟩ | ⟨k,c,e,z⟩
    ·refine .inl ⟨k,?_⟩
     have:y≠x:=fun e=>hj (qQ hN e1 (e ▸ hi))
     simp [this,e]
    ·exact .inr ⟨k,c,e,z.sameBut hs (cne y c e)⟩
  ·obtain ⟨w',z⟩:=I.cell y c e
   exact ⟨w',z.sameBut hs (cne y c e)⟩
  ·obtain ⟨e,n,ne,nf,d⟩:=I.pin p hp
   exact ⟨(hs.2 p.1 ne).trans e,n,ne,nf,d⟩
 ·have hfn:X.fn x=true:=by
   rcases hf with z | z
   ·exact z
   ·rw [z] at hk;cases hk
  obtain ⟨c,hc⟩:=I.ok.has x (.inl hk)
  obtain ⟨w',z⟩:=I.cell x c hc
  refine wpAny_storeName_cell I.ok.kind hk hc z (fun h' hc' hs=>?_)
  obtain ⟨oc,hoc,hocd⟩:=id z
  refine h {s with heap:=h'} ⟨I.ok,I.os,I.bare,⟨fun b o e n hb hx=>?_,fun b o e n hb hx=>?_,I.base.free,fun b o e hx=>?_,I.base.tups,I.base.frzs,I.base.tbls⟩,⟨m,hn.sameBut hs (Ne.symm (cne x c hc)),fun j y v' e1 e2 e3=>?_⟩,fun y c' e=>?_,I.free,I.freeC,fun p hp=>?_,tracked ⟨oc,hoc,I.freeC x c hc⟩ hs,by simpa using I.len⟩ ⟨c,hs,.inr hc⟩
  ·exact (hs.2 b (Nat.ne_of_lt (Nat.lt_of_lt_of_le (Heap.lt_size e) (I.ok.cab x c hfn hc)))).trans (I.base.keep b o e n hb hx)
  ·obtain ⟨sl,e1⟩:=I.base.slot b o e n hb hx
   exact ⟨sl,(hs.2 b (Nat.ne_of_lt (Nat.lt_of_lt_of_le (Heap.lt_size e) (I.ok.cab x c hfn hc)))).trans e1⟩
  ·obtain ⟨o',e1⟩:=I.base.there b o e hx
   exact ⟨o',(hs.2 b (Nat.ne_of_lt (Nat.lt_of_lt_of_le (Heap.lt_size e) (I.ok.cab x c hfn hc)))).trans e1⟩
  ·by_cases hj:j=i
   ·subst hj
    rw [hi] at e1;cases e1
    rw [List.getElem?_set_self hiσ] at e2
    cases e2
    exact ⟨u,r,.inr ⟨.inl hk,c,hc,hc'⟩⟩
   ·rw [List.getElem?_set_ne (Ne.symm hj)] at e2
    obtain ⟨u',r',q⟩:=hl j y v' e1 e2 e3
    refine ⟨u',r',?_⟩
    rcases q with q | ⟨k,c',e,z'⟩
    ·exact .inl q
    ·refine .inr ⟨k,c',e,z'.sameBut hs ?_⟩
     rintro rfl
     exact hj (qQ hN e1 (I.ok.inj _ _ _ e hc ▸ hi))
  ·by_cases hcc:c'=c
   ·subst hcc;exact ⟨_,hc'⟩
   ·obtain ⟨w2,z2⟩:=I.cell y c' e
    exact ⟨w2,z2.sameBut hs hcc⟩
  ·obtain ⟨e,n,ne,nf,d⟩:=I.pin p hp
   refine ⟨(hs.2 p.1 ?_).trans e,n,ne,nf,d⟩
   intro q
   rw [q,hoc] at e
   have q':oc=p.2:=Option.some.inj e
   exact d w' (by rw [← q'];exact hocd)
theorem mO {M:Model} {A:Around} {E:Value→Shared→Prop} {i:Nat} {x:Str} {v:V} {u:Value} {Q:Unit→Shared→Prop} (I:Inv X pins σ H s) (hN:X.N.Nodup) (hi:X.N[i]?=some x) (hx:Loc X.env.scope x) (r:RelV v u)
  (h:∀ s',Inv X pins (σ.set i (some v)) H s'→Q () s') (hf:autoParam (X.fn x=true∨X.env.scope.names.lookup x=some .local) L2.auto1._auto_1):wpAny M A (storeName X.env x u) Q E s:=
 tO I hN hi hx r (fun s' I' _=>h s' I') hf
theorem Inv.call' {s':Shared} {ch:List Addr} (I:Inv X pins σ H s) (ho:s'.os=s.os) (u:Un (frs X.stack) ch H H' s.heap s'.heap) (hok:HOk X.prog X.w H' s'.heap) (hg:AllBare s'.gens)
  (hch:∀ b∈ch,(b∈X.ex∨X.s₀.heap.objs.size≤b)∧b≠X.env.locals∧(∀ x c,X.env.cells.lookup x=some c→c≠b)∧∀ p∈X.pn ++ pins,p.1≠b):Inv X pins σ H' s':=by
 obtain ⟨h',g',d',t',o'⟩:=s'
 have e:o'=s.os:=ho
 subst e
 exact I.call (g':=g') (t':=t') (d':=d') u hok hg hch
end
abbrev XK:=Value→Option Addr→Hp→Prop
abbrev St:=List (Option V)
abbrev VK:=V→Hp→Prop
abbrev TE:=St→Hp→VK→Prop
abbrev TT:=St→Hp→(Bool→Hp→Prop)→Prop
abbrev TA:=St→Hp→(List V→Hp→Prop)→Prop
structure Ends where
 nx:St→Hp→Prop
 rt:VK
 bk:St→Hp→Prop:=fun _ _=>False
 ct:St→Hp→Prop:=fun _ _=>False
abbrev TS:=Ends→St→Hp→Prop
def EP (X:Cx) (pins:List (Addr×Obj)) (σ:St) (Q:VK) (u:Value) (s':Shared):Prop:=∃ v H',Inv X pins σ H' s'∧RelV v u∧Q v H'
def TP (X:Cx) (pins:List (Addr×Obj)) (σ:St) (Q:Bool→Hp→Prop) (b:Bool) (s':Shared):Prop:=∃ H',Inv X pins σ H' s'∧Q b H'
def AP (X:Cx) (pins:List (Addr×Obj)) (σ:St) (Q:List V→Hp→Prop) (us:List Value) (s':Shared):Prop:=∃ vs H',Inv X pins σ H' s'∧Vals vs us∧Q vs H'
def SP (X:Cx) (pins:List (Addr×Obj)) (D:Ends) (f:Flow) (s':Shared):Prop:=
 match f with
 | .next=>∃ σ' H',Inv X pins σ' H' s'∧D.nx σ' H'
 | .brk=>∃ σ' H',Inv X pins σ' H' s'∧D.bk σ' H'
 | .cont=>∃ σ' H',Inv X pins σ' H' s'∧D.ct σ' H'
 | .ret u=>∃ v σ' H',Inv X pins σ' H' s'∧RelV v u∧D.rt v H'
def PE (X:Cx) (e:Expr) (t:TE):Prop:=
 ∀ (pins:List (Addr×Obj)) (s:Shared) (σ:St) (H:Hp) (Q:VK),Inv X pins σ H s→t σ H Q→wpAny (model X.prog X.w) X.A (eval e X.env) (EP X pins σ Q) X.xe s
def PT (X:Cx) (e:Expr) (t:TT):Prop:=
 ∀ (pins:List (Addr×Obj)) (s:Shared) (σ:St) (H:Hp) (Q:Bool→Hp→Prop),Inv X pins σ H s→t σ H Q→wpAny (model X.prog X.w) X.A (isTrue e X.env (eval e X.env)) (TP X pins σ Q) X.xe s
def PW (X:Cx) (e:Expr) (t:TT):Prop:=
 ∀ (whole:Sem Value) (pins:List (Addr×Obj)) (s:Shared) (σ:St) (H:Hp) (Q:Bool→Hp→Prop),Inv X pins σ H s→t σ H Q→wpAny (model X.prog X.w) X.A (isTrue e X.env whole) (TP X pins σ Q) X.xe s
theorem PW.pt {X:Cx} {e:Expr} {t:TT} (h:PW X e t):PT X e t:=h _
def PA (X:Cx) (es:List Expr) (t:TA):Prop:=
 ∀ (pos:Pos) (pins:List (Addr×Obj)) (s:Shared) (σ:St) (H:Hp) (Q:List V→Hp→Prop),Inv X pins σ H s→t σ H Q→wpAny (model X.prog X.w) X.A (spliced (backTo pos (starEach es X.env))) (AP X pins σ Q) X.xe s
def PS (X:Cx) (st:Stmt) (t:TS):Prop:=
 ∀ (pins:List (Addr×Obj)) (s:Shared) (σ:St) (H:Hp) (D:Ends),Inv X pins σ H s→t D σ H→wpAny (model X.prog X.w) X.A (exec st X.env) (SP X pins D) X.xe s
def PSs (X:Cx) (st:List Stmt) (t:TS):Prop:=
 ∀ (pins:List (Addr×Obj)) (s:Shared) (σ:St) (H:Hp) (D:Ends),Inv X pins σ H s→t D σ H→wpAny (model X.prog X.w) X.A (execs st X.env) (SP X pins D) X.xe s
theorem dD {α:Type} {t:Sem α} {Q Q':α→Shared→Prop} {M:Model} {A:Around} {E:Value→Shared→Prop} {s:Shared} (h:wpAny M A t Q E s) (hQ:∀ a s,Q a s→Q' a s):wpAny M A t Q' E s:=wpAny_mono h hQ fun _ _ x=>x
end L2
namespace L2
open PySem PySem.Spec PyProof.Rows
section
variable {X:Cx}
def qm (i:Nat):TE:=fun σ H Q=>∃ v,σ[i]?=some (some v)∧Q v H
def tC (v:V):TE:=fun _ H Q=>Q v H
theorem uB {i:Nat} {x:Str} {pos:Pos} (hN:X.N[i]?=some x) (hv:Ud X.env.scope x) (hd:autoParam ((x == ("__debug__":Str))=false) L2.auto2._auto_1) (hcd:autoParam ((x == ("__classdict__":Str))=false) L2.auto2._auto_1):PE X (.Name x pos) (qm i):=by
 intro pins s σ H Q I h
 obtain ⟨v,e,h⟩:=h
 obtain ⟨m,hn,hl⟩:=I.loc
 obtain ⟨u,r,l⟩:=hl i x v hN e hv
 have fin:EP X pins σ Q u s:=⟨v,H,I,r,h⟩
 rcases l with ⟨hk,hm⟩ | ⟨hk,c,hc,hcell⟩
 ·exact wpAny_Name (wpAny_loadName_local I.ok.kind hk hn hm fin) hd
 ·rcases hk with hk | hk
  ·exact wpAny_Name (wpAny_loadName_cell I.ok.kind hk hc hcell fin) hd
  ·exact wpAny_Name (wpAny_loadName_free I.ok.kind hk hc hcell fin hcd) hd
theorem K9 {i j pos}:PE X (.Constant (.int i) j pos) (tC (.int i)):=fun _ _ _ H _ I h=>wpAny_Constant_int ⟨.int i,H,I.tok _,⟨_,rfl⟩,h⟩
theorem Qq {b j pos}:PE X (.Constant (.bool b) j pos) (tC (.bl b)):=fun _ _ _ H _ I h=>Constant_bool ⟨.bl b,H,I,rfl,h⟩
theorem La {j pos}:PE X (.Constant .none j pos) (tC .non):=fun _ _ _ H _ I h=>Constant_none ⟨.non,H,I,rfl,h⟩
theorem Lb {x j pos}:PE X (.Constant (.str x) j pos) (tC (.str x)):=fun _ _ _ H _ I h=>Calls.Constant_str ⟨.str x,H,I.tok _,⟨_,rfl⟩,h⟩
def Gl (X:Cx) (x:Str):Prop:=X.env.kindOf x=some .globalImplicit
theorem mQ {E:Value→Shared→Prop} {pins:List (Addr×Obj)} {s:Shared} {σ:St} {H:Hp} {x:Str} {u:Value} {pos:Pos} {Q:Value→Shared→Prop} (I:Inv X pins σ H s) (hg:Gl X x) (hm:X.mg x=some u) (h:Q u s)
  (hd:autoParam ((x == ("__debug__":Str))=false) L2.auto2._auto_1):wpAny (model X.prog X.w) X.A (eval (.Name x pos) X.env) Q E s:=
 Calls.Name_function_global I.ok.kind hg (Calls.loadGlobal_global (by rw [I.ok.glob];exact I.mod.glob.keeps I.bk) hm h) hd
theorem fQ {E:Value→Shared→Prop} {pins:List (Addr×Obj)} {s:Shared} {σ:St} {H:Hp} {x:Str} {u:Value} {pos:Pos} {Q:Value→Shared→Prop} (I:Inv X pins σ H s) (hg:Gl X x) (hm:X.mg x=none) (hv:bootBuiltins x=some u) (h:Q u s)
  (hn:autoParam (x≠"__name__") L2.auto2._auto_1) (hd:autoParam ((x == ("__debug__":Str))=false) L2.auto2._auto_1):wpAny (model X.prog X.w) X.A (eval (.Name x pos) X.env) Q E s:=by
 obtain ⟨mb,h1,h2⟩:=I.mod.blt
 exact Calls.Name_function_global I.ok.kind hg (Calls.loadGlobal_builtin (by rw [I.ok.glob];exact I.mod.glob.keeps I.bk) hm (by rw [I.ok.blt];exact h1.keeps I.bk) ((h2 x hn).trans hv) h) hd
theorem yD {x:Str} {v:V} {u:Value} {pos:Pos} (hg:Gl X x) (hm:X.mg x=some u) (r:RelV v u) (hd:autoParam ((x == ("__debug__":Str))=false) L2.auto2._auto_1):PE X (.Name x pos) (tC v):=
 fun _ _ _ H _ I h=>mQ I hg hm ⟨v,H,I,r,h⟩ hd
theorem GR {x:Str} {v:V} {u:Value} {pos:Pos} (hg:Gl X x) (hm:X.mg x=none) (hv:bootBuiltins x=some u) (r:RelV v u) (hn:autoParam (x≠"__name__") L2.auto2._auto_1) (hd:autoParam ((x == ("__debug__":Str))=false) L2.auto2._auto_1):PE X (.Name x pos) (tC v):=
 fun _ _ _ H _ I h=>fQ I hg hm hv ⟨v,H,I,r,h⟩ hn hd
variable {a b:Expr} {ta tb:TE} {pos:Pos}
def tB (t:TE):TT:=fun σ H Q=>t σ H fun x H1=>∃ c,x= .bl c∧Q c H1
theorem Ld {e:Expr} {t:TE} (h:PE X e t) (he:autoParam (∀ whole,isTrue e X.env whole=(do let v ← whole;standAt e.pos;holding [v] (truthy v))) L2.auto3._auto_1):PT X e (tB t):=by
 intro pins s σ H Q I hw
 refine isTrue_plain (dD (h pins s σ H _ I hw) fun v s1 qq0=>?_) (he _)
 obtain ⟨x,H1,I1,r1,q1⟩:=qq0
 obtain ⟨d,rfl,q⟩:=q1
 cases r1
 exact wpAny_truthy_bool ⟨H1,I1,q⟩
variable {tA tB':TT} {rest:List Expr}
def tOr (t u:TT):TT:=fun σ H Q=>t σ H fun c H1=>if c=true then Q true H1 else u σ H1 Q
def Le (t:TT):TT:=fun σ H Q=>t σ H fun c H1=>Q (!c) H1
theorem Lf (ha:PT X a tA):PW X (.BoolOp .Or [a] pos) tA:=by
 intro wh pins s σ H Q I h
 refine isTrue_or (dD (ha pins s σ H Q I h) fun c s1 e=>?_)
 cases c with
 | false=>exact isTrue_or_nil e
 | true=>exact e
theorem Qs (ha:PT X a tA) (hb:PW X (.BoolOp .Or (b :: rest) pos) tB'):PW X (.BoolOp .Or (a :: b :: rest) pos) (tOr tA tB'):=by
 intro wh pins s σ H Q I h
 refine isTrue_or (dD (ha pins s σ H _ I h) fun c s1 qq0=>?_)
 obtain ⟨H1,I1,q1⟩:=qq0
 cases c with
 | true=>exact ⟨H1,I1,q1⟩
 | false=>exact hb wh pins s1 σ H1 Q I1 q1
theorem Lg (ha:PT X a tA):PT X (.UnaryOp .Not a pos) (Le tA):=by
 intro pins s σ H Q I h
 exact isTrue_not (ha pins s σ H (fun c H1=>Q (!c) H1) I h)
def Cj (ta tb:TE):TE:=fun σ H Q=>ta σ H fun x H1=>∃ c,x= .bl c∧if c=true then tb σ H1 Q else Q (.bl false) H1
def Ck (ta:TE):TE:=fun σ H Q=>ta σ H fun x H1=>∃ c,x= .bl c∧Q (.bl (!c)) H1
theorem Lh {op} {t:TE} (h:PE X a t):PE X (.BoolOp op [a] pos) t:=fun pins s σ H Q I hw=>BoolOp_one (h pins s σ H Q I hw)
theorem Li (ha:PE X a ta) (hb:PE X (.BoolOp .And (b :: rest) pos) tb):PE X (.BoolOp .And (a :: b :: rest) pos) (Cj ta tb):=by
 intro pins s σ H Q I h
 refine BoolOp_and (dD (ha pins s σ H _ I h) fun v s1 qq0=>?_)
 obtain ⟨x,H1,I1,r1,q1⟩:=qq0
 obtain ⟨c,rfl,q1⟩:=q1
 cases r1
 refine wpAny_truthy_bool ?_
 cases c with
 | true=>exact hb pins s1 σ H1 Q I1 q1
 | false=>exact ⟨.bl false,H1,I1,rfl,q1⟩
theorem Lj (ha:PE X a ta):PE X (.UnaryOp .Not a pos) (Ck ta):=by
 intro pins s σ H Q I h
 refine UnaryOp_ (dD (ha pins s σ H _ I h) fun v s1 qq0=>?_)
 obtain ⟨x,H1,I1,r1,q1⟩:=qq0
 obtain ⟨c,rfl,q1⟩:=q1
 cases r1
 exact not_of (wpAny_truthy_bool ⟨.bl (!c),H1,I1,rfl,q1⟩)
def tIf (t:TT) (ta tb:TE):TE:=fun σ H Q=>t σ H fun c H1=>if c=true then ta σ H1 Q else tb σ H1 Q
theorem Cm {c:Expr} (hc:PT X c tA) (ha:PE X a ta) (hb:PE X b tb):PE X (.IfExp c a b pos) (tIf tA ta tb):=by
 intro pins s σ H Q I h
 refine wpAny_IfExp (dD (hc pins s σ H _ I h) fun d s1 qq0=>?_)
 obtain ⟨H1,I1,q1⟩:=qq0
 cases d with
 | true=>exact ha pins s1 σ H1 Q I1 q1
 | false=>exact hb pins s1 σ H1 Q I1 q1
end
end L2
namespace L2
open PySem PySem.Spec PyProof.Rows
def SqL (K:PySem.W.Frag) (H:Hp) (a:Addr) (xs:List V):Prop:=
 Rd H a (.lst xs)∨
  ∃ (o:Obj) (its:Array Value) (n:Nat),K.lookup a=some o∧o.cls= .type "list"∧o.dict=none∧o.data= .seq its n∧its.size≤sizeLine∧Vals xs its.toList
def SqT (K:PySem.W.Frag) (H:Hp) (a:Addr) (xs:List V):Prop:=
 Rd H a (.tup xs)∨
  ∃ (o:Obj) (its:Array Value) (n:Nat),K.lookup a=some o∧o.cls= .type "tuple"∧o.data= .seq its n∧its.size≤sizeLine∧Vals xs its.toList
def absV:Value→Option V
 | .none=>some .non
 | .bool b=>some (.bl b)
 | .int i _=>some (.int i)
 | .str x _=>some (.str x)
 | .bytes b _=>some (.byt b)
 | .float b _=>some (.flt b)
 | .ref a=>some (.ref a)
 | .type n=>some (.ty n)
 | _=>none
theorem RelV.abs {x:V} {u:Value} (r:RelV x u):absV u=some x:=by
 cases x with
 | non=>cases r;rfl
 | bl _=>cases r;rfl
 | int _=>obtain ⟨t,rfl⟩:=r;rfl
 | str _=>obtain ⟨t,rfl⟩:=r;rfl
 | byt _=>obtain ⟨t,rfl⟩:=r;rfl
 | flt _=>obtain ⟨t,rfl⟩:=r;rfl
 | ref _=>cases r;rfl
 | ty _=>cases r;rfl
theorem RelV.inj {x y:V} {u:Value} (r:RelV x u) (q:RelV y u):x=y:=Option.some.inj (r.abs.symm.trans q.abs)
theorem Vals.inj:∀ {xs ys:List V} {us:List Value},Vals xs us→Vals ys us→xs=ys
 | _,_,_,.nil,.nil=>rfl
 | _,_,_,.cons r t,.cons r' t'=>by rw [r.inj r',Vals.inj t t']
section
variable {X:Cx} {pins:List (Addr×Obj)} {σ:St} {H:Hp} {s:Shared} {a:Addr} {xs ys:List V}
theorem SqL.of {K:PySem.W.Frag} (h:H a=some (.lst xs)):SqL K H a xs:=.inl (.inl h)
theorem SqT.of {K:PySem.W.Frag} (h:H a=some (.tup xs)):SqT K H a xs:=.inl (.inl h)
theorem Inv.list (I:Inv X pins σ H s) (h:SqL X.K H a xs):∃ its:List Value,Vals xs its∧PlainL s.heap a its.toArray∧xs.length≤sizeLine:=by
 rcases h with h | ⟨o,its,n,hk,hc,hd,hs,hz,r⟩
 ·obtain ⟨z,its,n,r,e⟩:=h.ok I.hok
  exact ⟨its,r,⟨_,n,e,rfl,rfl,rfl⟩,z⟩
 ·refine ⟨its.toList,r,⟨o,n,I.kIn a o hk,hc,hd,by simpa using hs⟩,?_⟩
  have e:=r.length
  simp only [Array.length_toList] at e
  omega
theorem Inv.tuple (I:Inv X pins σ H s) (h:SqT X.K H a xs):∃ its:List Value,Vals xs its∧IsTup s.heap a its.toArray∧xs.length≤sizeLine:=by
 rcases h with h | ⟨o,its,n,hk,hc,hs,hz,r⟩
 ·obtain ⟨z,its,r,p⟩:=h.ok I.hok
  exact ⟨its,r,p,z⟩
 ·refine ⟨its.toList,r,⟨o,I.kIn a o hk,hc,n,by simpa using hs⟩,?_⟩
  have e:=r.length
  simp only [Array.length_toList] at e
  omega
theorem Inv.list_inj (I:Inv X pins σ H s) (h:SqL X.K H a xs) (h':SqL X.K H a ys):xs=ys:=by
 obtain ⟨its,r,⟨o,n,e,_,_,d⟩,_⟩:=I.list h
 obtain ⟨its',r',⟨o',n',e',_,_,d'⟩,_⟩:=I.list h'
 rw [e] at e';cases e'
 rw [d] at d'
 injection d' with d1 _
 have:its=its':=by simpa using congrArg Array.toList d1
 subst this
 exact r.inj r'
theorem Inv.tuple_inj (I:Inv X pins σ H s) (h:SqT X.K H a xs) (h':SqT X.K H a ys):xs=ys:=by
 obtain ⟨its,r,⟨o,e,_,n,d⟩,_⟩:=I.tuple h
 obtain ⟨its',r',⟨o',e',_,n',d'⟩,_⟩:=I.tuple h'
 rw [e] at e';cases e'
 rw [d] at d'
 injection d' with d1 _
 have:its=its':=by simpa using congrArg Array.toList d1
 subst this
 exact r.inj r'
end
abbrev Cx.wish (X:Cx) (E:Value→Shared→Prop):Cx:={X with xe:=E}
abbrev Cx.nox (X:Cx):Cx:=X.wish fun _ _=>False
theorem Cx.Ok.wish {X:Cx} (ok:X.Ok) (E:Value→Shared→Prop):(X.wish E).Ok:=
 ⟨ok.mod,ok.kind,ok.glob,ok.blt,ok.above,ok.inj,ok.has,ok.cab,ok.hd,ok.frames,ok.stk,ok.exf,ok.bs,ok.bsz,ok.noex,ok.exfs,ok.funs,ok.frf⟩
theorem Cx.Ok.unwish {X:Cx} {E:Value→Shared→Prop} (ok:(X.wish E).Ok):X.Ok:=
 ⟨ok.mod,ok.kind,ok.glob,ok.blt,ok.above,ok.inj,ok.has,ok.cab,ok.hd,ok.frames,ok.stk,ok.exf,ok.bs,ok.bsz,ok.noex,ok.exfs,ok.funs,ok.frf⟩
section
variable {X:Cx} {pins:List (Addr×Obj)} {σ:St} {H:Hp} {s:Shared} {E:Value→Shared→Prop}
theorem Inv.wish (I:Inv X pins σ H s) (E:Value→Shared→Prop):Inv (X.wish E) pins σ H s:=⟨I.ok.wish E,I.os,I.bare,I.base,I.loc,I.cell,I.free,I.freeC,I.pin,I.hok,I.len⟩
theorem Inv.unwish (I:Inv (X.wish E) pins σ H s):Inv X pins σ H s:=⟨I.ok.unwish,I.os,I.bare,I.base,I.loc,I.cell,I.free,I.freeC,I.pin,I.hok,I.len⟩
theorem SP.unwish {D:Ends} {f:Flow} {s':Shared} (h:SP (X.wish E) pins D f s'):SP X pins D f s':=by
 cases f with
 | next=>obtain ⟨σ',H',I,q⟩:=h;exact ⟨σ',H',I.unwish,q⟩
 | brk=>obtain ⟨σ',H',I,q⟩:=h;exact ⟨σ',H',I.unwish,q⟩
 | cont=>obtain ⟨σ',H',I,q⟩:=h;exact ⟨σ',H',I.unwish,q⟩
 | ret u=>obtain ⟨v,σ',H',I,r,q⟩:=h;exact ⟨v,σ',H',I.unwish,r,q⟩
theorem PSs.nox {st:List Stmt} {t:TS} (h:PSs X.nox st t):PSs X st t:=fun pins s σ H D I hw=>
 wpAny_mono (h pins s σ H D (I.wish _) hw) (fun _ _ q=>q.unwish) fun _ _ z=>False.elim z
end
section
variable {X:Cx} {st:Stmt} {rest:List Stmt} {t u:TS} {e:Expr} {te:TE} {pos:Pos}
def Cp:TS:=fun D σ H=>D.nx σ H
def GX (t u:TS):TS:=fun D σ H=>t {D with nx:=u D} σ H
theorem GZ:PSs X [] Cp:=fun _ _ σ H _ I h=>wpAny_execs_nil ⟨σ,H,I,h⟩
theorem Cq (h1:PS X st t) (h2:PSs X rest u):PSs X (st :: rest) (GX t u):=by
 intro pins s σ H D I h
 refine wpAny_execs_cons (dD (h1 pins s σ H {D with nx:=u D} I h) fun f s1 q=>?_)
 cases f with
 | next=>
  obtain ⟨σ',H',I',q⟩:=q
  exact h2 pins s1 σ' H' D I' q
 | ret v=>exact q
 | brk=>exact q
 | cont=>exact q
theorem G8 (h1:PS X st t):PSs X [st] t:=by
 intro pins s σ H D I h
 refine wpAny_execs_cons (dD (h1 pins s σ H D I h) fun f s1 q=>?_)
 cases f with
 | next=>exact wpAny_execs_nil q
 | ret v=>exact q
 | brk=>exact q
 | cont=>exact q
theorem Inv.quiet {pins:List (Addr×Obj)} {σ:St} {H:Hp} {s:Shared} (I:Inv X pins σ H s):interactive X.env=false:=by simp [interactive,I.ok.kind]
def yE (te:TE):TS:=fun D σ H=>te σ H fun _ H1=>D.nx σ H1
theorem G9 (he:PE X e te) (hs:autoParam (swapsWith e none pos.line X.env=pure false) L2.auto4._auto_1):PS X (.Expr e pos) (yE te):=by
 intro pins s σ H D I h
 exact wpAny_Expr_any (dD (he pins s σ H _ I h) fun v s1 ⟨x,H1,I1,r1,q1⟩=>⟨σ,H1,I1,q1⟩) I.quiet hs
def Lk (te:TE):TS:=fun D σ H=>te σ H D.rt
theorem Ln (he:PE X e te):PS X (.Return (some e) pos) (Lk te):=by
 intro pins s σ H D I h
 exact wpAny_Return_some (dD (he pins s σ H _ I h) fun v s1 ⟨x,H1,I1,r1,q1⟩=>⟨x,σ,H1,I1,r1,q1⟩)
def Lp (c:TT) (t u:TS):TS:=fun D σ H=>c σ H fun b H1=>if b=true then t D σ H1 else u D σ H1
theorem Qt {c:Expr} {a b:List Stmt} {tc:TT} (hc:PT X c tc) (ha:PSs X a t) (hb:PSs X b u):PS X (.If c a b pos) (Lp tc t u):=by
 intro pins s σ H D I h
 refine wpAny_If (dD (hc pins s σ H _ I h) fun d s1 qq0=>?_)
 obtain ⟨H1,I1,q1⟩:=qq0
 cases d with
 | true=>exact ha pins s1 σ H1 D I1 q1
 | false=>exact hb pins s1 σ H1 D I1 q1
end
abbrev TG:=V→St→Hp→(St→Hp→Prop)→Prop
abbrev w5:=List V→St→Hp→(St→Hp→Prop)→Prop
def PG (X:Cx) (target:Expr) (t:TG):Prop:=
 ∀ (pins:List (Addr×Obj)) (s:Shared) (σ:St) (H:Hp) (v:V) (u:Value) (Q:St→Hp→Prop),Inv X pins σ H s→RelV v u→t v σ H Q→
  wpAny (model X.prog X.w) X.A (assign target X.env u) (fun _ s'=>∃ σ' H',Inv X pins σ' H' s'∧Q σ' H') X.xe s
def Qh (X:Cx) (ts:List Expr) (t:w5):Prop:=
 ∀ (pins:List (Addr×Obj)) (s:Shared) (σ:St) (H:Hp) (vs:List V) (us:List Value) (Q:St→Hp→Prop),Inv X pins σ H s→Vals vs us→t vs σ H Q→
  wpAny (model X.prog X.w) X.A (assignInOrder ((assignEach ts X.env).map (·.2)) us) (fun _ s'=>∃ σ' H',Inv X pins σ' H' s'∧Q σ' H') X.xe s
abbrev w6:=V→V→V→Hp→(Hp→Prop)→Prop
def Ha (X:Cx) (t:w6):Prop:=
 ∀ (pins:List (Addr×Obj)) (s:Shared) (σ:St) (H:Hp) (o i v:V) (ov iv u:Value) (Q:Hp→Prop),Inv X pins σ H s→RelV o ov→RelV i iv→RelV v u→t o i v H Q→
  wpAny (model X.prog X.w) X.A (setItem ov iv u) (fun _ s'=>∃ H',Inv X pins σ H' s'∧Q H') X.xe s
section
variable {X:Cx} {pos:Pos}
def jL (i:Nat):TG:=fun v σ H Q=>Q (σ.set i (some v)) H
theorem uC {i:Nat} {x:Str} (hN:X.N.Nodup) (hi:X.N[i]?=some x) (hx:Loc X.env.scope x) (hf:autoParam (X.fn x=true∨X.env.scope.names.lookup x=some .local) L2.auto1._auto_1):PG X (.Name x pos) (jL i):=by
 intro pins s σ H v u Q I r h
 exact wpAny_assign_Name (mO I hN hi hx r (fun s' I'=>⟨_,H,I',h⟩) hf)
def Lq:w5:=fun vs σ H Q=>vs=[]∧Q σ H
def Cr (t:TG) (u:w5):w5:=fun vs σ H Q=>∃ v r,vs=v :: r∧t v σ H fun σ' H'=>u r σ' H' Q
theorem Hb:Qh X [] Lq:=by
 intro pins s σ H vs us Q I r h
 obtain ⟨e,h⟩:=h
 subst e
 cases r
 exact assignInOrder_nil ⟨σ,H,I,h⟩
theorem Cu {e:Expr} {es:List Expr} {t:TG} {u:w5} (h1:PG X e t) (h2:Qh X es u)
  (hs:autoParam ((assignEach (e :: es) X.env).map (·.2)=assign e X.env :: (assignEach es X.env).map (·.2)) L2.auto4._auto_1):Qh X (e :: es) (Cr t u):=by
 intro pins s σ H vs us Q I r h
 obtain ⟨v,vr,e1,h⟩:=h
 subst e1
 cases r with
 | cons r rr=>
  rw [hs]
  refine assignInOrder_cons (dD (h1 pins s σ H _ _ _ I r h) fun _ s1 qq0=>?_)
  obtain ⟨σ1,H1,I1,q1⟩:=qq0
  exact h2 pins s1 σ1 H1 _ _ Q I1 rr q1
def Hc (K:PySem.W.Frag) (n:Nat) (t:w5):TG:=fun v σ H Q=>∃ a xs,v= .ref a∧SqT K H a xs∧xs.length=n∧t xs σ H Q
theorem Cv {es:List Expr} {k:Nat} {t:w5} {n:Nat} (hc:X.calm=true) (h:Qh X es t)
  (hn:autoParam ((assignEach es X.env).length=n) L2.auto4._auto_1) (hst:autoParam ((assignEach es X.env).findIdx? (·.1)=none) L2.auto4._auto_1):PG X (.Tuple es k pos) (Hc X.K n t):=by
 intro pins s σ H v u Q I r hw
 obtain ⟨a,xs,e1,hq,hl,hw⟩:=hw
 subst e1
 cases r
 obtain ⟨its,rv,ht,hz⟩:=I.tuple hq
 refine assign_Tuple_tuple (I.ok.hd hc) ht (by simp [hn,← hl,rv.length]) hst fun h' hx=>?_
 have I1:Inv X pins σ H {s with heap:=h'}:=I.kept (t':=s.toks) fun b o e=>hx b o (Nat.ne_of_lt (Heap.lt_size e)) e
 exact h pins _ σ H xs _ Q I1 (by simpa using rv) hw
def Lr (to ti:TE) (t:w6):TG:=fun v σ H Q=>to σ H fun o H1=>ti σ H1 fun i H2=>t o i v H2 fun H3=>Q σ H3
theorem Ls {o i:Expr} {to ti:TE} {t:w6} (ho:PE X o to) (hi:PE X i ti) (hs:Ha X t)
  (ha:∀ v,assign (.Subscript o i pos) X.env v=(do
   let ov ← holding [v] (eval o X.env)
   let iv ← holding [v,ov] (eval i X.env)
   standAt pos
   holding [v,ov,iv] (setItem ov iv v)
   release [v,ov,iv] []):=by intro _;rfl):PG X (.Subscript o i pos) (Lr to ti t):=by
 intro pins s σ H v u Q I r h
 rw [ha]
 refine wpAny_bind (wpAny_holding (dD (ho pins s σ H _ I h) fun ov s1 qq0=>?_))
 obtain ⟨x,H1,I1,r1,q1⟩:=qq0
 refine wpAny_bind (wpAny_holding (dD (hi pins s1 σ H1 _ I1 q1) fun iv s2 qq0=>?_))
 obtain ⟨y,H2,I2,r2,q2⟩:=qq0
 refine wpAny_bind (wpAny_standAt (wpAny_bind (wpAny_holding (dD (hs pins s2 σ H2 x y v ov iv u _ I2 r1 r2 r q2) fun _ s3 qq0=>?_))))
 obtain ⟨H3,I3,q3⟩:=qq0
 exact wpAny_release ⟨σ,H3,I3,q3⟩
def uD (te:TE) (g:TG):TS:=fun D σ H=>te σ H fun x H1=>g x σ H1 D.nx
theorem Cw {tg e:Expr} {te:TE} {g:TG} (he:PE X e te) (hg:PG X tg g) (hs:autoParam (swapsWithSole [tg] e pos.line X.env=pure false) L2.auto4._auto_1) (hw:autoParam (swappedStores [tg] e X.env=pure none) L2.auto4._auto_1)
  (h1:autoParam ((assignEach [tg] X.env).map (·.2)=[assign tg X.env]) L2.auto4._auto_1):PS X (.Assign [tg] e pos) (uD te g):=by
 intro pins s σ H D I h
 refine wpAny_Assign_stores (dD (he pins s σ H _ I h) fun v s1 qq0=>?_) hs hw
 obtain ⟨x,H1,I1,r1,q1⟩:=qq0
 rw [h1]
 exact dD (hg pins s1 σ H1 x v _ I1 r1 q1) fun _ s2 q=>q
theorem Cy {i:Nat} {x:Str} {e:Expr} {te:TE} {pos':Pos} (hN:X.N.Nodup) (hi:X.N[i]?=some x) (hx:Loc X.env.scope x) (he:PE X e te) (hs:autoParam (swapsWith e (some (.Name x pos')) pos.line X.env=pure false) L2.auto4._auto_1) (hf:autoParam (X.fn x=true∨X.env.scope.names.lookup x=some .local) L2.auto1._auto_1):
  PS X (.Assign [.Name x pos'] e pos) (uD te (jL i)):=by
 intro pins s σ H D I h
 refine wpAny_Assign_Name (dD (he pins s σ H _ I h) fun v s1 qq0=>?_) hs
 obtain ⟨y,H1,I1,r1,q1⟩:=qq0
 exact mO I1 hN hi hx r1 (fun s2 I2=>⟨_,H1,I2,q1⟩) hf
end
section
variable {X:Cx} {pos:Pos}
end
structure It where
 go:Nat→Hp→Prop
 yld:Nat→Hp→V→Hp→Prop
 stop:Nat→Hp→Prop
def iw (X:Cx) (pins:List (Addr×Obj)) (H:Hp) (b:Addr):Prop:=
 H b=none∧b≠X.env.locals∧b ∉ X.fs∧(b∈X.ex∨X.s₀.heap.objs.size≤b)∧(∀ x c,X.env.cells.lookup x=some c→c≠b)∧∀ p∈X.pn ++ pins,p.1≠b
theorem Inv.fpOk {X:Cx} {pins:List (Addr×Obj)} {σ:St} {H H':Hp} {s:Shared} {b:Addr} (I:Inv X pins σ H s) (hb:s.heap.objs.size≤b) (hn:H' b=none):iw X pins H' b:=by
 refine ⟨hn,Nat.ne_of_gt (Nat.lt_of_lt_of_le I.lt hb),I.nofs hb,.inr (Nat.le_trans I.sz hb),fun x c e z=>?_,fun p hp z=>?_⟩
 ·obtain ⟨v,q⟩:=I.cell x c e
  exact absurd (Nat.lt_of_lt_of_le q.lt (by rw [z];exact hb)) (Nat.lt_irrefl _)
 ·exact absurd (Nat.lt_of_lt_of_le (Heap.lt_size (I.pin p hp).1) (by rw [z];exact hb)) (Nat.lt_irrefl _)
structure Turn (P:Program) (w:World) (K:PySem.W.Frag) (tg:Expr) (J:It) (fp:List Addr) (it:Addr) (tn:Nat→Heap→Prop):Prop where
 mem:it∈fp
 obj:∀ i h,tn i h→∀ b∈fp,∃ o,h.get? b=some o∧∀ v,o.data≠.cell v
 keep:∀ i h h',tn i h→(∀ b∈fp,∀ o,h.get? b=some o→h'.get? b=some o)→tn i h'
 item:∀ (X:Cx),X.prog=P→X.w=w→X.K=K→X.calm=true→∀ (i:Nat) (pins:List (Addr×Obj)) (s:Shared) (σ:St) (H:Hp) (E:Value→Shared→Prop),Inv X pins σ H s→(∀ b∈fp,iw X pins H b)→tn i s.heap→J.go i H→
  wpAny (model P w) X.A (pyNext (.ref it)) (fun r s1=>∃ u,r=some u∧
   wpAny (model P w) X.A (letOwnedTupleGo tg (.ref it) u) (fun _ s2=>∃ x H',Inv X pins σ H' s2∧RelV x u∧J.yld i H x H'∧tn (i+1) s2.heap∧∀ b∈fp,H' b=none) E s1) E s
 done:∀ (X:Cx),X.prog=P→X.w=w→X.K=K→X.calm=true→∀ (i:Nat) (pins:List (Addr×Obj)) (s:Shared) (σ:St) (H:Hp) (E:Value→Shared→Prop),Inv X pins σ H s→(∀ b∈fp,iw X pins H b)→tn i s.heap→J.stop i H→
  wpAny (model P w) X.A (pyNext (.ref it)) (fun r s1=>r=none∧Inv X pins σ H s1) E s
 self:∀ (A:Around) (i:Nat) (s:Shared) (Q:Value→Shared→Prop) (E:Value→Shared→Prop),tn i s.heap→Q (.ref it) s→wpAny (model P w) A (pyIter (.ref it)) Q E s
abbrev TI:=St→Hp→(It→Hp→Prop)→Prop
def PIE (X:Cx) (pins:List (Addr×Obj)) (σ:St) (tg:Expr) (R:It→Hp→Prop) (itv:Value) (s2:Shared):Prop:=
 ∃ (it:Addr) (fp:List Addr) (tn:Nat→Heap→Prop) (J:It) (H':Hp),itv= .ref it∧Inv X pins σ H' s2∧Turn X.prog X.w X.K tg J fp it tn∧tn 0 s2.heap∧(∀ b∈fp,iw X pins H' b)∧R J H'
def PI (X:Cx) (tg iter:Expr) (wi:TI):Prop:=
 ∀ (pins:List (Addr×Obj)) (s:Shared) (σ:St) (H:Hp) (R:It→Hp→Prop),Inv X pins σ H s→wi σ H R→
  wpAny (model X.prog X.w) X.A (eval iter X.env) (fun v s1=>wpAny (model X.prog X.w) X.A (pyIter v) (PIE X pins σ tg R) X.xe s1) X.xe s
theorem qR {M:Model} {A:Around} {E:Value→Shared→Prop} {s:Shared} {tg:Expr} {it:Addr} {u:Value} {o:Obj} {n:String} {vs:Array Value} {Q:Unit→Shared→Prop} (ho:s.heap.get? it=some o) (hc:o.cls= .type n) (hd:o.data= .fields vs)
  (hn:["enumerate","zip","dict_itemiterator","dict_reverseitemiterator","odict_iterator","itertools.zip_longest","itertools.pairwise"].contains n=false) (hQ:Q () s):wpAny M A (letOwnedTupleGo tg (.ref it) u) Q E s:=by
 unfold letOwnedTupleGo
 cases tg <;> first
  | exact wpAny_pure hQ
  | (cases u <;> first
    | exact wpAny_pure hQ
    | (refine wpAny_bind (wpAny_load ho ?_)
       rw [hc,hd]
       show wpAny M A (if (["enumerate","zip","dict_itemiterator","dict_reverseitemiterator","odict_iterator","itertools.zip_longest","itertools.pairwise"].contains n && vs[0]? == some (rawInt _))=true then _ else _) Q E s
       rw [if_neg (by intro h;rw [hn,Bool.false_and] at h;cases h)]
       exact wpAny_pure hQ))
def Hd (K:PySem.W.Frag) (a:Addr):It:=
 ⟨fun i H=>∃ xs x,SqL K H a xs∧xs[i]?=some x,fun i H x H'=>H'=H∧∀ xs,SqL K H a xs→xs[i]?=some x,fun i H=>∃ xs,SqL K H a xs∧xs.length≤i⟩
def JV (K:PySem.W.Frag) (a:Addr):It:=
 ⟨fun i H=>∃ xs x,SqT K H a xs∧xs[i]?=some x,fun i H x H'=>H'=H∧∀ xs,SqT K H a xs→xs[i]?=some x,fun i H=>∃ xs,SqT K H a xs∧xs.length≤i⟩
def GF (lo:Int) (n:Nat):It:=⟨fun i _=>i < n,fun i H x H'=>H'=H∧x= .int (lo+i),fun i _=>n≤i⟩
theorem zQ {P:Program} {w:World} {K:PySem.W.Frag} {tg:Expr} (a it:Addr):Turn P w K tg (Hd K a) [it] it (fun i h=>h.IsListIter it a i) where
 mem:=by simp
 obj:=fun i h st b hb=>by
  have e:b=it:=by simpa using hb
  subst e
  obtain ⟨o,e,c,d⟩:=st
  exact ⟨o,e,fun v z=>by rw [d] at z;cases z⟩
 keep:=fun i h h' st k=>st.at fun o e=>k it (by simp) o e
 item:=by
  intro X hP hw hK hc i pins s σ H E I hf st hg
  subst hP hw hK
  obtain ⟨xs,x,hq,hx⟩:=hg
  obtain ⟨its,rv,p,hz⟩:=I.list hq
  obtain ⟨u,hu,ru⟩:=rv.get hx
  obtain ⟨f0,f1,f2,f3,f4,f5⟩:=hf it (by simp)
  refine wpAny_pyNext_list_item st p.isList (x:=u) (by simpa using hu) fun h' st' sb=>?_
  have I1:Inv X pins σ H {s with heap:=h'}:=I.turned (t':=s.toks) (fun b o hb e=>(sb.2 b hb).trans e) f0 f1 f3 f4 f5
  obtain ⟨o,e,c,d⟩:=id st'
  exact ⟨u,rfl,qR (s:={s with heap:=h'}) e c d (by decide) ⟨x,H,I1,ru,⟨rfl,fun ys hy=>by rw [I.list_inj hy hq];exact hx⟩,st',fun b hb=>(hf b hb).1⟩⟩
 done:=by
  intro X hP hw hK hc i pins s σ H E I hf st hg
  subst hP hw hK
  obtain ⟨xs,hq,hx⟩:=hg
  obtain ⟨its,rv,p,hz⟩:=I.list hq
  obtain ⟨f0,f1,f2,f3,f4,f5⟩:=hf it (by simp)
  have hl:=rv.length
  exact wpAny_pyNext_list_end (I.ok.hd hc) st p.isList (by simp;omega) fun h' eb=>⟨rfl,I.turned (t':=s.toks) (fun b o hb e=>eb b o hb e) f0 f1 f3 f4 f5⟩
 self:=fun _ _ _ _ _ st h=>wpAny_pyIter_listiter st h
theorem xf {P:Program} {w:World} {K:PySem.W.Frag} {tg:Expr} (a it:Addr):Turn P w K tg (JV K a) [it] it (fun i h=>h.IsTupleIter it a i) where
 mem:=by simp
 obj:=fun i h st b hb=>by
  have e:b=it:=by simpa using hb
  subst e
  obtain ⟨o,e,c,d⟩:=st
  exact ⟨o,e,fun v z=>by rw [d] at z;cases z⟩
 keep:=fun i h h' st k=>st.at fun o e=>k it (by simp) o e
 item:=by
  intro X hP hw hK hc i pins s σ H E I hf st hg
  subst hP hw hK
  obtain ⟨xs,x,hq,hx⟩:=hg
  obtain ⟨its,rv,p,hz⟩:=I.tuple hq
  obtain ⟨u,hu,ru⟩:=rv.get hx
  obtain ⟨f0,f1,f2,f3,f4,f5⟩:=hf it (by simp)
  refine wpAny_pyNext_tuple_item st (show s.heap.IsTuple a its.toArray from p) (x:=u) (by simpa using hu) fun h' st' sb=>?_
  have I1:Inv X pins σ H {s with heap:=h'}:=I.turned (t':=s.toks) (fun b o hb e=>(sb.2 b hb).trans e) f0 f1 f3 f4 f5
  obtain ⟨o,e,c,d⟩:=id st'
  exact ⟨u,rfl,qR (s:={s with heap:=h'}) e c d (by decide) ⟨x,H,I1,ru,⟨rfl,fun ys hy=>by rw [I.tuple_inj hy hq];exact hx⟩,st',fun b hb=>(hf b hb).1⟩⟩
 done:=by
  intro X hP hw hK hc i pins s σ H E I hf st hg
  subst hP hw hK
  obtain ⟨xs,hq,hx⟩:=hg
  obtain ⟨its,rv,p,hz⟩:=I.tuple hq
  obtain ⟨f0,f1,f2,f3,f4,f5⟩:=hf it (by simp)
  have hl:=rv.length
  exact wpAny_pyNext_tuple_end (I.ok.hd hc) st (show s.heap.IsTuple a its.toArray from p) (by simp;omega) fun h' eb=>⟨rfl,I.turned (t':=s.toks) (fun b o hb e=>eb b o hb e) f0 f1 f3 f4 f5⟩
 self:=fun _ _ _ _ _ st h=>wpAny_pyIter_tupleiter st h
theorem xg {P:Program} {w:World} {K:PySem.W.Frag} {tg:Expr} (it:Addr) (lo:Int) (n:Nat):Turn P w K tg (GF lo n) [it] it (fun i h=>IsRangeIter h it (lo+(i:Nat)*1) ((n:Int) - (i:Nat)) 1) where
 mem:=by simp
 obj:=fun i h st b hb=>by
  have e:b=it:=by simpa using hb
  subst e
  exact ⟨_,st,fun v z=>by
   have z':Data.fields _=Data.cell v:=z
   cases z'⟩
 keep:=fun i h h' st k=>k it (by simp) _ st
 item:=by
  intro X hP hw hK hc i pins s σ H E I hf st hg
  subst hP hw hK
  obtain ⟨f0,f1,f2,f3,f4,f5⟩:=hf it (by simp)
  have W:=Walks.range (prog:=X.prog) (w:=X.w) (I.ok.hd hc) it lo 1 n
  refine W.item i s _ _ hg st fun v h' tk hv st' kk=>?_
  obtain ⟨t,rfl⟩:=hv
  have I1:Inv X pins σ H {s with heap:=h',toks:=tk}:=I.turned (fun b o hb e=>kk b o (by simpa using hb) e) f0 f1 f3 f4 f5
  refine ⟨_,rfl,qR (s:={s with heap:=h',toks:=tk}) (n:="range_iterator") st' rfl rfl (by decide) ⟨.int (lo+i),H,I1,⟨t,?_⟩,⟨rfl,rfl⟩,st',fun b hb=>(hf b hb).1⟩⟩
  rw [Int.mul_one]
 done:=by
  intro X hP hw hK hc i pins s σ H E I hf st hg
  subst hP hw hK
  obtain ⟨f0,f1,f2,f3,f4,f5⟩:=hf it (by simp)
  exact wpAny_pyNext_range_end (I.ok.hd hc) st (by have:n≤i:=hg;omega) fun h' eb=>⟨rfl,I.turned (t':=s.toks) (fun b o hb e=>eb b o hb e) f0 f1 f3 f4 f5⟩
 self:=fun _ _ _ _ _ st h=>wpAny_pyIter_rangeiter st h
end L2
namespace L2
open PySem PySem.Spec PyProof.Rows
section
variable {X:Cx} {tg:Expr}
theorem Cz {pins:List (Addr×Obj)} {σ:St} {H:Hp} {s:Shared} {R:It→Hp→Prop} {E:Value→Shared→Prop} {lo hi:Int} {t u v:Tok} {tk:Nat} (I:Inv X pins σ H s) (h1: -(2 ^ 62)≤lo) (h2:lo < 2 ^ 62) (h3: -(2 ^ 62)≤hi) (h4:hi < 2 ^ 62)
  (q:R (GF lo (hi - lo).toNat) H):wpAny (model X.prog X.w) X.A (pyIter (.ref s.heap.objs.size)) (PIE X pins σ tg R) E {s with heap:=s.heap.push {cls:=.type "range",data:=.fields #[.int lo t,.int hi u,.int 1 v]},toks:=tk}:=by
 refine wpAny_pyIter_range (IsRange.new ..) (small_one h1 h2 h3 h4) ?_
 have I1:Inv X pins σ H {s with heap:=s.heap.push {cls:=.type "range",data:=.fields #[.int lo t,.int hi u,.int 1 v]},toks:=tk}:=I.kept fun b o e=>Heap.get?_push_of_some _ e
 refine ⟨(s.heap.push {cls:=.type "range",data:=.fields #[.int lo t,.int hi u,.int 1 v]}).objs.size,[(s.heap.push {cls:=.type "range",data:=.fields #[.int lo t,.int hi u,.int 1 v]}).objs.size],_,_,H,rfl,
  I1.kept (t':=tk) fun b o e=>Heap.get?_push_of_some _ e,xg _ lo (hi - lo).toNat,?_,fun b hb=>?_,q⟩
 ·have e1:lo+((0:Nat):Int)*1=lo:=by simp
  have e2:(((hi - lo).toNat:Nat):Int) - ((0:Nat):Int)=Builtin.Range.rangeSize lo hi 1:=by rw [rangeSize_one];split <;> omega
  show IsRangeIter _ _ (lo+((0:Nat):Int)*1) ((((hi - lo).toNat:Nat):Int) - ((0:Nat):Int)) 1
  rw [e1,e2]
  exact Heap.get?_push_size _ rfl
 ·have e:b=(s.heap.push {cls:=.type "range",data:=.fields #[.int lo t,.int hi u,.int 1 v]}).objs.size:=by simpa using hb
  subst e
  exact I1.fpOk (Nat.le_refl _) (I1.hok.fresh (Nat.le_refl _))
def CG (ta:TA):TI:=fun σ H R=>ta σ H fun vs H1=>∃ j:Int,vs=[.int j]∧-(2 ^ 62)≤j∧j < 2 ^ 62∧R (GF 0 j.toNat) H1
theorem zR {a:Expr} {ta:TA} {p pos:Pos} (hg:Gl X "range") (hm:X.mg "range"=none) (ha:PA X [a] ta) (hs:autoParam (starEach [a] X.env=[(false,eval a X.env)]) L2.auto4._auto_1):PI X tg (.Call (.Name "range" p) [a] [] pos) (CG ta):=by
 intro pins s σ H R I h
 refine Call_ (fQ I hg hm boot_range (PyProof.Rows.callWith_type1 (dD (ha pos pins s σ H _ I h) fun us s1 ⟨vs,H1,I1,r1,q1⟩=>?_) hs rfl))
 obtain ⟨j,e,q1,q2,q⟩:=q1
 subst e
 cases r1 with
 | cons r rr=>
  cases rr
  obtain ⟨t,rfl⟩:=r
  exact call_range_1 (Cz I1 (by omega) (by omega) q1 q2 (by simpa using q))
def Hf (wi:TI) (g:TG) (tb:TS):TS:=fun D σ H=>wi σ H fun J H1=>∃ W:Nat→Nat→St→Hp→Prop,(∃ m,W 0 m σ H1)∧∀ i m σ H,W i m σ H→
 (J.stop i H∧D.nx σ H)∨(J.go i H∧∃ N:St→Hp→Prop,(∀ σ' H',N σ' H'→∃ m',m' < m∧W (i+1) m' σ' H')∧∀ x H',J.yld i H x H'→g x σ H' fun σ2 H2=>tb {D with nx:=N,ct:=N,bk:=D.nx} σ2 H2)
def oA (fp:List Addr) (h:Heap):List (Addr×Obj):=fp.filterMap fun b=>(h.get? b).map fun o=>(b,o)
theorem jj {fp:List Addr} {h:Heap} {b:Addr} {o:Obj} (hb:b∈fp) (e:h.get? b=some o):(b,o)∈oA fp h:=List.mem_filterMap.mpr ⟨b,hb,by rw [e];rfl⟩
theorem zU {fp:List Addr} {h:Heap} {p:Addr×Obj} (hp:p∈oA fp h):p.1∈fp∧h.get? p.1=some p.2:=by
 obtain ⟨b,hb,e⟩:=List.mem_filterMap.mp hp
 cases q:h.get? b with
 | none=>rw [q] at e;cases e
 | some o=>
  rw [q] at e
  have e':(b,o)=p:=Option.some.inj e
  subst e'
  exact ⟨hb,q⟩
theorem Inv.pinned {pins:List (Addr×Obj)} {σ:St} {H:Hp} {s:Shared} {fp:List Addr} (I:Inv X pins σ H s) (hf:∀ b∈fp,iw X pins H b) (ho:∀ b∈fp,∃ o,s.heap.get? b=some o∧∀ v,o.data≠.cell v):Inv X (pins ++ oA fp s.heap) σ H s:=
 I.pins_of fun p hp=>(List.mem_append.mp hp).elim (fun z=>I.pin p (List.mem_append_right _ z)) fun z=>by
  obtain ⟨hb,e⟩:=zU z
  obtain ⟨f0,f1,f2,_⟩:=hf p.1 hb
  obtain ⟨o,e',d⟩:=ho p.1 hb
  rw [e] at e';cases e'
  exact ⟨e,f0,f1,f2,d⟩
theorem Inv.unpinned {pins pl:List (Addr×Obj)} {σ:St} {H:Hp} {s:Shared} (I:Inv X (pins ++ pl) σ H s):Inv X pins σ H s:=I.pins_of fun p hp=>I.pin p (List.mem_append_right _ (List.mem_append_left _ hp))
theorem Lw {iter:Expr} {body:List Stmt} {wi:TI} {g:TG} {tb:TS} {pos:Pos} (hp:PassesOwn (model X.prog X.w) X.A X.env X.xe) (hc:X.calm=true) (hi:PI X tg iter wi) (hg:PG X tg g) (hb:PSs X body tb)
  (hs:autoParam (∀ x,foldedSetIterable iter X.env x=pure x) L2.auto3._auto_1):PS X (.For tg iter body [] pos) (Hf wi g tb):=by
 intro pins s σ H D I h
 refine wpAny_For (dD (hi pins s σ H _ I h) fun v s1 h1=>dD h1 fun itv s2 h2=>?_) hs
 obtain ⟨it,fp,tn,J,H2,e,I2,T,st2,f2,W,⟨m0,w0⟩,turn⟩:=h2
 subst e
 have stat:∀ {H':Hp},(∀ b∈fp,H' b=none)→∀ b∈fp,iw X pins H' b:=fun hn b hb=>⟨hn b hb,(f2 b hb).2⟩
 refine codeAny_forLoop_any (fun n s'=>∃ i σ' H',Inv X pins σ' H' s'∧tn i s'.heap∧(∀ b∈fp,H' b=none)∧W i n σ' H') ?_ m0 ⟨0,σ,H2,I2,st2,fun b hb=>(f2 b hb).1,w0⟩
 rintro n s3 ⟨i,σ3,H3,I3,st3,fr3,w3⟩
 rcases turn i n σ3 H3 w3 with ⟨stop,qn⟩ | ⟨go,N,hN,step⟩
 ·refine wpAny_passesOwn hp (dD (T.done X rfl rfl rfl hc i pins s3 σ3 H3 X.xe I3 (stat fr3) st3 stop) fun r s4 qq0=>?_)
  obtain ⟨hr,I4⟩:=qq0
  subst hr
  exact wpAny_execs_nil ⟨σ3,H3,I4,qn⟩
 ·refine wpAny_passesOwn hp (dD (T.item X rfl rfl rfl hc i pins s3 σ3 H3 X.xe I3 (stat fr3) st3 go) fun r s4 qq0=>?_)
  obtain ⟨u,hr,h4⟩:=qq0
  subst hr
  refine wpAny_passesOwn hp (dD h4 fun _ s5 qq0=>?_)
  obtain ⟨x,H5,I5,r5,y5,st5,fr5⟩:=qq0
  have I5':=I5.pinned (stat fr5) (T.obj _ _ st5)
  refine wpAny_passesOwn hp (dD (hg _ s5 σ3 H5 x u _ I5' r5 (step x H5 y5)) fun _ s6 qq0=>?_)
  obtain ⟨σ6,H6,I6,q6⟩:=qq0
  refine wpAny_passesOwn hp (dD (hb _ s6 σ6 H6 _ I6 q6) fun f s7 q7=>?_)
  have again:∀ {σ7:St} {H7:Hp},Inv X (pins ++ oA fp s5.heap) σ7 H7 s7→N σ7 H7→∃ m,m < n∧∃ i σ' H',Inv X pins σ' H' s7∧tn i s7.heap∧(∀ b∈fp,H' b=none)∧W i m σ' H':=fun {σ7 H7} I7 n7=>by
   obtain ⟨m',hm,w7⟩:=hN σ7 H7 n7
   refine ⟨m',hm,i+1,σ7,H7,I7.unpinned,T.keep _ _ _ st5 fun b hb o e=>(I7.pin (b,o) (List.mem_append_right _ (List.mem_append_right _ (jj hb e)))).1,fun b hb=>?_,w7⟩
   obtain ⟨o,e,d⟩:=T.obj _ _ st5 b hb
   exact (I7.pin (b,o) (List.mem_append_right _ (List.mem_append_right _ (jj hb e)))).2.1
  cases f with
  | next=>obtain ⟨σ7,H7,I7,n7⟩:=q7;exact again I7 n7
  | cont=>obtain ⟨σ7,H7,I7,n7⟩:=q7;exact again I7 n7
  | brk=>obtain ⟨σ7,H7,I7,q7⟩:=q7;exact ⟨σ7,H7,I7.unpinned,q7⟩
  | ret v=>obtain ⟨x7,σ7,H7,I7,r7,q7⟩:=q7;exact ⟨x7,σ7,H7,I7.unpinned,r7,q7⟩
end
theorem gW {K:PySem.W.Frag} {a:Addr} {xs:List V} {g:TG} {tb:TS} {D:Ends} {σ:St} {H:Hp} (Pv:Nat→St→Hp→Prop) (h0:Pv 0 σ H) (hl:∀ i σ H,i≤xs.length→Pv i σ H→SqL K H a xs)
  (hs:∀ i x σ H,xs[i]?=some x→Pv i σ H→g x σ H fun σ2 H2=>tb {D with nx:=Pv (i+1),ct:=Pv (i+1),bk:=D.nx} σ2 H2) (hd:∀ σ H,Pv xs.length σ H→D.nx σ H):
  ∃ W:Nat→Nat→St→Hp→Prop,(∃ m,W 0 m σ H)∧∀ i m σ H,W i m σ H→
   ((Hd K a).stop i H∧D.nx σ H)∨((Hd K a).go i H∧∃ N:St→Hp→Prop,(∀ σ' H',N σ' H'→∃ m',m' < m∧W (i+1) m' σ' H')∧∀ x H',(Hd K a).yld i H x H'→g x σ H' fun σ2 H2=>tb {D with nx:=N,ct:=N,bk:=D.nx} σ2 H2):=by
 refine ⟨fun i m σ H=>m=xs.length - i∧i≤xs.length∧Pv i σ H,⟨xs.length,by simp,Nat.zero_le _,h0⟩,?_⟩
 rintro i m σ H ⟨rfl,hi,p⟩
 have q:=hl i σ H hi p
 by_cases hlt:i < xs.length
 ·refine .inr ⟨⟨xs,xs[i],q,by simp [hlt]⟩,Pv (i+1),fun σ' H' p'=>⟨xs.length - (i+1),by omega,rfl,hlt,p'⟩,fun x H' y=>?_⟩
  obtain ⟨e,y⟩:=y
  subst e
  exact hs i x σ _ (y xs q) p
 ·have e:i=xs.length:=by omega
  subst e
  exact .inl ⟨⟨xs,q,Nat.le_refl _⟩,hd σ H p⟩
theorem Hg {K:PySem.W.Frag} {a:Addr} {xs:List V} {g:TG} {tb:TS} {D:Ends} {σ:St} {H:Hp} (Pv:Nat→St→Hp→Prop) (h0:Pv 0 σ H) (hl:∀ i σ H,i≤xs.length→Pv i σ H→SqT K H a xs)
  (hs:∀ i x σ H,xs[i]?=some x→Pv i σ H→g x σ H fun σ2 H2=>tb {D with nx:=Pv (i+1),ct:=Pv (i+1),bk:=D.nx} σ2 H2) (hd:∀ σ H,Pv xs.length σ H→D.nx σ H):
  ∃ W:Nat→Nat→St→Hp→Prop,(∃ m,W 0 m σ H)∧∀ i m σ H,W i m σ H→
   ((JV K a).stop i H∧D.nx σ H)∨((JV K a).go i H∧∃ N:St→Hp→Prop,(∀ σ' H',N σ' H'→∃ m',m' < m∧W (i+1) m' σ' H')∧∀ x H',(JV K a).yld i H x H'→g x σ H' fun σ2 H2=>tb {D with nx:=N,ct:=N,bk:=D.nx} σ2 H2):=by
 refine ⟨fun i m σ H=>m=xs.length - i∧i≤xs.length∧Pv i σ H,⟨xs.length,by simp,Nat.zero_le _,h0⟩,?_⟩
 rintro i m σ H ⟨rfl,hi,p⟩
 have q:=hl i σ H hi p
 by_cases hlt:i < xs.length
 ·refine .inr ⟨⟨xs,xs[i],q,by simp [hlt]⟩,Pv (i+1),fun σ' H' p'=>⟨xs.length - (i+1),by omega,rfl,hlt,p'⟩,fun x H' y=>?_⟩
  obtain ⟨e,y⟩:=y
  subst e
  exact hs i x σ _ (y xs q) p
 ·have e:i=xs.length:=by omega
  subst e
  exact .inl ⟨⟨xs,q,Nat.le_refl _⟩,hd σ H p⟩
theorem oE {lo:Int} {n:Nat} {g:TG} {tb:TS} {D:Ends} {σ:St} {H:Hp} (Pv:Nat→St→Hp→Prop) (h0:Pv 0 σ H)
  (hs:∀ i σ H,i < n→Pv i σ H→g (.int (lo+i)) σ H fun σ2 H2=>tb {D with nx:=Pv (i+1),ct:=Pv (i+1),bk:=D.nx} σ2 H2) (hd:∀ σ H,Pv n σ H→D.nx σ H):
  ∃ W:Nat→Nat→St→Hp→Prop,(∃ m,W 0 m σ H)∧∀ i m σ H,W i m σ H→
   ((GF lo n).stop i H∧D.nx σ H)∨((GF lo n).go i H∧∃ N:St→Hp→Prop,(∀ σ' H',N σ' H'→∃ m',m' < m∧W (i+1) m' σ' H')∧∀ x H',(GF lo n).yld i H x H'→g x σ H' fun σ2 H2=>tb {D with nx:=N,ct:=N,bk:=D.nx} σ2 H2):=by
 refine ⟨fun i m σ H=>m=n - i∧i≤n∧Pv i σ H,⟨n,by simp,Nat.zero_le _,h0⟩,?_⟩
 rintro i m σ H ⟨rfl,hi,p⟩
 by_cases hlt:i < n
 ·refine .inr ⟨hlt,Pv (i+1),fun σ' H' p'=>⟨n - (i+1),by omega,rfl,hlt,p'⟩,fun x H' y=>?_⟩
  obtain ⟨e,y⟩:=y
  subst e y
  exact hs i σ _ hlt p
 ·have e:i=n:=by omega
  subst e
  exact .inl ⟨Nat.le_refl _,hd σ H p⟩
end L2
namespace L2
open PySem PySem.Spec PyProof.Rows
abbrev R2:=V→V→Hp→VK→Prop
def OpR (X:Cx) (f:Value→Value→Sem Value) (r:R2):Prop:=
 ∀ (pins:List (Addr×Obj)) (s:Shared) (σ:St) (H:Hp) (x y:V) (v u:Value) (Q:VK),Inv X pins σ H s→RelV x v→RelV y u→r x y H Q→
  wpAny (model X.prog X.w) X.A (f v u) (EP X pins σ Q) X.xe s
def Ue (X:Cx) (f:Value→Sem Value) (r:V→Hp→VK→Prop):Prop:=
 ∀ (pins:List (Addr×Obj)) (s:Shared) (σ:St) (H:Hp) (x:V) (v:Value) (Q:VK),Inv X pins σ H s→RelV x v→r x H Q→
  wpAny (model X.prog X.w) X.A (f v) (EP X pins σ Q) X.xe s
def CallR (X:Cx) (f:Value) (r:List V→Hp→VK→Prop):Prop:=
 ∀ (pins:List (Addr×Obj)) (s:Shared) (σ:St) (H:Hp) (xs:List V) (us:List Value) (Q:VK),Inv X pins σ H s→Vals xs us→r xs H Q→
  wpAny (model X.prog X.w) X.A (call f us) (EP X pins σ Q) X.xe s
def GJ (r:R2) (ta tb:TE):TE:=fun σ H Q=>ta σ H fun x H1=>tb σ H1 fun y H2=>r x y H2 Q
def tUn (r:V→Hp→VK→Prop) (ta:TE):TE:=fun σ H Q=>ta σ H fun x H1=>r x H1 Q
def rI (C:Int→Int→Prop) (g:Int→Int→V):R2:=fun x y H Q=>∃ i j,x= .int i∧y= .int j∧C i j∧Q (g i j) H
def JX (g:Int→Int→V):R2:=fun x y H Q=>∃ i j,x= .int i∧y= .int j∧Q (g i j) H
def rU (g:Int→V):V→Hp→VK→Prop:=fun x H Q=>∃ i,x= .int i∧Q (g i) H
section
variable {X:Cx} {a b c:Expr} {ta tb tc:TE} {pos:Pos}
theorem Lx (ha:PE X a ta) (hb:PE X b tb) {pins:List (Addr×Obj)} {s:Shared} {σ:St} {H:Hp} {R:V→V→Hp→Prop} (I:Inv X pins σ H s)
  (h:ta σ H fun x H1=>tb σ H1 fun y H2=>R x y H2) {Q:Value→Shared→Prop} {f:Value→Value→Sem Value}
  (hf:∀ v u s2 x y H2,Inv X pins σ H2 s2→RelV x v→RelV y u→R x y H2→wpAny (model X.prog X.w) X.A (f v u) Q X.xe s2):
  wpAny (model X.prog X.w) X.A (eval a X.env) (fun v s₁=>wpAny (model X.prog X.w) X.A (eval b X.env) (fun u s₂=>wpAny (model X.prog X.w) X.A (f v u) Q X.xe s₂) X.xe s₁) X.xe s:=by
 refine dD (ha pins s σ H _ I h) fun v s1 qq0=>?_
 obtain ⟨x,H1,I1,r1,q1⟩:=qq0
 refine dD (hb pins s1 σ H1 _ I1 q1) fun u s2 qq0=>?_
 obtain ⟨y,H2,I2,r2,q2⟩:=qq0
 exact hf v u s2 x y H2 I2 r1 r2 q2
theorem Qu {op:Operator} {r:R2} (ho:OpR X (binaryOp op) r) (ha:PE X a ta) (hb:PE X b tb):PE X (.BinOp a op b pos) (GJ r ta tb):=by
 intro pins s σ H Q I h
 exact wpAny_BinOp (Lx ha hb I h fun v u s2 x y H2 I2 rx ry q=>ho pins s2 σ H2 x y v u Q I2 rx ry q)
theorem Qv {op:UnaryOp} {r:V→Hp→VK→Prop} (ho:Ue X (unaryOp op) r) (ha:PE X a ta):PE X (.UnaryOp op a pos) (tUn r ta):=by
 intro pins s σ H Q I h
 exact UnaryOp_ (dD (ha pins s σ H _ I h) fun v s1 ⟨x,H1,I1,r1,q1⟩=>ho pins s1 σ H1 x v Q I1 r1 q1)
theorem Ug {f:Value→Value→Sem Value} {C:Int→Int→Prop} {g:Int→Int→Int}
  (rule:∀ (i j:Int) (t u:Tok) (s:Shared) (Q:Value→Shared→Prop) (E:Value→Shared→Prop),C i j→Q (.int (g i j) s.toks) {s with toks:=s.toks+1}→wpAny (model X.prog X.w) X.A (f (.int i t) (.int j u)) Q E s):
  OpR X f (rI C fun i j=>.int (g i j)):=by
 intro pins s σ H x y v u Q I rx ry h
 obtain ⟨i,j,rfl,rfl,hc,q⟩:=h
 obtain ⟨t,rfl⟩:=rx
 obtain ⟨t',rfl⟩:=ry
 exact rule i j t t' s _ _ hc ⟨.int (g i j),H,I.tok _,⟨_,rfl⟩,q⟩
theorem Qw {f:Value→Value→Sem Value} {g:Int→Int→Int}
  (rule:∀ (i j:Int) (t u:Tok) (s:Shared) (Q:Value→Shared→Prop) (E:Value→Shared→Prop),Q (.int (g i j) s.toks) {s with toks:=s.toks+1}→wpAny (model X.prog X.w) X.A (f (.int i t) (.int j u)) Q E s):
  OpR X f (JX fun i j=>.int (g i j)):=by
 intro pins s σ H x y v u Q I rx ry h
 obtain ⟨i,j,rfl,rfl,q⟩:=h
 obtain ⟨t,rfl⟩:=rx
 obtain ⟨t',rfl⟩:=ry
 exact rule i j t t' s _ _ ⟨.int (g i j),H,I.tok _,⟨_,rfl⟩,q⟩
theorem Ly {f:Value→Value→Sem Value} {g:Int→Int→Bool}
  (rule:∀ (i j:Int) (t u:Tok) (s:Shared) (Q:Value→Shared→Prop) (E:Value→Shared→Prop),Q (.bool (g i j)) s→wpAny (model X.prog X.w) X.A (f (.int i t) (.int j u)) Q E s):
  OpR X f (JX fun i j=>.bl (g i j)):=by
 intro pins s σ H x y v u Q I rx ry h
 obtain ⟨i,j,rfl,rfl,q⟩:=h
 obtain ⟨t,rfl⟩:=rx
 obtain ⟨t',rfl⟩:=ry
 exact rule i j t t' s _ _ ⟨.bl (g i j),H,I,rfl,q⟩
def CPow (i j:Int):Prop:=0≤j∧j≤1000000∧i.natAbs < 2 ^ 64
def CMul (i j:Int):Prop:=(-(2 ^ 64) < i∧i < 2 ^ 64)∨(-(2 ^ 64) < j∧j < 2 ^ 64)
theorem CMul.ok {i j:Int} (h:CMul i j):IntMulOk i j:=by
 rcases h with ⟨h1,h2⟩ | ⟨h1,h2⟩
 ·exact .of_left (intBits_le_64 h1 h2)
 ·exact .of_right (intBits_le_64 h1 h2)
theorem Lz:OpR X (binaryOp .Add) (JX fun i j=>.int (i+j)):=Qw fun _ _ _ _ _ _ _ q=>add_int q
theorem oF:OpR X (binaryOp .Sub) (JX fun i j=>.int (i - j)):=Qw fun _ _ _ _ _ _ _ q=>sub_int q
theorem LC:OpR X (binaryOp .Mult) (rI CMul fun i j=>.int (i*j)):=Ug fun _ _ _ _ _ _ _ hc q=>mul_int q hc.ok
theorem eU:OpR X (binaryOp .Mod) (rI (fun _ j=>0 < j) fun i j=>.int (i % j)):=Ug fun i j _ _ _ _ _ hc q=>by
 have h1:(0:Int) < j:=hc
 exact mod_int' (by omega) (by rw [Int.fmod_eq_emod_of_nonneg i (by omega)];exact q)
theorem xj:OpR X (binaryOp .Pow) (rI CPow fun i j=>.int (i ^ j.toNat)):=Ug fun _ _ _ _ _ _ _ hc q=>pow_int_small hc.1 hc.2.1 hc.2.2 q
theorem unI {f:Value→Sem Value} {g:Int→Int}
  (rule:∀ (i:Int) (t:Tok) (s:Shared) (Q:Value→Shared→Prop) (E:Value→Shared→Prop),Q (.int (g i) s.toks) {s with toks:=s.toks+1}→wpAny (model X.prog X.w) X.A (f (.int i t)) Q E s):
  Ue X f (rU fun i=>.int (g i)):=by
 intro pins s σ H x v Q I rx h
 obtain ⟨i,rfl,q⟩:=h
 obtain ⟨t,rfl⟩:=rx
 exact rule i t s _ _ ⟨.int (g i),H,I.tok _,⟨_,rfl⟩,q⟩
theorem lX:Ue X (unaryOp .USub) (rU fun i=>.int (-i)):=unI fun _ _ _ _ _ q=>neg_int q
end
def Qx:V→V→Bool
 | .non,.non=>true | .non,.int _=>true | .int _,.non=>true | .non,.bl _=>true | .bl _,.non=>true | .non,.str _=>true | .str _,.non=>true
 | .int _,.int _=>true | .bl _,.bl _=>true | .str _,.str _=>true | .byt _,.byt _=>true
 | .int _,.str _=>true | .str _,.int _=>true | .bl _,.str _=>true | .str _,.bl _=>true
 | _,_=>false
def rEq:R2:=fun x y H Q=>Qx x y=true∧Q (.bl (decide (x=y))) H
def rNe:R2:=fun x y H Q=>Qx x y=true∧Q (.bl (!decide (x=y))) H
theorem yF {i j:Int}:decide (V.int i=V.int j)=(i == j):=by
 rw [Bool.eq_iff_iff]
 simp
theorem CJ {i j:Bool}:decide (V.bl i=V.bl j)=(i == j):=by
 rw [Bool.eq_iff_iff]
 simp
theorem yG {i j:Str}:decide (V.str i=V.str j)=(i == j):=by
 rw [Bool.eq_iff_iff]
 simp
theorem yH {i j:Array UInt8}:decide (V.byt i=V.byt j)=(i.toList == j.toList):=by
 rw [Bool.eq_iff_iff]
 cases i
 cases j
 simp
section
variable {X:Cx} {a b c:Expr} {ta tb tc:TE} {pos:Pos}
theorem bA {pins:List (Addr×Obj)} {σ:St} {H:Hp} {s:Shared} {Q:VK} {k k':Bool} (I:Inv X pins σ H s) (q:Q (.bl k) H) (e:k=k'):EP X pins σ Q (.bool k') s:=by
 subst e
 exact ⟨.bl k,H,I,rfl,q⟩
theorem Qy:OpR X (compareOp .Eq) rEq:=by
 intro pins s σ H x y v u Q I rx ry h
 obtain ⟨hs,q⟩:=h
 cases x with
 | non=>
  cases rx
  cases y with
  | non=>cases ry;exact PySem.EqNone.eq_none_none (bA I q (by simp))
  | bl j=>cases ry;exact PySem.EqNone.eq_none_bool (bA I q (by simp))
  | int j=>obtain ⟨t',rfl⟩:=ry;exact PySem.EqNone.eq_none_int (bA I q (by simp))
  | str j=>obtain ⟨t',rfl⟩:=ry;exact PySem.EqNone.eq_none_str (bA I q (by simp))
  | _=>exact absurd (show false=true from hs) Bool.false_ne_true
 | bl i=>
  cases rx
  cases y with
  | non=>cases ry;exact PySem.EqNone.eq_bool_none (bA I q (by simp))
  | bl j=>cases ry;exact eq_bool (bA I q CJ)
  | str j=>obtain ⟨t',rfl⟩:=ry;exact PySem.EqMixed.eq_bool_str (bA I q (by simp))
  | _=>exact absurd (show false=true from hs) Bool.false_ne_true
 | int i=>
  obtain ⟨t,rfl⟩:=rx
  cases y with
  | non=>cases ry;exact PySem.EqNone.eq_int_none (bA I q (by simp))
  | int j=>obtain ⟨t',rfl⟩:=ry;exact eq_int (bA I q yF)
  | str j=>obtain ⟨t',rfl⟩:=ry;exact PySem.EqMixed.eq_int_str (bA I q (by simp))
  | _=>exact absurd (show false=true from hs) Bool.false_ne_true
 | str i=>
  obtain ⟨t,rfl⟩:=rx
  cases y with
  | non=>cases ry;exact PySem.EqNone.eq_str_none (bA I q (by simp))
  | bl j=>cases ry;exact PySem.EqMixed.eq_str_bool (bA I q (by simp))
  | int j=>obtain ⟨t',rfl⟩:=ry;exact PySem.EqMixed.eq_str_int (bA I q (by simp))
  | str j=>obtain ⟨t',rfl⟩:=ry;exact eq_str (bA I q yG)
  | _=>exact absurd (show false=true from hs) Bool.false_ne_true
 | byt i=>
  obtain ⟨t,rfl⟩:=rx
  cases y with
  | byt j=>obtain ⟨t',rfl⟩:=ry;exact PySem.W.eq_bytes (bA I q yH)
  | _=>exact absurd (show false=true from hs) Bool.false_ne_true
 | _=>cases y <;> exact absurd (show false=true from hs) Bool.false_ne_true
theorem Qz:OpR X (compareOp .NotEq) rNe:=by
 intro pins s σ H x y v u Q I rx ry h
 obtain ⟨hs,q⟩:=h
 cases x with
 | non=>
  cases rx
  cases y with
  | non=>cases ry;exact PySem.EqNone.ne_none_none (bA I q (by simp))
  | bl j=>cases ry;exact PySem.EqNone.ne_none_bool (bA I q (by simp))
  | int j=>obtain ⟨t',rfl⟩:=ry;exact PySem.EqNone.ne_none_int (bA I q (by simp))
  | str j=>obtain ⟨t',rfl⟩:=ry;exact PySem.EqNone.ne_none_str (bA I q (by simp))
  | _=>exact absurd (show false=true from hs) Bool.false_ne_true
 | bl i=>
  cases rx
  cases y with
  | non=>cases ry;exact PySem.EqNone.ne_bool_none (bA I q (by simp))
  | bl j=>cases ry;exact ne_bool (bA I q (congrArg not CJ))
  | str j=>obtain ⟨t',rfl⟩:=ry;exact PySem.EqMixed.ne_bool_str (bA I q (by simp))
  | _=>exact absurd (show false=true from hs) Bool.false_ne_true
 | int i=>
  obtain ⟨t,rfl⟩:=rx
  cases y with
  | non=>cases ry;exact PySem.EqNone.ne_int_none (bA I q (by simp))
  | int j=>obtain ⟨t',rfl⟩:=ry;exact ne_int (bA I q (congrArg not yF))
  | str j=>obtain ⟨t',rfl⟩:=ry;exact PySem.EqMixed.ne_int_str (bA I q (by simp))
  | _=>exact absurd (show false=true from hs) Bool.false_ne_true
 | str i=>
  obtain ⟨t,rfl⟩:=rx
  cases y with
  | non=>cases ry;exact PySem.EqNone.ne_str_none (bA I q (by simp))
  | bl j=>cases ry;exact PySem.EqMixed.ne_str_bool (bA I q (by simp))
  | int j=>obtain ⟨t',rfl⟩:=ry;exact PySem.EqMixed.ne_str_int (bA I q (by simp))
  | str j=>obtain ⟨t',rfl⟩:=ry;exact ne_str (bA I q (congrArg not yG))
  | _=>exact absurd (show false=true from hs) Bool.false_ne_true
 | byt i=>
  obtain ⟨t,rfl⟩:=rx
  cases y with
  | byt j=>obtain ⟨t',rfl⟩:=ry;exact PySem.W.ne_bytes (bA I q (congrArg not yH))
  | _=>exact absurd (show false=true from hs) Bool.false_ne_true
 | _=>cases y <;> exact absurd (show false=true from hs) Bool.false_ne_true
theorem qT:OpR X (compareOp .Lt) (JX fun i j=>.bl (decide (i < j))):=Ly fun _ _ _ _ _ _ _ q=>lt_int q
theorem tQ:OpR X (compareOp .LtE) (JX fun i j=>.bl (decide (i≤j))):=Ly fun _ _ _ _ _ _ _ q=>le_int q
theorem CK:OpR X (compareOp .Gt) (JX fun i j=>.bl (decide (j < i))):=Ly fun _ _ _ _ _ _ _ q=>gt_int q
theorem zV:OpR X (compareOp .In) (fun x y H Q=>∃ i j,x= .str i∧y= .str j∧Q (.bl (!(Builtin.Str.occurrences j i 0 j.length 1).isEmpty)) H):=by
 intro pins s σ H x y v u Q I rx ry h
 obtain ⟨i,j,rfl,rfl,q⟩:=h
 obtain ⟨t,rfl⟩:=rx
 obtain ⟨t',rfl⟩:=ry
 exact in_str (bA I q rfl)
theorem LK:OpR X (compareOp .Is) (fun x y H Q=>y= .non∧Q (.bl (decide (x= .non))) H):=by
 intro pins s σ H x y v u Q I rx ry h
 obtain ⟨rfl,q⟩:=h
 cases ry
 refine is_none_gen (bA I q ?_)
 cases x <;> first
  | (cases rx;rfl)
  | (obtain ⟨t,rfl⟩:=rx;rfl)
theorem Hh:OpR X (compareOp .IsNot) (fun x y H Q=>y= .non∧Q (.bl (!decide (x= .non))) H):=by
 intro pins s σ H x y v u Q I rx ry h
 obtain ⟨rfl,q⟩:=h
 cases ry
 refine isnot_none_gen (bA I q ?_)
 cases x <;> first
  | (cases rx;rfl)
  | (obtain ⟨t,rfl⟩:=rx;rfl)
theorem OpR.or {f:Value→Value→Sem Value} {r r':R2} (h:OpR X f r) (h':OpR X f r'):OpR X f (fun x y H Q=>r x y H Q∨r' x y H Q):=by
 intro pins s σ H x y v u Q I rx ry q
 rcases q with q | q
 ·exact h pins s σ H x y v u Q I rx ry q
 ·exact h' pins s σ H x y v u Q I rx ry q
theorem aV (b:Expr) {op:CmpOp} (h:autoParam (op≠.In) L2.auto2._auto_1) (h2:autoParam (op≠.NotIn) L2.auto2._auto_1):behindInMarks op b=false:=by
 have e1:(op == CmpOp.In)=false:=by cases op <;> first | rfl | exact absurd rfl h
 have e2:(op == CmpOp.NotIn)=false:=by cases op <;> first | rfl | exact absurd rfl h2
 cases b <;> simp [behindInMarks,e1,e2]
theorem Hi {op:CmpOp} {r:R2} (ho:OpR X (compareOp op) r) (ha:PE X a ta) (hb:PE X b tb) (hm:behindInMarks op b=false):PE X (.Compare a [op] [b] pos) (GJ r ta tb):=by
 intro pins s σ H Q I h
 exact wpAny_Compare1 (Lx ha hb I h fun v u s2 x y H2 I2 rx ry q=>ho pins s2 σ H2 x y v u Q I2 rx ry q) hm
def vo (t:TE):TT:=fun σ H Q=>t σ H fun x H'=>∃ k,x= .bl k∧Q k H'
theorem Hj {op:CmpOp} {r:R2} (ho:OpR X (compareOp op) r) (ha:PE X a ta) (hb:PE X b tb) (hm:behindInMarks op b=false):PT X (.Compare a [op] [b] pos) (vo (GJ r ta tb)):=by
 intro pins s σ H Q I h
 refine wpAny_isTrue_Compare1 (dD (ha pins s σ H _ I h) fun v s1 ⟨x,H1,I1,r1,q1⟩=>dD (hb pins s1 σ H1 _ I1 q1) fun u s2 ⟨y,H2,I2,r2,q2⟩=>
  dD (ho pins s2 σ H2 x y v u _ I2 r1 r2 q2) fun c s3 ⟨z,H3,I3,r3,k,e,q3⟩=>?_) hm
 subst e
 cases r3
 exact wpAny_truthy_bool ⟨H3,I3,q3⟩
def qU (r r':R2) (ta tb tc:TE):TE:=fun σ H Q=>ta σ H fun x H1=>tb σ H1 fun y H2=>r x y H2 fun z H3=>∃ k,z= .bl k∧
 (if k=true then tc σ H3 fun w' H4=>r' y w' H4 Q else Q (.bl false) H3)
theorem CN {op op':CmpOp} {r r':R2} (ho:OpR X (compareOp op) r) (ho':OpR X (compareOp op') r') (ha:PE X a ta) (hb:PE X b tb) (hc:PE X c tc)
  (hm:autoParam (lastMarks [op,op'] [b,c]=false) L2.auto5._auto_1):PE X (.Compare a [op,op'] [b,c] pos) (qU r r' ta tb tc):=by
 intro pins s σ H Q I h
 refine Compare_chain (dD (ha pins s σ H _ I h) fun v s1 ⟨x,H1,I1,r1,q1⟩=>chain_link (dD (hb pins s1 σ H1 _ I1 q1) fun u s2 ⟨y,H2,I2,r2,q2⟩=>
  dD (ho pins s2 σ H2 x y v u _ I2 r1 r2 q2) fun d s3 ⟨z,H3,I3,r3,k,e,q3⟩=>?_)) hm
 subst e
 cases r3
 refine wpAny_truthy_bool ?_
 cases k with
 | false=>exact ite_ff ⟨.bl false,H3,I3,rfl,q3⟩
 | true=>exact ite_tt (chain_last (dD (hc pins s3 σ H3 _ I3 q3) fun w' s4 ⟨z',H4,I4,r4,q4⟩=>ho' pins s4 σ H4 y z' u w' Q I4 r2 r4 q4))
theorem CP {op op':CmpOp} {r r':R2} (ho:OpR X (compareOp op) r) (ho':OpR X (compareOp op') r') (ha:PE X a ta) (hb:PE X b tb) (hc:PE X c tc)
  (hm:autoParam (lastMarks [op,op'] [b,c]=false) L2.auto5._auto_1):PT X (.Compare a [op,op'] [b,c] pos) (vo (qU r r' ta tb tc)):=by
 intro pins s σ H Q I h
 refine isTrue_chain (dD (ha pins s σ H _ I h) fun v s1 ⟨x,H1,I1,r1,q1⟩=>test_link (dD (hb pins s1 σ H1 _ I1 q1) fun u s2 ⟨y,H2,I2,r2,q2⟩=>
  dD (ho pins s2 σ H2 x y v u _ I2 r1 r2 q2) fun d s3 ⟨z,H3,I3,r3,k,e,q3⟩=>?_)) hm
 subst e
 cases r3
 refine wpAny_truthy_bool ?_
 cases k with
 | false=>
  obtain ⟨k',e',q'⟩:=q3
  cases e'
  exact ite_ff ⟨H3,I3,q'⟩
 | true=>
  refine ite_tt (test_last (dD (hc pins s3 σ H3 _ I3 q3) fun w' s4 ⟨z',H4,I4,r4,q4⟩=>dD (ho' pins s4 σ H4 y z' u w' _ I4 r2 r4 q4) fun d' s5 qq0=>?_))
  obtain ⟨z2,H5,I5,r5,k2,e2,q5⟩:=qq0
  subst e2
  cases r5
  exact wpAny_truthy_bool ⟨H5,I5,q5⟩
theorem qW:(sizeLine:Nat) < 2 ^ 63:=by rw [sizeLine_eq];decide
theorem xm:OpR X (binaryOp .Add) (fun x y H Q=>∃ i j,x= .str i∧y= .str j∧i.length+j.length≤sizeLine∧Q (.str (i ++ j)) H):=by
 intro pins s σ H x y v u Q I rx ry h
 obtain ⟨i,j,rfl,rfl,hz,q⟩:=h
 obtain ⟨t,rfl⟩:=rx
 obtain ⟨t',rfl⟩:=ry
 exact add_str (fun t' tk=>⟨.str (i ++ j),H,I.tok _,⟨_,rfl⟩,q⟩) hz
theorem vals1 {x:V} {us:List Value} (r:Vals [x] us):∃ u,us=[u]∧RelV x u:=by
 cases r with
 | cons r1 r2=>cases r2;exact ⟨_,rfl,r1⟩
theorem vals2 {x y:V} {us:List Value} (r:Vals [x,y] us):∃ u w',us=[u,w']∧RelV x u∧RelV y w':=by
 cases r with
 | cons r1 r2=>
  cases r2 with
  | cons r3 r4=>cases r4;exact ⟨_,_,rfl,r1,r3⟩
theorem zW (hc:X.calm=true):CallR X (.builtin "max") (fun xs H Q=>∃ i j,xs=[.int i,.int j]∧Q (.int (if j > i then j else i)) H):=by
 intro pins s σ H xs us Q I r h
 obtain ⟨i,j,rfl,q⟩:=h
 obtain ⟨u,w',rfl,⟨t,rfl⟩,⟨t',rfl⟩⟩:=vals2 r
 refine max_two_ints (I.ok.hd hc) fun h' tk k=>⟨_,H,I.kept k,?_,q⟩
 by_cases hj:j > i
 ·rw [if_pos hj,if_pos hj];exact ⟨_,rfl⟩
 ·rw [if_neg hj,if_neg hj];exact ⟨_,rfl⟩
theorem zX (hc:X.calm=true):CallR X (.builtin "min") (fun xs H Q=>∃ i j,xs=[.int i,.int j]∧Q (.int (if j < i then j else i)) H):=by
 intro pins s σ H xs us Q I r h
 obtain ⟨i,j,rfl,q⟩:=h
 obtain ⟨u,w',rfl,⟨t,rfl⟩,⟨t',rfl⟩⟩:=vals2 r
 refine min_two_ints (I.ok.hd hc) fun h' tk k=>⟨_,H,I.kept k,?_,q⟩
 by_cases hj:j < i
 ·rw [if_pos hj,if_pos hj];exact ⟨_,rfl⟩
 ·rw [if_neg hj,if_neg hj];exact ⟨_,rfl⟩
theorem zY:CallR X (.type "int") (fun xs H Q=>(∃ i,xs=[.int i]∧Q (.int i) H)∨∃ k,xs=[.bl k]∧Q (.int (if k then 1 else 0)) H):=by
 intro pins s σ H xs us Q I r h
 rcases h with ⟨i,rfl,q⟩ | ⟨k,rfl,q⟩
 ·obtain ⟨u,rfl,t,rfl⟩:=vals1 r
  exact call_int_int ⟨.int i,H,I,⟨_,rfl⟩,q⟩
 ·obtain ⟨u,rfl,r1⟩:=vals1 r
  cases r1
  exact call_int_bool ⟨.int (if k then 1 else 0),H,I.tok _,⟨_,rfl⟩,q⟩
def QB (K:PySem.W.Frag) (x:V) (H:Hp) (n:Nat):Prop:=
 match x with
 | .str y=>y.length≤sizeLine∧n=y.length
 | .byt y=>y.size≤sizeLine∧n=y.size
 | .ref p=>(∃ xs,SqL K H p xs∧n=xs.length)∨∃ xs,SqT K H p xs∧n=xs.length
 | _=>False
theorem CQ:CallR X (.builtin "len") (fun xs H Q=>∃ x n,xs=[x]∧QB X.K x H n∧Q (.int n) H):=by
 intro pins s σ H xs us Q I r h
 obtain ⟨x,n,rfl,e,q⟩:=h
 obtain ⟨u,rfl,rx⟩:=vals1 r
 have hl:=qW
 have hs:sizeLine=16777216:=sizeLine_eq
 cases x with
 | str y=>
  obtain ⟨t,rfl⟩:=rx
  obtain ⟨hy,e'⟩:y.length≤sizeLine∧n=y.length:=e
  subst e'
  exact len_str (by omega) ⟨.int _,H,I.tok _,⟨_,rfl⟩,q⟩
 | byt y=>
  obtain ⟨t,rfl⟩:=rx
  obtain ⟨hy,e'⟩:y.size≤sizeLine∧n=y.size:=e
  subst e'
  exact PySem.W.len_bytes (by omega) ⟨.int _,H,I.tok _,⟨_,rfl⟩,q⟩
 | ref p=>
  cases rx
  have e':(∃ xs,SqL X.K H p xs∧n=xs.length)∨∃ xs,SqT X.K H p xs∧n=xs.length:=e
  rcases e' with ⟨xs,hx,e'⟩ | ⟨xs,hx,e'⟩
  ·subst e'
   obtain ⟨its,r',pl,hz⟩:=I.list hx
   have hlen:=r'.length
   exact Calls.call_len_list pl.isList (by simp only [List.size_toArray];omega) ⟨.int xs.length,H,I.tok _,⟨_,by simp only [List.size_toArray];rw [hlen]⟩,q⟩
  ·subst e'
   obtain ⟨its,r',pl,hz⟩:=I.tuple hx
   have hlen:=r'.length
   exact len_tuple pl (by simp only [List.size_toArray];omega) ⟨.int xs.length,H,I.tok _,⟨_,by simp only [List.size_toArray];rw [hlen]⟩,q⟩
 | _=>exact (show False from e).elim
end
end L2
namespace L2
open PySem PySem.Spec PyProof.Rows
structure ObjM (h:Heap) (x dx C:Addr) (mA:Str→Option Value):Prop where
 obj:h.get? x=some (PySem.W.instObj C dx)
 ns:h.Ns1 dx mA
 ne:dx≠x
theorem oG {h:Heap} {dx:Addr} {mA:Str→Option Value} (n:h.Ns1 dx mA):∃ od,h.get? dx=some od∧∀ name,PySem.W.lookIn name od=some (mA name):=by
 obtain ⟨o,es,ep,ho,hd,hk,_,hm⟩:=n
 refine ⟨o,ho,fun name=>?_⟩
 have e:=hm name
 unfold nsFind findBy at e
 rw [← Array.find?_toList] at e
 unfold PySem.W.lookIn
 rw [hd]
 dsimp only
 split
 ·rename_i y q
  rw [q] at e
  exact congrArg some e
 ·rename_i q
  rw [q] at e
  have a:es.toList.any (·.refKey)=false:=by
   rw [List.any_eq_false]
   intro y hy
   obtain ⟨z,t,hkey⟩:=hk y (Array.mem_toList_iff.mp hy)
   simp [DictEntry.refKey,hkey]
  have a':¬ es.toList.any (·.refKey)=true:=by rw [a];exact Bool.false_ne_true
  rw [if_neg a']
  exact congrArg some e
theorem ObjM.look {h:Heap} {x dx C:Addr} {mA:Str→Option Value} (I:ObjM h x dx C mA):∃ od,PySem.W.InstAt h x (PySem.W.instObj C dx) C (some od)∧∀ name,PySem.W.lookIn name od=some (mA name):=
 let ⟨od,ho,hl⟩:=oG I.ns
 ⟨od,⟨I.obj,rfl,rfl,ho⟩,hl⟩
section
variable {prog:Program} {w:World} {A:Around} {E:Value→Shared→Prop} {s:Shared} {K:PySem.W.Frag} {x dx C f:Addr} {mA:Str→Option Value} {name:Str} {v:Value}
end
def zZ (f:Str) (v:V):List (Str×V)→List (Str×V)
 | []=>[(f,v)]
 | (g,x) :: r=>if g=f then (g,v) :: r else (g,x) :: zZ f v r
theorem pC (f g:Str) (v:V):∀ fs:List (Str×V),(zZ f v fs).lookup g=if g=f then some v else fs.lookup g
 | []=>by
  show List.lookup g [(f,v)]=_
  by_cases h:g=f
  ·have hb:(g == f)=true:=beq_iff_eq.mpr h
   simp only [List.lookup,hb,if_pos h]
  ·have hb:(g == f)=false:=beq_eq_false_iff_ne.mpr h
   simp only [List.lookup,hb,if_neg h]
 | (k,x) :: r=>by
  have ih:=pC f g v r
  rw [show zZ f v ((k,x) :: r)=(if k=f then (k,v) :: r else (k,x) :: zZ f v r) from rfl]
  by_cases hk:k=f
  ·rw [if_pos hk]
   by_cases h:g=k
   ·have hb:(g == k)=true:=beq_iff_eq.mpr h
    simp only [List.lookup,hb,if_pos (h.trans hk)]
   ·have hb:(g == k)=false:=beq_eq_false_iff_ne.mpr h
    simp only [List.lookup,hb,if_neg (fun e:g=f=>h (e.trans hk.symm))]
  ·rw [if_neg hk]
   by_cases h:g=k
   ·have hb:(g == k)=true:=beq_iff_eq.mpr h
    simp only [List.lookup,hb,if_neg (fun e:g=f=>hk (h.symm.trans e))]
   ·have hb:(g == k)=false:=beq_eq_false_iff_ne.mpr h
    simp only [List.lookup,hb]
    exact ih
theorem RelO.some_of {v:V} {o:Option Value} (r:RelO (some v) o):∃ u,o=some u∧RelV v u:=by
 cases o with
 | none=>exact (show False from r).elim
 | some u=>exact ⟨u,rfl,r⟩
theorem RelO.none_of {o:Option Value} (r:RelO none o):o=none:=by
 cases o with
 | none=>rfl
 | some u=>exact (show False from r).elim
theorem z7 {v:V} {u:Value} (r:RelV v u):PySem.W.handedIn u=true:=by
 cases v with
 | non=>cases (show u=Value.none from r);rfl
 | bl b=>cases (show u=Value.bool b from r);rfl
 | int i=>obtain ⟨t,e⟩:=(show ∃ t,u=Value.int i t from r);cases e;rfl
 | str x=>obtain ⟨t,e⟩:=(show ∃ t,u=Value.str x t from r);cases e;rfl
 | byt b=>obtain ⟨t,e⟩:=(show ∃ t,u=Value.bytes b t from r);cases e;rfl
 | flt b=>obtain ⟨t,e⟩:=(show ∃ t,u=Value.float b t from r);cases e;rfl
 | ref a=>cases (show u=Value.ref a from r);rfl
 | ty n=>cases (show u=Value.type n from r);rfl
section
variable {P:Program} {w:World} {H H':Hp} {h h':Heap} {a C dx:Addr} {fs fs':List (Str×V)}
theorem yI (hok:HOk P w H h) (e:H a=some (.ins C dx fs)):∃ mA,ObjM h a dx C mA∧(∀ f,RelO (fs.lookup f) (mA f))∧PySem.Within mA (fs.map (·.1))∧fs.length≤1000∧H dx=some (.own a):=by
 obtain ⟨d,z,ne,ob,mA,n,r,q⟩:=(show ObjOk P w H h a (.ins C dx fs) from hok a _ e)
 exact ⟨mA,⟨ob,n,ne⟩,r,q,z,d⟩
end
structure Cls (K:PySem.W.Frag) (C:Addr):Prop where
 pg:PySem.W.plainGet K C Str.empty=true
 hd:PySem.W.hasDictIn K C=true
 po:PySem.W.plainOver K C=true
 sa:PySem.W.findIn K (.ref C) "__setattr__"=some (some (.builtin "object.__setattr__"))
theorem Cls.get {K:PySem.W.Frag} {C:Addr} (c:Cls K C) (f:Str):PySem.W.plainGet K C f=true:=c.pg
def iQ (K:PySem.W.Frag) (C:Addr) (f:Str):Prop:=PySem.W.findIn K (.ref C) f=some none
structure Con (K:PySem.W.Frag) (C:Addr) (f:Str) (v:V) (u:Value):Prop where
 at_:PySem.W.findIn K (.ref C) f=some (some u)
 rel:RelV v u
 get:PySem.W.specialIn K u "__get__"=some none
 cp:PySem.W.copiedNames.contains f=false
structure Meth (K:PySem.W.Frag) (C:Addr) (m:Str) (f:Addr):Prop where
 at_:PySem.W.findIn K (.ref C) m=some (some (.ref f))
 fn:PySem.W.isFn K (.ref f)=true
 kp:PySem.W.keepIn K (.ref f)=true
section
variable {X:Cx} {pins:List (Addr×Obj)} {σ:St} {H:Hp} {s:Shared} {a C dx:Addr} {fs:List (Str×V)} {f:Str} {v:V} {A:Around} {E:Value→Shared→Prop}
theorem Hk {prog:Program} {w:World} {env:Env} {e:Expr} {f:Str} {pos:Pos} {s:Shared} {Q:Value→Shared→Prop} (hb:attributeBase e f env (eval e env)=eval e env)
  (h:wpAny (model prog w) A (eval e env) (fun o s₁=>wpAny (model prog w) A (getAttr o f true) Q E s₁) E s):wpAny (model prog w) A (eval (.Attribute e f pos) env) Q E s:=
 Attribute_any_ h (by rw [arm_eval_Attribute,hb])
end
section
variable {X:Cx} {o e value:Expr} {f:Str} {pos pos' tpos:Pos} {ta tv:TE}
end
section
variable {X:Cx} {pins:List (Addr×Obj)} {σ:St} {H:Hp} {s:Shared} {A:Around} {E:Value→Shared→Prop} {Q:Value→Shared→Prop} {c:Value} {b:Bool}
inductive TyOf (K:PySem.W.Frag) (H:Hp):V→Value→Prop where
 | non:TyOf K H .non (.type "NoneType")
 | bl (x:Bool):TyOf K H (.bl x) (.type "bool")
 | int (i:Int):TyOf K H (.int i) (.type "int")
 | str (x:Str):TyOf K H (.str x) (.type "str")
 | flt (x:UInt64):TyOf K H (.flt x) (.type "float")
 | lst {a:Addr} {xs:List V} (e:H a=some (.lst xs)):TyOf K H (.ref a) (.type "list")
 | frz {a:Addr} {o:Obj} {xs:List V} (e:H a=some (.frz o (.lst xs))):TyOf K H (.ref a) (.type "list")
 | tup {a:Addr} {xs:List V} (e:H a=some (.tup xs)):TyOf K H (.ref a) (.type "tuple")
 | dK {a:Addr} {kvs:List (Key×V)} (e:H a=some (.dK kvs)):TyOf K H (.ref a) (.type "dict")
 | dT {a:Addr} {kvs:List (List Key×V)} (e:H a=some (.dT kvs)):TyOf K H (.ref a) (.type "dict")
 | ins {a C dx:Addr} {fs:List (Str×V)} (e:H a=some (.ins C dx fs)) (cl:Cls K C) (ha:PySem.W.findIn K (.ref C) "__class__"=some (some (.builtin "object.__class__")))
   (hn:PySem.W.specialIn K (.builtin "object.__class__") "__get__"=some (some (.builtin "getset_descriptor.__get__"))) (htk:PySem.W.takesIn K (.builtin "object.__class__")=some true)
   (hm:PySem.W.mroIn K C (.type "object")=some true):TyOf K H (.ref a) (.ref C)
theorem z8 {x:V} {u t:Value} (I:Inv X pins σ H s) (rx:RelV x u) (ty:TyOf X.K H x t) (e:PySem.W.kitOne X.K t c=some b) (h:∀ tk,Q (.bool b) {s with toks:=tk}):
  wpAny (model X.prog X.w) A (call (.builtin "isinstance") [u,c]) Q E s:=by
 cases ty with
 | non=>cases (show u=Value.none from rx);exact PySem.W.kia_one PySem.W.kitx_none I.kIn True.intro e (fun z=>nomatch z) h
 | bl y=>cases (show u=Value.bool y from rx);exact PySem.W.kia_one PySem.W.kitx_bool I.kIn True.intro e (fun z=>nomatch z) h
 | int i=>obtain ⟨t,q⟩:=(show ∃ t,u=Value.int i t from rx);cases q;exact PySem.W.kia_one PySem.W.kitx_int I.kIn True.intro e (fun z=>nomatch z) h
 | str y=>obtain ⟨t,q⟩:=(show ∃ t,u=Value.str y t from rx);cases q;exact PySem.W.kia_one PySem.W.kitx_str I.kIn True.intro e (fun z=>nomatch z) h
 | flt y=>obtain ⟨t,q⟩:=(show ∃ t,u=Value.float y t from rx);cases q;exact PySem.W.kia_one PySem.W.kitx_float I.kIn True.intro e (fun z=>nomatch z) h
 | @lst a xs ea=>
  cases (show u=Value.ref a from rx)
  obtain ⟨_,_,n,_,h1⟩:=(show ObjOk X.prog X.w H s.heap a (.lst xs) from I.hok a _ ea)
  exact PySem.W.kia_one PySem.W.kitx_list I.kIn ⟨_,h1,rfl⟩ e (fun z=>nomatch z) h
 | @frz a ob xs ea=>
  cases (show u=Value.ref a from rx)
  obtain ⟨_,_,_,n,_,h1⟩:=(show ObjOk X.prog X.w H s.heap a (.frz ob (.lst xs)) from I.hok a _ ea)
  exact PySem.W.kia_one PySem.W.kitx_list I.kIn ⟨_,h1,rfl⟩ e (fun z=>nomatch z) h
 | @tup a xs ea=>
  cases (show u=Value.ref a from rx)
  obtain ⟨_,_,_,p⟩:=(show ObjOk X.prog X.w H s.heap a (.tup xs) from I.hok a _ ea)
  obtain ⟨o,h1,h2,_⟩:=p
  exact PySem.W.kia_one PySem.W.kitx_tuple I.kIn ⟨o,h1,h2⟩ e (fun z=>nomatch z) h
 | @dK a kvs ea=>
  cases (show u=Value.ref a from rx)
  obtain ⟨_,_,vs,_,p⟩:=(show ObjOk X.prog X.w H s.heap a (.dK kvs) from I.hok a _ ea)
  obtain ⟨o,es,ep,h1,h2,_⟩:=p
  exact PySem.W.kia_one PySem.W.kitx_dict I.kIn ⟨o,h1,h2.1⟩ e (fun z=>nomatch z) h
 | @dT a kvs ea=>
  cases (show u=Value.ref a from rx)
  obtain ⟨_,_,xs,_,o,es,ep,h1,h2,_⟩:=(show ObjOk X.prog X.w H s.heap a (.dT kvs) from I.hok a _ ea)
  exact PySem.W.kia_one PySem.W.kitx_dict I.kIn ⟨o,h1,h2.1⟩ e (fun z=>nomatch z) h
 | @ins a C dx fs ea cl ha hn htk hm=>
  cases (show u=Value.ref a from rx)
  obtain ⟨mA,O,_⟩:=yI I.hok ea
  obtain ⟨od,J,_⟩:=O.look
  exact PySem.W.kia_one (PySem.W.kitx_own (cl.get _) cl.hd ha hn htk hm) I.kIn J e (fun z=>nomatch z) h
end
end L2
namespace L2
open PySem PySem.Spec PyProof.Rows
structure Room (k:Nat) (A:Around):Prop where
 hd:A.handled=none
 dp:A.depth+3*k+5 < recursionLimit
 un:A.units+16*k+200 < cLine
 gd:A.guards=some []
theorem Room.mono {j k:Nat} {A:Around} (r:Room k A) (h:j≤k):Room j A:=⟨r.hd,by have:=r.dp;omega,by have:=r.un;omega,r.gd⟩
theorem Room.deeper {k:Nat} {A:Around} (r:Room (k+1) A) (env:Env):Room k (A.deeper env):=
 ⟨r.hd,by have:=r.dp;show A.depth+1+3*k+5 < _;omega,by have:=r.un;show A.units+3+16*k+200 < _;omega,r.gd⟩
theorem xn {A:Around} {C:Addr} {us:List Value} {kw:List (Str×Value)}:(A.under (.builtin "type.__call__" ⟨.ref C :: us,kw⟩)).depth=A.depth+1:=by
 first | rfl | simp [Around.under,Code.weight,Code.isCreation,Code.isGuard,Code.isCaller,Code.frames,Code.isFrame,guardIds]
theorem xq {A:Around} {C:Addr} {us:List Value} {kw:List (Str×Value)}:(A.under (.builtin "type.__call__" ⟨.ref C :: us,kw⟩)).units=A.units+1:=by
 first | rfl | simp [Around.under,Code.cUnits,Code.frames,Code.isFrame]
theorem vp {A:Around} {C:Addr} {us:List Value} {kw:List (Str×Value)}:(A.under (.builtin "type.__call__" ⟨.ref C :: us,kw⟩)).guards=pushGuards [] A.guards:=by
 first | rfl | simp [Around.under,Code.guards,Code.isGuard,guardIds]
theorem Room.make {k:Nat} {A:Around} (r:Room (k+1) A) (C:Addr) (us:List Value) (kw:List (Str×Value)):Room k (A.under (.builtin "type.__call__" ⟨.ref C :: us,kw⟩)):=
 ⟨r.hd,by have:=r.dp;rw [xn];omega,by have:=r.un;rw [xq];omega,(vp.trans (by rw [r.gd];rfl))⟩
theorem Room.depth {k:Nat} {A:Around} (r:Room k A):A.depth < recursionLimit:=by have:=r.dp;omega
theorem Room.units {k:Nat} {A:Around} (r:Room k A):A.units+64 < cLine:=by have:=r.un;omega
theorem Room.units0 {k:Nat} {A:Around} (r:Room k A):A.units < cLine:=by have:=r.un;omega
def LQ:TA:=fun _ H Q=>Q [] H
def yJ (ta:TE) (tr:TA):TA:=fun σ H Q=>ta σ H fun x H1=>tr σ H1 fun xs H2=>Q (x :: xs) H2
section
variable {X:Cx} {e:Expr} {es:List Expr} {te:TE} {t:TA} {pos:Pos}
theorem LR:PA X [] LQ:=fun _ _ _ _ H Q I h=>Calls.spliced_nil ⟨[],H,I,.nil,h⟩
theorem Hl (ha:PE X e te) (hr:PA X es t) (hs:autoParam (starEach (e :: es) X.env=(false,eval e X.env) :: starEach es X.env) L2.auto4._auto_1):PA X (e :: es) (yJ te t):=by
 intro pos pins s σ H Q I h
 rw [hs]
 show wpAny _ _ (spliced ((false,eval e X.env) :: backTo pos (starEach es X.env))) _ _ s
 refine Calls.spliced_cons (dD (ha pins s σ H _ I h) fun u s1 qq0=>?_)
 obtain ⟨x,H1,I1,r1,q1⟩:=qq0
 exact dD (hr pos pins s1 σ H1 _ I1 q1) fun us s2 ⟨xs,H2,I2,r2,q2⟩=>⟨x :: xs,H2,I2,.cons r1 r2,q2⟩
def Hm (t:TA):TE:=fun σ H Q=>t σ H fun xs H1=>xs.length≤sizeLine∧∀ p,H1 p=none→Q (.ref p) (upd H1 p (.tup xs))
def Hn (t:TA):TE:=fun σ H Q=>t σ H fun xs H1=>xs.length≤sizeLine∧∀ p,H1 p=none→Q (.ref p) (upd H1 p (.lst xs))
theorem Ma {x1} (h:PA X es t):PE X (.Tuple es x1 pos) (Hm t):=by
 intro pins s σ H Q I hq
 refine wpAny_Tuple_spliced (dD (h pos pins s σ H _ I hq) fun us s1 ⟨xs,H1,I1,r,z,q⟩=>⟨by rw [← r.length];exact z,?_⟩)
 have hf:H1 s1.heap.objs.size=none:=I1.hok.fresh (Nat.le_refl _)
 refine ⟨.ref s1.heap.objs.size,upd H1 s1.heap.objs.size (.tup xs),I1.laid (t':=s1.toks) (fun b u e=>Heap.get?_push_of_some _ e) (Nat.le_refl _) ?_,rfl,q _ hf⟩
 exact ⟨z,us,r,⟨_,Heap.get?_push_size _ rfl,rfl,_,rfl⟩⟩
theorem Mf (h:PA X es t):PE X (.List es pos) (Hn t):=by
 intro pins s σ H Q I hq
 refine wpAny_List_spliced (dD (h pos pins s σ H _ I hq) fun us s1 ⟨xs,H1,I1,r,z,q⟩=>⟨by rw [← r.length];exact z,?_⟩)
 have hf:H1 s1.heap.objs.size=none:=I1.hok.fresh (Nat.le_refl _)
 refine ⟨.ref s1.heap.objs.size,upd H1 s1.heap.objs.size (.lst xs),I1.laid (t':=s1.toks) (fun b u e=>Heap.get?_push_of_some _ e) (Nat.le_refl _) ?_,rfl,q _ hf⟩
 exact ⟨z,us,0,r,Heap.get?_push_size _ rfl⟩
end
abbrev Sp:=List V→Hp→VK→XK→Prop
abbrev Ca:=List Env→Hp→Shared→XK→Value→Shared→Prop
structure Env0 (P:Program) (w:World) (K:PySem.W.Frag) (mg:Str→Option Value) (base:Heap) (A:Around) (outer:List Env) (s:Shared) (H:Hp):Prop where
 frames:A.frames=some outer
 mod:Mod K mg base
 bs:∀ b o,base.get? b=some o→s.heap.get? b=some o∧H b=none
 bsz:base.objs.size≤s.heap.objs.size
 funs:s.heap.FunFrames base outer
 frf:∀ b∈frs outer,H b=none
 hok:HOk P w H s.heap
 bare:AllBare s.gens
def CE (outer:List Env) (P:Program) (w:World) (H:Hp) (s:Shared) (Q:VK) (u:Value) (s':Shared):Prop:=
 ∃ v H',s'.os=s.os∧AllBare s'.gens∧Un (frs outer) [] H H' s.heap s'.heap∧HOk P w H' s'.heap∧RelV v u∧Q v H'
def CR (CX:Ca) (outer:List Env) (P:Program) (w:World) (H:Hp) (s:Shared) (Q:VK) (E:XK) (r:Result) (s':Shared):Prop:=
 match r with
 | .ok (.ret u)=>CE outer P w H s Q u s'
 | .ok _=>False
 | .error e=>CX outer H s E e s'
structure oH (P:Program) (w:World) (K:PySem.W.Frag) (mg:Str→Option Value) (base:Heap) (CX:Ca) (k:Nat) (f:Addr) (fd:FuncData) (ps:List Str) (sp:Sp):Prop where
 len:∀ vs H Q E,sp vs H Q E→vs.length=ps.length
 run:∀ (A:Around) (outer:List Env) (s:Shared) (H:Hp) (args:Args) (us:List Value) (vs:List V) (Q:VK) (E:XK),Room k A→Env0 P w K mg base A outer s H→BindsTo s fd args (ps.zip us)→Vals vs us→sp vs H Q E→
  codeAny (model P w) A (.call (.ref f) args) (CR CX outer P w H s Q E) s
theorem Env0.make {P:Program} {w:World} {K:PySem.W.Frag} {mg:Str→Option Value} {base:Heap} {A:Around} {outer:List Env} {s:Shared} {H:Hp} (e:Env0 P w K mg base A outer s H) (C:Addr) (us:List Value) (kw:List (Str×Value)):
  Env0 P w K mg base (A.under (.builtin "type.__call__" ⟨.ref C :: us,kw⟩)) outer s H:=⟨by first | exact e.frames | (simpa [Around.under,Code.envs,Code.isFrame,pushEnvs] using e.frames),e.mod,e.bs,e.bsz,e.funs,e.frf,e.hok,e.bare⟩
section
variable {X:Cx} {pins:List (Addr×Obj)} {σ:St} {H:Hp} {s s':Shared}
theorem Inv.env0 (I:Inv X pins σ H s):Env0 X.prog X.w X.K X.mg X.base X.A X.stack s H:=
 ⟨I.ok.frames,I.ok.mod,I.bs,Nat.le_trans I.ok.bsz I.sz,I.stack,I.stkFree,I.hok,I.bare⟩
theorem Inv.after {Q:VK} {u:Value} (I:Inv X pins σ H s) (h:CE X.stack X.prog X.w H s Q u s'):EP X pins σ Q u s':=by
 obtain ⟨v,H',os,bare,un,hok,r,q⟩:=h
 obtain ⟨hh,g,d,t,os'⟩:=s'
 obtain rfl:os'=s.os:=os
 exact ⟨v,H',I.call (h':=hh) (g':=g) (d':=d) (t':=t) (ch:=[]) un hok bare (fun b z=>absurd z (by simp)),r,q⟩
end
def tR (sp:Sp) (dvs:List V) (E:XK) (t:TA):TE:=fun σ H Q=>t σ H fun vs H1=>sp (vs ++ dvs) H1 Q E
def Binds (K:PySem.W.Frag) (fd:FuncData) (ps:List Str) (ds:List Value):Prop:=
 ∀ (s:Shared) (us:List Value),K.In s.heap→(us ++ ds).length=ps.length→BindsTo s fd ⟨us,[]⟩ (ps.zip (us ++ ds))
theorem Binds.all {K:PySem.W.Frag} {fd:FuncData} {ps:List Str} (h:∀ us:List Value,us.length=ps.length→bindArgs fd ⟨us,[]⟩=pure (ps.zip us)):Binds K fd ps []:=fun s us _ hl=>by
 rw [List.append_nil] at hl ⊢
 exact .of_eq (h us hl)
def xr (CX:Ca) (X:Cx) (E:XK):Prop:=∀ (pins:List (Addr×Obj)) (σ:St) (H:Hp) (s:Shared) (e:Value) (s':Shared),Inv X pins σ H s→CX X.stack H s E e s'→X.xe e s'
section
variable {X:Cx} {CX:Ca} {k:Nat} {f C:Addr} {fd:FuncData} {ps:List Str} {sp:Sp} {dvs:List V} {ds:List Value} {E:XK} {x m:Str} {p pos apos:Pos} {e o:Expr} {es:List Expr} {ta:TE} {t:TA}
theorem Mg {pins:List (Addr×Obj)} {σ:St} {H:Hp} {s:Shared} {Q:VK} {us:List Value} {vs:List V} (F:oH X.prog X.w X.K X.mg X.base CX k f fd ps sp) (hr:Room k X.A) (hb:Binds X.K fd ps ds) (hd:Vals dvs ds) (hx:xr CX X E)
  (I:Inv X pins σ H s) (r:Vals vs us) (h:sp (vs ++ dvs) H Q E):wpAny (model X.prog X.w) X.A (call (.ref f) us) (EP X pins σ Q) X.xe s:=by
 have r2:Vals (vs ++ dvs) (us ++ ds):=r.append hd
 have hl:(us ++ ds).length=ps.length:=by rw [← r2.length];exact F.len _ _ _ _ h
 refine wpAny_call (codeAny_mono (F.run X.A X.stack s H ⟨us,[]⟩ (us ++ ds) (vs ++ dvs) Q E hr I.env0 (hb s us I.kIn hl) r2 h) fun r s' hq=>?_)
 cases r with
 | error e=>exact hx pins σ H s e s' I hq
 | ok fl=>
  cases fl with
  | ret u=>exact I.after hq
  | next=>exact False.elim hq
  | brk=>exact False.elim hq
  | cont=>exact False.elim hq
theorem Ho (F:oH X.prog X.w X.K X.mg X.base CX k f fd ps sp) (hr:Room k X.A) (hg:Gl X x) (hm:X.mg x=some (.ref f)) (hk:PySem.W.keepIn X.K (.ref f)=true) (hb:Binds X.K fd ps ds) (hd:Vals dvs ds) (hx:xr CX X E)
  (ha:PA X (e :: es) t) (hdb:autoParam ((x == ("__debug__":Str))=false) L2.auto2._auto_1) (he:autoParam (starEach (e :: es) X.env=(false,eval e X.env) :: starEach es X.env) L2.auto4._auto_1) (hpl:autoParam ((backTo pos (starEach es X.env)).any (·.1)=false) L2.auto4._auto_1):
  PE X (.Call (.Name x p) (e :: es) [] pos) (tR sp dvs E t):=by
 intro pins s σ H Q I h
 refine wpAny_Call_Name_kw (mQ I hg hm ?_ hdb)
 refine PySem.W.callWith_K (h₀:=X.base) I.ok.mod.kin hk (dD (ha pos pins s σ H _ I h) fun us s1 ⟨vs,H1,I1,r,q⟩=>⟨I1.kIn,?_⟩) he hpl
 exact Mg F hr hb hd hx I1 r q
structure Mk (K:PySem.W.Frag) (C f:Addr):Prop where
 makes:PySem.W.makesIn K C=true
 init:PySem.W.findIn K (.ref C) "__init__"=some (some (.ref f))
 fn:PySem.W.isFn K (.ref f)=true
 kp:PySem.W.keepIn K (.ref C)=true
end
section
variable {X:Cx} {CX:Ca} {k:Nat} {f C:Addr} {fd:FuncData} {ps ks:List Str} {sp:Sp} {E:XK} {x m:Str} {p pos apos kpos:Pos} {e o:Expr} {es:List Expr} {kws:List Keyword} {te ta:TE} {t tk:TA} {nm:Option Str}
structure KBinds (K:PySem.W.Frag) (fd:FuncData) (ps ks:List Str) (g:List Value→List Value→List Value) (gV:List V→List V→List V):Prop where
 to:∀ (s:Shared) (us ws:List Value),K.In s.heap→(g us ws).length=ps.length→BindsTo s fd ⟨us,ks.zip ws⟩ (ps.zip (g us ws))
 rel:∀ {vs:List V} {us:List Value} {zs:List V} {ws:List Value},Vals vs us→Vals zs ws→Vals (gV vs zs) (g us ws)
variable {g:List Value→List Value→List Value} {gV:List V→List V→List V}
end
structure aO (N P:List Str) (sc:Scope):Prop where
 kind:sc.kind= .function
 co:sc.isCoroutine=false
 gen:sc.isGenerator=false
 nd:N.Nodup
 pre:N.take P.length=P
 par:∀ x∈P,sc.names.lookup x=some .local∨sc.names.lookup x=some .cell
 nofree:∀ y∈sc.names,y.2≠.free
theorem tU {kindOf:Str→Option NameKind} {x:Str}:∀ {binds:List (Str×Value)} {m:Str→Option Value},(∀ v,(x,v) ∉ binds)→bindL kindOf binds m x=m x
 | [],_,_=>rfl
 | (n,v) :: r,m,h=>by
  unfold bindL
  rw [tU fun w hw=>h w (List.mem_cons_of_mem _ hw)]
  split
  ·have:x≠n:=by rintro rfl;exact h v List.mem_cons_self
   simp [this]
  ·rfl
theorem tV {kindOf:Str→Option NameKind} {x:Str}:∀ {binds:List (Str×Value)} {m:Str→Option Value},(∀ v,(x,v) ∉ binds)→bindC kindOf binds m x=m x
 | [],_,_=>rfl
 | (n,v) :: r,m,h=>by
  unfold bindC
  rw [tV fun w hw=>h w (List.mem_cons_of_mem _ hw)]
  split
  ·rfl
  ·have:x≠n:=by rintro rfl;exact h v List.mem_cons_self
   simp [this]
theorem tW {kindOf:Str→Option NameKind} {x:Str} {v:Value}:∀ {P:List Str} {vs:List Value} {i:Nat} {m:Str→Option Value},P.Nodup→P[i]?=some x→vs[i]?=some v→kindOf x=some .local→
  bindL kindOf (P.zip vs) m x=some v
 | [],_,_,_,_,h,_,_=>by simp at h
 | _ :: _,[],_,_,_,_,h,_=>by simp at h
 | p :: P,w :: vs,0,m,nd,h1,h2,hk=>by
  simp at h1 h2;subst h1;subst h2
  show bindL kindOf ((p,w) :: P.zip vs) m p=_
  unfold bindL
  rw [tU fun v hv=>(List.nodup_cons.mp nd).1 (List.of_mem_zip hv).1,if_pos hk]
  simp
 | p :: P,w :: vs,i+1,m,nd,h1,h2,hk=>by
  show bindL kindOf ((p,w) :: P.zip vs) m x=_
  unfold bindL
  exact tW (i:=i) (List.nodup_cons.mp nd).2 (by simpa using h1) (by simpa using h2) hk
theorem tX {kindOf:Str→Option NameKind} {x:Str} {v:Value}:∀ {P:List Str} {vs:List Value} {i:Nat} {m:Str→Option Value},P.Nodup→P[i]?=some x→vs[i]?=some v→kindOf x≠some .local→
  bindC kindOf (P.zip vs) m x=some v
 | [],_,_,_,_,h,_,_=>by simp at h
 | _ :: _,[],_,_,_,_,h,_=>by simp at h
 | p :: P,w :: vs,0,m,nd,h1,h2,hk=>by
  simp at h1 h2;subst h1;subst h2
  show bindC kindOf ((p,w) :: P.zip vs) m p=_
  unfold bindC
  rw [tV fun v hv=>(List.nodup_cons.mp nd).1 (List.of_mem_zip hv).1,if_neg hk]
  simp
 | p :: P,w :: vs,i+1,m,nd,h1,h2,hk=>by
  show bindC kindOf ((p,w) :: P.zip vs) m x=_
  unfold bindC
  exact tX (i:=i) (List.nodup_cons.mp nd).2 (by simpa using h1) (by simpa using h2) hk
def start (N:List Str) (vs:List V):St:=vs.map some ++ List.replicate (N.length - vs.length) none
def mR (CX:Ca) (P:Program) (w:World) (K:PySem.W.Frag) (mg:Str→Option Value) (base:Heap) (N:List Str) (qual:Str) (scope:Scope) (f:Addr) (cd:Value) (A:Around) (outer:List Env) (s:Shared) (H:Hp) (E:XK):Cx where
 prog:=P
 w:=w
 K:=K
 mg:=mg
 base:=base
 A:=A.deeper (envOfC qual scope s.heap.objs.size f cd)
 N:=N
 s₀:=s
 H₀:=H
 env:=envOfC qual scope s.heap.objs.size f cd
 outer:=outer
 stack:=envOfC qual scope s.heap.objs.size f cd :: outer
 ex:=[]
 calm:=true
 fn:=fun _=>true
 pn:=[]
 xe:=fun e s'=>wpAny (model P w) (A.deeper (envOfC qual scope s.heap.objs.size f cd)) (leaving (envOfC qual scope s.heap.objs.size f cd) e) (fun _ s''=>CX outer H s E e s'') (fun e' s''=>CX outer H s E e' s'') s'
theorem vq {sc:Scope} {n:Nat} {x:Str} (h:sc.names.lookup x=some .cell):∃ c,(cellsFrom n sc.names []).lookup x=some c:=by
 have q:=PySem.W.cellsFrom_some sc.names n [] (.inl h)
 exact Option.isSome_iff_exists.mp q
theorem Aa {CX:Ca} {P:Program} {w:World} {K:PySem.W.Frag} {mg:Str→Option Value} {base:Heap} {N ps:List Str} {qual:Str} {scope:Scope} {f:Addr} {cd:Value} {A:Around} {outer:List Env} {s s1:Shared} {H:Hp} {E:XK} {us:List Value} {vs:List V}
  (S:aO N ps scope) (hd:A.handled=none) (e0:Env0 P w K mg base A outer s H) (hl:vs.length=ps.length) (r:Vals vs us)
  (x:InCallC s s.heap.objs.size (bindL (envOfC qual scope s.heap.objs.size f cd).kindOf (ps.zip us) fun _=>none) (cellsFrom (s.heap.objs.size+1) scope.names []) (bindC (envOfC qual scope s.heap.objs.size f cd).kindOf (ps.zip us) fun _=>none) s1):
  Inv (mR CX P w K mg base N qual scope f cd A outer s H E) [] (start N vs) H s1:=by
 have hpl:ps.length≤N.length:=by have:=congrArg List.length S.pre;rw [List.length_take] at this;omega
 obtain ⟨h1,tk,rfl,hk⟩:=x.done
 have noA:∀ b:Addr,b ∉ (mR CX P w K mg base N qual scope f cd A outer s H E).ex:=fun b z=>absurd (show b∈([]:List Addr) from z) (by simp)
 refine ⟨⟨e0.mod,S.kind,rfl,rfl,Nat.le_refl _,fun y z c h1 h2=>?_,fun y hy=>?_,fun y c _ h=>?_,fun _=>hd,Around.frames_deeper e0.frames,.inr ⟨rfl,rfl⟩,fun b z=>absurd z (noA b),e0.bs,e0.bsz,fun b _ _=>noA b,fun b z=>absurd z (noA b),e0.funs,e0.frf⟩,
  rfl,e0.bare,Un.kept hk,⟨_,x.toInCall.ns,fun i y v h1 h2 h3=>?_⟩,fun y c h=>⟨_,x.cell y c h⟩,e0.hok.fresh (Nat.le_refl _),fun y c h=>?_,fun p hp=>absurd (show p∈([]:List (Addr×Obj)) from hp) (by simp),e0.hok.kept hk,?_⟩
 ·exact name_of_addr x.apart (PySem.mem_of_lookup h1) (PySem.mem_of_lookup h2)
 ·have hy:scope.names.lookup y=some .cell∨scope.names.lookup y=some .free:=hy
  rcases hy with hy | hy
  ·exact vq hy
  ·exact absurd rfl (S.nofree _ (PySem.mem_of_lookup hy))
 ·exact Nat.le_of_lt (x.above y c (PySem.mem_of_lookup h))
 ·have hi:i < vs.length:=by
   unfold start at h2
   by_cases hi:i < vs.length
   ·exact hi
   ·rw [List.getElem?_append_right (by simpa using hi)] at h2
    rw [List.getElem?_replicate] at h2
    split at h2 <;> cases h2
  have ha:vs[i]?=some v:=by
   unfold start at h2
   rw [List.getElem?_append_left (by simpa using hi),List.getElem?_map] at h2
   cases e:vs[i]? with
   | none=>rw [e] at h2;cases h2
   | some a=>rw [e] at h2;cases h2;rfl
  obtain ⟨u,hu,rv⟩:=r.get ha
  have hp:ps[i]?=some y:=by
   rw [← S.pre,List.getElem?_take_of_lt (by omega)];exact h1
  have ndP:ps.Nodup:=by rw [← S.pre];exact S.nd.sublist (List.take_sublist _ _)
  refine ⟨u,rv,?_⟩
  rcases S.par y (List.mem_of_getElem? hp) with k | k
  ·exact .inl ⟨k,tW ndP hp hu k⟩
  ·obtain ⟨c,e⟩:=vq (n:=s.heap.objs.size+1) k
   refine .inr ⟨.inl k,c,e,?_⟩
   have q:=x.cell y c e
   rw [tX ndP hp hu (by show scope.names.lookup y≠_;rw [k];decide)] at q
   exact q
 ·exact e0.hok.fresh (Nat.le_of_lt (x.above y c (PySem.mem_of_lookup h)))
 ·unfold start
  show _=N.length
  rw [List.length_append,List.length_map,List.length_replicate]
  omega
theorem JZ {CX:Ca} {P:Program} {w:World} {K:PySem.W.Frag} {mg:Str→Option Value} {base:Heap} {k:Nat} {f:Addr} {name qual:Str} {params:Arguments} {body:List Stmt} {scope:Scope} {dV kV doc pm cdv ct oc:Value} {an od:Option Addr}
  {osl:Array (Option Value)} {N ps:List Str} {sp:Sp} (lk:K.lookup f=some ⟨oc,od,.func (PySem.W.fnOf name qual params body scope dV kV doc pm an cdv ct),osl⟩) (hcd:PySem.W.codeIn K cdv qual=true) (S:aO N ps scope)
  (len:∀ vs H Q E,sp vs H Q E→vs.length=ps.length)
  (hbody:∀ (A:Around) (outer:List Env) (s:Shared) (H:Hp) (vs:List V) (Q:VK) (E:XK),Room k (A.deeper (envOfC qual scope s.heap.objs.size f cdv))→sp vs H Q E→
   ∃ t,PSs (mR CX P w K mg base N qual scope f cdv A outer s H E) body t∧t {nx:=fun _ H'=>Q .non H',rt:=Q} (start N vs) H):
  oH P w K mg base CX (k+1) f (PySem.W.fnOf name qual params body scope dV kV doc pm an cdv ct) ps sp:=by
 refine ⟨len,fun A outer s H args us vs Q E hr e0 hb r hsp=>?_⟩
 have hl:=len _ _ _ _ hsp
 have KX:K.In s.heap:=e0.mod.kin.keeps fun b o e=>(e0.bs b o e).1
 have lim:s.heap.NoLimit:=e0.mod.nolimit.keeps fun b o e=>(e0.bs b o e).1
 have hkind:∀ y∈ps.zip us,scope.names.lookup y.1=some .local∨(scope.names.lookup y.1=some .cell∧((cellsFrom (s.heap.objs.size+1) scope.names []).lookup y.1).isSome=true):=fun ⟨n,v⟩ hy=>by
  rcases S.par n (List.of_mem_zip hy).1 with q | q
  ·exact .inl q
  ·exact .inr ⟨q,PySem.W.cellsFrom_some _ _ _ (.inl q)⟩
 refine codeAny_call_function hr.depth (KX _ _ lk) rfl S.co S.gen rfl (PySem.W.codeRec_of KX hcd) (hb _ _ _ _ ?_)
 refine wpAny_newFunctionEnv_cells S.kind hkind fun env he s1 x=>?_
 subst he
 refine ⟨lim.keeps x.toInCall.keep,codeAny_func ?_⟩
 obtain ⟨t,ht,hq⟩:=hbody A outer s H vs Q E (hr.deeper _) hsp
 have I:Inv (mR CX P w K mg base N qual scope f cdv A outer s H E) [] (start N vs) H s1:=Aa S hr.hd e0 hl r x
 refine wpAny_mono (ht [] s1 (start N vs) H _ I hq) (fun fl s' hs=>?_) fun e s' hs=>hs
 have fin:∀ {σ':St} {H':Hp} {v:V} {u:Value},Inv (mR CX P w K mg base N qual scope f cdv A outer s H E) [] σ' H' s'→RelV v u→Q v H'→CE outer P w H s Q u s':=
  fun {σ' H' v u} J rv q=>⟨v,H',J.os,J.bare,J.base,J.hok,rv,q⟩
 cases fl with
 | ret u=>
  obtain ⟨v,σ',H',J,rv,q⟩:=hs
  exact fin J rv q
 | next=>
  obtain ⟨σ',H',J,q⟩:=hs
  exact fin (v:=V.non) (u:=Value.none) J rfl q
 | brk=>
  obtain ⟨_,_,_,q⟩:=hs
  exact False.elim q
 | cont=>
  obtain ⟨_,_,_,q⟩:=hs
  exact False.elim q
end L2
namespace L2
open PySem PySem.Spec PyProof.Rows
section
variable {X:Cx} {x:Str} {p pos:Pos} {e:Expr} {es:List Expr} {t:TA} {id T:String} {r:List V→Hp→VK→Prop}
def Mh (r:List V→Hp→VK→Prop) (t:TA):TE:=fun σ H Q=>t σ H fun vs H1=>r vs H1 Q
theorem CV (hc:CallR X (.builtin id) r) (hg:Gl X x) (hm:X.mg x=none) (hv:bootBuiltins x=some (.builtin id)) (ha:PA X (e :: es) t) (hn:autoParam (x≠"__name__") L2.auto2._auto_1) (hdb:autoParam ((x == ("__debug__":Str))=false) L2.auto2._auto_1)
  (he:autoParam (starEach (e :: es) X.env=(false,eval e X.env) :: starEach es X.env) L2.auto4._auto_1) (hpl:autoParam ((backTo pos (starEach es X.env)).any (·.1)=false) L2.auto4._auto_1):PE X (.Call (.Name x p) (e :: es) [] pos) (Mh r t):=by
 intro pins s σ H Q I h
 refine wpAny_Call_Name_kw (fQ I hg hm hv ?_ hn hdb)
 exact PyProof.Rows.callWith_builtin1 (dD (ha pos pins s σ H _ I h) fun us s1 ⟨vs,H1,I1,r1,q1⟩=>hc pins s1 σ H1 vs us Q I1 r1 q1) he hpl
theorem Ab (hc:CallR X (.type T) r) (hg:Gl X x) (hm:X.mg x=none) (hv:bootBuiltins x=some (.type T)) (ha:PA X (e :: es) t) (hn:autoParam (x≠"__name__") L2.auto2._auto_1) (hdb:autoParam ((x == ("__debug__":Str))=false) L2.auto2._auto_1)
  (he:autoParam (starEach (e :: es) X.env=(false,eval e X.env) :: starEach es X.env) L2.auto4._auto_1) (hpl:autoParam ((backTo pos (starEach es X.env)).any (·.1)=false) L2.auto4._auto_1):PE X (.Call (.Name x p) (e :: es) [] pos) (Mh r t):=by
 intro pins s σ H Q I h
 refine wpAny_Call_Name_kw (fQ I hg hm hv ?_ hn hdb)
 exact PyProof.Rows.callWith_type1 (dD (ha pos pins s σ H _ I h) fun us s1 ⟨vs,H1,I1,r1,q1⟩=>hc pins s1 σ H1 vs us Q I1 r1 q1) he hpl
end
end L2
namespace HT
open PySem PyProof.Rows
def lexLt:List Int→List Int→Bool
 | [],[]=>false
 | [],_ :: _=>true
 | _ :: _,[]=>false
 | x :: xs,y :: ys=>if x=y then lexLt xs ys else decide (x < y)
theorem lexLt_cons (x y:Int) (xs ys:List Int):lexLt (x :: xs) (y :: ys)=if x=y then lexLt xs ys else decide (x < y):=rfl
section
open PySem.SeqAt
open PySem.AutoSeq1 (wpAny_loadPart')
open PySem.MeetsSeq PySem.MeetsSeq2 PySem.MeetsSeq3
end
section
variable {prog:Program} {w:World} {A:Around} {E:Value→Shared→Prop} {s:Shared}
theorem cat_tup {t b:Addr} {vs ws:List Value} {Q:Value→Shared→Prop} (ht:IsTup s.heap t vs.toArray) (hb:IsTup s.heap b ws.toArray) (hv:vs≠[])
  (h1:ws=[]→Q (.ref t) s) (h2:ws≠[]→Q (.ref s.heap.objs.size) {s with heap:=s.heap.push {cls:=.type "tuple",data:=.seq (vs ++ ws).toArray}})
  (hsz:vs.length+ws.length≤sizeLine):wpAny (model prog w) A (binaryOp .Add (.ref t) (.ref b)) Q E s:=by
 obtain ⟨⟨cls,dd,data,sl⟩,ho,hc,n,hd⟩:=id ht
 obtain ⟨⟨cls2,dd2,data2,sl2⟩,ho2,hc2,n2,hd2⟩:=id hb
 simp only at hc hd hc2 hd2
 subst hc hd hc2 hd2
 have e:vs.toArray ++ ws.toArray=(vs ++ ws).toArray:=by simp
 by_cases hw:ws=[]
 ·exact concat_meets ⟨_,ho,rfl⟩ ⟨_,ho2,rfl⟩ noFill_tuple_add seq_tuple_add PySem.F.slot_tuple_add PySem.F.entry_tuple_add (PySem.F.args_tuple_add_2 _ _)
   (tuple_addW1 t b vs.toArray ws.toArray n n2 dd dd2 sl sl2 (by simpa using hv) (by simp [hw])) ⟨ho,ho2,h1 hw⟩
 ·refine concat_meets ⟨_,ho,rfl⟩ ⟨_,ho2,rfl⟩ noFill_tuple_add seq_tuple_add PySem.F.slot_tuple_add PySem.F.entry_tuple_add (PySem.F.args_tuple_add_2 _ _)
   (tuple_addW2 t b vs.toArray ws.toArray n n2 dd dd2 sl sl2 (by simpa using hv) (by simpa using hw) (by rw [List.size_toArray,List.size_toArray];exact hsz)) ⟨ho,ho2,?_⟩
  rw [e]
  exact h2 hw
def sIx (n d:Nat):Option Int→Nat
 | none=>d
 | some v=>if v < 0 then (v+(n:Int)).toNat else min v.toNat n
theorem sIx_none (n d:Nat):sIx n d none=d:=rfl
theorem sIx_nat (n d k:Nat):sIx n d (some (k:Int))=min k n:=by
 show (if (k:Int) < 0 then ((k:Int)+(n:Int)).toNat else min (k:Int).toNat n)=min k n
 rw [if_neg (by omega),Int.toNat_natCast]
theorem Mi (n d:Nat) (hd:d≤n) (o:Option Int):sIx n d o≤n:=by
 cases o with
 | none=>exact hd
 | some v=>
  show (if v < 0 then (v+(n:Int)).toNat else min v.toNat n)≤n
  by_cases hv:v < 0
  ·rw [if_pos hv];omega
  ·rw [if_neg hv];exact Nat.min_le_right _ _
theorem yK (v:Int) (n d:Nat):(if v < 0 then max (v+(n:Int)) 0 else min v (n:Int))=((sIx n d (some v):Nat):Int):=by
 show (if v < 0 then max (v+(n:Int)) 0 else min v (n:Int))=(((if v < 0 then (v+(n:Int)).toNat else min v.toNat n):Nat):Int)
 by_cases hv:v < 0
 ·simp only [if_pos hv];omega
 ·simp only [if_neg hv];omega
theorem xu (lo hi:Option Int) (n:Nat):Builtin.Slice.sliceAdjust lo hi 1 (n:Int)=(((sIx n 0 lo:Nat):Int),((sIx n n hi:Nat):Int)):=by
 have h1:¬ ((1:Int) < 0):=by omega
 unfold Builtin.Slice.sliceAdjust
 simp only [h1,if_false]
 refine Prod.ext ?_ ?_
 ·cases lo with
  | none=>rfl
  | some v=>exact yK v n 0
 ·cases hi with
  | none=>rfl
  | some v=>exact yK v n n
theorem xx (i j:Nat):Builtin.Slice.slicePlaces (i:Int) (j:Int) 1=j - i:=by
 unfold Builtin.Slice.slicePlaces
 have h1:(1:Int) > 0:=by omega
 simp only [h1,if_true,Int.ediv_one]
 split <;> omega
theorem qX {v:Value} {o:Option Int} {Q:Option Int→Shared→Prop} (p:IsPart v o) (h:Q o s):wpAny (model prog w) A (Builtin.Slice.slicePartIndex v) Q E s:=by
 cases p with
 | none=>exact slicePart_none h
 | int i t=>exact slicePart_int h
theorem iY {sl:Addr} {vl vu:Value} {lo hi:Option Int} {n:Nat} {Q:Int×Int×Nat→Shared→Prop} (hs:s.heap.IsSliceOf sl vl vu .none) (pl:IsPart vl lo) (pu:IsPart vu hi)
  (h:Q (((sIx n 0 lo:Nat):Int),1,sIx n n hi - sIx n 0 lo) s):wpAny (model prog w) A (Builtin.Slice.sliceApplied (.ref sl) (pure (n:Int))) Q E s:=by
 obtain ⟨os,hos,hcs,hds⟩:=id hs
 unfold Builtin.Slice.sliceApplied Builtin.Slice.sliceFields
 refine wpAny_bind (wpAny_bind (wpAny_field hos hds (x:=vl) rfl (wpAny_bind (wpAny_field hos hds (x:=vu) rfl (wpAny_bind (wpAny_field hos hds (x:=.none) rfl (wpAny_pure ?_)))))))
 refine wpAny_bind (slicePart_none ?_)
 show wpAny _ _ (if ((1:Int) == 0)=true then _ else _) _ _ s
 rw [if_neg (by decide)]
 refine wpAny_bind (qX pl (wpAny_bind (qX pu (wpAny_bind (wpAny_pure ?_)))))
 show wpAny _ _ (match Builtin.Slice.sliceAdjust lo hi 1 (n:Int) with | (lo,hi)=>pure (lo,(1:Int),Builtin.Slice.slicePlaces lo hi 1)) _ _ s
 rw [xu lo hi n]
 show wpAny _ _ (pure (((sIx n 0 lo:Nat):Int),(1:Int),Builtin.Slice.slicePlaces ((sIx n 0 lo:Nat):Int) ((sIx n n hi:Nat):Int) 1)) _ _ s
 rw [xx]
 exact wpAny_pure h
theorem CW (xs:Array Value) (i k:Nat):((List.range k).filterMap fun (m:Nat)=>xs[((i:Int)+(m:Int)*1).toNat]?).toArray=((xs.toList.drop i).take k).toArray:=by
 have e:(fun (m:Nat)=>xs[((i:Int)+(m:Int)*1).toNat]?)=fun m=>xs[i+m]?:=by
  funext m
  have:((i:Int)+(m:Int)*1).toNat=i+m:=by omega
  rw [this]
 rw [e]
 have:=pick_run xs i k
 rw [List.filterMap_map] at this
 have e2:((fun x=>xs[x]?) ∘ fun x=>i+x)=fun m=>xs[i+m]?:=rfl
 rw [e2] at this
 rw [this]
theorem getItem_tuple_cut {t sl:Addr} {items:Array Value} {vl vu:Value} {lo hi:Option Int} {Q:Value→Shared→Prop} (ht:IsTup s.heap t items) (hs:s.heap.IsSliceOf sl vl vu .none) (pl:IsPart vl lo) (pu:IsPart vu hi)
  (hw:¬ (sIx items.size 0 lo=0∧sIx items.size items.size hi=items.size))
  (h:Q (.ref s.heap.objs.size) {s with heap:=s.heap.push {cls:=.type "tuple",data:=.seq ((items.toList.drop (sIx items.size 0 lo)).take (sIx items.size items.size hi - sIx items.size 0 lo)).toArray}})
  (hsz:items.size≤sizeLine):wpAny (model prog w) A (getItem (.ref t) (.ref sl)) Q E s:=by
 have htake:sizeOk (.seq ((items.toList.drop (sIx items.size 0 lo)).take (sIx items.size items.size hi - sIx items.size 0 lo)).toArray):=by
  show ((items.toList.drop (sIx items.size 0 lo)).take (sIx items.size items.size hi - sIx items.size 0 lo)).toArray.size≤sizeLine
  rw [List.size_toArray,List.length_take,List.length_drop,Array.length_toList]
  omega
 have hj:sIx items.size items.size hi≤items.size:=Mi _ _ (Nat.le_refl _) hi
 obtain ⟨os,hos,hcs,hds⟩:=id hs
 have hTs:s.TypeIs (.ref sl) "slice":=⟨os,hos,hcs⟩
 unfold getItem
 try with_reducible refine wpAny_holding ?_
 first | refine wpAny_bind (wpAny_pure ?_) | skip
 refine wpAny_bind (wpAny_sequenceKey ht.typeIs (by decide) ?_)
 refine wpAny_bind (wpAny_callSpecial?_slot (name:=Str.ofString "__getitem__") ht.typeIs PyProof.Rows.slot_tuple_getitem
  (wpAny_call_entry PyProof.Rows.slot_tuple_getitem ht.typeIs entry_tuple_getitem ?_ (args_tuple_getitem _ _)))
 show wpAny _ _ (Builtin.Tuple.tupleItemsOf (.ref t) >>=_) _ _ s
 refine wpAny_bind (tupleItemsOf_ ht ?_)
 refine wpAny_bind (wpAny_typeOf hTs ?_)
 rw [if_pos (by decide)]
 refine wpAny_bind (iY hs pl pu ?_)
 have hno:¬ ((((sIx items.size 0 lo:Nat):Int) == 0 && (1:Int) == 1 && (sIx items.size items.size hi - sIx items.size 0 lo) == items.size)=true):=by
  intro q
  rw [Bool.and_eq_true,Bool.and_eq_true] at q
  have q1:((sIx items.size 0 lo:Nat):Int)=0:=eq_of_beq q.1.1
  have q2:sIx items.size items.size hi - sIx items.size 0 lo=items.size:=eq_of_beq q.2
  exact hw ⟨by omega,by omega⟩
 show wpAny _ _ (if (((sIx items.size 0 lo:Nat):Int) == 0 && (1:Int) == 1 && (sIx items.size items.size hi - sIx items.size 0 lo) == items.size)=true then _ else _) _ _ s
 rw [if_neg hno,CW]
 first
  | exact wpAny_bind (m:=Builtin.Tuple.tupleExact _) (wpAny_newObj_type (wpAny_pure ⟨_,rfl,wpAny_pure h⟩) htake)
  | exact wpAny_bind (m:=Builtin.Tuple.tupleExact _) (wpAny_newObj_type (wpAny_bind (wpAny_pure (wpAny_pure ⟨_,rfl,wpAny_pure h⟩))) htake)
  | exact wpAny_bind (wpAny_bind (m:=Builtin.Tuple.tupleExact _) (wpAny_newObj_type (wpAny_pure (wpAny_pure ⟨_,rfl,wpAny_pure h⟩)) htake))
  | exact wpAny_bind (wpAny_bind (m:=Builtin.Tuple.tupleExact _) (wpAny_newObj_type (wpAny_pure ⟨_,rfl,wpAny_pure h⟩) htake))
end
end HT
namespace L2
open PySem PySem.Spec PyProof.Rows
abbrev TO:=St→Hp→(Option Int→Hp→Prop)→Prop
def PO (X:Cx) (e:Option Expr) (t:TO):Prop:=
 ∀ (pins:List (Addr×Obj)) (s:Shared) (σ:St) (H:Hp) (Q:Option Int→Hp→Prop),Inv X pins σ H s→t σ H Q→
  wpAny (model X.prog X.w) X.A (evalPart e X.env) (fun u s'=>∃ o H',Inv X pins σ H' s'∧IsPart u o∧Q o H') X.xe s
def uE:TO:=fun _ H Q=>Q none H
def CZ (t:TE):TO:=fun σ H Q=>t σ H fun x H1=>∃ i,x= .int i∧Q (some i) H1
theorem intsAre_of {ns:List Int}:∀ {us:List Value},Vals (ns.map V.int) us→IntsAre us ns:=by
 induction ns with
 | nil=>intro us r;rw [List.map_nil] at r;cases r;exact .nil
 | cons n ns ih=>
  intro us r
  rw [List.map_cons] at r
  cases r with
  | cons r1 r2=>
   obtain ⟨t,e⟩:=r1
   subst e
   exact .cons n t (ih r2)
section
variable {X:Cx} {e:Expr} {te:TE} {lo hi:Option Expr} {tl th:TO} {pos p2:Pos}
theorem Hq:PO X none uE:=by
 intro pins s σ H Q I h
 rw [evalPart_none]
 exact wpAny_pure ⟨none,H,I,.none,h⟩
theorem Hr (h:PE X e te):PO X (some e) (CZ te):=by
 intro pins s σ H Q I hw
 rw [evalPart_some]
 refine dD (h pins s σ H _ I hw) fun u s1 qq0=>?_
 obtain ⟨x,H1,I1,r1,q1⟩:=qq0
 obtain ⟨i,rfl,q⟩:=q1
 obtain ⟨t,rfl⟩:=r1
 exact ⟨some i,H1,I1,.int i t,q⟩
def SlR (X:Cx) (r:V→Option Int→Option Int→Hp→VK→Prop):Prop:=
 ∀ (pins:List (Addr×Obj)) (s:Shared) (σ:St) (H:Hp) (x:V) (v vl vu:Value) (lo hi:Option Int) (sl:Addr) (Q:VK),Inv X pins σ H s→RelV x v→s.heap.IsSliceOf sl vl vu .none→IsPart vl lo→IsPart vu hi→r x lo hi H Q→
  ∃ T id,typeLookup (.type T) "__getitem__"=pure (some (.builtin id))∧s.TypeIs v T∧wpAny (model X.prog X.w) X.A (getItem v (.ref sl)) (EP X pins σ Q) X.xe s
theorem SlR.or {r r':V→Option Int→Option Int→Hp→VK→Prop} (h:SlR X r) (h':SlR X r'):SlR X (fun x lo hi H Q=>r x lo hi H Q∨r' x lo hi H Q):=by
 intro pins s σ H x v vl vu lo hi sl Q I rx hs pl pu q
 rcases q with q | q
 ·exact h pins s σ H x v vl vu lo hi sl Q I rx hs pl pu q
 ·exact h' pins s σ H x v vl vu lo hi sl Q I rx hs pl pu q
def tSl (r:V→Option Int→Option Int→Hp→VK→Prop) (te:TE) (tl th:TO):TE:=fun σ H Q=>te σ H fun x H1=>tl σ H1 fun l H2=>th σ H2 fun u H3=>r x l u H3 Q
theorem Dc {r:V→Option Int→Option Int→Hp→VK→Prop} (hr:SlR X r) (he:PE X e te) (hl:PO X lo tl) (hu:PO X hi th):PE X (.Subscript e (.Slice lo hi none p2) pos) (tSl r te tl th):=by
 intro pins s σ H Q I h
 refine Subscript_ (dD (he pins s σ H _ I h) fun v s1 qq0=>?_)
 obtain ⟨x,H1,I1,r1,q1⟩:=qq0
 refine wpAny_Slice (dD (hl pins s1 σ H1 _ I1 q1) fun vl s2 ⟨l,H2,I2,pl,q2⟩=>dD (hu pins s2 σ H2 _ I2 q2) fun vu s3 qq0=>?_)
 obtain ⟨u,H3,I3,pu,q3⟩:=qq0
 rw [evalPart_none]
 refine wpAny_pure ?_
 have I4:Inv X pins σ H3 {s3 with heap:=s3.heap.push {cls:=.type "slice",data:=.fields #[vl,vu,.none]}}:=I3.kept (t':=s3.toks) fun b ob q=>Heap.get?_push_of_some _ q
 obtain ⟨T,id,hT,ht,hg⟩:=hr pins {s3 with heap:=s3.heap.push {cls:=.type "slice",data:=.fields #[vl,vu,.none]}} σ H3 x v vl vu l u s3.heap.objs.size Q I4 r1 (Heap.IsSliceOf.new ..) pl pu q3
 show wpAny (model X.prog X.w) X.A (subscriptTail e (.Slice lo hi none p2) v (.ref s3.heap.objs.size)) (EP X pins σ Q) X.xe {s3 with heap:=s3.heap.push {cls:=.type "slice",data:=.fields #[vl,vu,.none]}}
 exact tail_any (ops:=[.ref s3.heap.objs.size,v]) ht hT hg (by with_unfolding_all rfl)
def fO (xs:List V) (lo hi:Option Int):List V:=(xs.drop (HT.sIx xs.length 0 lo)).take (HT.sIx xs.length xs.length hi - HT.sIx xs.length 0 lo)
theorem cH (xs:List V) (lo hi:Option Int):(fO xs lo hi).length≤xs.length:=by
 unfold fO
 rw [List.length_take,List.length_drop]
 omega
def QC (K:PySem.W.Frag):V→Option Int→Option Int→Hp→VK→Prop:=fun x lo hi H Q=>∃ a xs,x= .ref a∧SqT K H a xs∧
 ¬ (HT.sIx xs.length 0 lo=0∧HT.sIx xs.length xs.length hi=xs.length)∧∀ p,H p=none→Q (.ref p) (upd H p (.tup (fO xs lo hi)))
theorem Mj:SlR X (QC X.K):=by
 intro pins s σ H x v vl vu lo hi sl Q I rx hs pl pu h
 obtain ⟨a,xs,rfl,hx,hw,q⟩:=h
 cases rx
 obtain ⟨its,r,ht,hz⟩:=I.tuple hx
 have hlen:its.toArray.size=xs.length:=by rw [List.size_toArray];exact r.length.symm
 refine ⟨"tuple",_,PyProof.Rows.slot_tuple_getitem.lookup,ht.typeIs,?_⟩
 refine HT.getItem_tuple_cut ht hs pl pu (by rw [hlen];exact hw) ?_ (by rw [hlen];exact hz)
 rw [hlen]
 refine ⟨.ref s.heap.objs.size,_,I.laid (t':=s.toks) (o:=.tup (fO xs lo hi)) (fun b ob q=>Heap.get?_push_of_some _ q) (Nat.le_refl _) ?_,rfl,q _ (I.hok.fresh (Nat.le_refl _))⟩
 exact ⟨Nat.le_trans (cH xs lo hi) hz,_,(r.drop (HT.sIx xs.length 0 lo)).take (HT.sIx xs.length xs.length hi - HT.sIx xs.length 0 lo),IsTup.new _ _⟩
def J6 (K:PySem.W.Frag):R2:=fun x y H Q=>∃ a b xs ys,x= .ref a∧y= .ref b∧SqT K H a xs∧SqT K H b ys∧xs≠[]∧xs.length+ys.length≤sizeLine∧
 (ys=[]→Q (.ref a) H)∧(ys≠[]→∀ p,H p=none→Q (.ref p) (upd H p (.tup (xs ++ ys))))
theorem Vals.nil_iff {xs:List V} {us:List Value} (r:Vals xs us):us=[]↔xs=[]:=by
 cases r with
 | nil=>simp
 | cons _ _=>simp
theorem Hs:OpR X (binaryOp .Add) (J6 X.K):=by
 intro pins s σ H x y v u Q I rx ry h
 obtain ⟨a,b,xs,ys,rfl,rfl,ha,hb,hx,hz,q1,q2⟩:=h
 cases rx
 cases ry
 obtain ⟨its,r1,p1,_⟩:=I.tuple ha
 obtain ⟨its2,r2,p2,_⟩:=I.tuple hb
 refine HT.cat_tup p1 p2 (fun z=>hx (r1.nil_iff.mp z)) (fun z=>⟨.ref a,H,I,rfl,q1 (r2.nil_iff.mp z)⟩) (fun z=>?_) (by rw [← r1.length,← r2.length];exact hz)
 refine ⟨.ref s.heap.objs.size,_,I.laid (t':=s.toks) (o:=.tup (xs ++ ys)) (fun b ob q=>Heap.get?_push_of_some _ q) (Nat.le_refl _) ?_,rfl,q2 (fun w=>z (r2.nil_iff.mpr w)) _ (I.hok.fresh (Nat.le_refl _))⟩
 exact ⟨by rw [List.length_append];exact hz,_,r1.append r2,IsTup.new _ _⟩
end
end L2
namespace L2
open PySem PySem.Spec PyProof.Rows
def Cd (n:Nat) (i:Int):Option Nat:=if 0≤i then (if i < n then some i.toNat else none) else if -(n:Int)≤i then some (i+n).toNat else none
def tY {α:Type} (xs:List α) (i:Int):Option α:=(Cd xs.length i).bind fun j=>xs[j]?
theorem yL {n:Nat} {i:Int} {j:Nat} (h:Cd n i=some j):seqIndex? i n=some j∧j < n∧-(n:Int)≤i∧i < n:=by
 unfold Cd at h
 by_cases h0:0≤i
 ·rw [if_pos h0] at h
  by_cases h1:i < n
  ·rw [if_pos h1] at h
   have e:i.toNat=j:=Option.some.inj h
   exact ⟨by rw [seqIndex_of h0 h1,e],by omega,by omega,h1⟩
  ·rw [if_neg h1] at h;cases h
 ·rw [if_neg h0] at h
  by_cases h1: -(n:Int)≤i
  ·rw [if_pos h1] at h
   have e:(i+n).toNat=j:=Option.some.inj h
   exact ⟨by rw [seqIndex_neg (by omega) h1,e],by omega,h1,by omega⟩
  ·rw [if_neg h1] at h;cases h
theorem uF {α:Type} {xs:List α} {i:Int} {v:α} (h:tY xs i=some v):∃ j,seqIndex? i xs.length=some j∧xs[j]?=some v∧j < xs.length∧-(xs.length:Int)≤i∧i < xs.length:=by
 unfold tY at h
 cases e:Cd xs.length i with
 | none=>rw [e] at h;cases h
 | some j=>
  rw [e] at h
  obtain ⟨h1,h2,h3,h4⟩:=yL e
  exact ⟨j,h1,h,h2,h3,h4⟩
theorem bZ {α:Type} {xs:List α} {j:Nat} {v:α} (h:xs[j]?=some v):tY xs (j:Int)=some v:=by
 have hj:j < xs.length:=(List.getElem?_eq_some_iff.mp h).1
 have e:Cd xs.length (j:Int)=some j:=by
  unfold Cd
  rw [if_pos (by omega),if_pos (by omega)];simp
 unfold tY;rw [e];exact h
def yM (b:Expr):Prop:=∀ o i,subscripted b false o i=operate [o,i] (getItem o i)
def IxR (X:Cx) (r:R2):Prop:=
 ∀ (value slice:Expr) (pins:List (Addr×Obj)) (s:Shared) (σ:St) (H:Hp) (x y:V) (v u:Value) (Q:VK),Inv X pins σ H s→RelV x v→RelV y u→r x y H Q→
  subscripted slice false v u=operate [v,u] (getItem v u)→wpAny (model X.prog X.w) X.A (subscriptTail value slice v u) (EP X pins σ Q) X.xe s
def J7 (X:Cx) (id:String) (r:V→List V→Hp→VK→Prop):Prop:=
 ∀ (pins:List (Addr×Obj)) (s:Shared) (σ:St) (H:Hp) (x:V) (xs:List V) (v:Value) (us:List Value) (Q:VK),Inv X pins σ H s→RelV x v→Vals xs us→r x xs H Q→
  wpAny (model X.prog X.w) X.A (call (.builtin id) (v :: us)) (EP X pins σ Q) X.xe s
section
variable {X:Cx} {a b:Expr} {ta tb:TE} {pos:Pos}
theorem IxR.or {r r':R2} (h:IxR X r) (h':IxR X r'):IxR X (fun x y H Q=>r x y H Q∨r' x y H Q):=by
 intro value slice pins s σ H x y v u Q I rx ry q hs
 rcases q with q | q
 ·exact h value slice pins s σ H x y v u Q I rx ry q hs
 ·exact h' value slice pins s σ H x y v u Q I rx ry q hs
theorem QD {r:R2} (hr:IxR X r) (ha:PE X a ta) (hb:PE X b tb) (hs:yM b):PE X (.Subscript a b pos) (GJ r ta tb):=by
 intro pins s σ H Q I h
 exact Subscript_ (Lx ha hb I h fun v u s2 x y H2 I2 rx ry q=>hr a b pins s2 σ H2 x y v u Q I2 rx ry q (hs _ _))
def QF (K:PySem.W.Frag):R2:=fun x y H Q=>∃ p xs i v,x= .ref p∧y= .int i∧SqL K H p xs∧tY xs i=some v∧Q v H
def QG (K:PySem.W.Frag):R2:=fun x y H Q=>∃ p xs i v,x= .ref p∧y= .int i∧SqT K H p xs∧tY xs i=some v∧Q v H
def QH:R2:=fun x y H Q=>∃ z i c,x= .str z∧y= .int i∧z.length≤sizeLine∧tY z.cps.toList i=some c∧Q (.str ⟨#[c]⟩) H
theorem Ht:IxR X (QF X.K):=by
 intro value slice pins s σ H x y v u Q I rx ry h hs
 obtain ⟨p,xs,i,z,rfl,rfl,hq,he,q⟩:=h
 cases rx
 obtain ⟨t,rfl⟩:=ry
 obtain ⟨its,r,pl,hz⟩:=I.list hq
 obtain ⟨j,h1,h2,h3,h4,h5⟩:=uF he
 obtain ⟨w,ew,rw'⟩:=r.get h2
 have hl:=r.length
 have hn:=qW
 have fin:EP X pins σ Q w s:=⟨z,H,I,rw',q⟩
 by_cases h0:0≤i
 ·have hj:i.toNat=j:=by
   rw [seqIndex_of h0 h5] at h1
   exact Option.some.inj h1
  exact item_listR pl.isList h0 (by omega) (by rw [hj];simpa using ew) fin hs
 ·have hj:(i+(its.toArray.size:Int)).toNat=j:=by
   rw [seqIndex_neg (by omega) h4] at h1
   rw [List.size_toArray,← hl]
   exact Option.some.inj h1
  exact subscriptTail_builtinR (x:=w) pl.isList.typeIs slot_list_getitem.lookup
   (wpAny_getItem_list_neg (Q:=fun r s'=>r=w∧EP X pins σ Q r s') pl.isList (by omega) (by rw [List.size_toArray] <;> omega) (by omega) (by rw [hj];simpa using ew) ⟨rfl,fin⟩) hs
theorem Ml:IxR X (QG X.K):=by
 intro value slice pins s σ H x y v u Q I rx ry h hs
 obtain ⟨p,xs,i,z,rfl,rfl,hq,he,q⟩:=h
 cases rx
 obtain ⟨t,rfl⟩:=ry
 obtain ⟨its,r,pl,hz⟩:=I.tuple hq
 obtain ⟨j,h1,h2,h3,h4,h5⟩:=uF he
 obtain ⟨w,ew,rw'⟩:=r.get h2
 have hl:=r.length
 have hn:=qW
 have fin:EP X pins σ Q w s:=⟨z,H,I,rw',q⟩
 exact subscriptTail_builtinR (x:=w) pl.typeIs slot_tuple_getitem.lookup
  (getItem_tuple (j:=j) (Q:=fun r s'=>r=w∧EP X pins σ Q r s') pl (by omega) (by omega) (by rw [List.size_toArray,← hl];exact h1) (by simpa using ew) ⟨rfl,fin⟩) hs
theorem Mm:IxR X QH:=by
 intro value slice pins s σ H x y v u Q I rx ry h hs
 obtain ⟨z,i,c,rfl,rfl,hz,he,q⟩:=h
 obtain ⟨t,rfl⟩:=rx
 obtain ⟨t',rfl⟩:=ry
 obtain ⟨j,h1,h2,h3,h4,h5⟩:=uF he
 have hl:z.cps.toList.length=z.length:=by simp [Str.length]
 rw [hl] at h1 h4 h5
 have hn:=qW
 exact tail_any (typeIs_str s z t) slot_str_getitem.lookup (getItem_str (c:=c) (by
  have e1:decide (i < -(2 ^ 63:Int))=false:=decide_eq_false (by omega)
  have e2:decide (i≥2 ^ 63)=false:=decide_eq_false (by omega)
  rw [e1,e2,Bool.or_false]) (by rw [h1];simpa using h2) ⟨.str ⟨#[c]⟩,H,I.tok _,⟨_,rfl⟩,q⟩) hs
def Qi (K:PySem.W.Frag):R2:=fun x y H Q=>QF K x y H Q∨QG K x y H Q∨QH x y H Q
theorem Mp:IxR X (Qi X.K):=Ht.or (Ml.or Mm)
theorem xF (its:List Value) (n j:Nat) (u:Value):Obj.mapSeq (·.setIfInBounds j u) {cls:=.type "list",data:=.seq its.toArray n}={cls:=.type "list",data:=.seq (its.set j u).toArray n}:=by
 simp [Obj.mapSeq]
theorem Inv.lst {pins:List (Addr×Obj)} {σ:St} {H:Hp} {s:Shared} {p:Addr} {xs:List V} (I:Inv X pins σ H s) (h:H p=some (.lst xs)):
  ∃ (its:List Value) (n:Nat),Vals xs its∧s.heap.get? p=some {cls:=.type "list",data:=.seq its.toArray n}∧xs.length≤sizeLine:=by
 obtain ⟨z,its,n,r,e⟩:=I.hok p _ h
 exact ⟨its,n,r,e,z⟩
theorem Inv.lstUpd {pins:List (Addr×Obj)} {σ:St} {H:Hp} {s:Shared} {p:Addr} {xs ys:List V} {its its':List Value} {n n':Nat} {f:Obj→Obj} (I:Inv X pins σ H s) (h:H p=some (.lst xs))
  (ho:s.heap.get? p=some {cls:=.type "list",data:=.seq its.toArray n}) (hf:f {cls:=.type "list",data:=.seq its.toArray n}={cls:=.type "list",data:=.seq its'.toArray n'}) (r:Vals ys its') (hz:ys.length≤sizeLine) (t:Nat):
  Inv X pins σ (upd H p (.lst ys)) {s with heap:=s.heap.update p f,toks:=t}:=by
 have e:(s.heap.update p f).get? p=some {cls:=.type "list",data:=.seq its'.toArray n'}:=by
  rw [Heap.get?_update_self f ho (by rw [hf] <;> rfl),hf]
 refine I.write (x:=p) (e:=p) (by rw [h];trivial) (.inl rfl) (fun b u hb q=>(Heap.get?_update_other _ _ (Ne.symm hb)).trans q) ⟨_,e⟩ ?_
 exact ⟨hz,its',n',r,e⟩
def Dd:V→V→V→Hp→(Hp→Prop)→Prop:=fun o i v H Q=>∃ p xs k j,o= .ref p∧i= .int k∧H p=some (.lst xs)∧Cd xs.length k=some j∧Q (upd H p (.lst (xs.set j v)))
theorem set_list:Ha X Dd:=by
 intro pins s σ H o i v ov iv u Q I ro ri rv h
 obtain ⟨p,xs,k,j,rfl,rfl,hp,hj,q⟩:=h
 cases ro
 obtain ⟨t,rfl⟩:=ri
 obtain ⟨its,n,r,ho,hz⟩:=I.lst hp
 obtain ⟨h1,h2,h3,h4⟩:=yL hj
 have hl:=r.length
 have hn:=qW
 have I':Inv X pins σ (upd H p (.lst (xs.set j v))) {s with heap:=s.heap.update p (Obj.mapSeq (·.setIfInBounds j u))}:=
  I.lstUpd hp ho (xF its n j u) (r.set rv j) (by rw [List.length_set];exact hz) s.toks
 by_cases h0:0≤k
 ·have hk:k.toNat=j:=by
   rw [seqIndex_of h0 h4] at h1
   exact Option.some.inj h1
  exact PySem.W.ki_setAt ho h0 (by omega) (by rw [List.size_toArray,← hl];exact h4) (by rw [hk];exact ⟨_,I',q⟩)
 ·have hk:(k+(its.toArray.size:Int)).toNat=j:=by
   rw [seqIndex_neg (by omega) h3] at h1
   rw [List.size_toArray,← hl]
   exact Option.some.inj h1
  exact PySem.W.ki_setBack ho (by omega) (by rw [List.size_toArray,← hl];exact h3) (by omega) (by rw [hk];exact ⟨_,I',q⟩)
theorem uG (lo hi:Option Int) (n:Nat):(sliceBounds lo hi none n).1=((HT.sIx n 0 lo:Nat):Int)∧(sliceBounds lo hi none n).2.1=((HT.sIx n n hi:Nat):Int)∧(sliceBounds lo hi none n).2.2=1:=by
 refine ⟨?_,?_,rfl⟩
 ·cases lo with
  | none=>simp [sliceBounds,HT.sIx]
  | some i=>
   simp only [sliceBounds,HT.sIx,Option.getD_none,show (1:Int) > 0 by decide,if_true]
   by_cases h:i < 0
   ·simp only [h,if_true] <;> omega
   ·simp only [h,if_false] <;> omega
 ·cases hi with
  | none=>simp [sliceBounds,HT.sIx]
  | some i=>
   simp only [sliceBounds,HT.sIx,Option.getD_none,show (1:Int) > 0 by decide,if_true]
   by_cases h:i < 0
   ·simp only [h,if_true] <;> omega
   ·simp only [h,if_false] <;> omega
theorem sV (its:List Value) (lo hi:Option Int):slicePick its.toArray lo hi none=((its.drop (HT.sIx its.length 0 lo)).take (HT.sIx its.length its.length hi - HT.sIx its.length 0 lo)).toArray:=by
 obtain ⟨h1,h2,h3⟩:=uG lo hi its.toArray.size
 unfold slicePick
 rw [h1,h2,h3]
 simp only [sliceRange_one,pick_run,List.size_toArray] <;> rfl
def QJ (K:PySem.W.Frag):V→Option Int→Option Int→Hp→VK→Prop:=fun x lo hi H Q=>∃ a xs,x= .ref a∧SqL K H a xs∧∀ p,H p=none→Q (.ref p) (upd H p (.lst (fO xs lo hi)))
theorem Hu:SlR X (QJ X.K):=by
 intro pins s σ H x v vl vu lo hi sl Q I rx hs pl pu h
 obtain ⟨a,xs,rfl,hx,q⟩:=h
 cases rx
 obtain ⟨its,r,ht,hz⟩:=I.list hx
 have hlen:=r.length
 refine ⟨"list",_,slot_list_getitem.lookup,ht.isList.typeIs,?_⟩
 refine wpAny_getItem_list_slice ht.isList hs pl pu .none (by simp) ?_ (by rw [List.size_toArray] <;> omega)
 rw [sV,← hlen]
 refine ⟨.ref s.heap.objs.size,_,I.laid (t':=s.toks) (o:=.lst (fO xs lo hi)) (fun b ob q=>Heap.get?_push_of_some _ q) (Nat.le_refl _) ?_,rfl,q _ (I.hok.fresh (Nat.le_refl _))⟩
 exact ⟨Nat.le_trans (cH xs lo hi) hz,_,0,(r.drop (HT.sIx xs.length 0 lo)).take (HT.sIx xs.length xs.length hi - HT.sIx xs.length 0 lo),Heap.get?_push_size _ rfl⟩
def dZ:V→Bool
 | .non=>true
 | .bl _=>true
 | .int _=>true
 | .str _=>true
 | _=>false
def yN:V→V→Bool
 | .non,.non=>true
 | .bl a,.bl b=>a == b
 | .bl a,.int b=>(if a then 1 else 0) == b
 | .int a,.bl b=>a == (if b then 1 else 0)
 | .int a,.int b=>a == b
 | .str a,.str b=>a == b
 | _,_=>false
theorem qY {A:Around} {s:Shared} {y x:V} {u v:Value} (ry:RelV y u) (rx:RelV x v) (fy:dZ y=true) (fx:dZ x=true):SeqAt.EqAt A s u v (yN y x):=by
 cases y with
 | non=>
  cases ry
  cases x with
  | non=>cases rx;exact SeqAt.EqAt.same _
  | bl b=>cases rx;exact SeqAt.EqAt.none_bool b
  | int b=>obtain ⟨t,rfl⟩:=rx;exact SeqAt.EqAt.none_int b t
  | str b=>obtain ⟨t,rfl⟩:=rx;exact SeqAt.EqAt.none_str b t
  | _=>exact absurd (show false=true from fx) Bool.false_ne_true
 | bl a=>
  cases ry
  cases x with
  | non=>cases rx;exact SeqAt.EqAt.bool_none a
  | bl b=>cases rx;exact SeqAt.EqAt.bool_bool a b
  | int b=>obtain ⟨t,rfl⟩:=rx;exact SeqAt.EqAt.bool_int a b t
  | str b=>obtain ⟨t,rfl⟩:=rx;exact SeqAt.EqAt.bool_str a b t
  | _=>exact absurd (show false=true from fx) Bool.false_ne_true
 | int a=>
  obtain ⟨t',rfl⟩:=ry
  cases x with
  | non=>cases rx;exact SeqAt.EqAt.int_none a t'
  | bl b=>cases rx;exact SeqAt.EqAt.int_bool a t' b
  | int b=>obtain ⟨t,rfl⟩:=rx;exact SeqAt.EqAt.int_int a t' b t
  | str b=>obtain ⟨t,rfl⟩:=rx;exact SeqAt.EqAt.int_str a t' b t
  | _=>exact absurd (show false=true from fx) Bool.false_ne_true
 | str a=>
  obtain ⟨t',rfl⟩:=ry
  cases x with
  | non=>cases rx;exact SeqAt.EqAt.str_none a t'
  | bl b=>cases rx;exact SeqAt.EqAt.str_bool a t' b
  | int b=>obtain ⟨t,rfl⟩:=rx;exact SeqAt.EqAt.str_int a t' b t
  | str b=>obtain ⟨t,rfl⟩:=rx;exact SeqAt.EqAt.str_str a t' b t
  | _=>exact absurd (show false=true from fx) Bool.false_ne_true
 | _=>exact absurd (show false=true from fy) Bool.false_ne_true
def Hv (x:V) (u:Value):Bool:=match u with
 | .none=>yN .non x
 | .bool b=>yN (.bl b) x
 | .int i _=>yN (.int i) x
 | .str z _=>yN (.str z) x
 | _=>false
theorem De {x y:V} {u:Value} (r:RelV y u) (f:dZ y=true):Hv x u=yN y x:=by
 cases y with
 | non=>cases r;rfl
 | bl b=>cases r;rfl
 | int i=>obtain ⟨t,rfl⟩:=r;rfl
 | str z=>obtain ⟨t,rfl⟩:=r;rfl
 | _=>exact absurd (show false=true from f) Bool.false_ne_true
theorem uH {x:V}:∀ {xs:List V} {us:List Value},Vals xs us→xs.all dZ=true→us.any (Hv x)=xs.any fun y=>yN y x
 | _,_,.nil,_=>rfl
 | y :: xs,u :: us,.cons r t,f=>by
  rw [List.all_cons,Bool.and_eq_true] at f
  rw [List.any_cons,List.any_cons,De r f.1,uH t f.2]
theorem qZ {A:Around} {s:Shared} {x:V} {v:Value} (rx:RelV x v) (fx:dZ x=true):∀ {xs:List V} {us:List Value},Vals xs us→xs.all dZ=true→∀ u∈us,SeqAt.EqAt A s u v (Hv x u)
 | _,_,.nil,_=>fun u hu=>by cases hu
 | y :: xs,u :: us,.cons r t,f=>fun u' hu=>by
  rw [List.all_cons,Bool.and_eq_true] at f
  rcases List.mem_cons.mp hu with rfl | hu
  ·rw [De r f.1];exact qY r rx f.1 fx
  ·exact qZ rx fx t f.2 u' hu
def inV (x:V) (xs:List V):Bool:=xs.any fun y=>yN y x
def rIn (K:PySem.W.Frag) (neg:Bool):R2:=fun x y H Q=>∃ p xs,y= .ref p∧(SqL K H p xs∨SqT K H p xs)∧dZ x=true∧xs.all dZ=true∧Q (.bl (if neg then !inV x xs else inV x xs)) H
theorem Ac:OpR X (compareOp .In) (rIn X.K false):=by
 intro pins s σ H x y v u Q I rx ry h
 obtain ⟨p,xs,rfl,hq,fx,fs,q⟩:=h
 cases ry
 rcases hq with hq | hq
 ·obtain ⟨its,r,pl,hz⟩:=I.list hq
  refine SeqAt.in_listAt (Hv x) pl.isList (fun w hw=>qZ rx fx r fs w (by simpa using hw)) ⟨.bl _,H,I,rfl,?_⟩
  rw [show its.toArray.any (Hv x)=its.any (Hv x) by simp,uH r fs]
  exact q
 ·obtain ⟨its,r,pl,hz⟩:=I.tuple hq
  refine SeqAt.in_tupleAt (Hv x) pl (fun w hw=>qZ rx fx r fs w (by simpa using hw)) ⟨.bl _,H,I,rfl,?_⟩
  rw [show its.toArray.any (Hv x)=its.any (Hv x) by simp,uH r fs]
  exact q
theorem CallR.or {f:Value} {r r':List V→Hp→VK→Prop} (h:CallR X f r) (h':CallR X f r'):CallR X f (fun xs H Q=>r xs H Q∨r' xs H Q):=by
 intro pins s σ H xs us Q I rs q
 rcases q with q | q
 ·exact h pins s σ H xs us Q I rs q
 ·exact h' pins s σ H xs us Q I rs q
theorem uI:CallR X (.type "list") (fun xs H Q=>∃ p ys,xs=[.ref p]∧(SqL X.K H p ys∨SqT X.K H p ys)∧∀ l,H l=none→Q (.ref l) (upd H l (.lst ys))):=by
 intro pins s σ H xs us Q I r h
 obtain ⟨p,ys,rfl,hq,q⟩:=h
 obtain ⟨u,rfl,rx⟩:=vals1 r
 cases rx
 have fin:∀ (its:List Value),Vals ys its→ys.length≤sizeLine→∀ (h':Heap) (c':Nat),(∀ b o',s.heap.get? b=some o'→h'.get? b=some o')→
   h'.get? s.heap.objs.size=some {cls:=.type "list",dict:=none,data:=.seq its.toArray c',slots:=#[]}→EP X pins σ Q (.ref s.heap.objs.size) {s with heap:=h'}:=fun its r' hz h' c' kp e=>
  ⟨.ref s.heap.objs.size,_,I.laid (t':=s.toks) kp (Nat.le_refl _) (show ObjOk X.prog X.w _ h' _ (.lst ys) from ⟨hz,its,c',r',e⟩),rfl,q _ (I.hok.fresh (Nat.le_refl _))⟩
 rcases hq with hq | hq
 ·obtain ⟨its,r',pl,hz⟩:=I.list hq
  have hlen:=r'.length
  obtain ⟨o,ho,hc,n,hd⟩:=pl.isList
  exact call_list_seq p (.inl rfl) ho hc hd (fun h' c' kp e=>fin its r' hz h' c' kp e) (by simp only [List.size_toArray] <;> omega)
 ·obtain ⟨its,r',pl,hz⟩:=I.tuple hq
  have hlen:=r'.length
  obtain ⟨o,ho,hc,n,hd⟩:=pl
  exact call_list_seq p (.inr rfl) ho hc hd (fun h' c' kp e=>fin its r' hz h' c' kp e) (by simp only [List.size_toArray] <;> omega)
theorem sW:CallR X (.type "tuple") (fun xs H Q=>∃ p ys,xs=[.ref p]∧((SqL X.K H p ys∧∀ l,H l=none→Q (.ref l) (upd H l (.tup ys)))∨(SqT X.K H p ys∧Q (.ref p) H))):=by
 intro pins s σ H xs us Q I r h
 obtain ⟨p,ys,rfl,h⟩:=h
 obtain ⟨u,rfl,rx⟩:=vals1 r
 cases rx
 rcases h with ⟨hq,q⟩ | ⟨hq,q⟩
 ·obtain ⟨its,r',pl,hz⟩:=I.list hq
  have hlen:=r'.length
  refine call_tuple_list pl.isList (fun h' kp=>?_) (by simp only [List.size_toArray] <;> omega)
  have I1:Inv X pins σ H {s with heap:=h'}:=I.kept (t':=s.toks) kp
  have I2:Inv X pins σ (upd H h'.objs.size (.tup ys)) {s with heap:=h'.push {cls:=.type "tuple",data:=.seq its.toArray}}:=
   I1.laid (t':=s.toks) (fun b o e=>Heap.get?_push_of_some _ e) (Nat.le_refl _) (show ObjOk X.prog X.w _ _ _ (.tup ys) from ⟨hz,its,r',IsTup.new _ _⟩)
  exact ⟨.ref h'.objs.size,_,I2,rfl,q _ (I1.hok.fresh (Nat.le_refl _))⟩
 ·obtain ⟨its,r',pl,hz⟩:=I.tuple hq
  exact call_tuple_same pl ⟨.ref p,H,I,rfl,q⟩
def QK (K:PySem.W.Frag) (T:String) (x:V) (H:Hp):Prop:=match x with
 | .str _=>T="str"
 | .int _=>T="int"
 | .ref p=>(T="list"∧∃ xs,SqL K H p xs)∨(T="tuple"∧∃ o,K.lookup p=some o∧o.cls= .type "tuple"∧o.dict=none)∨
   (T="dict"∧((∃ kvs,H p=some (.dK kvs))∨∃ kvs,H p=some (.dT kvs)))∨(T="set"∧∃ S n,H p=some (.set S n))
 | _=>False
theorem Df {pins:List (Addr×Obj)} {σ:St} {H:Hp} {s:Shared} {T:String} {x:V} {v:Value} (I:Inv X pins σ H s) (r:RelV x v) (ty:QK X.K T x H):
  s.TypeIs v T∧∀ a,v= .ref a→∃ ob,s.heap.get? a=some ob∧ob.dict=none:=by
 cases x with
 | str z=>
  obtain ⟨t,rfl⟩:=r
  cases (show T="str" from ty)
  exact ⟨typeIs_str s z t,fun _ e=>nomatch e⟩
 | int i=>
  obtain ⟨t,rfl⟩:=r
  cases (show T="int" from ty)
  exact ⟨typeIs_int s i t,fun _ e=>nomatch e⟩
 | ref p=>
  cases r
  rcases ty with ⟨rfl,xs,hq⟩ | ⟨rfl,o,hk,hc,hd⟩ | ⟨rfl,hk⟩ | ⟨rfl,S,n,hk⟩
  ·obtain ⟨its,_,pl,_⟩:=I.list hq
   refine ⟨pl.isList.typeIs,fun a e=>?_⟩
   cases e
   obtain ⟨o,n,e,c,hd,_⟩:=pl
   exact ⟨o,e,hd⟩
  ·refine ⟨⟨o,I.kIn p o hk,hc⟩,fun a e=>?_⟩
   cases e
   exact ⟨o,I.kIn _ o hk,hd⟩
  ·have z:∃ o,s.heap.get? p=some o∧o.ExactDict:=by
    rcases hk with ⟨kvs,hk⟩ | ⟨kvs,hk⟩
    ·obtain ⟨_,_,_,_,o,_,_,e,ex,_⟩:=I.hok p _ hk
     exact ⟨o,e,ex⟩
    ·obtain ⟨_,_,_,_,o,_,_,e,ex,_⟩:=I.hok p _ hk
     exact ⟨o,e,ex⟩
   obtain ⟨o,e,ex⟩:=z
   refine ⟨⟨o,e,ex.1⟩,fun a e2=>?_⟩
   cases e2
   exact ⟨o,e,ex.2.1⟩
  ·obtain ⟨o,_,_,_,e,ex,_⟩:=I.hok p _ hk
   refine ⟨⟨o,e,ex.1⟩,fun a e2=>?_⟩
   cases e2
   exact ⟨o,e,ex.2.1⟩
 | _=>exact False.elim ty
def Dg (K:PySem.W.Frag) (T:String) (r:V→List V→Hp→VK→Prop) (to:TE):TE:=fun σ H Q=>to σ H fun x H1=>QK K T x H1∧r x [] H1 Q
def QL (K:PySem.W.Frag) (T:String) (r:V→List V→Hp→VK→Prop) (to:TE) (t:TA):TE:=fun σ H Q=>to σ H fun x H1=>QK K T x H1∧t σ H1 fun xs H2=>r x xs H2 Q
variable {o e:Expr} {es:List Expr} {to:TE} {t:TA} {name:Str} {apos cpos:Pos} {T id:String} {r:V→List V→Hp→VK→Prop}
theorem Mq (pa:PlainAttrs T) (slot:Slot T name id) (hty:typeOf (.builtin id)=pure (.type "method_descriptor")) (hm:J7 X id r) (ho:PE X o to)
  (hbase:autoParam (attributeBase o name X.env (eval o X.env)=eval o X.env) L2.auto4._auto_1) (hline:autoParam ((apos.endLine == cpos.line)=true) L2.auto4._auto_1):PE X (.Call (.Attribute o name apos) [] [] cpos) (Dg X.K T r to):=by
 intro pins s σ H Q I h
 refine wpAny_Call_method0_late hbase hline (dD (ho pins s σ H _ I h) fun v s1 qq0=>?_)
 obtain ⟨x,H1,I1,r1,ty,q1⟩:=qq0
 obtain ⟨h1,h2⟩:=Df I1 r1 ty
 exact ⟨T,id,pa,slot,hty,h1,h2,Calls.callWith_builtin rfl (PySem.evalArgs_none (hm pins s1 σ H1 x [] v [] Q I1 r1 .nil q1))⟩
theorem QM (pa:PlainAttrs T) (slot:Slot T name id) (hty:typeOf (.builtin id)=pure (.type "method_descriptor")) (hm:J7 X id r) (ho:PE X o to) (ha:PA X (e :: es) t)
  (hbase:autoParam (attributeBase o name X.env (eval o X.env)=eval o X.env) L2.auto4._auto_1)
  (hfew:((backTo cpos (starEach (e :: es) X.env)).all (fun x=>!x.1) && (backToKw cpos (keywordEach [] X.env)).all (fun x=>x.1.isSome)
   && decide ((e :: es).length+([]:List Keyword).length+(if ([]:List Keyword).isEmpty then 0 else 1) < 30))=true:=by rfl)
  (hline:autoParam ((apos.endLine == cpos.line)=true) L2.auto4._auto_1) (hs:autoParam (starEach (e :: es) X.env=(false,eval e X.env) :: starEach es X.env) L2.auto4._auto_1) (hplain:autoParam ((backTo cpos (starEach es X.env)).any (·.1)=false) L2.auto4._auto_1):
  PE X (.Call (.Attribute o name apos) (e :: es) [] cpos) (QL X.K T r to t):=by
 intro pins s σ H Q I h
 refine wpAny_Call_method_late hbase hfew hline rfl (dD (ho pins s σ H _ I h) fun v s1 qq0=>?_)
 obtain ⟨x,H1,I1,r1,ty,q1⟩:=qq0
 obtain ⟨h1,h2⟩:=Df I1 r1 ty
 refine ⟨T,id,pa,slot,hty,h1,h2,?_⟩
 have hA:=ha cpos pins s1 σ H1 _ I1 q1
 rw [hs] at hA ⊢
 refine Calls.callWith_builtin (by show (false || (backTo cpos (starEach es X.env)).any (·.1))=false;rw [hplain] <;> rfl) (Calls.evalArgs_plain ?_)
 exact dD hA fun us s2 ⟨vs,H2,I2,r2,q2⟩=>hm pins s2 σ H2 x vs v us Q I2 r1 r2 q2
end
end L2
namespace L2
open PySem PySem.Spec PyProof.Rows
def Uh (X:Cx) (id:String) (r:V→List V→Hp→VK→Prop):Prop:=
 ∀ (pins:List (Addr×Obj)) (s:Shared) (σ:St) (H:Hp) (x:V) (xs:List V) (v:Value) (us:List Value) (Q:VK),Inv X pins σ H s→RelV x v→Vals xs us→r x xs H Q→
  wpAny (model X.prog X.w) X.A (call (.builtin id) (v :: us)) (EP X pins σ Q) X.xe s
theorem Vals.one:∀ {x:V} {us:List Value},Vals [x] us→∃ u,us=[u]∧RelV x u
 | _,_,.cons r .nil=>⟨_,rfl,r⟩
theorem Vals.zero:∀ {us:List Value},Vals [] us→us=[]
 | _,.nil=>rfl
theorem Vals.eraseIdx:∀ {xs:List V} {us:List Value} (i:Nat),Vals xs us→Vals (xs.eraseIdx i) (us.eraseIdx i)
 | _,_,_,.nil=>.nil
 | _,_,0,.cons _ t=>t
 | _,_,i+1,.cons r t=>.cons r (Vals.eraseIdx i t)
theorem Vals.reverse {xs:List V} {us:List Value} (h:Vals xs us):Vals xs.reverse us.reverse:=by
 induction h with
 | nil=>exact .nil
 | cons r t ih=>rw [List.reverse_cons,List.reverse_cons];exact Vals.append ih (.cons r .nil)
theorem Vals.rep {xs:List V} {us:List Value} (h:Vals xs us):∀ k:Nat,Vals (List.replicate k xs).flatten (List.replicate k us).flatten
 | 0=>.nil
 | k+1=>by
  rw [List.replicate_succ,List.replicate_succ,List.flatten_cons,List.flatten_cons]
  exact Vals.append h (Vals.rep h k)
theorem tZ {α:Type}:∀ (l:List α) (i:Nat),(l.eraseIdx i).length≤l.length
 | [],_=>Nat.le_refl _
 | _ :: _,0=>Nat.le_succ _
 | _ :: r,i+1=>Nat.succ_le_succ (tZ r i)
theorem foldl_rep (its:List Value):∀ (k:Nat) (acc:List Value),
  List.foldl (fun x1 x2=>x1 ++ x2) acc.toArray (List.replicate k its.toArray)=(acc ++ (List.replicate k its).flatten).toArray
 | 0,acc=>by simp
 | k+1,acc=>by
  have e:acc.toArray ++ its.toArray=(acc ++ its).toArray:=by simp
  have e2:(acc ++ its) ++ (List.replicate k its).flatten=acc ++ (List.replicate (k+1) its).flatten:=by
   rw [List.replicate_succ,List.flatten_cons,List.append_assoc]
  rw [← e2,← foldl_rep its k (acc ++ its),← e,List.replicate_succ,List.foldl_cons]
section
variable {X:Cx} {pins:List (Addr×Obj)} {σ:St} {H:Hp} {s:Shared} {l b:Addr} {xs ys zs:List V}
theorem Inv.lset {its its':List Value} {n:Nat} {f:Array Value→Array Value} {t':Nat} (I:Inv X pins σ H s) (hH:H l=some (.lst xs))
  (e:s.heap.get? l=some {cls:=.type "list",data:=.seq its.toArray n}) (hf:f its.toArray=its'.toArray) (hv:Vals ys its') (hz:ys.length≤sizeLine):
  Inv X pins σ (upd H l (.lst ys)) {s with heap:=s.heap.update l (Obj.mapSeq f),toks:=t'}:=by
 have q:=PySem.IsL.update e f
 rw [hf] at q
 refine I.write (x:=l) (e:=l) (by rw [hH];exact trivial) (.inl rfl) (fun b' u hb hu=>(Heap.get?_update_other s.heap (Obj.mapSeq f) (Ne.symm hb)).trans hu) ⟨_,q⟩ ?_
 exact ⟨hz,its',_,hv,q⟩
theorem Inv.lnew {its:List Value} {t':Nat} (I:Inv X pins σ H s) (hv:Vals ys its) (hz:ys.length≤sizeLine):
  Inv X pins σ (upd H s.heap.objs.size (.lst ys)) {s with heap:=s.heap.push {cls:=.type "list",data:=.seq its.toArray},toks:=t'}:=
 I.laid (fun _ _ q=>Heap.get?_push_of_some _ q) (Nat.le_refl _) ⟨hz,its,0,hv,Heap.get?_push_size _ rfl⟩
theorem Inv.fresh (I:Inv X pins σ H s):H s.heap.objs.size=none:=I.hok.fresh (Nat.le_refl _)
theorem Inv.lstM (I:Inv X pins σ H s) (hH:H l=some (.lst xs)):xs.length≤sizeLine∧∃ (its:List Value) (n:Nat),Vals xs its∧xs.length=its.length∧s.heap.get? l=some {cls:=.type "list",data:=.seq its.toArray n}:=by
 obtain ⟨z,its,n,r,e⟩:=I.hok l _ hH
 exact ⟨z,its,n,r,r.length,e⟩
theorem Dh {n:Nat} (h:n≤sizeLine):Builtin.List.listTooLong n=false:=by
 unfold Builtin.List.listTooLong
 exact decide_eq_false (by omega)
end
section
variable {X:Cx}
def yO:V→List V→Hp→VK→Prop:=fun x vs H Q=>∃ l xs y,x= .ref l∧vs=[y]∧H l=some (.lst xs)∧xs.length < sizeLine∧Q .non (upd H l (.lst (xs ++ [y])))
theorem dR:Uh X "list.append" yO:=by
 intro pins s σ H x vs v us Q I rx rv h
 obtain ⟨l,xs,y,rfl,rfl,hH,hz,q⟩:=h
 cases rx
 obtain ⟨u,rfl,ru⟩:=rv.one
 obtain ⟨z,its,n,r,hl,e⟩:=I.lstM hH
 refine call_meets F.slot_list_append ⟨_,e,rfl⟩ F.entry_list_append (F.args_list_append_2 _ _) (PySem.list_append l its.toArray n u (by rw [List.size_toArray];omega)) ⟨e,?_⟩
 refine ⟨.non,_,I.lset (its':=its ++ [u]) hH e (by simp) (r.append (.cons ru .nil)) ?_,rfl,q⟩
 rw [List.length_append,List.length_singleton]
 omega
def Mr:V→List V→Hp→VK→Prop:=fun x vs H Q=>∃ l xs i k y,x= .ref l∧vs=[.int i]∧H l=some (.lst xs)∧-(2 ^ 63)≤i∧i < 2 ^ 63∧seqIndex? i xs.length=some k∧xs[k]?=some y∧Q y (upd H l (.lst (xs.eraseIdx k)))
theorem Di:Uh X "list.pop" Mr:=by
 intro pins s σ H x vs v us Q I rx rv h
 obtain ⟨l,xs,i,k,y,rfl,rfl,hH,h1,h2,hk,hy,q⟩:=h
 cases rx
 obtain ⟨u,rfl,ru⟩:=rv.one
 obtain ⟨t,rfl⟩:=ru
 obtain ⟨z,its,n,r,hl,e⟩:=I.lstM hH
 obtain ⟨w,hw,rw'⟩:=r.get hy
 refine call_meets F.slot_list_pop ⟨_,e,rfl⟩ F.entry_list_pop (F.args_list_pop_2 _ _)
  (MeetsSeq.list_pop_at l its.toArray n i t k w (fitsIndex_both h1 h2) (by rw [List.size_toArray,← hl];exact hk) (by rw [← Array.getElem?_toList];exact hw) (by rw [List.size_toArray];omega)) ⟨e,?_⟩
 refine ⟨y,_,I.lset (its':=its.eraseIdx k) hH e ?_ (r.eraseIdx k) ?_,rw',q⟩
 ·show its.toArray.eraseIdxIfInBounds k=(its.eraseIdx k).toArray
  rw [List.eraseIdxIfInBounds_toArray]
 ·have:=tZ xs k
  omega
def Ms:V→List V→Hp→VK→Prop:=fun x vs H Q=>∃ l xs,x= .ref l∧vs=[]∧H l=some (.lst xs)∧Q .non (upd H l (.lst []))
theorem Dj:Uh X "list.clear" Ms:=by
 intro pins s σ H x vs v us Q I rx rv h
 obtain ⟨l,xs,rfl,rfl,hH,q⟩:=h
 cases rx
 have hus:=rv.zero
 subst hus
 obtain ⟨z,its,n,r,hl,e⟩:=I.lstM hH
 refine call_meets F.slot_list_clear ⟨_,e,rfl⟩ F.entry_list_clear (F.args_list_clear_1 _) (AutoSeq1.list_clear_list_0 l its.toArray n (by rw [List.size_toArray];omega)) ⟨e,?_⟩
 exact ⟨.non,_,I.lset (its':=[]) (ys:=[]) hH e rfl .nil (Nat.zero_le _),rfl,q⟩
def QQ:R2:=fun x y H Q=>∃ l b xs zs,x= .ref l∧y= .ref b∧H l=some (.lst xs)∧H b=some (.lst zs)∧xs.length+zs.length≤sizeLine∧∀ p,H p=none→Q (.ref p) (upd H p (.lst (xs ++ zs)))
theorem Mt:OpR X (binaryOp .Add) QQ:=by
 intro pins s σ H x y v u Q I rx ry h
 obtain ⟨l,b,xs,zs,rfl,rfl,hH,hB,hz,q⟩:=h
 cases rx
 cases ry
 obtain ⟨z,its,n,r,hl,e⟩:=I.lstM hH
 obtain ⟨z2,its2,n2,r2,hl2,e2⟩:=I.lstM hB
 refine PySem.P.add_list e e2 ?_ (by rw [List.size_toArray,List.size_toArray];omega)
 have ea:its.toArray ++ its2.toArray=(its ++ its2).toArray:=by simp
 rw [ea]
 exact ⟨.ref _,_,I.lnew (t':=s.toks) (r.append r2) (by rw [List.length_append];omega),rfl,q _ I.fresh⟩
def QR:R2:=fun x y H Q=>∃ l k xs,x= .ref l∧y= .int k∧H l=some (.lst xs)∧-(2 ^ 63)≤k∧k < 2 ^ 63∧xs.length*k.toNat≤sizeLine∧
 ∀ p,H p=none→Q (.ref p) (upd H p (.lst (List.replicate k.toNat xs).flatten))
theorem len_rep {α:Type} (xs:List α) (k:Nat):(List.replicate k xs).flatten.length=k*xs.length:=by
 induction k with
 | zero=>simp
 | succ k ih=>rw [List.replicate_succ,List.flatten_cons,List.length_append,ih,Nat.succ_mul,Nat.add_comm]
theorem Mu:OpR X (binaryOp .Mult) QR:=by
 intro pins s σ H x y v u Q I rx ry h
 obtain ⟨l,k,xs,rfl,rfl,hH,h1,h2,hz,q⟩:=h
 cases rx
 obtain ⟨t,rfl⟩:=ry
 obtain ⟨z,its,n,r,hl,e⟩:=I.lstM hH
 have hlen:its.toArray.size*k.toNat≤sizeLine:=by rw [List.size_toArray,← hl];exact hz
 have hcap:¬ its.toArray.size*k.toNat > (2 ^ 63 - 1) / 8:=by
  have:(sizeLine:Nat)≤(2 ^ 63 - 1) / 8:=by decide
  omega
 have hfit:¬ (!Builtin.List.listFitsIndex k)=true:=by
  rw [fitsIndex_both h1 h2]
  exact Bool.false_ne_true
 have hlong:¬ Builtin.List.listTooLong (its.toArray.size*k.toNat)=true:=by
  rw [Dh hlen]
  exact Bool.false_ne_true
 have hnew:List.foldl (fun x1 x2=>x1 ++ x2) #[] (List.replicate (if its.toArray.isEmpty=true then 0 else k.toNat) its.toArray)=(List.replicate k.toNat its).flatten.toArray:=by
  have f0:∀ m:Nat,List.foldl (fun x1 x2=>x1 ++ x2) #[] (List.replicate m its.toArray)=(List.replicate m its).flatten.toArray:=fun m=>by
   have:=foldl_rep its m []
   rw [List.nil_append] at this
   exact this
  rw [f0]
  cases its with
  | nil=>simp
  | cons a r'=>rw [if_neg (by simp)]
 refine wpAny_binaryOp_repeat_ref (T:="list") (U:="int") (by decide) ⟨_,e,rfl⟩ (fun s'=>typeIs_int s' k t) noFill_list_mul F.fills_int_mul F.slot_int_rmul repeat_list F.slot_int_index.lookup
  (call_meets F.slot_int_rmul (typeIs_int s k t) F.entry_int_rmul (F.args_int_rmul_2 _ _) (int___rmul___int_list k t l its.toArray n)
   ⟨e,rfl,⟨_,e,rfl⟩,call_meets F.slot_list_mul ⟨_,e,rfl⟩ F.entry_list_mul (F.args_list_mul_2 _ _) (AutoListH.list___mul___list_int_3 l its.toArray n k t hfit hcap hlong) ⟨e,?_⟩⟩)
 rw [hnew]
 exact ⟨.ref _,_,I.lnew (t':=s.toks) (r.rep k.toNat) (by rw [len_rep,Nat.mul_comm];exact hz),rfl,q _ I.fresh⟩
end
section
variable {prog:Program} {w:World} {A:Around} {E:Value→Shared→Prop} {s:Shared}
end
section
variable {X:Cx}
end
end L2
namespace Att
open PySem PySem.W PySem.Calls PyProof.Rows
theorem qp {P:Params} {h:Heap}:∀ (ns:List Int) (vs:List Value),WellAll P h vs (ns.map WData.int)→IntsAre vs ns:=by
 intro ns
 induction ns with
 | nil=>
  intro vs w
  rw [List.map_nil] at w
  cases w
  exact .nil
 | cons n ns ih=>
  intro vs w
  rw [List.map_cons] at w
  cases w with
  | cons a b=>
   cases a
   exact .cons _ _ (ih _ b)
theorem Ad {l:OpenLaw} {n:Nat} (hn:l.most=some n) {P:Params} {h:Heap} {args:List WData} {vals:List Value}
  (hpre:l.row.toRowW.claim.pre args=true) (hwl:WellAll P h vals args):
  ∃ a vs ns,vals=[Value.ref a]∧args=[WData.list (ns.map WData.int)]∧h.get? a=some {cls:=.type "list",data:=.seq vs.toArray}∧IntsAre vs ns∧ns.length≤n:=by
 have hsh:WShape.hasAll [] args [.list .int]=true:=(pre_splitW hpre).1
 have hc:l.pre.holds [] {args:=args}=true:=(pre_splitW hpre).2
 obtain ⟨d,r,rfl,h1,h2⟩:=hasAllW_cons hsh
 obtain rfl:=hasAllW_nil h2
 obtain ⟨xs,rfl,h3⟩:=hasW_list h1
 obtain ⟨ns,rfl⟩:=items_int h3
 have hlen:ns.length≤n:=by
  unfold OpenLaw.pre at hc
  have h4:(WTm.not (.lt (.lit (.int (n:Int))) (.len (.arg 0)))).holds [] {args:=[.list (ns.map .int)]}=true:=by
   have h4:=(holds_andW hc).1
   rw [hn] at h4
   exact h4
  have h5:=condW_of h4 (w_not (w_lt w_lit (w_len_list (w_arg rfl))))
  rw [List.length_map] at h5
  refine Nat.le_of_not_lt fun q=>?_
  have q':(n:Int) < ((ns.length:Nat):Int):=by omega
  first
   | (rw [decide_eq_true q'] at h5;exact absurd h5 (by decide))
   | (simp at h5;omega)
 cases hwl with
 | cons w1 w2=>
  cases w2
  cases w1 with
  | list ho hall=>exact ⟨_,_,ns,rfl,rfl,ho,qp ns _ hall,hlen⟩
theorem Ae (l:OpenLaw) (args:List WData):l.row.toRowW.claim.post args (.bool true) args=true:=
 postW_of (r:=l.row.toRowW) (X:=(true == true))
  (show WShape.has [] (.bool true) .bool=true by first | rfl | decide | simp [WShape.has,WShape.arms,WShape.armsAll])
  (show (WTm.eq .res (.lit (.bool true))).value [] {args:=args,res:=some (.bool true),after:=args}=some (.bool (true == true)) from w_eq_bool (w_res rfl) w_lit) rfl
theorem attach_call {l:OpenLaw} {n:Nat} {q:Program} {loose:List Str} {XP:(Str→Option Value)→Heap→Prop} {YP:World→Heap→Prop} {d:DefRec}
  (hn:l.most=some n) (hdf:d.params.defaults=[])
  (call:∀ (w:World) (s₀ s₁:Shared) (mg mb:Str→Option Value) (fa:Addr) (o:Obj) (pm cd doc:Value) (a:Addr) (vs:List Value) (ns:List Int),
   Ground q loose [] XP w s₀ mg mb s₁.heap→YP w s₁.heap→
   s₁.heap.get? fa=some o→o.data= .func (docDef d.name d.params d.body d.scope pm cd doc)→s₁.heap.CodeRec cd d.name→mg d.name=some (.ref fa)→
   s₁.heap.get? a=some {cls:=.type "list",data:=.seq vs.toArray}→IntsAre vs ns→ns.length≤n→s₁.gens= #[]→
   codeAny (model l.prog w) callerA (.call (.ref fa) ⟨[.ref a],[]⟩) (fun r s'=>r= .ok (.ret (.bool true))∧OldK s₁.heap s'.heap∧s'.os=s₁.os∧AllBare s'.gens) s₁):
  WalkO q loose XP YP l.row.toRowW d [] (fun f vs=>PySem.call f vs):=by
 intro w s₀ s₁ mg mb G Y fa o pm cd doc dV kV ho hd hcd hD hmg hg args vals as hpre hlay hrd hwl hlo
 obtain rfl:dV= .none:=Dflts.none hD hdf
 obtain rfl:kV= .none:=Dflts.noKw hD
 obtain ⟨a,vs,ns,rfl,rfl,hobj,hints,hlen⟩:=Ad hn hpre hwl
 refine enter_call (codeAny_mono (call w s₀ s₁ mg mb fa o pm cd doc a vs ns G Y ho (fd_plain hd) hcd hmg hobj hints hlen hg) fun r s' hq=>?_)
 obtain ⟨rfl,h2,h3,h4⟩:=hq
 exact ⟨.inl ⟨.bool true,.bool true,[],rfl,fun _=>rfl,.bool true,Ae l _,fun _=>⟨List.Pairwise.nil,fun _ hm=>(nomatch hm)⟩⟩,h2,h3,h4⟩
section
variable {prog:Program} {w:World} {A:Around} {E:Value→Shared→Prop} {s:Shared} {K:Frag}
end
end Att
namespace L2
open PySem PySem.Spec PyProof.Rows
theorem t8:∀ {vs:List Value} {ns:List Int},IntsAre vs ns→Vals (ns.map V.int) vs
 | _,_,.nil=>.nil
 | _,_,.cons n t h=>.cons ⟨t,rfl⟩ (t8 h)
def Only (H:Hp):Prop:=∀ b,H b=none∨∃ o xs,H b=some (.frz o (.lst xs))
theorem Dk {P:Program} {w:World} {K:PySem.W.Frag} {mg mb:Str→Option Value} {CX:Ca} {k:Nat} {fa a:Addr} {fd:FuncData} {x:Str} {sp:Sp} {s₁:Shared} {vs:List Value} {ns:List Int}
  (KX:K.In s₁.heap) (hns:s₁.heap.Ns mainGlobals mg) (hb:s₁.heap.Ns builtinsNs mb) (hbb:∀ x:Str,x≠"__name__"→mb x=bootBuiltins x) (hlim:s₁.heap.NoLimit) (hsm:∃ mm,s₁.heap.Ns sysModules mm) (hg:s₁.gens= #[])
  (ha:s₁.heap.get? a=some {cls:=.type "list",data:=.seq vs.toArray}) (hi:IntsAre vs ns) (hl:ns.length≤sizeLine) (hr:Room k callerA)
  (F:∀ base:Heap,K.In base→base.Ns mainGlobals mg→oH P w K mg base CX k fa fd [x] sp) (hbind:∀ (s:Shared) (u:Value),BindsTo s fd ⟨[u],[]⟩ [(x,u)])
  (hsp:∀ H:Hp,Only H→SqL K H a (ns.map V.int)→sp [.ref a] H (fun v _=>v= .bl true) fun _ _ _=>False)
  (hCX:∀ H e s',CX [] H s₁ (fun _ _ _=>False) e s'→False):
  codeAny (model P w) callerA (.call (.ref fa) ⟨[.ref a],[]⟩) (fun r s'=>r= .ok (.ret (.bool true))∧OldK s₁.heap s'.heap∧s'.os=s₁.os∧AllBare s'.gens) s₁:=by
 have rv:=t8 hi
 have lenV:=hi.length
 have core:∀ H:Hp,Only H→SqL K H a (ns.map V.int)→HOk P w H s₁.heap→(∀ b,H b≠none→b=a)→(H a≠none→K.lookup a=none)→
   codeAny (model P w) callerA (.call (.ref fa) ⟨[.ref a],[]⟩) (fun r s'=>r= .ok (.ret (.bool true))∧OldK s₁.heap s'.heap∧s'.os=s₁.os∧AllBare s'.gens) s₁:=by
  intro H hO hS hok hA hK
  have base_of:∀ {b:Addr} {o:Obj},s₁.heap.get? b=some o→H b=none→(uA s₁.heap H).get? b=some o:=fun e n=>Ci e n
  have noA:∀ {b:Addr} {o:Obj} {es:Array DictEntry} {ep:Nat},s₁.heap.get? b=some o→o.data= .dict es ep→H b=none:=fun {b o es ep} e d=>by
   cases q:H b with
   | none=>rfl
   | some u=>
    have e':b=a:=hA b (by rw [q];simp)
    subst e'
    rw [ha] at e;cases e
    have d':Data.seq vs.toArray _=Data.dict es ep:=d
    cases d'
  have nsK:∀ {b:Addr} {m:Str→Option Value},s₁.heap.Ns b m→(uA s₁.heap H).Ns b m:=fun {b m} ⟨o,es,ep,e,d,r⟩=>⟨o,es,ep,base_of e (noA e d),d,r⟩
  have hKb:K.In (uA s₁.heap H):=fun b o e=>base_of (KX b o e) (by
   cases q:H b with
   | none=>rfl
   | some u=>
    have e':b=a:=hA b (by rw [q];simp)
    subst e'
    rw [hK (by rw [q];simp)] at e;cases e)
  have hM:Mod K mg (uA s₁.heap H):=⟨hKb,nsK hns,⟨mb,nsK hb,hbb⟩,(let ⟨mc,h1,h2⟩:=hlim;⟨mc,nsK h1,h2⟩),let ⟨mm,h1⟩:=hsm;⟨mm,nsK h1⟩⟩
  have e0:Env0 P w K mg (uA s₁.heap H) callerA [] s₁ H:=⟨rfl,hM,fun b o e=>GQ e,Nat.le_of_eq (zP _ _),trivial,fun b hb=>absurd (show b∈([]:List Addr) from hb) (by simp),hok,.of_eq hg⟩
  refine codeAny_mono ((F _ hKb (nsK hns)).run callerA [] s₁ H ⟨[.ref a],[]⟩ [.ref a] [.ref a] _ _ hr e0 (hbind s₁ (.ref a)) (.cons rfl .nil) (hsp H hO hS)) fun r s' h=>?_
  cases r with
  | error e=>exact (hCX H e s' h).elim
  | ok fl=>
   cases fl with
   | next=>exact False.elim h
   | brk=>exact False.elim h
   | cont=>exact False.elim h
   | ret u=>
    obtain ⟨v,H',os,bare,un,hok',r',q⟩:=h
    have q':v= .bl true:=q
    subst q'
    obtain rfl:u=Value.bool true:=r'
    refine ⟨rfl,OldK.of_keep fun b o e=>?_,os,bare⟩
    cases q:H b with
    | none=>exact un.keep b o e q (by intro z;exact absurd (show b∈([]:List Addr) from z) (by simp)) (by simp)
    | some u=>
     rcases hO b with z | ⟨ob,xs,z⟩
     ·rw [q] at z;cases z
     ·have z2:=un.frzs b ob _ z
      obtain ⟨e1,_⟩:=hok b _ z
      obtain ⟨e2,_⟩:=hok' b _ z2
      rw [e] at e1;cases e1
      exact e2
 cases hk:K.lookup a with
 | some o=>
  have e:=KX a o hk
  rw [ha] at e
  cases e
  refine core (fun _=>none) (fun _=>.inl rfl) (.inr ⟨_,vs.toArray,_,hk,rfl,rfl,rfl,by rw [List.size_toArray,lenV];exact hl,by simpa using rv⟩) (fun b u z=>by have z':(none:Option HO)=some u:=z;cases z') (fun b z=>absurd rfl z) fun z=>absurd rfl z
 | none=>
  refine core (fun b=>if b=a then some (.frz {cls:=.type "list",data:=.seq vs.toArray} (.lst (ns.map V.int))) else none) (fun b=>?_) (.inl (.inr ⟨{cls:=.type "list",data:=.seq vs.toArray},if_pos rfl⟩)) (fun b u z=>?_) (fun b z=>?_) fun _=>hk
  ·by_cases hb:b=a
   ·exact .inr ⟨_,_,if_pos hb⟩
   ·exact .inl (if_neg hb)
  ·by_cases hb:b=a
   ·have z':=(if_pos hb).symm.trans z
    cases z'
    subst hb
    exact ⟨ha,by rw [List.length_map];exact hl,vs,_,rv,ha⟩
   ·have z':=(if_neg hb).symm.trans z
    cases z'
  ·by_cases hb:b=a
   ·exact hb
   ·exact absurd (if_neg hb) z
end L2
namespace L2
open PySem PySem.Spec PyProof.Rows
abbrev KOf {K:PySem.W.Frag} {h:Heap} (_:K.In h):PySem.W.Frag:=K
theorem Hw {l:PySem.W.OpenLaw} {n k:Nat} {q:Program} {loose:List Str} {XP:(Str→Option Value)→Heap→Prop} {YP:World→Heap→Prop} {d:DefRec} {K:Params→PySem.W.Frag} {CX:World→Ca} {sp:World→Sp} {x:Str}
  (hn:l.most=some n) (hn2:n≤sizeLine) (hdf:d.params.defaults=[]) (hr:Room k callerA)
  (hY:∀ (w:World) (h:Heap),YP w h→(K w.params).In h)
  (F:∀ (w:World) (mg:Str→Option Value) (fa:Addr) (h:Heap),(K w.params).In h→h.Ns mainGlobals mg→mg d.name=some (.ref fa)→
   ∃ fd:FuncData,(∀ (s:Shared) (u:Value),BindsTo s fd ⟨[u],[]⟩ [(x,u)])∧
    ∀ base:Heap,(K w.params).In base→base.Ns mainGlobals mg→oH l.prog w (K w.params) mg base (CX w) k fa fd [x] (sp w))
  (hsp:∀ (w:World) (H:Hp) (a:Addr) (ns:List Int),ns.length≤n→Only H→SqL (K w.params) H a (ns.map V.int)→sp w [.ref a] H (fun v _=>v= .bl true) fun _ _ _=>False)
  (hCX:∀ (w:World) (H:Hp) (s:Shared) (e:Value) (s':Shared),CX w [] H s (fun _ _ _=>False) e s'→False) (him:importsNone q=true):
  PySem.W.WalkO q loose XP YP l.row.toRowW d [] (fun f vs=>PySem.call f vs):=by
 refine Att.attach_call hn hdf fun w s₀ s₁ mg mb fa o pm cd doc a vs ns G Y ho hd hcd hmg hobj hints hlen hg=>?_
 have KX:=hY w _ Y
 obtain ⟨fd,hb,hF⟩:=F w mg fa _ KX G.T.g hmg
 exact Dk KX G.T.g G.T.b G.T.builtins G.T.nolimit (let ⟨mm,h1,_⟩:=(G.T.seer him).mods;⟨mm,h1⟩) hg hobj hints (Nat.le_trans hlen hn2) hr hF hb (fun H hO hS=>hsp w H a ns hlen hO hS) fun H e s'=>hCX w H s₁ e s'
end L2
namespace L2
open PySem PySem.Spec PyProof.Rows
def fU (s:Stmt):Arguments:=match s with
 | .FunctionDef _ a _ _ _ _ _ _ _ _=>a
 | _=>{posonlyargs:=[],args:=[],vararg:=none,kwonlyargs:=[],kw_defaults:=[],kwarg:=none,defaults:=[]}
def cI (s:Stmt):List Stmt:=match s with
 | .FunctionDef _ _ b _ _ _ _ _ _ _=>b
 | _=>[]
def aq (s:Stmt):Scope:=match s with
 | .FunctionDef _ _ _ _ _ _ sc _ _ _=>sc
 | _=>{kind:=.function,names:=[],isGenerator:=false,isCoroutine:=false}
abbrev xG:Ca:=fun _ _ _ _ _ _=>False
abbrev E0:XK:=fun _ _ _=>False
theorem QS {X:Cx}:xr xG X E0:=fun _ _ _ _ _ _ _ h=>h.elim
structure Fun (K:PySem.W.Frag) (x qual:Str) (st:Stmt) (f:Addr) (fd:FuncData):Prop where
 ex:∃ (oc:Value) (od:Option Addr) (kV doc pm:Value) (an:Option Addr) (cdv ct:Value) (osl:Array (Option Value)),
  fd=PySem.W.fnOf x qual (fU st) (cI st) (aq st) .none kV doc pm an cdv ct∧K.lookup f=some ⟨oc,od,.func fd,osl⟩∧PySem.W.codeIn K cdv qual=true
 kp:PySem.W.keepIn K (.ref f)=true
section
variable {P:Program} {w:World} {K:PySem.W.Frag} {mg:Str→Option Value} {base:Heap}
theorem Fun.ok {x qual:Str} {st:Stmt} {f:Addr} {fd:FuncData} {N ps:List Str} {k:Nat} {sp:Sp} (F:Fun K x qual st f fd) (S:aO N ps (aq st)) (len:∀ vs H Q E,sp vs H Q E→vs.length=ps.length)
  (hbody:∀ (cdv:Value) (A:Around) (outer:List Env) (s:Shared) (H:Hp) (vs:List V) (Q:VK) (E:XK),Room k (A.deeper (envOfC qual (aq st) s.heap.objs.size f cdv))→sp vs H Q E→
   ∃ t,PSs (mR xG P w K mg base N qual (aq st) f cdv A outer s H E).nox (cI st) t∧t {nx:=fun _ H'=>Q .non H',rt:=Q} (start N vs) H):oH P w K mg base xG (k+1) f fd ps sp:=by
 obtain ⟨oc,od,kV,doc,pm,an,cdv,ct,osl,rfl,lk,hcd⟩:=F.ex
 refine JZ lk hcd S len fun A outer s H vs Q E hr hsp=>?_
 obtain ⟨t,h,q⟩:=hbody cdv A outer s H vs Q E hr hsp
 exact ⟨t,h.nox,q⟩
theorem Fun.binds {x qual:Str} {st:Stmt} {f:Addr} {fd:FuncData} {ps:List Str} (F:Fun K x qual st f fd)
  (h:∀ (kV doc pm:Value) (an:Option Addr) (cdv ct:Value) (us:List Value),us.length=ps.length→bindArgs (PySem.W.fnOf x qual (fU st) (cI st) (aq st) .none kV doc pm an cdv ct) ⟨us,[]⟩=pure (ps.zip us)):Binds K fd ps []:=by
 obtain ⟨oc,od,kV,doc,pm,an,cdv,ct,osl,rfl,lk,hcd⟩:=F.ex
 exact .all (h kV doc pm an cdv ct)
theorem Dl {x qual:Str} {st:Stmt} {f:Addr} {oc:Value} {od an:Option Addr} {osl:Array (Option Value)} {kV doc pm cdv ct:Value} (l:K.lookup f=some ⟨oc,od,.func (PySem.W.fnOf x qual (fU st) (cI st) (aq st) .none kV doc pm an cdv ct),osl⟩)
  (c:PySem.W.codeIn K cdv qual=true) (k:PySem.W.keepIn K (.ref f)=true):Fun K x qual st f (PySem.W.fnOf x qual (fU st) (cI st) (aq st) .none kV doc pm an cdv ct):=⟨⟨oc,od,kV,doc,pm,an,cdv,ct,osl,rfl,l,c⟩,k⟩
end
section
variable {X:Cx}
end
theorem vy {A B:Prop} (h:B):if false=true then A else B:=by
 rw [if_neg Bool.false_ne_true]
 exact h
theorem vz {A B:Prop} (h:A):if true=true then A else B:=by
 rw [if_pos rfl]
 exact h
def Same (H H':Hp):Prop:=∀ b o,H b=some o→H' b=some o
theorem Same.refl (H:Hp):Same H H:=fun _ _ h=>h
theorem Same.trans {H H1 H2:Hp} (a:Same H H1) (b:Same H1 H2):Same H H2:=fun c o h=>b c o (a c o h)
end L2
set_option maxHeartbeats 4000000
namespace L2
open PySem PySem.Spec PyProof.Rows
def qt (env:Env):List (Str×NameKind)→List (Str×Addr)→List (Str×Addr)
 | [],acc=>acc
 | (n,k) :: r,acc=>qt env r (if k == .free then (match env.cells.lookup n with | some c=>(n,c) :: acc | none=>acc) else acc)
theorem q9 {env:Env}:∀ {names:List (Str×NameKind)} {acc:List (Str×Addr)},(∀ x c,(x,c)∈acc→env.cells.lookup x=some c)→∀ x c,(x,c)∈qt env names acc→env.cells.lookup x=some c
 | [],_,h,x,c,m=>h x c m
 | (n,k) :: r,acc,h,x,c,m=>by
  refine q9 (names:=r) ?_ x c m
  intro y d hm
  cases hk:(k == NameKind.free) with
  | false=>rw [hk] at hm;exact h y d hm
  | true=>
   rw [hk] at hm
   simp only [if_true] at hm
   cases e:env.cells.lookup n with
   | none=>rw [e] at hm;exact h y d hm
   | some c'=>
    rw [e] at hm
    rcases List.mem_cons.mp hm with z | z
    ·cases z;exact e
    ·exact h y d z
theorem vA {env:Env}:∀ {names:List (Str×NameKind)} {acc:List (Str×Addr)} {p:Str×Addr},p∈acc→p∈qt env names acc
 | [],_,_,h=>h
 | (n,k) :: r,acc,p,h=>by
  refine vA (names:=r) ?_
  split
  ·split
   ·exact List.mem_cons_of_mem _ h
   ·exact h
  ·exact h
theorem rm {env:Env} {x:Str} {c:Addr} (e:env.cells.lookup x=some c):∀ {names:List (Str×NameKind)} {acc:List (Str×Addr)},(x,NameKind.free)∈names→(x,c)∈qt env names acc
 | [],_,h=>by simp at h
 | (n,k) :: r,acc,h=>by
  rcases List.mem_cons.mp h with z | z
  ·cases z
   refine vA (names:=r) ?_
   rw [e]
   simp
  ·exact rm e (names:=r) z
theorem sX {l:List (Str×Addr)} {x:Str} {c:Addr} (hm:(x,c)∈l) (ha:∀ d,(x,d)∈l→d=c):l.lookup x=some c:=by
 induction l with
 | nil=>simp at hm
 | cons p r ih=>
  obtain ⟨n,d⟩:=p
  by_cases e:x=n
  ·subst e
   have:d=c:=ha d (by simp)
   subst this
   simp [List.lookup_cons]
  ·have hb:(x == n)=false:=by simpa using e
   rw [List.lookup_cons,hb]
   refine ih ?_ fun d' h'=>ha d' (List.mem_cons_of_mem _ h')
   rcases List.mem_cons.mp hm with z | z
   ·cases z;exact absurd rfl e
   ·exact z
theorem vB {env:Env} {names:List (Str×NameKind)} {x:Str} {c:Addr} (e:env.cells.lookup x=some c) (h:(x,NameKind.free)∈names):(qt env names []).lookup x=some c:=
 sX (rm e h) fun d hd=>by
  have q:=q9 (names:=names) (acc:=[]) (env:=env) (by simp) x d hd
  rw [e] at q
  exact (Option.some.inj q).symm
theorem Af {env:Env} {names:List (Str×NameKind)} {x:Str} {c:Addr} (e:(qt env names []).lookup x=some c):env.cells.lookup x=some c:=
 q9 (names:=names) (acc:=[]) (env:=env) (by simp) x c (PySem.mem_of_lookup e)
theorem lY {env:Env}:∀ (names:List (Str×NameKind)) (acc:List (Str×Addr)),(∀ x∈names,x.2=NameKind.free→∃ c,env.cells.lookup x.1=some c)→
  (forIn (m:=Sem) names acc fun x r=>match x with
   | (name,kind)=>if (kind == NameKind.free)=true then do let c ← cellOf env name;pure (ForInStep.yield ((name,c) :: r)) else pure (ForInStep.yield r))=pure (qt env names acc)
 | [],acc,_=>rfl
 | (n,k) :: r,acc,h=>by
  rw [List.forIn_cons]
  cases hk:(k == NameKind.free) with
  | false=>
   simp only [hk,Bool.false_eq_true,if_false,pure_bind,qt]
   exact lY r acc fun x hx=>h x (List.mem_cons_of_mem _ hx)
  | true=>
   obtain ⟨c,e⟩:=h (n,k) List.mem_cons_self (by simpa using hk)
   simp only [hk,if_true,pure_bind,qt,cellOf,e]
   exact lY r ((n,c) :: acc) fun x hx=>h x (List.mem_cons_of_mem _ hx)
theorem lO {scope:Scope} {env:Env} (h:∀ x∈scope.names,x.2=NameKind.free→∃ c,env.cells.lookup x.1=some c):closureFor scope env=pure (qt env scope.names []):=by
 unfold closureFor
 have:=lY (env:=env) scope.names [] h
 simp only [this,pure_bind]
theorem ud {prog:Program} {w:World} {A:Around} {R:Result→Shared→Prop} {s:Shared} {elt target iter:Expr} {ifs:List Expr} {scope:Scope} {pos:Pos} {it acc:Value} {env:Env} (I:Nat→Shared→Prop)
  (turn:∀ n s,I n s→wpAny (model prog w) A (pyNext it) (fun r s₁=>match r with
   | none=>R (.ok .next) s₁
   | some v=>wpAny (model prog w) A (letOwnedTupleGo target it v) (fun _ s₁'=>wpAny (model prog w) A (assign target env v) (fun _ s₂=>
     wpAny (model prog w) A (forIn ifs true fun c r=>if r=true then do let ok ← isTrue c env (eval c env);pure (ForInStep.yield ok) else pure (ForInStep.yield r)) (fun ok s₃=>
      if ok=true then wpAny (model prog w) A (eval elt env) (fun x s₄=>
       wpAny (model prog w) A (call (.builtin "list.append") [acc,x]) (fun _ s₅=>∃ m,m < n∧I m s₅) (fun _ _=>False) s₄) (fun _ _=>False) s₃
      else ∃ m,m < n∧I m s₃) (fun _ _=>False) s₂) (fun _ _=>False) s₁') (fun _ _=>False) s₁) (fun _ _=>False) s)
  (n:Nat) (h:I n s):
  codeAny (model prog w) A (.compLoop (.ListComp elt [⟨target,iter,ifs,0⟩] scope pos) 0 it acc env) R s:=by
 refine codeAny_loop rfl I (fun n s hI=>?_) n h
 show wpAny _ A ((compTurn (.ListComp elt [⟨target,iter,ifs,0⟩] scope pos) 0 it acc env).onRaise (fun x=>do noteFrame x env;theTreesLotGoes x)) _ _ s
 refine wpAny_noted ?_
 rw [compTurn_list]
 refine wpAny_bind (wpAny_standAt (wpAny_bind (wpAny_mono (turn n s hI) (fun r s₁ h₁=>?_) fun _ _ h'=>h'.elim)))
 cases r with
 | none=>exact wpAny_pure h₁
 | some v=>
  refine wpAny_bind (wpAny_mono h₁ (fun _ s₁' h₁'=>?_) fun _ _ h'=>h'.elim)
  refine wpAny_bind (wpAny_mono h₁' (fun _ s₂ h₂=>wpAny_bind (wpAny_mono h₂ (fun ok s₃ h₃=>?_) fun _ _ h'=>h'.elim)) fun _ _ h'=>h'.elim)
  cases ok with
  | false=>exact wpAny_pure ⟨rfl,h₃⟩
  | true=>
   exact wpAny_bind (wpAny_bind (wpAny_mono h₃ (fun x s₄ h₄=>wpAny_bind (wpAny_mono h₄ (fun _ s₅ h₅=>wpAny_pure (wpAny_pure ⟨rfl,h₅⟩)) fun _ _ h'=>h'.elim)) fun _ _ h'=>h'.elim))
end L2
namespace L2
open PySem PySem.Spec PyProof.Rows
theorem cR:∀ (names:List (Str×NameKind)) (n:Nat) (acc:List (Str×Addr)),cellsFrom n names acc=cellsFrom n names [] ++ acc
 | [],_,_=>rfl
 | (x,k) :: r,n,acc=>by
  unfold cellsFrom
  split
  ·rw [cR r (n+1) ((x,n) :: acc),cR r (n+1) [(x,n)],List.append_assoc];rfl
  ·exact cR r n acc
theorem mU {α:Type}:∀ {A B:List (Str×α)} {x:Str},(A ++ B).lookup x=(match A.lookup x with | some c=>some c | none=>B.lookup x)
 | [],_,_=>rfl
 | (y,c) :: A,B,x=>by
  rw [List.cons_append,List.lookup_cons,List.lookup_cons]
  cases x == y with
  | true=>rfl
  | false=>exact mU (A:=A)
theorem rn:∀ {names:List (Str×NameKind)} {n:Nat} {acc:List (Str×Addr)} {x:Str} {c:Addr},(x,c)∈cellsFrom n names acc→(x,c)∈acc∨(x,NameKind.cell)∈names
 | [],_,_,_,_,h=>.inl h
 | (y,k) :: r,n,acc,x,c,h=>by
  unfold cellsFrom at h
  split at h
  ·rename_i hk
   rcases rn h with z | z
   ·rcases List.mem_cons.mp z with z | z
    ·cases z
     have:k= .cell:=by simpa using hk
     rw [this];exact .inr List.mem_cons_self
    ·exact .inl z
   ·exact .inr (List.mem_cons_of_mem _ z)
  ·exact (rn h).imp id (List.mem_cons_of_mem _)
theorem mV {α:Type}:∀ {l:List (Str×α)} {x:Str} {c:α},(x,c)∈l→∃ d,l.lookup x=some d
 | (y,d) :: r,x,c,h=>by
  by_cases e:x=y
  ·subst e;exact ⟨d,by simp [List.lookup_cons]⟩
  ·have hb:(x == y)=false:=by simpa using e
   rw [List.lookup_cons,hb]
   rcases List.mem_cons.mp h with z | z
   ·cases z;exact absurd rfl e
   ·exact mV z
theorem mW:∀ {names:List (Str×NameKind)} {n:Nat} {acc:List (Str×Addr)} {x:Str},(x,NameKind.cell)∈names∨(∃ c,(x,c)∈acc)→∃ c,(x,c)∈cellsFrom n names acc
 | [],_,_,_,h=>h.elim (fun h=>by simp at h) id
 | (y,k) :: r,n,acc,x,h=>by
  unfold cellsFrom
  split
  ·refine mW ?_
   rcases h with h | ⟨c,h⟩
   ·rcases List.mem_cons.mp h with z | z
    ·cases z;exact .inr ⟨n,List.mem_cons_self⟩
    ·exact .inl z
   ·exact .inr ⟨c,List.mem_cons_of_mem _ h⟩
  ·rename_i hk
   refine mW ?_
   rcases h with h | h
   ·rcases List.mem_cons.mp h with z | z
    ·cases z;exact absurd (by decide) hk
    ·exact .inl z
   ·exact .inr h
def Ag (X:Cx) (scope:Scope) (C:Addr):List (Str×Addr):=cellsFrom (C+1) scope.names (qt X.env scope.names [])
section
variable {M:Model} {A:Around} {E:Value→Shared→Prop} {s:Shared}
theorem fB {scope:Scope} {globals:Addr} {cl:List (Str×Addr)} {qual:Str} {env:Env} {Q:Env→Shared→Prop}
  (hQ:∀ h':Heap,h'.Ns s.heap.objs.size (fun _=>none)→(∀ b o,s.heap.get? b=some o→h'.get? b=some o)→CellsOk h' (s.heap.objs.size+1) (cellsFrom (s.heap.objs.size+1) scope.names [])→
   Q (newEnv scope s.heap.objs.size globals (cellsFrom (s.heap.objs.size+1) scope.names cl) qual none .none (some env) builtinsNs) {s with heap:=h',toks:=s.toks+([]:List (Str×Value)).length}):
  wpAny M A (newFunctionEnv scope globals cl [] qual none .none (some env)) Q E s:=by
 simp only [newFunctionEnv,Option.isSome_some,if_true]
 refine wpAny_bind (wpAny_alloc ?_)
 refine wpAny_bind (wpAny_layCells _ (fun name kind cells=>by cases hkc:kind == NameKind.cell <;> simp [hkc]) _ _ _ _ ?_)
 have ok:=cellsFrom_ok scope.names (s.heap.push {cls:=.type "dict",data:=.dict #[]}) (s.heap.objs.size+1) [] ⟨fun _ _ hm=>(nomatch hm),List.Pairwise.nil⟩ (by rw [Heap.size_push];exact Nat.le_refl _)
 rw [Heap.size_push] at ok
 rw [show ({s with heap:=s.heap.push {cls:=.type "dict",data:=.dict #[]}}:Shared).heap.objs.size=s.heap.objs.size+1 from Heap.size_push ..]
 exact wpAny_bind (wpAny_pure (wpAny_pure (hQ _ ((Heap.Ns.new s.heap (.type "dict")).keeps (pushCells_keeps _ _)) (fun b o e=>pushCells_keeps _ _ b o (Heap.get?_push_of_some _ e)) ok)))
end
def lC (X:Cx) (N':List Str) (scope:Scope) (C:Addr) (s₀:Shared) (H₀:Hp) (ex:List Addr):Cx:=
 {X with N:=N',s₀:=s₀,H₀:=H₀,env:=compEnvC scope (Ag X scope C) C X.env,outer:=X.stack,ex:=ex,fn:=fun x=>decide (scope.names.lookup x=some .cell),pn:=[],xe:=fun _ _=>False}
def b8 (sub:List (Option Nat)) (σ:St):St:=sub.map fun o=>o.bind fun j=>(σ[j]?).join
structure lQ (N:List Str) (sc:Scope) (N':List Str) (scope:Scope) (sub:List (Option Nat)):Prop where
 kind:scope.kind= .function
 cel:∀ x∈scope.names,x.2= .cell→scope.names.lookup x.1=some .cell
 loc:∀ x∈scope.names,x.2= .local→scope.names.lookup x.1=some .local
 free:∀ x∈scope.names,x.2= .free→sc.names.lookup x.1=some .cell∨sc.names.lookup x.1=some .free
 len:sub.length=N'.length
 at_:∀ (i j:Nat) (x:Str),sub[i]?=some (some j)→N'[i]?=some x→N[j]?=some x∧(x,NameKind.free)∈scope.names∧scope.names.lookup x=some .free
def Dm (N:List Str) (sc:Scope) (N':List Str) (scope:Scope) (sub:List (Option Nat)):Bool:=
 decide (scope.kind= .function) && scope.names.all (fun x=>decide (x.2= .cell→scope.names.lookup x.1=some .cell)) && scope.names.all (fun x=>decide (x.2= .local→scope.names.lookup x.1=some .local)) &&
 scope.names.all (fun x=>decide (x.2= .free→sc.names.lookup x.1=some .cell∨sc.names.lookup x.1=some .free)) && decide (sub.length=N'.length) &&
 (List.range sub.length).all fun i=>match sub[i]?,N'[i]? with
  | some (some j),some x=>decide (N[j]?=some x∧(x,NameKind.free)∈scope.names∧scope.names.lookup x=some .free)
  | _,_=>true
theorem bU {N:List Str} {sc:Scope} {N':List Str} {scope:Scope} {sub:List (Option Nat)} (h:Dm N sc N' scope sub=true):lQ N sc N' scope sub:=by
 simp only [Dm,Bool.and_eq_true,decide_eq_true_eq,List.all_eq_true] at h
 obtain ⟨⟨⟨⟨⟨h1,h2⟩,h3⟩,h4⟩,h5⟩,h6⟩:=h
 refine ⟨h1,h2,h3,h4,h5,fun i j x e1 e2=>?_⟩
 have hi:i < sub.length:=(List.getElem?_eq_some_iff.mp e1).1
 have q:=h6 i (List.mem_range.mpr hi)
 rw [e1,e2] at q
 simpa using q
def Dn:TT:=fun _ H Q=>Q true H
def uJ (X:Cx) (ifs:List Expr) (t:TT):Prop:=
 ∀ (pins:List (Addr×Obj)) (s:Shared) (σ:St) (H:Hp) (Q:Bool→Hp→Prop),Inv X pins σ H s→t σ H Q→
  wpAny (model X.prog X.w) X.A (forIn ifs true fun c r=>if r=true then do let ok ← isTrue c X.env (eval c X.env);pure (ForInStep.yield ok) else pure (ForInStep.yield r)) (TP X pins σ Q) X.xe s
theorem Do {X:Cx}:uJ X [] Dn:=fun _ _ _ H _ I h=>wpAny_tests_nil ⟨H,I,h⟩
theorem Dp {X:Cx} {c:Expr} {t:TT} (hc:PT X c t):uJ X [c] t:=fun pins s σ H Q I h=>wpAny_tests_one (hc pins s σ H Q I h)
def KeepSt (σ σ':St):Prop:=σ'.length=σ.length∧∀ (i:Nat) (v:V),σ[i]?=some (some v)→σ'[i]?=some (some v)
theorem KeepSt.set {σ:St} {i:Nat} {v:V} (h:σ[i]?=some none):KeepSt σ (σ.set i (some v)):=by
 refine ⟨by simp,fun j u e=>?_⟩
 by_cases hj:i=j
 ·subst hj;rw [h] at e;cases e
 ·rw [List.getElem?_set_ne hj];exact e
theorem KeepSt.trans {σ1 σ2 σ3:St} (a:KeepSt σ1 σ2) (b:KeepSt σ2 σ3):KeepSt σ1 σ3:=⟨b.1.trans a.1,fun i v e=>b.2 i v (a.2 i v e)⟩
def rz (sub:List (Option Nat)) (wi:TI) (g:TG) (tt:TT) (te:TE):TE:=fun σ H Q=>wi σ H fun J H1=>∃ W:Nat→Nat→List V→Hp→Prop,(∃ m,W 0 m [] H1)∧∀ i m ys H,W i m ys H→
 (J.stop i H∧ys.length≤sizeLine∧∀ D,H D=none→Q (.ref D) (upd H D (.lst ys)))∨
 (J.go i H∧ys.length < sizeLine∧∃ N:List V→Hp→Prop,(∀ ys' H',N ys' H'→∃ m',m' < m∧W (i+1) m' ys' H')∧
  ∀ x H',J.yld i H x H'→g x (b8 sub σ) H' fun σ2 H2=>KeepSt (b8 sub σ) σ2∧tt σ2 H2 fun b H3=>if b=true then te σ2 H3 fun y H4=>N (ys ++ [y]) H4 else N ys H3)
theorem jk {scope:Scope} {env:Env} {x:Str} (hx:scope.names.lookup x=some .free):(relabel scope env).names.lookup x=some .cell∨(relabel scope env).names.lookup x=some .free:=by
 have:∀ names:List (Str×NameKind),names.lookup x=some .free→
  (names.map fun (n,k)=>if (k == NameKind.free && env.scope.kind == .function && env.kindOf n == some .cell) then (n,NameKind.cell) else (n,k)).lookup x=some .cell∨
  (names.map fun (n,k)=>if (k == NameKind.free && env.scope.kind == .function && env.kindOf n == some .cell) then (n,NameKind.cell) else (n,k)).lookup x=some .free:=by
  intro names
  induction names with
  | nil=>intro h;simp at h
  | cons p r ih=>
   obtain ⟨n,k⟩:=p
   intro h
   by_cases e:x=n
   ·subst e
    have hk:k= .free:=by simpa [List.lookup_cons] using h
    subst hk
    by_cases hc:((NameKind.free == NameKind.free && env.scope.kind == .function && env.kindOf x == some .cell)=true)
    ·left;simp only [List.map_cons];rw [if_pos hc];simp [List.lookup_cons]
    ·right;simp only [List.map_cons];rw [if_neg hc];simp [List.lookup_cons]
   ·have hb:(x == n)=false:=by simpa using e
    rw [List.lookup_cons,hb] at h
    have q:=ih h
    simp only [List.map_cons]
    split <;> (rw [List.lookup_cons,hb];exact q)
 exact this scope.names hx
theorem uK {scope:Scope} {env:Env} {x:Str} (h:(relabel scope env).names.lookup x=some .cell∨(relabel scope env).names.lookup x=some .free):(x,NameKind.cell)∈scope.names∨(x,NameKind.free)∈scope.names:=by
 have key:∀ k,(k=NameKind.cell∨k=NameKind.free)→(relabel scope env).names.lookup x=some k→(x,NameKind.cell)∈scope.names∨(x,NameKind.free)∈scope.names:=by
  intro k hk hl
  have hm:=PySem.mem_of_lookup hl
  unfold relabel at hm
  obtain ⟨⟨n,k'⟩,hm1,hm2⟩:=List.mem_map.mp hm
  dsimp only at hm2
  by_cases hc:(k' == NameKind.free && env.scope.kind == .function && env.kindOf n == some .cell)=true
  ·rw [if_pos hc] at hm2
   cases hm2
   simp only [Bool.and_eq_true,beq_iff_eq] at hc
   rw [← hc.1.1];exact .inr hm1
  ·rw [if_neg hc] at hm2
   cases hm2
   rcases hk with hk | hk
   ·subst hk;exact .inl hm1
   ·subst hk;exact .inr hm1
 rcases h with h | h
 ·exact key _ (.inl rfl) h
 ·exact key _ (.inr rfl) h
theorem mX {scope:Scope} {env:Env} {x:Str} (hx:scope.names.lookup x=some .cell):(relabel scope env).names.lookup x=some .cell:=by
 have:∀ names:List (Str×NameKind),names.lookup x=some .cell→
  (names.map fun (n,k)=>if (k == NameKind.free && env.scope.kind == .function && env.kindOf n == some .cell) then (n,NameKind.cell) else (n,k)).lookup x=some .cell:=by
  intro names
  induction names with
  | nil=>intro h;simp at h
  | cons p r ih=>
   obtain ⟨n,k⟩:=p
   intro h
   by_cases e:x=n
   ·subst e
    have hk:k= .cell:=by simpa [List.lookup_cons] using h
    subst hk
    simp only [List.map_cons]
    split <;> simp [List.lookup_cons]
   ·have hb:(x == n)=false:=by simpa using e
    rw [List.lookup_cons,hb] at h
    have q:=ih h
    simp only [List.map_cons]
    split <;> (rw [List.lookup_cons,hb];exact q)
 exact this scope.names hx
section
variable {X:Cx} {tg iter elt:Expr} {ifs:List Expr} {scope:Scope} {pos:Pos} {N':List Str} {sub:List (Option Nat)} {wi:TI} {g:TG} {tt:TT} {te:TE}
theorem ue {pins:List (Addr×Obj)} {σ:St} {H:Hp} {s:Shared} {fp:List Addr} {D:Addr} {h':Heap} {tk:Nat} {N:List Str} {sc:Scope} (S:lQ N sc N' scope sub) (hN:X.N=N) (hsc:X.env.scope=sc) (I:Inv X pins σ H s) (hf:∀ b∈fp,iw X pins H b) (hfo:∀ b∈fp,b < s.heap.objs.size)
  (hD:D < s.heap.objs.size) (fD:iw X pins H D) (hns:h'.Ns s.heap.objs.size fun _=>none) (hk:∀ b o,s.heap.get? b=some o→h'.get? b=some o) (hc:CellsOk h' (s.heap.objs.size+1) (cellsFrom (s.heap.objs.size+1) scope.names [])):
  Inv (lC X N' scope s.heap.objs.size s H (D :: fp)) [] (b8 sub σ) H {s with heap:=h',toks:=tk}:=by
 have hex:∀ b∈D :: fp,iw X pins H b∧b < s.heap.objs.size:=fun b hb=>by
  rcases List.mem_cons.mp hb with rfl | z
  ·exact ⟨fD,hD⟩
  ·exact ⟨hf b z,hfo b z⟩
 have spl:∀ {x c},(Ag X scope s.heap.objs.size).lookup x=some c→(h'.IsCell c none∧s.heap.objs.size+1≤c∧(x,c)∈cellsFrom (s.heap.objs.size+1) scope.names [])∨(X.env.cells.lookup x=some c∧∃ o,s.heap.get? c=some o):=fun {x c} h=>by
  unfold Ag at h
  rw [cR,mU] at h
  cases e:(cellsFrom (s.heap.objs.size+1) scope.names []).lookup x with
  | some d=>
   rw [e] at h
   cases h
   have m:=PySem.mem_of_lookup e
   exact .inl ⟨(hc.empty _ _ m).1,(hc.empty _ _ m).2,m⟩
  | none=>
   rw [e] at h
   have z:=Af h
   obtain ⟨v,o,ho,_⟩:=I.cell x c z
   exact .inr ⟨z,o,ho⟩
 have fre:∀ {x c},(x,NameKind.free)∈scope.names→scope.names.lookup x=some .free→X.env.cells.lookup x=some c→(Ag X scope s.heap.objs.size).lookup x=some c:=fun {x c} h1 h2 h3=>by
  unfold Ag
  rw [cR,mU]
  cases e:(cellsFrom (s.heap.objs.size+1) scope.names []).lookup x with
  | some d=>
   rcases rn (PySem.mem_of_lookup e) with z | z
   ·cases z
   ·have:=S.cel _ z rfl
    rw [h2] at this;cases this
  | none=>exact vB h3 h1
 refine ⟨⟨I.ok.mod,S.kind,I.ok.glob,I.ok.blt,Nat.le_refl _,fun x y c h1 h2=>?_,fun x hx=>?_,fun x c hx h=>?_,I.ok.hd,I.ok.frames,.inl rfl,fun b hb=>?_,I.bs,Nat.le_trans I.ok.bsz I.sz,fun b o e hb=>?_,fun b hb=>?_,I.stack,I.stkFree⟩,
  rfl,I.bare,Un.kept hk,⟨_,hns,fun i x v h1 h2 h3=>?_⟩,fun x c h=>?_,I.hok.fresh (Nat.le_refl _),fun x c h=>?_,fun p hp=>(nomatch hp),I.hok.kept hk,?_⟩
 ·rcases spl h1 with ⟨_,l1,m1⟩ | ⟨z1,o1,q1⟩ <;> rcases spl h2 with ⟨_,l2,m2⟩ | ⟨z2,o2,q2⟩
  ·exact PySem.name_of_addr hc.apart m1 m2
  ·exact absurd (Nat.lt_of_lt_of_le (Heap.lt_size q2) (Nat.le_of_succ_le l1)) (Nat.lt_irrefl _)
  ·exact absurd (Nat.lt_of_lt_of_le (Heap.lt_size q1) (Nat.le_of_succ_le l2)) (Nat.lt_irrefl _)
  ·exact I.ok.inj x y c z1 z2
 ·rcases uK hx with z | z
  ·obtain ⟨c,m⟩:=mW (n:=s.heap.objs.size+1) (acc:=qt X.env scope.names []) (.inl z)
   exact mV m
  ·obtain ⟨c,e⟩:=I.ok.has x (by have:=S.free _ z rfl;rw [← hsc] at this;exact this)
   show ∃ c,(Ag X scope s.heap.objs.size).lookup x=some c
   unfold Ag
   rw [cR]
   exact mV (c:=c) (List.mem_append_right _ (rm e z))
 ·have hx':scope.names.lookup x=some .cell:=by simpa [lC] using hx
  rcases spl h with ⟨_,l,_⟩ | ⟨z,o,q⟩
  ·exact Nat.le_of_succ_le l
  ·exfalso
   have m:(x,NameKind.cell)∈scope.names:=PySem.mem_of_lookup hx'
   obtain ⟨d,md⟩:=mW (n:=s.heap.objs.size+1) (acc:=[]) (.inl m)
   obtain ⟨d',e'⟩:=mV md
   have h:(Ag X scope s.heap.objs.size).lookup x=some c:=h
   unfold Ag at h
   rw [cR,mU,e'] at h
   cases h
   exact absurd (Nat.lt_of_lt_of_le (Heap.lt_size q) (Nat.le_of_succ_le (hc.empty _ _ (PySem.mem_of_lookup e')).2)) (Nat.lt_irrefl _)
 ·obtain ⟨⟨f0,f1,f2,f3,f4,f5⟩,hlt⟩:=hex b hb
  refine ⟨Nat.ne_of_lt hlt,fun x c h=>?_⟩
  rcases spl h with ⟨_,l,_⟩ | ⟨z,_⟩
  ·exact fun z=>absurd (Nat.lt_of_lt_of_le hlt (Nat.le_of_succ_le (z ▸ l))) (Nat.lt_irrefl _)
  ·exact f4 x c z
 ·obtain ⟨⟨f0,f1,f2,f3,f4,f5⟩,hlt⟩:=hex b hb
  rcases f3 with z | z
  ·exact I.ok.noex b o e z
  ·exact absurd (Nat.lt_of_lt_of_le (Heap.lt_size (I.ok.bs b o e).1) z) (Nat.lt_irrefl _)
 ·obtain ⟨⟨f0,f1,f2,f3,f4,f5⟩,hlt⟩:=hex b hb
  intro z
  rcases List.mem_cons.mp (I.stkSub b z) with z | z
  ·exact f1 z
  ·exact f2 z
 ·have hs:∃ j,sub[i]?=some (some j)∧σ[j]?=some (some v):=by
   unfold b8 at h2
   rw [List.getElem?_map] at h2
   cases e:sub[i]? with
   | none=>rw [e] at h2;cases h2
   | some o=>
    rw [e] at h2
    cases o with
    | none=>cases h2
    | some j=>
     refine ⟨j,rfl,?_⟩
     have h3:(σ[j]?).join=some v:=Option.some.inj h2
     cases e2:σ[j]? with
     | none=>rw [e2] at h3;cases h3
     | some z=>rw [e2] at h3;cases z with
      | none=>cases h3
      | some z=>cases h3;rfl
  obtain ⟨j,e1,e2⟩:=hs
  obtain ⟨g1,g2,g3⟩:=S.at_ i j x e1 h1
  rw [← hN] at g1
  obtain ⟨m,hn,hl⟩:=I.loc
  have hkf:X.env.kindOf x=some .cell∨X.env.kindOf x=some .free:=by have:=S.free _ g2 rfl;rw [← hsc] at this;exact this
  have hvis:Ud X.env.scope x:=by
   rcases hkf with z | z
   ·exact .inr (.inl z)
   ·exact .inr (.inr z)
  obtain ⟨u,r,l⟩:=hl j x v g1 e2 hvis
  refine ⟨u,r,.inr ⟨jk g3,?_⟩⟩
  rcases l with ⟨k,_⟩ | ⟨_,c,e,o,ho,hd⟩
  ·have k':X.env.kindOf x=some .local:=k
   rcases hkf with z | z <;> (rw [k'] at z;cases z)
  ·exact ⟨c,fre g2 g3 e,o,hk _ _ ho,hd⟩
 ·rcases spl h with ⟨z,_⟩ | ⟨z,_⟩
  ·exact ⟨_,z⟩
  ·obtain ⟨v,o,ho,hd⟩:=I.cell x c z
   exact ⟨v,o,hk _ _ ho,hd⟩
 ·rcases spl h with ⟨_,l,_⟩ | ⟨z,_⟩
  ·exact I.hok.fresh (Nat.le_of_succ_le l)
  ·exact I.freeC x c z
 ·show (b8 sub σ).length=N'.length
  unfold b8
  rw [List.length_map]
  exact S.len
theorem yP {N:List Str} {sc:Scope} (S:lQ N sc N' scope sub) (hc:X.calm=true) (hN:X.N=N) (hsc:X.env.scope=sc) (hi:PI X tg iter wi)
  (hg:∀ (C:Addr) (s₀:Shared) (H₀:Hp) (ex:List Addr),PG (lC X N' scope C s₀ H₀ ex) tg g)
  (ht:∀ (C:Addr) (s₀:Shared) (H₀:Hp) (ex:List Addr),uJ (lC X N' scope C s₀ H₀ ex) ifs tt)
  (he:∀ (C:Addr) (s₀:Shared) (H₀:Hp) (ex:List Addr),PE (lC X N' scope C s₀ H₀ ex) elt te)
  (hs:autoParam (∀ x,foldedSetIterable iter X.env x=pure x) L2.auto3._auto_1):
  PE X (.ListComp elt [⟨tg,iter,ifs,0⟩] scope pos) (rz sub wi g tt te):=by
 intro pins s σ H Q I h
 rw [eval_ListComp]
 have hcl:∀ x∈scope.names,x.2=NameKind.free→∃ c,X.env.cells.lookup x.1=some c:=fun x hx hk=>I.ok.has x.1 (by have:=S.free x hx hk;rw [← hsc] at this;exact this)
 refine wpAny_comprehension_free (use:=none) rfl hs (lO hcl) S.kind S.loc ?_
 refine dD (hi pins s σ H _ I h) fun v s1 h1=>dD h1 fun itv s2 h2=>?_
 obtain ⟨it,fp,tn,J,H2,e,I2,T,st2,f2,W,⟨m0,w0⟩,turn⟩:=h2
 subst e
 refine wpAny_newObj_type (fB fun h₁ hns₁ hk31 hcl₁=>?_)
 dsimp only at hns₁ hk31 hcl₁ ⊢
 generalize hs3:({s2 with heap:=s2.heap.push {cls:=.type "list",dict:=none,data:=.seq ([]:List Value).toArray}}:Shared)=s3
 have e3:s2.heap.push {cls:=.type "list",dict:=none,data:=.seq ([]:List Value).toArray}=s3.heap:=by rw [← hs3]
 rw [e3] at hns₁ hk31 hcl₁ ⊢
 have hD3:s3.heap.get? s2.heap.objs.size=some {cls:=.type "list",dict:=none,data:=.seq ([]:List Value).toArray}:=by rw [← e3];exact Heap.get?_push_size _ rfl
 have I3:Inv X pins σ H2 s3:=by
  rw [← hs3]
  exact I2.kept (t':=s2.toks) fun b o e=>Heap.get?_push_of_some _ e
 have k23:∀ b o,s2.heap.get? b=some o→s3.heap.get? b=some o:=fun b o e=>by rw [← e3];exact Heap.get?_push_of_some _ e
 have hsz:s3.heap.objs.size=s2.heap.objs.size+1:=by rw [← e3,Heap.size_push]
 have hDn:H2 s2.heap.objs.size=none:=I2.hok.fresh (Nat.le_refl _)
 have fD:iw X pins H2 s2.heap.objs.size:=I2.fpOk (Nat.le_refl _) hDn
 have hfo:∀ b∈fp,b < s2.heap.objs.size:=fun b hb=>let ⟨o,e,_⟩:=T.obj _ _ st2 b hb;Heap.lt_size e
 have hDfp:s2.heap.objs.size ∉ fp:=fun z=>absurd (hfo _ z) (Nat.lt_irrefl _)
 have I4:=ue (tk:=s3.toks+([]:List (Str×Value)).length) S hN hsc I3 f2 (fun b hb=>by rw [hsz];exact Nat.lt_succ_of_lt (hfo b hb)) (D:=s2.heap.objs.size) (by rw [hsz];exact Nat.lt_succ_self _) fD hns₁ hk31 hcl₁
 have stat:∀ {H':Hp} {ob:Obj},(∀ b∈fp,H' b=none)→∀ b∈fp,iw (lC X N' scope s3.heap.objs.size s3 H2 (s2.heap.objs.size :: fp)) [(s2.heap.objs.size,ob)] H' b:=fun {H' ob} hn b hb=>by
  obtain ⟨q1,q2⟩:=I4.ok.exf b (List.mem_cons_of_mem _ hb)
  refine ⟨hn b hb,q1,I4.ok.exfs b (List.mem_cons_of_mem _ hb),.inl (List.mem_cons_of_mem _ hb),q2,fun p hp z=>?_⟩
  have hp':p=(s2.heap.objs.size,ob):=by simpa [lC] using hp
  subst hp'
  have z':s2.heap.objs.size=b:=z
  exact hDfp (by rw [z'];exact hb)
 generalize hXC:lC X N' scope s3.heap.objs.size s3 H2 (s2.heap.objs.size :: fp)=XC at I4 stat
 have eP:XC.prog=X.prog:=by rw [← hXC];rfl
 have eW:XC.w=X.w:=by rw [← hXC];rfl
 have eK:XC.K=X.K:=by rw [← hXC];rfl
 have eA:XC.A=X.A:=by rw [← hXC];rfl
 have eE:XC.env=compEnvC scope (Ag X scope s3.heap.objs.size) s3.heap.objs.size X.env:=by rw [← hXC];rfl
 have eC:XC.calm=true:=by rw [← hXC];exact hc
 have eX:XC.xe=fun _ _=>False:=by rw [← hXC];rfl
 have eH:XC.H₀=H2:=by rw [← hXC];rfl
 have eS:XC.s₀=s3:=by rw [← hXC];rfl
 have eF:XC.fs=frs X.stack:=by rw [← hXC];rfl
 have eEx:XC.ex=s2.heap.objs.size :: fp:=by rw [← hXC];rfl
 have ePn:XC.pn=[]:=by rw [← hXC];rfl
 have hgC:PG XC tg g:=by rw [← hXC];exact hg _ _ _ _
 have htC:uJ XC ifs tt:=by rw [← hXC];exact ht _ _ _ _
 have heC:PE XC elt te:=by rw [← hXC];exact he _ _ _ _
 have pinD:∀ {σ':St} {H':Hp} {s':Shared} {ob:Obj},Inv XC [] σ' H' s'→H' s2.heap.objs.size=none→s'.heap.get? s2.heap.objs.size=some ob→(∀ v,ob.data≠.cell v)→Inv XC [(s2.heap.objs.size,ob)] σ' H' s':=fun {σ' H' s' ob} J hn hg hd=>
  J.pins_of fun p hp=>by
   have hp':p=(s2.heap.objs.size,ob):=by simpa using hp
   subst hp'
   refine ⟨hg,hn,(J.ok.exf _ (by rw [eEx];exact List.mem_cons_self)).1,J.ok.exfs _ (by rw [eEx];exact List.mem_cons_self),hd⟩
 have loop:codeAny (model X.prog X.w) X.A (.compLoop (.ListComp elt [⟨tg,iter,ifs,0⟩] scope pos) 0 (.ref it) (.ref s2.heap.objs.size) (compEnvC scope (Ag X scope s3.heap.objs.size) s3.heap.objs.size X.env))
   (compPost (model X.prog X.w) X.A X.xe none (EP X pins σ Q) (.ref s2.heap.objs.size) s3.heap.objs.size) {s3 with heap:=h₁,toks:=s3.toks+([]:List (Str×Value)).length}:=by
  refine ud (fun n s'=>∃ (i:Nat) (ys:List V) (its:List Value) (nn:Nat) (H':Hp),Inv XC [] (b8 sub σ) H' s'∧tn i s'.heap∧(∀ b∈fp,H' b=none)∧H' s2.heap.objs.size=none∧
   s'.heap.get? s2.heap.objs.size=some {cls:=.type "list",data:=.seq its.toArray nn}∧Vals ys its∧W i n ys H') ?_ m0
   ⟨0,[],[],_,H2,I4,T.keep _ _ _ st2 fun b _ o e=>hk31 b o (k23 b o e),fun b hb=>(f2 b hb).1,hDn,hk31 _ _ hD3,.nil,w0⟩
  rintro n s4 ⟨i,ys,its,nn,H4,J4,st4,fr4,dn4,dg4,rv4,w4⟩
  have P4:=pinD J4 dn4 dg4 (fun v z=>by cases z)
  rcases turn i n ys H4 w4 with ⟨stop,hyl,qn⟩ | ⟨go,hyl,N,hN,step⟩
  ·have hdone:=T.done XC eP eW eK eC i _ s4 _ H4 (fun _ _=>False) P4 (stat fr4) st4 stop
   rw [eA] at hdone
   refine wpAny_mono hdone (fun r s5 ⟨hr,I5⟩=>?_) fun _ _ z=>z
   subst hr
   obtain ⟨m,hn,_⟩:=id I5.loc
   have hCe:XC.env.locals=s3.heap.objs.size:=by rw [eE];rfl
   rw [hCe] at hn
   refine ⟨m,hn,fun h6 hs6=>?_⟩
   have hDg:=(I5.pin (s2.heap.objs.size,_) (by rw [ePn];exact List.mem_cons_self)).1
   have hDne:s2.heap.objs.size≠s3.heap.objs.size:=by rw [hsz];exact Nat.ne_of_lt (Nat.lt_succ_self _)
   have hHC:H4 s3.heap.objs.size=none:=by have:=I5.free;rw [hCe] at this;exact this
   have k56:∀ b o,b≠s3.heap.objs.size→s5.heap.get? b=some o→h6.get? b=some o:=fun b o hb e=>hs6.extBut b o hb e
   have un:=I5.base
   rw [eF,eEx,eH,eS] at un
   have nC:∀ b o,s3.heap.get? b=some o→b≠s3.heap.objs.size:=fun b o e=>Nat.ne_of_lt (Heap.lt_size e)
   have hok6:HOk X.prog X.w (upd H4 s2.heap.objs.size (.lst ys)) h6:=by
    have h5:=I5.hok
    rw [eP,eW] at h5
    have GD:∀ b u,H4 b=some u→b≠s3.heap.objs.size:=fun b u e z=>by rw [z,hHC] at e;cases e
    intro b u e
    by_cases hb:b=s2.heap.objs.size
    ·subst hb
     rw [ak] at e;cases e
     exact ⟨hyl,its,nn,rv4,k56 _ _ hDne hDg⟩
    ·rw [aB hb] at e
     have nD:∀ c u,H4 c=some u→c≠s2.heap.objs.size:=fun c u e z=>by rw [z,dn4] at e;cases e
     refine (h5 b u e).stay (fun c v hc' q=>k56 c v ?_ q) (fun c q=>by rw [aB (nD c _ q)];exact q) fun c xs q=>by rw [aB (nD c _ q)];exact q
     rcases hc' with z | z
     ·rw [z];exact GD b u e
     ·exact GD c _ z
   have nD2:∀ c u,H4 c=some u→c≠s2.heap.objs.size:=fun c u e z=>by rw [z,dn4] at e;cases e
   have un6:Un (frs X.stack) (s2.heap.objs.size :: fp) H2 (upd H4 s2.heap.objs.size (.lst ys)) s3.heap h6:=
    ⟨fun b o e nn' hb hx=>k56 b o (nC b o e) (un.keep b o e nn' hb hx),fun b o e nn' hb hx=>let ⟨sl,q⟩:=un.slot b o e nn' hb hx;⟨sl,k56 b _ (nC b o e) q⟩,
     fun b o e nn' hx=>by rw [aB (fun z=>hx (by rw [z];exact List.mem_cons_self))];exact un.free b o e nn' hx,
     fun b o e hx=>let ⟨o',q⟩:=un.there b o e hx;⟨o',k56 b o' (nC b o e) q⟩,
     fun b xs e=>by have q:=un.tups b xs e;rw [aB (nD2 b _ q)];exact q,
     fun b o u e=>by have q:=un.frzs b o u e;rw [aB (nD2 b _ q)];exact q,
     fun b ps e=>let ⟨more,q⟩:=un.tbls b ps e;⟨more,by rw [aB (nD2 b _ q)];exact q⟩⟩
   have I6:Inv X pins σ (upd H4 s2.heap.objs.size (.lst ys)) {s5 with heap:=h6}:=by
    refine I3.call' (s':={s5 with heap:=h6}) (ch:=s2.heap.objs.size :: fp) ?_ un6 hok6 I5.bare fun b hb=>?_
    ·show s5.os=s3.os
     have:=I5.os
     rw [eS] at this
     exact this
    ·have q:iw X pins H2 b:=by
      rcases List.mem_cons.mp hb with rfl | z
      ·exact fD
      ·exact f2 b z
     obtain ⟨f0,f1,f2',f3,f4,f5⟩:=q
     exact ⟨f3,f1,f4,f5⟩
   exact ⟨.ref s2.heap.objs.size,_,I6,rfl,qn _ dn4⟩
  ·have hitem:=T.item XC eP eW eK eC i _ s4 _ H4 (fun _ _=>False) P4 (stat fr4) st4 go
   rw [eA] at hitem
   refine wpAny_mono hitem (fun r s5 ⟨u,hr,h5⟩=>?_) fun _ _ z=>z
   subst hr
   dsimp only
   refine wpAny_mono h5 (fun _ s6 ⟨x,H6,I6,r6,y6,st6,fr6⟩=>?_) fun _ _ z=>z
   have P6:=I6.pinned (stat fr6) (T.obj _ _ st6)
   rw [← eE,← eP,← eW,← eA]
   refine wpAny_mono (hgC _ s6 _ H6 x u _ P6 r6 (step x H6 y6)) (fun _ s7 ⟨σ7,H7,I7,kp7,q7⟩=>?_) fun _ _ z=>by rw [eX] at z;exact z
   refine wpAny_mono (htC _ s7 σ7 H7 _ I7 q7) (fun ok s8 ⟨H8,I8,q8⟩=>?_) fun _ _ z=>by rw [eX] at z;exact z
   have fin:∀ {H9:Hp} {s9:Shared},Inv XC ([(s2.heap.objs.size,({cls:=.type "list",data:=.seq its.toArray nn}:Obj))] ++ oA fp s6.heap) σ7 H9 s9→Inv XC [] (b8 sub σ) H9 s9∧tn (i+1) s9.heap∧(∀ b∈fp,H9 b=none)∧H9 s2.heap.objs.size=none∧
     s9.heap.get? s2.heap.objs.size=some {cls:=.type "list",data:=.seq its.toArray nn}:=fun {H9 s9} J=>by
    have pD:=J.pin (s2.heap.objs.size,({cls:=.type "list",data:=.seq its.toArray nn}:Obj)) (by rw [ePn];simp)
    have pF:∀ b∈fp,∀ o,s6.heap.get? b=some o→s9.heap.get? b=some o∧H9 b=none:=fun b hb o e=>by
     have q:=J.pin (b,o) (by rw [ePn];exact List.mem_append_right _ (List.mem_append_right _ (jj hb e)))
     exact ⟨q.1,q.2.1⟩
    refine ⟨?_,T.keep _ _ _ st6 fun b hb o e=>(pF b hb o e).1,fun b hb=>?_,pD.2.1,pD.1⟩
    ·have J0:Inv XC [] σ7 H9 s9:=J.pins_of fun p hp=>nomatch hp
     exact J0.weak kp7.1.symm fun j v e=>kp7.2 j v e
    ·obtain ⟨o,e,_⟩:=T.obj _ _ st6 b hb
     exact (pF b hb o e).2
   cases ok with
   | false=>
    rw [if_neg (by simp)]
    rw [if_neg (by simp)] at q8
    obtain ⟨m',hm,w8⟩:=hN _ _ q8
    obtain ⟨a1,a2,a3,a4,a5⟩:=fin I8
    exact ⟨m',hm,i+1,ys,its,nn,H8,a1,a2,a3,a4,a5,rv4,w8⟩
   | true=>
    rw [if_pos rfl]
    rw [if_pos rfl] at q8
    refine wpAny_mono (heC _ s8 σ7 H8 _ I8 q8) (fun xv s9 ⟨y,H9,I9,r9,n9⟩=>?_) fun _ _ z=>by rw [eX] at z;exact z
    obtain ⟨m',hm,w9⟩:=hN _ _ n9
    obtain ⟨a1,a2,a3,a4,a5⟩:=fin I9
    refine wpAny_list_append_plain (items:=its.toArray) ⟨nn,a5⟩ (fun h' ⟨n',hp'⟩ sb=>?_) (by simp;rw [← rv4.length];omega)
    obtain ⟨q1,q2⟩:=I4.ok.exf s2.heap.objs.size (by rw [eEx];exact List.mem_cons_self)
    have a1':Inv XC [] (b8 sub σ) H9 {s9 with heap:=h'}:=a1.turned (t':=s9.toks) (fun b o hb e=>(sb.2 b hb).trans e) a4 q1 (.inl (by rw [eEx];exact List.mem_cons_self)) q2 (fun p hp=>by rw [ePn] at hp;exact nomatch hp)
    refine ⟨m',hm,i+1,ys ++ [y],its ++ [xv],n',H9,a1',T.keep _ _ _ a2 fun b hb o e=>(sb.2 b (fun z=>hDfp (by rw [← z];exact hb))).trans e,a3,a4,?_,rv4.append (.cons r9 .nil),w9⟩
    rw [hp']
    simp
 subst hs3
 exact codeAny_compStart_list loop (T.self _ 0 _ _ _ (T.keep _ _ _ st2 fun b _ o e=>hk31 b o (k23 b o e)) loop)
end
abbrev jM (sub:List (Option Nat)) (g:TG) (tt:TT) (te:TE) (σ:St) (Q:VK) (J:It) (H1:Hp):Prop:=∃ W:Nat→Nat→List V→Hp→Prop,(∃ m,W 0 m [] H1)∧∀ i m ys H,W i m ys H→
 (J.stop i H∧ys.length≤sizeLine∧∀ D,H D=none→Q (.ref D) (upd H D (.lst ys)))∨
 (J.go i H∧ys.length < sizeLine∧∃ N:List V→Hp→Prop,(∀ ys' H',N ys' H'→∃ m',m' < m∧W (i+1) m' ys' H')∧
  ∀ x H',J.yld i H x H'→g x (b8 sub σ) H' fun σ2 H2=>KeepSt (b8 sub σ) σ2∧tt σ2 H2 fun b H3=>if b=true then te σ2 H3 fun y H4=>N (ys ++ [y]) H4 else N ys H3)
theorem qz {sub:List (Option Nat)} {g:TG} {tt:TT} {te:TE} {σ:St} {Q:VK} {J:It} {H:Hp} {n:Nat} (Pv:Nat→List V→Hp→Prop) (hn:n≤sizeLine) (h0:Pv 0 [] H) (hl:∀ i ys H,Pv i ys H→ys.length≤i)
  (hgo:∀ i ys H,i < n→Pv i ys H→J.go i H) (hstop:∀ ys H,Pv n ys H→J.stop n H)
  (hs:∀ i ys H x H',i < n→Pv i ys H→J.yld i H x H'→g x (b8 sub σ) H' fun σ2 H2=>KeepSt (b8 sub σ) σ2∧tt σ2 H2 fun b H3=>if b=true then te σ2 H3 fun y H4=>Pv (i+1) (ys ++ [y]) H4 else Pv (i+1) ys H3)
  (hd:∀ ys H,Pv n ys H→∀ D,H D=none→Q (.ref D) (upd H D (.lst ys))):jM sub g tt te σ Q J H:=by
 refine ⟨fun i m ys H=>m=n - i∧i≤n∧Pv i ys H,⟨n,by simp,Nat.zero_le _,h0⟩,?_⟩
 rintro i m ys H ⟨rfl,hi,p⟩
 have hl':=hl i ys H p
 by_cases hlt:i < n
 ·exact .inr ⟨hgo i ys H hlt p,by omega,fun ys' H'=>Pv (i+1) ys' H',fun ys' H' p'=>⟨n - (i+1),by omega,rfl,hlt,p'⟩,fun x H' y=>hs i ys H x H' hlt p y⟩
 ·have e:i=n:=by omega
  subst e
  exact .inl ⟨hstop ys H p,by omega,hd ys H p⟩
end L2
namespace L2
open PySem PySem.Spec PyProof.Rows
section
variable {κ:Type} [DecidableEq κ]
def gY (kvs:List (κ×V)) (k:κ):Option V:=(kvs.find? fun kv=>decide (kv.1=k)).map (·.2)
def putK (kvs:List (κ×V)) (k:κ) (v:V):List (κ×V):=
 if (kvs.any fun kv=>decide (kv.1=k))=true then kvs.map (fun kv=>if kv.1=k then (kv.1,v) else kv) else kvs ++ [(k,v)]
theorem vC {k:κ}:gY ([]:List (κ×V)) k=none:=rfl
theorem dH {p:κ×V} {r:List (κ×V)} {k:κ} (e:p.1=k):gY (p :: r) k=some p.2:=by simp [gY,List.find?_cons,e]
theorem dI {p:κ×V} {r:List (κ×V)} {k:κ} (e:¬ p.1=k):gY (p :: r) k=gY r k:=by simp [gY,List.find?_cons,e]
theorem mY (k:κ):∀ kvs:List (κ×V),(kvs.any fun kv=>decide (kv.1=k))=(gY kvs k).isSome
 | []=>rfl
 | p :: r=>by
  rw [List.any_cons]
  by_cases e:p.1=k
  ·simp only [dH e,decide_eq_true e,Bool.true_or,Option.isSome_some]
  ·rw [dI e,decide_eq_false e,Bool.false_or];exact mY k r
theorem vD (k j:κ) (y:V):∀ kvs:List (κ×V),gY (kvs.map fun kv=>if kv.1=k then (kv.1,y) else kv) j=(gY kvs j).map fun x=>if j=k then y else x
 | []=>rfl
 | p :: r=>by
  have ih:=vD k j y r
  rw [List.map_cons]
  by_cases h:p.1=k
  ·rw [if_pos h]
   by_cases e:p.1=j
   ·rw [dH (p:=(p.1,y)) e,dH e,Option.map_some,if_pos (e.symm.trans h)]
   ·rw [dI (p:=(p.1,y)) e,dI e,ih]
  ·rw [if_neg h]
   by_cases e:p.1=j
   ·rw [dH (p:=p) e,dH e,Option.map_some,if_neg (fun z=>h (e.trans z))]
   ·rw [dI (p:=p) e,dI e,ih]
theorem uf (k j:κ) (y:V):∀ kvs:List (κ×V),gY kvs k=none→gY (kvs ++ [(k,y)]) j=if j=k then some y else gY kvs j
 | [],_=>by
  by_cases e:k=j
  ·rw [if_pos e.symm];exact dH (p:=(k,y)) e
  ·rw [if_neg (fun z=>e z.symm)];exact dI (p:=(k,y)) e
 | p :: r,hn=>by
  rw [List.cons_append]
  have hk:¬ p.1=k:=fun z=>by rw [dH z] at hn;cases hn
  rw [dI hk] at hn
  have ih:=uf k j y r hn
  by_cases e:p.1=j
  ·rw [dH e,dH e,if_neg (fun z=>hk (e.trans z))]
  ·rw [dI e,dI e,ih]
theorem vG (kvs:List (κ×V)) (k j:κ) (y:V):gY (putK kvs k y) j=if j=k then some y else gY kvs j:=by
 unfold putK
 by_cases a:(kvs.any fun kv=>decide (kv.1=k))=true
 ·rw [if_pos a,vD]
  rw [mY] at a
  by_cases e:j=k
  ·obtain ⟨x,hx⟩:=Option.isSome_iff_exists.mp a
   rw [if_pos e,e,hx,Option.map_some,if_pos rfl]
  ·rw [if_neg e]
   cases gY kvs j with
   | none=>rfl
   | some x=>rw [Option.map_some,if_neg e]
 ·rw [if_neg a]
  refine uf k j y kvs ?_
  rw [mY] at a
  cases q:gY kvs k with
  | none=>rfl
  | some x=>rw [q] at a;exact (a rfl).elim
theorem iz (kvs:List (κ×V)) (k:κ) (v:V):(putK kvs k v).length≤kvs.length+1:=by
 unfold putK
 split
 ·rw [List.length_map];omega
 ·rw [List.length_append,List.length_cons,List.length_nil];omega
theorem RelO.isSome_eq {o:Option V} {u:Option Value} (r:RelO o u):o.isSome=u.isSome:=by
 cases o with
 | none=>cases u with
  | none=>rfl
  | some _=>exact (show False from r).elim
 | some _=>cases u with
  | none=>exact (show False from r).elim
  | some _=>rfl
theorem KV.val {kvs:List (κ×V)} {vs:List (κ×Value)} (r:KV kvs vs) (k:κ):RelO (gY kvs k) (valueAt vs k):=by
 unfold KV at r
 induction r with
 | nil=>exact True.intro
 | @cons p q ps qs h t ih=>
  obtain ⟨h1,h2⟩:=h
  by_cases e:p.1=k
  ·have e':q.1=k:=h1.symm.trans e
   have b:valueAt (q :: qs) k=some q.2:=by simp [valueAt,List.find?_cons,e']
   rw [dH e,b];exact h2
  ·have e':¬ q.1=k:=fun z=>e (h1.trans z)
   have b:valueAt (q :: qs) k=valueAt qs k:=by simp [valueAt,List.find?_cons,e']
   rw [dI e,b];exact ih
theorem KV.any {kvs:List (κ×V)} {vs:List (κ×Value)} (r:KV kvs vs) (k:κ):(kvs.any fun kv=>decide (kv.1=k))=vs.any fun kv=>decide (kv.1=k):=by
 unfold KV at r
 induction r with
 | nil=>rfl
 | cons h t ih=>rw [List.any_cons,List.any_cons,ih,h.1]
theorem KV.repl {kvs:List (κ×V)} {vs:List (κ×Value)} (r:KV kvs vs) (k:κ) {y:V} {u:Value} (ry:RelV y u):
  KV (kvs.map fun kv=>if kv.1=k then (kv.1,y) else kv) (vs.map fun kv=>if kv.1=k then (kv.1,u) else kv):=by
 unfold KV at r ⊢
 induction r with
 | nil=>exact .nil
 | @cons p q ps qs h t ih=>
  rw [List.map_cons,List.map_cons]
  refine .cons ?_ ih
  obtain ⟨h1,h2⟩:=h
  by_cases e:p.1=k
  ·rw [if_pos e,if_pos (h1.symm.trans e)];exact ⟨h1,ry⟩
  ·rw [if_neg e,if_neg (fun z=>e (h1.trans z))];exact ⟨h1,h2⟩
theorem KV.put {kvs:List (κ×V)} {vs:List (κ×Value)} (r:KV kvs vs) (k:κ) {y:V} {u:Value} (ry:RelV y u):KV (putK kvs k y) (stored vs k u):=by
 unfold putK stored
 rw [r.any k]
 by_cases e:(vs.any fun kv=>decide (kv.1=k))=true
 ·rw [if_pos e,if_pos e];exact r.repl k ry
 ·rw [if_neg e,if_neg e];exact Paired.snoc r ⟨rfl,ry⟩
theorem KV.length {kvs:List (κ×V)} {vs:List (κ×Value)} (r:KV kvs vs):kvs.length=vs.length:=Paired.length r
end
theorem Dq {P:Program} {w:World} {k:Key} {u:Value} (r:RelV (kV k) u):(bR P w).is k u=true:=by
 cases k with
 | inl i=>obtain ⟨t,e⟩:=(show ∃ t,u=Value.int i t from r);subst e;exact vh P w i t
 | inr x=>obtain ⟨t,e⟩:=(show ∃ t,u=Value.str x t from r);subst e;exact vm P w x t
theorem ug {P:Program} {w:World}:∀ {ks:List Key} {us:List Value},Vals (ks.map kV) us→ItemsAre (bR P w) ks us
 | [],_,r=>by rw [List.map_nil] at r;cases r;exact .nil
 | k :: ks,_,r=>by
  rw [List.map_cons] at r
  cases r with
  | cons h t=>exact .cons (Dq h) (ug t)
abbrev KT (H:Hp):List (List Key×V)→List (List Key×Addr×Value)→Prop:=Paired fun p q=>p.1=q.1∧H q.2.1=some (.tup (p.1.map kV))∧RelV p.2 q.2.2
theorem KT.val {H:Hp} {kvs:List (List Key×V)} {xs:List (List Key×Addr×Value)} (r:KT H kvs xs) (k:List Key):RelO (gY kvs k) ((atKey xs k).map (·.2)):=by
 induction r with
 | nil=>exact True.intro
 | @cons p q ps qs h t ih=>
  obtain ⟨h1,_,h2⟩:=h
  by_cases e:p.1=k
  ·have e':q.1=k:=h1.symm.trans e
   have b:atKey (q :: qs) k=some q.2:=by simp [atKey,List.find?_cons,e']
   rw [dH e,b];exact h2
  ·have e':¬ q.1=k:=fun z=>e (h1.trans z)
   have b:atKey (q :: qs) k=atKey qs k:=by simp [atKey,List.find?_cons,e']
   rw [dI e,b];exact ih
theorem KT.repl {H:Hp} {kvs:List (List Key×V)} {xs:List (List Key×Addr×Value)} (r:KT H kvs xs) (k:List Key) {y:V} {u:Value} (ry:RelV y u):
  KT H (kvs.map fun kv=>if kv.1=k then (kv.1,y) else kv) (xs.map (putAt k u)):=by
 induction r with
 | nil=>exact .nil
 | @cons p q ps qs h t ih=>
  rw [List.map_cons,List.map_cons]
  refine .cons ?_ ih
  obtain ⟨h1,h2,h3⟩:=h
  unfold putAt
  by_cases e:p.1=k
  ·rw [if_pos e,if_pos (h1.symm.trans e)];exact ⟨h1,h2,ry⟩
  ·rw [if_neg e,if_neg (fun z=>e (h1.trans z))];exact ⟨h1,h2,h3⟩
theorem KT.put {H:Hp} {kvs:List (List Key×V)} {xs:List (List Key×Addr×Value)} (r:KT H kvs xs) (k:List Key) {b:Addr} {y:V} {u:Value} (hb:H b=some (.tup (k.map kV))) (ry:RelV y u):
  KT H (putK kvs k y) (storedH xs k b u):=by
 have e:(kvs.any fun kv=>decide (kv.1=k))=(atKey xs k).isSome:=by
  rw [mY,(r.val k).isSome_eq,Option.isSome_map]
 unfold putK storedH
 rw [e]
 by_cases q:(atKey xs k).isSome=true
 ·rw [if_pos q,if_pos q];exact r.repl k ry
 ·rw [if_neg q,if_neg q];exact Paired.snoc r ⟨rfl,hb,ry⟩
theorem KT.keeps {H H':Hp} {kvs:List (List Key×V)} {xs:List (List Key×Addr×Value)} (r:KT H kvs xs) (ht:∀ b ys,H b=some (.tup ys)→H' b=some (.tup ys)):KT H' kvs xs:=
 Paired.mapP r fun _ _ z=>⟨z.1,ht _ _ z.2.1,z.2.2⟩
section
variable {P:Program} {w:World} {H:Hp} {h:Heap} {a:Addr}
theorem J8 {u:HO} (ok:HOk P w H h) (e:Rd H a u):ObjOk P w H h a u:=e.ok ok
theorem J9 {kvs:List (Key×V)} (ok:HOk P w H h) (e:Rd H a (.dK kvs)):kvs.length≤sizeLine∧(a == sysModules)=false∧∃ vs,KV kvs vs∧h.DictOf (bR P w) a vs:=
 show ObjOk P w H h a (.dK kvs) from J8 ok e
theorem QT {kvs:List (Key×V)} (ok:HOk P w H h) (e:H a=some (.dK kvs)):kvs.length≤sizeLine∧(a == sysModules)=false∧∃ vs,KV kvs vs∧h.DictOf (bR P w) a vs:=J9 ok (.inl e)
theorem xH {ks:List Key} (ok:HOk P w H h) (e:H a=some (.tup (ks.map kV))):(tupleKind (bR P w)).is h ks a:=by
 obtain ⟨_,its,r,o,h1,h2,n,h3⟩:=(show ObjOk P w H h a (.tup (ks.map kV)) from ok a _ e)
 exact ⟨o,its.toArray,n,h1,h2,h3,by simpa using ug r⟩
theorem Ka {kvs:List (List Key×V)} (ok:HOk P w H h) (e:Rd H a (.dT kvs)):kvs.length≤sizeLine∧(a == sysModules)=false∧
  ∃ xs,KT H kvs xs∧h.DictOfH (tupleKind (bR P w)) a xs:=by
 obtain ⟨z,y,xs,r,o,es,ep,h1,h2,h3,h4,h5⟩:=(show ObjOk P w H h a (.dT kvs) from J8 ok e)
 refine ⟨z,y,xs,r,o,es,ep,h1,h2,h3,h4,fun x hx=>?_,h5⟩
 have all:∀ {l:List (List Key×V)} {m:List (List Key×Addr×Value)},KT H l m→∀ x∈m,(tupleKind (bR P w)).is h x.1 x.2.1:=by
  intro l m q
  induction q with
  | nil=>intro x hx;exact nomatch hx
  | @cons p q ps qs hq t ih=>
   intro x hx
   rcases List.mem_cons.mp hx with e | hx
   ·subst e
    exact xH ok (by rw [← hq.1];exact hq.2.1)
   ·exact ih x hx
 exact all r x hx
theorem QV {kvs:List (List Key×V)} (ok:HOk P w H h) (e:H a=some (.dT kvs)):kvs.length≤sizeLine∧(a == sysModules)=false∧
  ∃ xs,KT H kvs xs∧h.DictOfH (tupleKind (bR P w)) a xs:=Ka ok (.inl e)
end
def DGet (H:Hp) (a:Addr) (y:V) (r:Option V):Prop:=
 (∃ kvs k,Rd H a (.dK kvs)∧y=kV k∧r=gY kvs k)∨∃ kvs k b,Rd H a (.dT kvs)∧y= .ref b∧H b=some (.tup (k.map kV))∧r=gY kvs k
def DPut (H:Hp) (a:Addr) (y v:V) (H':Hp):Prop:=
 (∃ kvs k,H a=some (.dK kvs)∧y=kV k∧kvs.length < sizeLine∧H'=upd H a (.dK (putK kvs k v)))∨
 ∃ kvs k b,H a=some (.dT kvs)∧y= .ref b∧H b=some (.tup (k.map kV))∧kvs.length < sizeLine∧H'=upd H a (.dT (putK kvs k v))
theorem DGet.k {H:Hp} {a:Addr} {kvs:List (Key×V)} {k:Key} (e:H a=some (.dK kvs)):DGet H a (kV k) (gY kvs k):=.inl ⟨kvs,k,.inl e,rfl,rfl⟩
theorem DPut.k {H:Hp} {a:Addr} {kvs:List (Key×V)} {k:Key} {v:V} (e:H a=some (.dK kvs)) (hl:kvs.length < sizeLine):DPut H a (kV k) v (upd H a (.dK (putK kvs k v))):=.inl ⟨kvs,k,e,rfl,hl,rfl⟩
section
variable {X:Cx} {pins:List (Addr×Obj)} {σ:St} {H:Hp} {s:Shared} {a:Addr} {y v:V} {u r:Value} {o:Option V} {A:Around} {E:Value→Shared→Prop}
theorem Inv.big (I:Inv X pins σ H s):sysModules < s.heap.objs.size:=by
 have h:mainGlobals < s.heap.objs.size:=(I.mod.glob.keeps I.bk).lt
 exact Nat.lt_trans (by decide) h
theorem d_in {Q:Value→Shared→Prop} (hu:A.units+1 < cLine) (I:Inv X pins σ H s) (g:DGet H a y o) (ry:RelV y u) (h:∀ s',Inv X pins σ H s'→Q (.bool o.isSome) s'):
  wpAny (model X.prog X.w) A (compareOp .In u (.ref a)) Q E s:=by
 rcases g with ⟨kvs,k,e,ey,l⟩ | ⟨kvs,k,b,e,ey,eb,l⟩
 ·subst ey
  obtain ⟨z,hd,vs,rel,dd⟩:=J9 I.hok e
  refine wpAny_in_of (Dq ry) hd dd.mapOf ?_
  rw [← (rel.val k).isSome_eq,← l]
  exact h _ (I.tok _)
 ·subst ey
  cases (show u=Value.ref b from ry)
  obtain ⟨z,hd,xs,rel,dd⟩:=Ka I.hok e
  refine wpAny_in_heap (tupleKind_room_in1 hu) (xH I.hok eb) hd dd ?_
  have q:=(rel.val k).isSome_eq
  rw [Option.isSome_map] at q
  rw [← q,← l]
  exact h _ (I.tok _)
theorem yQ {h':Heap} {t':Nat} {ob:HO} (I:Inv X pins σ H s) (mu:Qp (H a)) (hs:Heap.SameBut a s.heap h') (he:∃ q,h'.get? a=some q) (new:ObjOk X.prog X.w (upd H a ob) h' a ob):
  Inv X pins σ (upd H a ob) {s with heap:=h',toks:=t'}:=
 I.write (x:=a) (e:=a) mu (.inl rfl) (fun b q hb z=>(hs.2 b hb).trans z) he new
theorem Mv {P:Program} {w:World} {H':Hp} {h':Heap} {kvs:List (Key×V)} {vs:List (Key×Value)} (z:kvs.length≤sizeLine) (hd:(a == sysModules)=false) (rel:KV kvs vs) (dd:h'.DictOf (bR P w) a vs):
  ObjOk P w H' h' a (.dK kvs):=⟨z,hd,vs,rel,dd⟩
theorem Ah {H':Hp} {Q:Unit→Shared→Prop} (hu:A.units+1 < cLine) (I:Inv X pins σ H s) (g:DPut H a y v H') (ry:RelV y u) (rv:RelV v r) (h:∀ s',Inv X pins σ H' s'→Q () s'):
  wpAny (model X.prog X.w) A (setItem (.ref a) u r) Q E s:=by
 rcases g with ⟨kvs,k,e,ey,l,eH⟩ | ⟨kvs,k,b,e,ey,eb,l,eH⟩
 ·subst ey eH
  obtain ⟨z,hd,vs,rel,dd⟩:=QT I.hok e
  have hz:vs.length≤sizeLine:=by rw [← rel.length];exact z
  have hl:(putK kvs k v).length≤sizeLine:=by have:=iz kvs k v;omega
  refine wpAny_setItem_pairs (hsz:=hz) (Dq ry) dd fun h' dd' hs=>h _ ?_
  have he:∃ q,h'.get? a=some q:=let ⟨q,_,_,hq,_⟩:=dd';⟨q,hq⟩
  exact yQ I (by rw [e];exact True.intro) hs he (Mv hl hd (rel.put k rv) dd')
 ·subst ey eH
  cases (show u=Value.ref b from ry)
  obtain ⟨z,hd,xs,rel,dd⟩:=QV I.hok e
  have hz:xs.length≤sizeLine:=by rw [← Paired.length rel];exact z
  have hl:(putK kvs k v).length≤sizeLine:=by have:=iz kvs k v;omega
  refine wpAny_setItem_heap (hsz:=hz) (tupleKind_room_in1 hu) (xH I.hok eb) dd fun h' dd' hs=>h _ ?_
  obtain ⟨q,es,ep,hq,h2,h3,h4,_,h5⟩:=dd'
  refine yQ I (by rw [e];exact True.intro) hs ⟨q,hq⟩ ⟨hl,hd,_,(rel.put k eb rv).keeps fun c ys ec=>?_,q,es,ep,hq,h2,h3,h4,h5⟩
  rw [aB (Qo ec e (fun z=>nomatch z))]
  exact ec
end
section
variable {X:Cx} {pins:List (Addr×Obj)} {σ:St} {H:Hp} {s:Shared} {a:Addr} {kvs:List (Key×V)} {k:Key} {u:Value} {A:Around} {E:Value→Shared→Prop}
end
section
variable {X:Cx} {o i e value:Expr} {pos pos' tpos:Pos} {td ty tv:TE}
end
theorem Ds {P:Program} {w:World} {H:Hp} (h:Heap) (hb:sysModules < h.objs.size):ObjOk P w H (h.push {cls:=.type "dict",data:=.dict #[]}) h.objs.size (.dK []):=
 ⟨Nat.zero_le _,beq_eq_false_iff_ne.mpr (Ne.symm (Nat.ne_of_lt hb)),[],.nil,Heap.DictOf.new h⟩
def xJ:TE:=fun _ H Q=>∀ p,H p=none→Q (.ref p) (upd H p (.dK []))
section
variable {X:Cx} {pos:Pos}
theorem Dt:PE X (.Dict [] [] pos) xJ:=fun pins s σ H Q I h=>
 wpAny_Dict_empty ⟨.ref s.heap.objs.size,_,I.laid (a:=s.heap.objs.size) (o:=.dK []) (t':=s.toks) (fun _ _ q=>Heap.get?_push_of_some _ q) (Nat.le_refl _) (Ds s.heap I.big),rfl,h _ (I.hok.fresh (Nat.le_refl _))⟩
end
def Du:List (TE×TE)→St→Hp→(List (V×V)→Hp→Prop)→Prop
 | [],_,H,Q=>Q [] H
 | (tk,tv) :: r,σ,H,Q=>tk σ H fun x H1=>tv σ H1 fun y H2=>Du r σ H2 fun ps H3=>Q ((x,y) :: ps) H3
abbrev VV:List (V×V)→List (Value×Value)→Prop:=Paired fun p q=>RelV p.1 q.1∧RelV p.2 q.2
def PPs (X:Cx) (pos:Pos) (keys:List (Option Expr)) (values:List Expr) (trs:List (TE×TE)):Prop:=
 ∀ (pins:List (Addr×Obj)) (s:Shared) (σ:St) (H:Hp) (Q:List (V×V)→Hp→Prop),Inv X pins σ H s→Du trs σ H Q→
  wpAny (model X.prog X.w) X.A (evalPairs (pairTrees keys values X.env pos)) (fun vs s'=>∃ ps H',Inv X pins σ H' s'∧VV ps vs∧Q ps H') X.xe s
structure M1 (X:Cx) (o:Expr) (m:Str) (apos:Pos) (e:Expr) (cpos:Pos):Prop where
 base:attributeBase o m X.env (eval o X.env)=eval o X.env
 few:((backTo cpos (starEach [e] X.env)).all (fun x=>!x.1) && (backToKw cpos (keywordEach [] X.env)).all (fun x=>x.1.isSome)
  && decide (([e]:List Expr).length+([]:List Keyword).length+(if ([]:List Keyword).isEmpty then 0 else 1) < 30))=true
 line:(apos.endLine == cpos.line)=true
 trees:backTo cpos (starEach [e] X.env)=[(false,eval e X.env)]
structure M2 (X:Cx) (o:Expr) (m:Str) (apos:Pos) (e f:Expr) (cpos:Pos):Prop where
 base:attributeBase o m X.env (eval o X.env)=eval o X.env
 few:((backTo cpos (starEach [e,f] X.env)).all (fun x=>!x.1) && (backToKw cpos (keywordEach [] X.env)).all (fun x=>x.1.isSome)
  && decide (([e,f]:List Expr).length+([]:List Keyword).length+(if ([]:List Keyword).isEmpty then 0 else 1) < 30))=true
 line:(apos.endLine == cpos.line)=true
 trees:backTo cpos (starEach [e,f] X.env)=[(false,eval e X.env),(false,eval f X.env)]
section
variable {X:Cx} {pins:List (Addr×Obj)} {σ:St} {H:Hp} {s:Shared} {a:Addr} {y d:V} {u r:Value} {o:Option V} {A:Around} {E:Value→Shared→Prop}
end
section
variable {X:Cx} {o e f:Expr} {apos cpos:Pos} {td ty tx:TE}
end
section
variable {X:Cx} {pins:List (Addr×Obj)} {σ:St} {H:Hp} {s:Shared} {a:Addr} {kvs:List (Key×V)} {A:Around} {E:Value→Shared→Prop}
end
section
variable {X:Cx} {pins:List (Addr×Obj)} {σ:St} {H:Hp} {s:Shared} {a:Addr} {y:V} {u:Value} {A:Around} {E:Value→Shared→Prop}
end
end L2
namespace L2
open PySem PySem.Spec PyProof.Rows
section
variable {X:Cx}
section
variable {κ:Type} [DecidableEq κ]
end
end
end L2
namespace L2
open PySem PySem.Spec PyProof.Rows
def Ui (x:Str):It:=⟨fun i _=>i < x.cps.size,fun i H v H'=>H'=H∧∃ c,x.cps[i]?=some c∧v= .str ⟨#[c]⟩,fun i _=>i=x.cps.size⟩
theorem vH {P:Program} {w:World} {K:PySem.W.Frag} {tg:Expr} (it:Addr) (x:Str) (t:Tok) (ty:String)
  (hty:["enumerate","zip","dict_itemiterator","dict_reverseitemiterator","odict_iterator","itertools.zip_longest","itertools.pairwise"].contains ty=false)
  (W:∀ A:Around,A.handled=none→Walks P w A it [it] [it] x.cps.size (SignAt x) fun i h=>h.IsStrIter it ty x t i)
  (hself:∀ (A:Around) (i:Nat) (s:Shared) (Q:Value→Shared→Prop) (E:Value→Shared→Prop),s.heap.IsStrIter it ty x t i→Q (.ref it) s→wpAny (model P w) A (pyIter (.ref it)) Q E s):Turn P w K tg (Ui x) [it] it (fun i h=>h.IsStrIter it ty x t i) where
 mem:=by simp
 obj:=fun i h st b hb=>by
  have e:b=it:=by simpa using hb
  subst e
  obtain ⟨o,e,c,d⟩:=st
  exact ⟨o,e,fun v z=>by rw [d] at z;cases z⟩
 keep:=fun i h h' st k=>by
  obtain ⟨o,e,r⟩:=st
  exact ⟨o,k it (by simp) o e,r⟩
 item:=by
  intro X hP hw hK hc i pins s σ H E I hf st hg
  subst hP hw hK
  obtain ⟨f0,f1,f2,f3,f4,f5⟩:=hf it (by simp)
  refine (W X.A (I.ok.hd hc)).item i s _ _ hg st fun v h' tk hv st' kk=>?_
  obtain ⟨c,u,e1,rfl⟩:=hv
  have I1:Inv X pins σ H {s with heap:=h',toks:=tk}:=I.turned (fun b o hb e=>kk b o (by simpa using hb) e) f0 f1 f3 f4 f5
  obtain ⟨o,e,cl,d⟩:=id st'
  exact ⟨_,rfl,qR (s:={s with heap:=h',toks:=tk}) e cl d hty ⟨.str ⟨#[c]⟩,H,I1,⟨u,rfl⟩,⟨rfl,c,e1,rfl⟩,st',fun b hb=>(hf b hb).1⟩⟩
 done:=by
  intro X hP hw hK hc i pins s σ H E I hf st hg
  subst hP hw hK
  obtain ⟨f0,f1,f2,f3,f4,f5⟩:=hf it (by simp)
  have hg:i=x.cps.size:=hg
  subst hg
  exact (W X.A (I.ok.hd hc)).done s _ _ st fun h' tk kk=>⟨rfl,I.turned (fun b o hb e=>kk b o (by simpa using hb) e) f0 f1 f3 f4 f5⟩
 self:=hself
section
variable {X:Cx}
theorem all_range {bs:List Bool}:(List.range bs.length).all (fun i=>bs.getD i false)=bs.all id:=by
 rw [Bool.eq_iff_iff]
 simp only [List.all_eq_true,List.mem_range]
 constructor
 ·intro h b hb
  obtain ⟨i,hi,e⟩:=List.mem_iff_getElem.mp hb
  have:=h i hi
  rw [List.getD_eq_getElem?_getD,List.getElem?_eq_getElem hi] at this
  simp only [Option.getD_some] at this
  rw [← e];exact this
 ·intro h i hi
  rw [List.getD_eq_getElem?_getD,List.getElem?_eq_getElem hi]
  exact h _ (List.getElem_mem hi)
theorem pG:∀ {bs:List Bool} {us:List Value} {i:Nat} {v:Value},Vals (bs.map V.bl) us→us[i]?=some v→v= .bool (bs.getD i false)
 | [],_,i,v,.nil,e=>by simp at e
 | b :: bs,_,0,v,.cons r t,e=>by simp at e;subst e;exact r
 | b :: bs,_,i+1,v,.cons r t,e=>by
  simp at e
  have:=pG (bs:=bs) t e
  simpa using this
def rAll:List V→Hp→VK→Prop:=fun xs H Q=>∃ (p:Addr) (bs:List Bool),xs=[.ref p]∧H p=some (.lst (bs.map V.bl))∧Q (.bl (bs.all id)) H
theorem Dv (hc:X.calm=true):CallR X (.builtin "all") rAll:=by
 intro pins s σ H xs us Q I r h
 obtain ⟨p,bs,rfl,hp,q⟩:=h
 obtain ⟨u,rfl,ru⟩:=vals1 r
 cases ru
 obtain ⟨hz,its,n,rv,e⟩:=I.hok p _ hp
 refine call_all_walk (wpAny_pyIter_list (items:=its.toArray) ⟨_,e,rfl,n,rfl⟩ ?_)
 refine ⟨s.heap.objs.size,_,_,_,_,_,fun i=>bs.getD i false,rfl,Walks.list (A:=X.A.in1) (I.ok.hd hc) s.heap.objs.size p (Nat.ne_of_lt (Heap.lt_size e)) its.toArray,⟨⟨_,Heap.get?_push_size _ rfl,rfl,rfl⟩,⟨_,Heap.get?_push_of_some _ e,rfl,n,rfl⟩⟩,?_,fun h' tk hk=>?_⟩
 ·intro i v s' Q' E' hv hq
  have:=pG rv (by simpa using hv)
  subst this
  exact wpAny_truthy_bool hq
 ·have hl:its.toArray.size=bs.length:=by have:=rv.length;simpa using this.symm
  rw [hl,all_range]
  refine ⟨.bl _,H,?_,rfl,q⟩
  exact I.kept fun b o e=>hk b o (by simp;exact Nat.ne_of_lt (Heap.lt_size e)) (Heap.get?_push_of_some _ e)
def QW:V→Option Int→Option Int→Hp→VK→Prop:=fun v lo hi H Q=>∃ x,v= .str x∧x.length≤sizeLine∧Q (.str (Txt.slice x lo hi)) H
theorem Mw:SlR X QW:=by
 intro pins s σ H x v vl vu lo hi sl Q I rx hs pl pu h
 obtain ⟨z,rfl,hz,q⟩:=h
 obtain ⟨t,rfl⟩:=rx
 refine ⟨"str",_,F.slot_str_getitem.lookup,typeIs_str _ _ _,?_⟩
 have fin:∀ (t' k:Nat),EP X pins σ Q (.str (Txt.slice z lo hi) t') {s with toks:=k}:=fun t' k=>⟨.str _,H,I.tok _,⟨_,rfl⟩,q⟩
 have sz:=Nat.le_trans (Txt.slice_le z lo hi) hz
 obtain ⟨o,ho,hc,hd⟩:=hs
 cases pl with
 | none=>
  cases pu with
  | none=>exact wpAny_getItem_str_slice (l:=none) (u:=none) (st:=none) ⟨o,ho,hc,hd⟩ rfl (post_val_or_str ⟨sz,fin⟩)
  | int j tj=>exact wpAny_getItem_str_slice (l:=none) (u:=some (j,tj)) (st:=none) ⟨o,ho,hc,hd⟩ rfl (post_val_or_str ⟨sz,fin⟩)
 | int i ti=>
  cases pu with
  | none=>exact wpAny_getItem_str_slice (l:=some (i,ti)) (u:=none) (st:=none) ⟨o,ho,hc,hd⟩ rfl (post_val_or_str ⟨sz,fin⟩)
  | int j tj=>exact wpAny_getItem_str_slice (l:=some (i,ti)) (u:=some (j,tj)) (st:=none) ⟨o,ho,hc,hd⟩ rfl (post_val_or_str ⟨sz,fin⟩)
def Kc:R2:=fun x y H Q=>∃ i n,x= .str i∧y= .int n∧MulOk i n∧Q (.str (Txt.mul i n)) H
theorem xK:OpR X (binaryOp .Mult) Kc:=by
 intro pins s σ H x y v u Q I rx ry h
 obtain ⟨i,n,rfl,rfl,hk,q⟩:=h
 obtain ⟨t,rfl⟩:=rx
 obtain ⟨t',rfl⟩:=ry
 exact SB.mul hk fun t' k=>⟨.str _,H,I.tok _,⟨_,rfl⟩,q⟩
def sgn (x:Str):List V:=x.cps.toList.map fun c=>V.str ⟨#[c]⟩
theorem uh {x:Str} {acc:Array Value} (h:ItemsOf (SignAt x) acc x.cps.size):Vals (sgn x) acc.toList:=by
 obtain ⟨h1,h2⟩:=h
 have key:∀ (l:List Nat) (a:List Value),l.length=a.length→(∀ (j:Nat) (v:Value),a[j]?=some v→∃ (c:Nat) (u:Tok),l[j]?=some c∧v=Value.str ⟨#[c]⟩ u)→Vals (l.map fun c=>V.str ⟨#[c]⟩) a:=by
  intro l
  induction l with
  | nil=>intro a hl _;cases a with
   | nil=>exact .nil
   | cons _ _=>simp at hl
  | cons c l ih=>
   intro a hl hh
   cases a with
   | nil=>simp at hl
   | cons v a=>
    obtain ⟨c',u,e1,e2⟩:=hh 0 v (by simp)
    simp at e1;subst e1
    refine .cons ⟨u,e2⟩ (ih a (by simpa using hl) fun j v' e=>?_)
    obtain ⟨c',u,e1,e2⟩:=hh (j+1) v' (by simpa using e)
    exact ⟨c',u,by simpa using e1,e2⟩
 refine key x.cps.toList acc.toList (by simp [h1]) fun j v e=>?_
 obtain ⟨c,u,e1,e2⟩:=h2 j v (by simpa using e)
 exact ⟨c,u,by simpa using e1,e2⟩
theorem vI (hc:X.calm=true):CallR X (.type "list") (fun xs H Q=>∃ x,xs=[.str x]∧x.cps.size≤sizeLine∧∀ p,H p=none→Q (.ref p) (upd H p (.lst (sgn x)))):=by
 intro pins s σ H xs us Q I r h
 obtain ⟨x,rfl,hz,q⟩:=h
 obtain ⟨u,rfl,t,rfl⟩:=vals1 r
 refine call_list_str (I.ok.hd hc) x t (hn:=hz) fun h' tk acc' c' hk hS hacc=>?_
 refine ⟨.ref s.heap.objs.size,_,I.laid (o:=.lst (sgn x)) hk (Nat.le_refl _) ⟨by simp [sgn];exact hz,acc'.toList,c',uh hacc,by simpa using hS⟩,rfl,q _ I.fresh⟩
theorem uL (hc:X.calm=true):CallR X (.type "tuple") (fun xs H Q=>∃ x,xs=[.str x]∧x.cps.size≤sizeLine∧∀ p,H p=none→Q (.ref p) (upd H p (.tup (sgn x)))):=by
 intro pins s σ H xs us Q I r h
 obtain ⟨x,rfl,hz,q⟩:=h
 obtain ⟨u,rfl,t,rfl⟩:=vals1 r
 refine call_tuple_str (I.ok.hd hc) x t (hsz:=hz) fun h' tk acc hk hacc=>?_
 have J:Inv X pins σ H {s with heap:=h',toks:=tk}:=I.kept hk
 refine ⟨.ref h'.objs.size,_,J.laid (t':=tk) (o:=.tup (sgn x)) (fun b o e=>Heap.get?_push_of_some _ e) (Nat.le_refl _) ⟨by simp [sgn];exact hz,acc.toList,uh hacc,⟨_,Heap.get?_push_size _ rfl,rfl,0,by simp⟩⟩,rfl,q _ J.fresh⟩
def Mx (K:PySem.W.Frag):List V→Hp→VK→Prop:=fun xs H Q=>∃ x T t b,xs=[x,.ty T]∧TyOf K H x t∧PySem.W.kitOne K t (.type T)=some b∧Q (.bl b) H
theorem Dw:CallR X (.builtin "isinstance") (Mx X.K):=by
 intro pins s σ H xs us Q I r h
 obtain ⟨x,T,t,b,rfl,ty,e,q⟩:=h
 obtain ⟨u,v,rfl,ru,rv⟩:=vals2 r
 cases rv
 exact z8 I ru ty e fun tk=>⟨.bl b,H,I.tok _,rfl,q⟩
def xM:List V→List V→Bool
 | [],[]=>true
 | x :: xs,y :: ys=>yN x y && xM xs ys
 | _,_=>false
theorem rB:∀ (xs ys:List V),xs.length=ys.length→(List.range xs.length).all (fun j=>yN (xs.getD j .non) (ys.getD j .non))=xM xs ys
 | [],[],_=>rfl
 | x :: xs,y :: ys,h=>by
  have ih:=rB xs ys (by simpa using h)
  rw [List.length_cons,List.range_succ_eq_map,List.all_cons,List.all_map]
  simp only [xM]
  rw [← ih]
  rfl
 | [],y :: ys,h=>by simp at h
 | x :: xs,[],h=>by simp at h
theorem vJ:∀ {xs ys:List V},xs.length≠ys.length→xM xs ys=false
 | [],[],h=>absurd rfl h
 | [],y :: ys,_=>rfl
 | x :: xs,[],_=>rfl
 | x :: xs,y :: ys,h=>by simp [xM,vJ (xs:=xs) (ys:=ys) (by simpa using h)]
def QX (K:PySem.W.Frag) (neg:Bool):R2:=fun x y H Q=>∃ a b xs ys,x= .ref a∧y= .ref b∧SqL K H a xs∧SqL K H b ys∧xs.all dZ=true∧ys.all dZ=true∧Q (.bl (if neg then !xM xs ys else xM xs ys)) H
theorem Ai (hu:X.A.units < cLine):OpR X (compareOp .Eq) (QX X.K false):=by
 intro pins s σ H x y v u Q I rx ry h
 obtain ⟨a,b,xs,ys,rfl,rfl,ha,hb,fx,fy,q⟩:=h
 cases rx
 cases ry
 obtain ⟨its,r1,p1,z1⟩:=I.list ha
 obtain ⟨jts,r2,p2,z2⟩:=I.list hb
 have l1:its.toArray.size=xs.length:=by simpa using r1.length.symm
 have l2:jts.toArray.size=ys.length:=by simpa using r2.length.symm
 by_cases hl:xs.length=ys.length
 ·refine SeqAt.eq_listAt (e:=fun j=>yN (xs.getD j .non) (ys.getD j .non)) p1.isList p2.isList (by rw [l1,l2];exact hl) hu (fun j h1 h2=>?_) ?_
  ·have h1':j < xs.length:=by omega
   have h2':j < ys.length:=by omega
   obtain ⟨u1,e1,q1⟩:=r1.get (List.getElem?_eq_getElem h1')
   obtain ⟨u2,e2,q2⟩:=r2.get (List.getElem?_eq_getElem h2')
   have e1':its.toArray[j]=u1:=by
    have:=List.getElem?_eq_some_iff.mp e1
    obtain ⟨_,z⟩:=this
    simpa using z
   have e2':jts.toArray[j]=u2:=by
    have:=List.getElem?_eq_some_iff.mp e2
    obtain ⟨_,z⟩:=this
    simpa using z
   rw [e1',e2']
   have g1:xs.getD j .non=xs[j]:=by rw [List.getD_eq_getElem?_getD,List.getElem?_eq_getElem h1'];rfl
   have g2:ys.getD j .non=ys[j]:=by rw [List.getD_eq_getElem?_getD,List.getElem?_eq_getElem h2'];rfl
   show SeqAt.EqAt X.A.in1 s u1 u2 (yN (xs.getD j .non) (ys.getD j .non))
   rw [g1,g2]
   exact qY q1 q2 (List.all_eq_true.mp fx _ (List.getElem_mem h1')) (List.all_eq_true.mp fy _ (List.getElem_mem h2'))
  ·rw [l1,rB xs ys hl]
   exact ⟨.bl _,H,I,rfl,q⟩
 ·refine SeqAt.eq_list_lengthsAt p1.isList p2.isList (by rw [l1,l2];simpa using hl) hu ?_
  rw [if_neg (by simp),vJ hl] at q
  exact ⟨.bl false,H,I,rfl,q⟩
end
end L2
namespace L2
open PySem PySem.Spec PyProof.Rows
def f9 (K:PySem.W.Frag) (mg:Str→Option Value) (x:Str) (st:Stmt):Prop:=∃ f fd,Fun K x x st f fd∧mg x=some (.ref f)
theorem bV {K:PySem.W.Frag} {mg:Str→Option Value} {h:Heap} (X:K.In h) (G:h.Ns mainGlobals mg) {x:Str} {st:Stmt} {f:Addr} {oc:Value} {od an:Option Addr} {osl:Array (Option Value)} {kV doc pm cdv ct:Value}
  (a:PySem.W.nsIn K mainGlobals x=some (some (.ref f)))
  (l:K.lookup f=some ⟨oc,od,.func (PySem.W.fnOf x x (fU st) (cI st) (aq st) .none kV doc pm an cdv ct),osl⟩)
  (c:PySem.W.codeIn K cdv x=true) (k:PySem.W.keepIn K (.ref f)=true):f9 K mg x st:=⟨f,_,Dl l c k,PySem.W.mg_of X G a⟩
def qu (P:Program) (w:World) (K:PySem.W.Frag) (mg:Str→Option Value) (base:Heap) (k:Nat) (x:Str) (ps:List Str) (sp:Sp):Prop:=
 ∃ f fd,mg x=some (.ref f)∧PySem.W.keepIn K (.ref f)=true∧Binds K fd ps []∧oH P w K mg base xG k f fd ps sp
section
variable {P:Program} {w:World} {K:PySem.W.Frag} {mg:Str→Option Value} {base:Heap}
theorem Mz {x:Str} {st:Stmt} {N ps:List Str} {k:Nat} {sp:Sp} (D:f9 K mg x st) (S:aO N ps (aq st))
  (hb:∀ (kV doc pm:Value) (an:Option Addr) (cdv ct:Value) (us:List Value),us.length=ps.length→bindArgs (PySem.W.fnOf x x (fU st) (cI st) (aq st) .none kV doc pm an cdv ct) ⟨us,[]⟩=pure (ps.zip us))
  (len:∀ vs H Q E,sp vs H Q E→vs.length=ps.length)
  (hbody:∀ (f:Addr) (cdv:Value) (A:Around) (outer:List Env) (s:Shared) (H:Hp) (vs:List V) (Q:VK) (E:XK),Room k (A.deeper (envOfC x (aq st) s.heap.objs.size f cdv))→sp vs H Q E→
   ∃ t,PSs (mR xG P w K mg base N x (aq st) f cdv A outer s H E).nox (cI st) t∧t {nx:=fun _ H'=>Q .non H',rt:=Q} (start N vs) H):qu P w K mg base (k+1) x ps sp:=by
 obtain ⟨f,fd,F,hm⟩:=D
 exact ⟨f,fd,hm,F.kp,F.binds hb,F.ok S len fun cdv A outer s H vs Q E hr h=>hbody f cdv A outer s H vs Q E hr h⟩
end
section
variable {X:Cx}
theorem Dy {k:Nat} {x:Str} {ps:List Str} {sp:Sp} {p pos:Pos} {e:Expr} {es:List Expr} {t:TA} (F:qu X.prog X.w X.K X.mg X.base k x ps sp) (hr:Room k X.A) (hg:Gl X x)
  (ha:PA X (e :: es) t) (hdb:autoParam ((x == ("__debug__":Str))=false) L2.auto2._auto_1) (he:autoParam (starEach (e :: es) X.env=(false,eval e X.env) :: starEach es X.env) L2.auto4._auto_1) (hpl:autoParam ((backTo pos (starEach es X.env)).any (·.1)=false) L2.auto4._auto_1):
  PE X (.Call (.Name x p) (e :: es) [] pos) (tR sp [] E0 t):=by
 obtain ⟨f,fd,a,b,c,d⟩:=F
 exact Ho d hr hg a b c .nil QS ha hdb he hpl
def yR:R2:=fun x y H Q=>(∃ i j,x= .int i∧y= .int j∧Q (.int (i+j)) H)∨(∃ i j,x= .str i∧y= .str j∧i.length+j.length≤sizeLine∧Q (.str (i ++ j)) H)∨QQ x y H Q
theorem aP:OpR X (binaryOp .Add) yR:=Lz.or (xm.or Mt)
def Dz:R2:=fun x y H Q=>(∃ i j,x= .int i∧y= .int j∧CMul i j∧Q (.int (i*j)) H)∨Kc x y H Q∨QR x y H Q
theorem iB:OpR X (binaryOp .Mult) Dz:=LC.or (xK.or Mu)
theorem DG {x:Str} {z:Int} {pos:Pos} (hg:Gl X x) (hm:∃ t,X.mg x=some (.int z t)) (hd:autoParam ((x == ("__debug__":Str))=false) L2.auto2._auto_1):PE X (.Name x pos) (tC (.int z)):=
 let ⟨t,e⟩:=hm;yD hg e ⟨t,rfl⟩ hd
theorem QZ {x:Str} {T:String} {pos:Pos} (hg:Gl X x) (hm:X.mg x=none) (hv:bootBuiltins x=some (.type T)) (hn:autoParam (x≠"__name__") L2.auto2._auto_1) (hd:autoParam ((x == ("__debug__":Str))=false) L2.auto2._auto_1):PE X (.Name x pos) (tC (.ty T)):=
 GR hg hm hv rfl hn hd
def MF (K:PySem.W.Frag):R2:=fun x y H Q=>(∃ i j,x= .str i∧y= .str j∧Q (.bl (!(Builtin.Str.occurrences j i 0 j.length 1).isEmpty)) H)∨rIn K false x y H Q
theorem MJ:OpR X (compareOp .In) (MF X.K):=zV.or Ac
def MK (K:PySem.W.Frag):R2:=fun x y H Q=>rEq x y H Q∨QX K false x y H Q
theorem MN (hu:X.A.units < cLine):OpR X (compareOp .Eq) (MK X.K):=Qy.or (Ai hu)
def rSl (K:PySem.W.Frag):V→Option Int→Option Int→Hp→VK→Prop:=fun x lo hi H Q=>QJ K x lo hi H Q∨QC K x lo hi H Q∨QW x lo hi H Q
theorem MP:SlR X (rSl X.K):=Hu.or (Mj.or Mw)
def Hx (K:PySem.W.Frag) (tl:TE):TI:=fun σ H R=>tl σ H fun x H1=>(∃ a,x= .ref a∧(∃ xs,SqL K H1 a xs)∧R (Hd K a) H1)∨(∃ a,x= .ref a∧(∃ xs,SqT K H1 a xs)∧R (JV K a) H1)∨(∃ z,x= .str z∧R (Ui z) H1)
theorem MT {tg l:Expr} {tl:TE} (hl:PE X l tl):PI X tg l (Hx X.K tl):=by
 intro pins s σ H R I h
 refine dD (hl pins s σ H _ I h) fun v s1 qq0=>?_
 obtain ⟨x,H1,I1,r1,q1⟩:=qq0
 rcases q1 with ⟨a,rfl,⟨xs,hq⟩,q⟩ | ⟨a,rfl,⟨xs,hq⟩,q⟩ | ⟨z,rfl,q⟩
 ·cases r1
  obtain ⟨its,rv,p,hz⟩:=I1.list hq
  refine wpAny_pyIter_list p.isList ?_
  refine ⟨s1.heap.objs.size,[s1.heap.objs.size],_,_,H1,rfl,I1.kept (t':=s1.toks) fun b o e=>Heap.get?_push_of_some _ e,zQ a _,⟨_,Heap.get?_push_size _ rfl,rfl,rfl⟩,fun b hb=>?_,q⟩
  have e:b=s1.heap.objs.size:=by simpa using hb
  subst e
  exact I1.fpOk (Nat.le_refl _) (I1.hok.fresh (Nat.le_refl _))
 ·cases r1
  obtain ⟨its,rv,p,hz⟩:=I1.tuple hq
  refine wpAny_pyIter_tuple (show s1.heap.IsTuple a its.toArray from p) ?_
  refine ⟨s1.heap.objs.size,[s1.heap.objs.size],_,_,H1,rfl,I1.kept (t':=s1.toks) fun b o e=>Heap.get?_push_of_some _ e,xf a _,⟨_,Heap.get?_push_size _ rfl,rfl,rfl⟩,fun b hb=>?_,q⟩
  have e:b=s1.heap.objs.size:=by simpa using hb
  subst e
  exact I1.fpOk (Nat.le_refl _) (I1.hok.fresh (Nat.le_refl _))
 ·obtain ⟨t,rfl⟩:=r1
  have fin:∀ (ty:String) (T:Turn X.prog X.w X.K tg (Ui z) [s1.heap.objs.size] s1.heap.objs.size (fun i h=>h.IsStrIter s1.heap.objs.size ty z t i)) (o:Obj),(s1.heap.push o).IsStrIter s1.heap.objs.size ty z t 0→PIE X pins σ tg R (.ref s1.heap.objs.size) {s1 with heap:=s1.heap.push o}:=
   fun ty T o st=>⟨s1.heap.objs.size,[s1.heap.objs.size],_,_,H1,rfl,I1.kept (t':=s1.toks) fun b o e=>Heap.get?_push_of_some _ e,T,st,fun b hb=>by
    have e:b=s1.heap.objs.size:=by simpa using hb
    subst e
    exact I1.fpOk (Nat.le_refl _) (I1.hok.fresh (Nat.le_refl _)),q⟩
  cases ha:z.cps.all (· < 128)
  ·exact wpAny_pyIter_wide ha (fin "str_iterator" (vH _ z t _ (by decide) (fun A' hA=>Walks.strWide hA _ z t) fun A i s Q E st h=>wpAny_pyIter_striter_wide st h) _ ⟨_,Heap.get?_push_size _ rfl,rfl,rfl⟩)
  ·exact wpAny_pyIter_ascii ha (fin "str_ascii_iterator" (vH _ z t _ (by decide) (fun A' hA=>Walks.strAscii hA _ z t) fun A i s Q E st h=>wpAny_pyIter_striter_ascii st h) _ ⟨_,Heap.get?_push_size _ rfl,rfl,rfl⟩)
end
section
variable {X:Cx} {K:PySem.W.Frag}
theorem Hy (hK:X.K=K):IxR X (Qi K):=hK ▸ Mp
theorem M5 (hK:X.K=K):OpR X (compareOp .In) (MF K):=hK ▸ MJ
theorem M6 (hK:X.K=K) (hu:X.A.units < cLine):OpR X (compareOp .Eq) (MK K):=hK ▸ MN hu
theorem Hz {tg l:Expr} {tl:TE} (hK:X.K=K) (hl:PE X l tl):PI X tg l (Hx K tl):=hK ▸ MT hl
def DK (K:PySem.W.Frag):List V→Hp→VK→Prop:=fun xs H Q=>∃ x n,xs=[x]∧QB K x H n∧Q (.int n) H
theorem aF (hK:X.K=K):CallR X (.builtin "len") (DK K):=hK ▸ CQ
theorem bN (hK:X.K=K):CallR X (.builtin "isinstance") (Mx K):=hK ▸ Dw
def M7 (K:PySem.W.Frag):List V→Hp→VK→Prop:=fun xs H Q=>(∃ p ys,xs=[.ref p]∧(SqL K H p ys∨SqT K H p ys)∧∀ l,H l=none→Q (.ref l) (upd H l (.lst ys)))∨(∃ x,xs=[.str x]∧x.cps.size≤sizeLine∧∀ p,H p=none→Q (.ref p) (upd H p (.lst (sgn x))))
theorem gZ (hK:X.K=K) (hc:X.calm=true):CallR X (.type "list") (M7 K):=hK ▸ uI.or (vI hc)
def Q0 (K:PySem.W.Frag):List V→Hp→VK→Prop:=fun xs H Q=>(∃ p ys,xs=[.ref p]∧((SqL K H p ys∧∀ l,H l=none→Q (.ref l) (upd H l (.tup ys)))∨(SqT K H p ys∧Q (.ref p) H)))∨(∃ x,xs=[.str x]∧x.cps.size≤sizeLine∧∀ p,H p=none→Q (.ref p) (upd H p (.tup (sgn x))))
theorem iC (hK:X.K=K) (hc:X.calm=true):CallR X (.type "tuple") (Q0 K):=hK ▸ sW.or (uL hc)
variable {o e:Expr} {es:List Expr} {to:TE} {t:TA} {name:Str} {apos cpos:Pos} {T id:String} {r:V→List V→Hp→VK→Prop}
theorem HF (hK:X.K=K) (pa:PlainAttrs T) (slot:Slot T name id) (hty:typeOf (.builtin id)=pure (.type "method_descriptor")) (hm:J7 X id r) (ho:PE X o to)
  (hbase:autoParam (attributeBase o name X.env (eval o X.env)=eval o X.env) L2.auto4._auto_1) (hline:autoParam ((apos.endLine == cpos.line)=true) L2.auto4._auto_1):PE X (.Call (.Attribute o name apos) [] [] cpos) (Dg K T r to):=by
 subst hK;exact Mq pa slot hty hm ho hbase hline
theorem M8 (hK:X.K=K) (pa:PlainAttrs T) (slot:Slot T name id) (hty:typeOf (.builtin id)=pure (.type "method_descriptor")) (hm:J7 X id r) (ho:PE X o to) (ha:PA X (e :: es) t)
  (hbase:autoParam (attributeBase o name X.env (eval o X.env)=eval o X.env) L2.auto4._auto_1)
  (hfew:((backTo cpos (starEach (e :: es) X.env)).all (fun x=>!x.1) && (backToKw cpos (keywordEach [] X.env)).all (fun x=>x.1.isSome)
   && decide ((e :: es).length+([]:List Keyword).length+(if ([]:List Keyword).isEmpty then 0 else 1) < 30))=true:=by rfl)
  (hline:autoParam ((apos.endLine == cpos.line)=true) L2.auto4._auto_1) (hs:autoParam (starEach (e :: es) X.env=(false,eval e X.env) :: starEach es X.env) L2.auto4._auto_1) (hplain:autoParam ((backTo cpos (starEach es X.env)).any (·.1)=false) L2.auto4._auto_1):
  PE X (.Call (.Attribute o name apos) (e :: es) [] cpos) (QL K T r to t):=by
 subst hK;exact QM pa slot hty hm ho ha hbase hfew hline hs hplain
theorem HH {ts:List Expr} {k:Nat} {gs:w5} {n:Nat} {pos:Pos} (hK:X.K=K) (hc:X.calm=true) (h:Qh X ts gs)
  (hn:autoParam ((assignEach ts X.env).length=n) L2.auto4._auto_1) (hst:autoParam ((assignEach ts X.env).findIdx? (·.1)=none) L2.auto4._auto_1):PG X (.Tuple ts k pos) (Hc K n gs):=by
 subst hK;exact Cv hc h hn hst
end
section
variable {X:Cx} {sc scope:Scope} {N':List Str} {C:Addr} {s₀:Shared} {H₀:Hp} {ex:List Addr} {x:Str} {pos:Pos}
theorem pvL (i:Nat) (h:sc.names.lookup x=some .local) (hN:autoParam (X.N[i]?=some x) L2.auto4._auto_1) (hsc:autoParam (X.env.scope=sc) L2.auto4._auto_1) (hd:autoParam ((x == ("__debug__":Str))=false) L2.auto6._auto_1) (hcd:autoParam ((x == ("__classdict__":Str))=false) L2.auto6._auto_1):
  PE X (.Name x pos) (qm i):=uB hN (.inl (by rw [hsc];exact h)) hd hcd
theorem pvC (i:Nat) (h:sc.names.lookup x=some .cell) (hN:autoParam (X.N[i]?=some x) L2.auto4._auto_1) (hsc:autoParam (X.env.scope=sc) L2.auto4._auto_1) (hd:autoParam ((x == ("__debug__":Str))=false) L2.auto6._auto_1) (hcd:autoParam ((x == ("__classdict__":Str))=false) L2.auto6._auto_1):
  PE X (.Name x pos) (qm i):=uB hN (.inr (.inl (by rw [hsc];exact h))) hd hcd
theorem pvBL (i:Nat) (h:scope.names.lookup x=some .local) (hN:autoParam (N'[i]?=some x) L2.auto4._auto_1) (hd:autoParam ((x == ("__debug__":Str))=false) L2.auto6._auto_1) (hcd:autoParam ((x == ("__classdict__":Str))=false) L2.auto6._auto_1):
  PE (lC X N' scope C s₀ H₀ ex) (.Name x pos) (qm i):=uB hN (.inl (lookup_relabel_local h)) hd hcd
theorem pvBF (i:Nat) (h:scope.names.lookup x=some .free) (hN:autoParam (N'[i]?=some x) L2.auto4._auto_1) (hd:autoParam ((x == ("__debug__":Str))=false) L2.auto6._auto_1) (hcd:autoParam ((x == ("__classdict__":Str))=false) L2.auto6._auto_1):
  PE (lC X N' scope C s₀ H₀ ex) (.Name x pos) (qm i):=uB hN (by
   rcases jk (env:=X.env) h with z | z
   ·exact .inr (.inl z)
   ·exact .inr (.inr z)) hd hcd
theorem aW (h:sc.names.lookup x=some .globalImplicit) (hsc:autoParam (X.env.scope=sc) L2.auto4._auto_1):Gl X x:=by
 show X.env.scope.names.lookup x=_
 rw [hsc];exact h
theorem gH {env:Env}:∀ {names:List (Str×NameKind)} {x:Str},names.lookup x=some .globalImplicit→
  (names.map fun (n,k)=>if (k == NameKind.free && env.scope.kind == .function && env.kindOf n == some .cell) then (n,NameKind.cell) else (n,k)).lookup x=some .globalImplicit
 | [],_,h=>by simp at h
 | (n,k) :: r,x,h=>by
  have ih:=@gH env r x
  show List.lookup x ((if (k == NameKind.free && env.scope.kind == .function && env.kindOf n == some .cell)=true then (n,NameKind.cell) else (n,k)) :: _)=_
  cases hx:x == n with
  | true=>
   simp only [List.lookup_cons,hx] at h
   cases h
   simp [List.lookup_cons,hx]
  | false=>
   simp only [List.lookup_cons,hx] at h
   by_cases hc:(k == NameKind.free && env.scope.kind == .function && env.kindOf n == some .cell)=true
   ·rw [if_pos hc];simp only [List.lookup_cons,hx];exact ih h
   ·rw [if_neg hc];simp only [List.lookup_cons,hx];exact ih h
theorem M9 (h:scope.names.lookup x=some .globalImplicit):Gl (lC X N' scope C s₀ H₀ ex) x:=gH h
theorem pgB (i:Nat) (h:scope.names.lookup x=some .local) (hN:N'.Nodup) (hi:autoParam (N'[i]?=some x) L2.auto4._auto_1):PG (lC X N' scope C s₀ H₀ ex) (.Name x pos) (jL i):=
 uC hN hi (.inl (lookup_relabel_local h)) (.inr (lookup_relabel_local h))
end
def iD:Expr→Bool
 | .ListComp ..=>false | .SetComp ..=>false | .DictComp ..=>false | _=>true
theorem vK {value:Expr} {target:Option Expr} {line:Nat} {env:Env} (h:iD value=true):swapsWith value target line env=pure false:=by
 cases value <;> first | rfl | cases h
def mZ:Expr→Bool
 | .Slice ..=>false | _=>true
theorem pix {b:Expr} (h:mZ b=true):yM b:=by
 intro o i
 cases b <;> first | rfl | cases h
def oJ:Expr→Bool
 | .Set ..=>false | _=>true
theorem DN {e:Expr} {env:Env} (h:oJ e=true):∀ x,foldedSetIterable e env x=pure x:=by
 intro x
 cases e <;> first | rfl | cases h
def notStar:Expr→Bool
 | .Starred ..=>false | _=>true
theorem cz {e:Expr} {es:List Expr} {env:Env} (h:notStar e=true):starEach (e :: es) env=(false,eval e env) :: starEach es env:=by
 cases e <;> first | rfl | cases h
theorem jl {env:Env} {pos:Pos}:∀ {es:List Expr},es.all notStar=true→(backTo pos (starEach es env)).any (·.1)=false
 | [],_=>rfl
 | e :: es,h=>by
  simp only [List.all_cons,Bool.and_eq_true] at h
  rw [cz h.1]
  show (false || (backTo pos (starEach es env)).any (·.1))=false
  rw [jl h.2];rfl
theorem DP {env:Env} {pos:Pos}:∀ {es:List Expr},es.all notStar=true→(backTo pos (starEach es env)).all (fun x=>!x.1)=true
 | [],_=>rfl
 | e :: es,h=>by
  simp only [List.all_cons,Bool.and_eq_true] at h
  rw [cz h.1]
  show (true && (backTo pos (starEach es env)).all (fun x=>!x.1))=true
  rw [DP h.2];rfl
section
variable {X:Cx} {K:PySem.W.Frag} {e:Expr} {es:List Expr} {te:TE} {t:TA} {pos p:Pos}
theorem paC (ha:PE X e te) (hr:PA X es t) (h:autoParam (notStar e=true) L2.auto4._auto_1):PA X (e :: es) (yJ te t):=Hl ha hr (cz h)
theorem Q3 {k:Nat} {x:Str} {ps:List Str} {sp:Sp} (F:qu X.prog X.w X.K X.mg X.base k x ps sp) (hr:Room k X.A) (hg:Gl X x) (ha:PA X (e :: es) t) (hdb:(x == ("__debug__":Str))=false) (h:autoParam ((e :: es).all notStar=true) L2.auto4._auto_1):
  PE X (.Call (.Name x p) (e :: es) [] pos) (tR sp [] E0 t):=by
 simp only [List.all_cons,Bool.and_eq_true] at h
 exact Dy F hr hg ha hdb (cz h.1) (jl h.2)
theorem Q4 {x:Str} {id:String} {r:List V→Hp→VK→Prop} (hc:CallR X (.builtin id) r) (hg:Gl X x) (hm:X.mg x=none) (hv:bootBuiltins x=some (.builtin id)) (ha:PA X (e :: es) t) (hn:x≠"__name__") (hdb:(x == ("__debug__":Str))=false) (h:autoParam ((e :: es).all notStar=true) L2.auto4._auto_1):
  PE X (.Call (.Name x p) (e :: es) [] pos) (Mh r t):=by
 simp only [List.all_cons,Bool.and_eq_true] at h
 exact CV hc hg hm hv ha hn hdb (cz h.1) (jl h.2)
theorem Nb {x:Str} {T:String} {r:List V→Hp→VK→Prop} (hc:CallR X (.type T) r) (hg:Gl X x) (hm:X.mg x=none) (hv:bootBuiltins x=some (.type T)) (ha:PA X (e :: es) t) (hn:x≠"__name__") (hdb:(x == ("__debug__":Str))=false) (h:autoParam ((e :: es).all notStar=true) L2.auto4._auto_1):
  PE X (.Call (.Name x p) (e :: es) [] pos) (Mh r t):=by
 simp only [List.all_cons,Bool.and_eq_true] at h
 exact Ab hc hg hm hv ha hn hdb (cz h.1) (jl h.2)
def lD:Expr→Bool
 | .Call ..=>false | _=>true
theorem Ke {o:Expr} {f:Str} {env:Env} {w:Sem Value} (h:lD o=true):attributeBase o f env w=w:=by
 cases o <;> first | rfl | cases h
theorem Q5 {o:Expr} {to:TE} {name:Str} {apos cpos:Pos} {T id:String} {r:V→List V→Hp→VK→Prop} (hK:X.K=K) (pa:PlainAttrs T) (slot:Slot T name id) (hty:typeOf (.builtin id)=pure (.type "method_descriptor")) (hm:J7 X id r) (ho:PE X o to) (ha:PA X (e :: es) t)
  (hbase:autoParam (lD o=true) L2.auto4._auto_1) (hl:autoParam (es.length < 20) L2.auto2._auto_1) (hline:autoParam ((apos.endLine == cpos.line)=true) L2.auto4._auto_1) (h:autoParam ((e :: es).all notStar=true) L2.auto4._auto_1):
  PE X (.Call (.Attribute o name apos) (e :: es) [] cpos) (QL K T r to t):=by
 have hA:=DP (env:=X.env) (pos:=cpos) h
 simp only [List.all_cons,Bool.and_eq_true] at h
 refine M8 hK pa slot hty hm ho ha (Ke hbase) ?_ hline (cz h.1) (jl h.2)
 rw [hA]
 have:(e :: es).length+([]:List Keyword).length+(if ([]:List Keyword).isEmpty then 0 else 1) < 30:=by simp;omega
 rw [decide_eq_true this];rfl
theorem Nf {o:Expr} {to:TE} {name:Str} {apos cpos:Pos} {T id:String} {r:V→List V→Hp→VK→Prop} (hK:X.K=K) (pa:PlainAttrs T) (slot:Slot T name id) (hty:typeOf (.builtin id)=pure (.type "method_descriptor")) (hm:J7 X id r) (ho:PE X o to)
  (hbase:autoParam (lD o=true) L2.auto4._auto_1) (hline:autoParam ((apos.endLine == cpos.line)=true) L2.auto4._auto_1):PE X (.Call (.Attribute o name apos) [] [] cpos) (Dg K T r to):=
 HF hK pa slot hty hm ho (Ke hbase) hline
theorem Q6 {i:Nat} {x:Str} {pos':Pos} (hN:X.N.Nodup) (hi:X.N[i]?=some x) (hx:Loc X.env.scope x) (he:PE X e te) (hf:X.fn x=true) (h:autoParam (iD e=true) L2.auto4._auto_1):PS X (.Assign [.Name x pos'] e pos) (uD te (jL i)):=
 Cy hN hi hx he (vK h) (.inl hf)
theorem Ng (he:PE X e te) (h:autoParam (iD e=true) L2.auto4._auto_1):PS X (.Expr e pos) (yE te):=G9 he (vK h)
theorem ixE {a b:Expr} {ta tb:TE} (hK:X.K=K) (ha:PE X a ta) (hb:PE X b tb) (h:autoParam (mZ b=true) L2.auto4._auto_1):PE X (.Subscript a b pos) (GJ (Qi K) ta tb):=QD (Hy hK) ha hb (pix h)
theorem Q7 {tg iter:Expr} {body:List Stmt} {wi:TI} {g:TG} {tb:TS} (hp:PassesOwn (model X.prog X.w) X.A X.env X.xe) (hc:X.calm=true) (hi:PI X tg iter wi) (hg:PG X tg g) (hb:PSs X body tb) (h:autoParam (oJ iter=true) L2.auto4._auto_1):PS X (.For tg iter body [] pos) (Hf wi g tb):=
 Lw hp hc hi hg hb (DN h)
end
section
variable {X:Cx} {tg iter elt:Expr} {ifs:List Expr} {scope:Scope} {pos:Pos} {N':List Str} {sub:List (Option Nat)} {wi:TI} {g:TG} {tt:TT} {te:TE} {N:List Str} {sc:Scope}
theorem Q8 (S:lQ N sc N' scope sub) (hc:X.calm=true) (hN:X.N=N) (hsc:X.env.scope=sc) (hi:PI X tg iter wi)
  (hg:∀ (C:Addr) (s₀:Shared) (H₀:Hp) (ex:List Addr),PG (lC X N' scope C s₀ H₀ ex) tg g)
  (ht:∀ (C:Addr) (s₀:Shared) (H₀:Hp) (ex:List Addr),uJ (lC X N' scope C s₀ H₀ ex) ifs tt)
  (he:∀ (C:Addr) (s₀:Shared) (H₀:Hp) (ex:List Addr),PE (lC X N' scope C s₀ H₀ ex) elt te) (h:autoParam (oJ iter=true) L2.auto4._auto_1):
  PE X (.ListComp elt [⟨tg,iter,ifs,0⟩] scope pos) (rz sub wi g tt te):=yP S hc hN hsc hi hg ht he (DN h)
end
theorem bu:bootBuiltins "len"=some (.builtin "len"):=by decide+kernel
theorem Nh:bootBuiltins "max"=some (.builtin "max"):=by decide+kernel
theorem Ni:bootBuiltins "min"=some (.builtin "min"):=by decide+kernel
theorem aK:bootBuiltins "isinstance"=some (.builtin "isinstance"):=by decide+kernel
theorem Nj:bootBuiltins "all"=some (.builtin "all"):=by decide+kernel
theorem Aj:bootBuiltins "sorted"=some (.builtin "sorted"):=by decide+kernel
theorem cF:bootBuiltins "list"=some (.type "list"):=by decide+kernel
theorem jN:bootBuiltins "tuple"=some (.type "tuple"):=by decide+kernel
theorem xN:bootBuiltins "int"=some (.type "int"):=by decide+kernel
theorem uM:bootBuiltins "enumerate"=some (.type "enumerate"):=by decide+kernel
theorem Nk:bootBuiltins "zip"=some (.type "zip"):=by decide+kernel
theorem pH:bootBuiltins "reversed"=some (.type "reversed"):=by decide+kernel
theorem qC:bootBuiltins "bool"=some (.type "bool"):=by decide+kernel
theorem iy {c A B:Prop} [Decidable c] (h1:c→A) (h2:¬ c→B):if decide c=true then A else B:=by
 by_cases h:c
 ·rw [if_pos (decide_eq_true h)];exact h1 h
 ·rw [if_neg (by rw [decide_eq_false h];exact Bool.false_ne_true)];exact h2 h
theorem yS {α:Type} {xs:List α} {k:Int} {v:α} (h0:0≤k) (h:xs[k.toNat]?=some v):tY xs k=some v:=by
 have e:((k.toNat:Nat):Int)=k:=by omega
 rw [← e]
 exact bZ h
end L2
namespace L2
open PySem PySem.Spec PyProof.Rows
section
variable {σ:St} {H:Hp} {D:Ends} {ta tb te tc:TE} {tt tu:TT} {Q:VK} {t u:TS} {g:TG}
theorem vL (h:t {D with nx:=u D} σ H):GX t u D σ H:=h
theorem jO (h:D.nx σ H):Cp D σ H:=h
theorem pI (h:te σ H fun x H1=>g x σ H1 D.nx):uD te g D σ H:=h
theorem jP {i:Nat} {v:V} {R:St→Hp→Prop} (h:R (σ.set i (some v)) H):jL i v σ H R:=h
theorem pJ {to ti:TE} {ts:w6} {v:V} {R:St→Hp→Prop} (h:to σ H fun o H1=>ti σ H1 fun i H2=>ts o i v H2 fun H3=>R σ H3):Lr to ti ts v σ H R:=h
theorem pK (h:te σ H D.rt):Lk te D σ H:=h
theorem jQ (h:te σ H fun _ H1=>D.nx σ H1):yE te D σ H:=h
theorem vM (h:tt σ H fun b H1=>if b=true then t D σ H1 else u D σ H1):Lp tt t u D σ H:=h
theorem jR {R:Bool→Hp→Prop} (h:te σ H fun x H1=>∃ k,x= .bl k∧R k H1):vo te σ H R:=h
theorem vN {R:Bool→Hp→Prop} (h:te σ H fun x H1=>∃ k,x= .bl k∧R k H1):tB te σ H R:=h
theorem pL {R:Bool→Hp→Prop} (h:tt σ H fun c H1=>R (!c) H1):Le tt σ H R:=h
theorem vO {R:Bool→Hp→Prop} (h:tt σ H fun c H1=>if c=true then R true H1 else tu σ H1 R):tOr tt tu σ H R:=h
theorem jT (h:ta σ H fun x H1=>∃ c,x= .bl c∧if c=true then tb σ H1 Q else Q (.bl false) H1):Cj ta tb σ H Q:=h
theorem jU (h:ta σ H fun x H1=>∃ c,x= .bl c∧Q (.bl (!c)) H1):Ck ta σ H Q:=h
theorem pM (h:tt σ H fun c H1=>if c=true then ta σ H1 Q else tb σ H1 Q):tIf tt ta tb σ H Q:=h
theorem pN {i:Nat} {v:V} (e:σ[i]?=some (some v)) (h:Q v H):qm i σ H Q:=⟨v,e,h⟩
theorem Kf {v:V} (h:Q v H):tC v σ H Q:=h
theorem vP {r:R2} (h:ta σ H fun x H1=>tb σ H1 fun y H2=>r x y H2 Q):GJ r ta tb σ H Q:=h
theorem vQ {r:V→Hp→VK→Prop} (h:ta σ H fun x H1=>r x H1 Q):tUn r ta σ H Q:=h
theorem vR {r:List V→Hp→VK→Prop} {a:TA} (h:a σ H fun vs H1=>r vs H1 Q):Mh r a σ H Q:=h
theorem jV {a:TA} {R:List V→Hp→Prop} (h:te σ H fun x H1=>a σ H1 fun xs H2=>R (x :: xs) H2):yJ te a σ H R:=h
theorem pO {R:List V→Hp→Prop} (h:R [] H):LQ σ H R:=h
theorem jW {sp:Sp} {E:XK} {a:TA} (h:a σ H fun vs H1=>sp vs H1 Q E):tR sp [] E a σ H Q:=by
 unfold tR
 simpa only [List.append_nil] using h
theorem Kg {a:TA} (h:a σ H fun xs H1=>xs.length≤sizeLine∧∀ p,H1 p=none→Q (.ref p) (upd H1 p (.tup xs))):Hm a σ H Q:=h
theorem Kh {a:TA} (h:a σ H fun xs H1=>xs.length≤sizeLine∧∀ p,H1 p=none→Q (.ref p) (upd H1 p (.lst xs))):Hn a σ H Q:=h
theorem vU {K:PySem.W.Frag} {T:String} {r:V→List V→Hp→VK→Prop} {a:TA} (h:te σ H fun x H1=>QK K T x H1∧a σ H1 fun xs H2=>r x xs H2 Q):QL K T r te a σ H Q:=h
theorem pP {K:PySem.W.Frag} {T:String} {r:V→List V→Hp→VK→Prop} (h:te σ H fun x H1=>QK K T x H1∧r x [] H1 Q):Dg K T r te σ H Q:=h
theorem vV {r:V→Option Int→Option Int→Hp→VK→Prop} {tl th:TO} (h:te σ H fun x H1=>tl σ H1 fun l H2=>th σ H2 fun u H3=>r x l u H3 Q):tSl r te tl th σ H Q:=h
theorem pQ {R:Option Int→Hp→Prop} (h:R none H):uE σ H R:=h
theorem jX {R:Option Int→Hp→Prop} (h:te σ H fun x H1=>∃ i,x= .int i∧R (some i) H1):CZ te σ H R:=h
theorem jY {R:Bool→Hp→Prop} (h:R true H):Dn σ H R:=h
theorem jZ {a:TA} {R:It→Hp→Prop} (h:a σ H fun vs H1=>∃ j:Int,vs=[.int j]∧-(2 ^ 62)≤j∧j < 2 ^ 62∧R (GF 0 j.toNat) H1):CG a σ H R:=h
theorem j0 {K:PySem.W.Frag} {R:It→Hp→Prop} (h:te σ H fun x H1=>(∃ a,x= .ref a∧(∃ xs,SqL K H1 a xs)∧R (Hd K a) H1)∨(∃ a,x= .ref a∧(∃ xs,SqT K H1 a xs)∧R (JV K a) H1)∨(∃ z,x= .str z∧R (Ui z) H1)):Hx K te σ H R:=h
theorem j4 {sub:List (Option Nat)} {wi:TI} (h:wi σ H fun J H1=>jM sub g tt te σ Q J H1):rz sub wi g tt te σ H Q:=h
theorem pR {wi:TI} {tbd:TS} (h:wi σ H fun J H1=>∃ W:Nat→Nat→St→Hp→Prop,(∃ m,W 0 m σ H1)∧∀ i m σ H,W i m σ H→
 (J.stop i H∧D.nx σ H)∨(J.go i H∧∃ N:St→Hp→Prop,(∀ σ' H',N σ' H'→∃ m',m' < m∧W (i+1) m' σ' H')∧∀ x H',J.yld i H x H'→g x σ H' fun σ2 H2=>tbd {D with nx:=N,ct:=N,bk:=D.nx} σ2 H2)):Hf wi g tbd D σ H:=h
variable {i j:Int} {x y:Str} {f:Int→Int→V} {C:Int→Int→Prop} {K:PySem.W.Frag}
theorem vW (h:Q (f i j) H):JX f (.int i) (.int j) H Q:=⟨_,_,rfl,rfl,h⟩
theorem Kl (c:C i j) (h:Q (f i j) H):rI C f (.int i) (.int j) H Q:=⟨_,_,rfl,rfl,c,h⟩
theorem jm (h:Q (.int (i+j)) H):yR (.int i) (.int j) H Q:=.inl ⟨_,_,rfl,rfl,h⟩
theorem g8 {a b:Addr} {xs ys:List V} (ha:H a=some (.lst xs)) (hb:H b=some (.lst ys)) (c:xs.length+ys.length≤sizeLine) (h:∀ p,H p=none→Q (.ref p) (upd H p (.lst (xs ++ ys)))):yR (.ref a) (.ref b) H Q:=
 .inr (.inr ⟨a,b,xs,ys,rfl,rfl,ha,hb,c,h⟩)
theorem j5 (c:CMul i j) (h:Q (.int (i*j)) H):Dz (.int i) (.int j) H Q:=.inl ⟨_,_,rfl,rfl,c,h⟩
theorem bz {p:Addr} {xs:List V} {v:V} (s:SqL K H p xs) (e:tY xs i=some v) (h:Q v H):Qi K (.ref p) (.int i) H Q:=.inl ⟨p,xs,i,v,rfl,rfl,s,e,h⟩
theorem pU {p:Addr} {xs:List V} {v:V} (s:SqT K H p xs) (e:tY xs i=some v) (h:Q v H):Qi K (.ref p) (.int i) H Q:=.inr (.inl ⟨p,xs,i,v,rfl,rfl,s,e,h⟩)
theorem jn {p:Addr} {xs:List V} {n:Nat} {v:V} {R:Hp→Prop} (hp:H p=some (.lst xs)) (e:Cd xs.length i=some n) (h:R (upd H p (.lst (xs.set n v)))):Dd (.ref p) (.int i) v H R:=⟨p,xs,i,n,rfl,rfl,hp,e,h⟩
theorem vX {b:Bool} {R:Bool→Prop} (h:R b):∃ k,V.bl b= .bl k∧R k:=⟨b,rfl,h⟩
theorem j6 {n:Int} {R:Int→Prop} (h:R n):∃ k,V.int n= .int k∧R k:=⟨n,rfl,h⟩
end
theorem Same.upd {H H':Hp} {p:Addr} {o:HO} (s:Same H H') (hn:H' p=none):Same H (upd H' p o):=fun b u e=>by
 have q:=s b u e
 rw [aB (fun z=>by rw [z,hn] at q;cases q)]
 exact q
end L2
namespace L2
open PySem PySem.Spec PyProof.Rows
theorem dU {H:Hp} {q b:Addr} {o u:HO} (hq:H q=none) (hb:H b=some u):upd H q o b=some u:=by
 rw [aB (fun z=>by rw [z,hq] at hb;cases hb)];exact hb
theorem yU {vs:List V} {d:Int} (h0:0≤d) (h1:d < vs.length):∃ v,v∈vs∧tY vs d=some v:=by
 have hl:d.toNat < vs.length:=by omega
 exact ⟨vs[d.toNat],List.getElem_mem hl,yS h0 (List.getElem?_eq_getElem hl)⟩
section
variable {H:Hp} {Q:VK} {K:PySem.W.Frag}
theorem bB {p:Addr} {xs:List V} (s:SqL K H p xs) (h:Q (.int xs.length) H):DK K [V.ref p] H Q:=⟨_,_,rfl,.inl ⟨_,s,rfl⟩,h⟩
theorem uN {p:Addr} {xs:List V} (s:SqT K H p xs) (h:Q (.int xs.length) H):DK K [V.ref p] H Q:=⟨_,_,rfl,.inr ⟨_,s,rfl⟩,h⟩
theorem cj {x:V} {T:String} {t:Value} {b:Bool} (ty:TyOf K H x t) (e:PySem.W.kitOne K t (.type T)=some b) (h:Q (.bl b) H):Mx K [x,.ty T] H Q:=⟨x,T,t,b,rfl,ty,e,h⟩
theorem Q9 {p:Addr} {xs:List V} {lo hi:Option Int} (s:SqL K H p xs) (h:∀ q,H q=none→Q (.ref q) (upd H q (.lst (fO xs lo hi)))):rSl K (.ref p) lo hi H Q:=.inl ⟨p,xs,rfl,s,h⟩
end
section
variable {σ:St} {H:Hp} {Q:VK}
end
theorem TyOf.mono {K:PySem.W.Frag} {H H':Hp} {v:V} {T:String} (h:TyOf K H v (.type T)) (s:∀ b o,H b=some o→v= .ref b→H' b=some o):TyOf K H' v (.type T):=by
 generalize e:(Value.type T)=t at h
 cases h with
 | non=>exact .non
 | bl x=>exact .bl x
 | int i=>exact .int i
 | str x=>exact .str x
 | flt x=>exact .flt x
 | lst z=>exact .lst (s _ _ z rfl)
 | frz z=>exact .frz (s _ _ z rfl)
 | tup z=>exact .tup (s _ _ z rfl)
 | dK z=>exact .dK (s _ _ z rfl)
 | dT z=>exact .dT (s _ _ z rfl)
 | ins=>cases e
theorem DQ {sub:List (Option Nat)} {g:TG} {tt:TT} {te:TE} {σ:St} {Q:VK} {H:Hp} {lo:Int} {n:Nat} (Pv:Nat→List V→Hp→Prop) (hn:n≤sizeLine) (h0:Pv 0 [] H) (hl:∀ i ys H,Pv i ys H→ys.length≤i)
  (hs:∀ i ys H,i < n→Pv i ys H→g (.int (lo+i)) (b8 sub σ) H fun σ2 H2=>KeepSt (b8 sub σ) σ2∧tt σ2 H2 fun b H3=>if b=true then te σ2 H3 fun y H4=>Pv (i+1) (ys ++ [y]) H4 else Pv (i+1) ys H3)
  (hd:∀ ys H,Pv n ys H→∀ D,H D=none→Q (.ref D) (upd H D (.lst ys))):jM sub g tt te σ Q (GF lo n) H:=
 qz (n:=n) Pv hn h0 hl (fun i ys H hi _=>hi) (fun ys H _=>Nat.le_refl _) (fun i ys H x H' hi p y=>by
  obtain ⟨e1,e2⟩:=y
  subst e1 e2
  exact hs i ys _ hi p) hd
theorem ul {sub:List (Option Nat)} {g:TG} {tt:TT} {te:TE} {σ:St} {Q:VK} {H:Hp} {K:PySem.W.Frag} {a:Addr} {xs:List V} (Pv:Nat→List V→Hp→Prop) (hn:xs.length≤sizeLine) (h0:Pv 0 [] H) (hl:∀ i ys H,Pv i ys H→ys.length≤i)
  (hq:∀ i ys H,Pv i ys H→SqL K H a xs)
  (hs:∀ i ys H x,xs[i]?=some x→Pv i ys H→g x (b8 sub σ) H fun σ2 H2=>KeepSt (b8 sub σ) σ2∧tt σ2 H2 fun b H3=>if b=true then te σ2 H3 fun y H4=>Pv (i+1) (ys ++ [y]) H4 else Pv (i+1) ys H3)
  (hd:∀ ys H,Pv xs.length ys H→∀ D,H D=none→Q (.ref D) (upd H D (.lst ys))):jM sub g tt te σ Q (Hd K a) H:=
 qz (n:=xs.length) Pv hn h0 hl (fun i ys H hi p=>⟨xs,xs[i],hq i ys H p,List.getElem?_eq_getElem hi⟩) (fun ys H p=>⟨xs,hq _ ys H p,Nat.le_refl _⟩) (fun i ys H x H' hi p y=>by
  obtain ⟨e1,e2⟩:=y
  subst e1
  exact hs i ys _ x (e2 xs (hq i ys _ p)) p) hd
end L2
namespace L2
open PySem PySem.Spec PyProof.Rows
structure JE (X:Cx) (e:Expr) (t:TE):Prop where
 run:PE X e t
structure JT (X:Cx) (e:Expr) (t:TT):Prop where
 run:PT X e t
structure JW (X:Cx) (e:Expr) (t:TT):Prop where
 run:PW X e t
structure JA (X:Cx) (es:List Expr) (t:TA):Prop where
 run:PA X es t
structure JS (X:Cx) (s:Stmt) (t:TS):Prop where
 run:PS X s t
structure JB (X:Cx) (s:List Stmt) (t:TS):Prop where
 run:PSs X s t
structure JI (X:Cx) (tg iter:Expr) (t:TI):Prop where
 run:PI X tg iter t
structure JG (X:Cx) (tg:Expr) (t:TG):Prop where
 run:PG X tg t
structure Ra (X:Cx) (tg:List Expr) (t:w5):Prop where
 run:Qh X tg t
structure JO (X:Cx) (e:Option Expr) (t:TO):Prop where
 run:PO X e t
structure JPs (X:Cx) (pos:Pos) (keys:List (Option Expr)) (values:List Expr) (t:List (TE×TE)):Prop where
 run:PPs X pos keys values t
structure HJ (X:Cx) (ifs:List Expr) (t:TT):Prop where
 run:uJ X ifs t
section
variable {X:Cx} {K:PySem.W.Frag} {sc scope:Scope} {N':List Str} {C:Addr} {s₀:Shared} {H₀:Hp} {ex:List Addr} {x:Str} {pos p p2 pos' apos cpos tpos:Pos} {a b c e o:Expr} {es:List Expr} {ta tb tc te to ti:TE} {t:TA} {tA tB' tt:TT} {rest:List Expr}
theorem ao (i:Nat) (h:sc.names.lookup x=some .local) (hN:autoParam (X.N[i]?=some x) L2.auto4._auto_1) (hsc:autoParam (X.env.scope=sc) L2.auto4._auto_1) (hd:autoParam ((x == ("__debug__":Str))=false) L2.auto6._auto_1) (hcd:autoParam ((x == ("__classdict__":Str))=false) L2.auto6._auto_1):JE X (.Name x pos) (qm i):=⟨pvL i h hN hsc hd hcd⟩
theorem fP (i:Nat) (h:sc.names.lookup x=some .cell) (hN:autoParam (X.N[i]?=some x) L2.auto4._auto_1) (hsc:autoParam (X.env.scope=sc) L2.auto4._auto_1) (hd:autoParam ((x == ("__debug__":Str))=false) L2.auto6._auto_1) (hcd:autoParam ((x == ("__classdict__":Str))=false) L2.auto6._auto_1):JE X (.Name x pos) (qm i):=⟨pvC i h hN hsc hd hcd⟩
theorem cJ (i:Nat) (h:scope.names.lookup x=some .local) (hN:autoParam (N'[i]?=some x) L2.auto4._auto_1) (hd:autoParam ((x == ("__debug__":Str))=false) L2.auto6._auto_1) (hcd:autoParam ((x == ("__classdict__":Str))=false) L2.auto6._auto_1):JE (lC X N' scope C s₀ H₀ ex) (.Name x pos) (qm i):=⟨pvBL i h hN hd hcd⟩
theorem fG (i:Nat) (h:scope.names.lookup x=some .free) (hN:autoParam (N'[i]?=some x) L2.auto4._auto_1) (hd:autoParam ((x == ("__debug__":Str))=false) L2.auto6._auto_1) (hcd:autoParam ((x == ("__classdict__":Str))=false) L2.auto6._auto_1):JE (lC X N' scope C s₀ H₀ ex) (.Name x pos) (qm i):=⟨pvBF i h hN hd hcd⟩
theorem aA {i j}:JE X (.Constant (.int i) j pos) (tC (.int i)):=⟨K9⟩
theorem gw {i j}:JE X (.Constant (.bool i) j pos) (tC (.bl i)):=⟨Qq⟩
theorem lR {j}:JE X (.Constant .none j pos) (tC .non):=⟨La⟩
theorem m8 {i j}:JE X (.Constant (.str i) j pos) (tC (.str i)):=⟨Lb⟩
theorem DW {z:Int} (hg:Gl X x) (hm:∃ t,X.mg x=some (.int z t)) (hd:(x == ("__debug__":Str))=false):JE X (.Name x pos) (tC (.int z)):=⟨DG hg hm hd⟩
theorem j7 {T:String} (hg:Gl X x) (hm:X.mg x=none) (hv:bootBuiltins x=some (.type T)) (hn:x≠"__name__") (hd:(x == ("__debug__":Str))=false):JE X (.Name x pos) (tC (.ty T)):=⟨QZ hg hm hv hn hd⟩
theorem bf {op:Operator} {r:R2} (ho:OpR X (binaryOp op) r) (ha:JE X a ta) (hb:JE X b tb):JE X (.BinOp a op b pos) (GJ r ta tb):=⟨Qu ho ha.run hb.run⟩
theorem xO {op:UnaryOp} {r:V→Hp→VK→Prop} (ho:Ue X (unaryOp op) r) (ha:JE X a ta):JE X (.UnaryOp op a pos) (tUn r ta):=⟨Qv ho ha.run⟩
theorem um {op:CmpOp} {r:R2} (ho:OpR X (compareOp op) r) (ha:JE X a ta) (hb:JE X b tb) (hm:behindInMarks op b=false):JE X (.Compare a [op] [b] pos) (GJ r ta tb):=⟨Hi ho ha.run hb.run hm⟩
theorem bh {op:CmpOp} {r:R2} (ho:OpR X (compareOp op) r) (ha:JE X a ta) (hb:JE X b tb) (hm:behindInMarks op b=false):JT X (.Compare a [op] [b] pos) (vo (GJ r ta tb)):=⟨Hj ho ha.run hb.run hm⟩
theorem eV (ha:JT X a tA):JW X (.BoolOp .Or [a] pos) tA:=⟨Lf ha.run⟩
theorem gJ (ha:JT X a tA) (hb:JW X (.BoolOp .Or (b :: rest) pos) tB'):JW X (.BoolOp .Or (a :: b :: rest) pos) (tOr tA tB'):=⟨Qs ha.run hb.run⟩
theorem ie (h:JW X e tt):JT X e tt:=⟨h.run.pt⟩
theorem bO (ha:JT X a tA):JT X (.UnaryOp .Not a pos) (Le tA):=⟨Lg ha.run⟩
def plainT:Expr→Bool
 | .BoolOp ..=>false | .UnaryOp ..=>false | .Compare ..=>false | .IfExp ..=>false | _=>true
theorem bI (h:JE X e te) (hp:autoParam (plainT e=true) L2.auto4._auto_1):JT X e (tB te):=⟨Ld h.run (by
 intro whole
 cases e <;> first | rfl | cases hp)⟩
theorem uo {op} (h:JE X a te):JE X (.BoolOp op [a] pos) te:=⟨Lh h.run⟩
theorem pW (ha:JE X a ta) (hb:JE X (.BoolOp .And (b :: rest) pos) tb):JE X (.BoolOp .And (a :: b :: rest) pos) (Cj ta tb):=⟨Li ha.run hb.run⟩
theorem Km (ha:JE X a ta):JE X (.UnaryOp .Not a pos) (Ck ta):=⟨Lj ha.run⟩
theorem Rb (hc:JT X c tA) (ha:JE X a ta) (hb:JE X b tb):JE X (.IfExp c a b pos) (tIf tA ta tb):=⟨Cm hc.run ha.run hb.run⟩
theorem m9 {x1} (h:JA X es t):JE X (.Tuple es x1 pos) (Hm t):=⟨Ma h.run⟩
theorem bJ (h:JA X es t):JE X (.List es pos) (Hn t):=⟨Mf h.run⟩
theorem aj:JA X [] LQ:=⟨LR⟩
theorem aa (ha:JE X e te) (hr:JA X es t) (h:autoParam (notStar e=true) L2.auto4._auto_1):JA X (e :: es) (yJ te t):=⟨paC ha.run hr.run h⟩
theorem gm:JO X none uE:=⟨Hq⟩
theorem iG (h:JE X e te):JO X (some e) (CZ te):=⟨Hr h.run⟩
theorem gK {r:V→Option Int→Option Int→Hp→VK→Prop} {lo hi:Option Expr} {tl th:TO} (hr:SlR X r) (he:JE X e te) (hl:JO X lo tl) (hu:JO X hi th):JE X (.Subscript e (.Slice lo hi none p2) pos) (tSl r te tl th):=⟨Dc hr he.run hl.run hu.run⟩
theorem dw (hK:X.K=K) (ha:JE X a ta) (hb:JE X b tb) (h:autoParam (mZ b=true) L2.auto4._auto_1):JE X (.Subscript a b pos) (GJ (Qi K) ta tb):=⟨ixE hK ha.run hb.run h⟩
theorem aU {k:Nat} {ps:List Str} {sp:Sp} (F:qu X.prog X.w X.K X.mg X.base k x ps sp) (hr:Room k X.A) (hg:Gl X x) (ha:JA X (e :: es) t) (hdb:(x == ("__debug__":Str))=false) (h:autoParam ((e :: es).all notStar=true) L2.auto4._auto_1):
  JE X (.Call (.Name x p) (e :: es) [] pos) (tR sp [] E0 t):=⟨Q3 F hr hg ha.run hdb h⟩
theorem aC {id:String} {r:List V→Hp→VK→Prop} (hc:CallR X (.builtin id) r) (hg:Gl X x) (hm:X.mg x=none) (hv:bootBuiltins x=some (.builtin id)) (ha:JA X (e :: es) t) (hn:x≠"__name__") (hdb:(x == ("__debug__":Str))=false) (h:autoParam ((e :: es).all notStar=true) L2.auto4._auto_1):
  JE X (.Call (.Name x p) (e :: es) [] pos) (Mh r t):=⟨Q4 hc hg hm hv ha.run hn hdb h⟩
theorem d8 {T:String} {r:List V→Hp→VK→Prop} (hc:CallR X (.type T) r) (hg:Gl X x) (hm:X.mg x=none) (hv:bootBuiltins x=some (.type T)) (ha:JA X (e :: es) t) (hn:x≠"__name__") (hdb:(x == ("__debug__":Str))=false) (h:autoParam ((e :: es).all notStar=true) L2.auto4._auto_1):
  JE X (.Call (.Name x p) (e :: es) [] pos) (Mh r t):=⟨Nb hc hg hm hv ha.run hn hdb h⟩
theorem iR {name:Str} {T id:String} {r:V→List V→Hp→VK→Prop} (hK:X.K=K) (pa:PlainAttrs T) (slot:Slot T name id) (hty:typeOf (.builtin id)=pure (.type "method_descriptor")) (hm:J7 X id r) (ho:JE X o to) (ha:JA X (e :: es) t)
  (hbase:autoParam (lD o=true) L2.auto4._auto_1) (hl:autoParam (es.length < 20) L2.auto2._auto_1) (hline:autoParam ((apos.endLine == cpos.line)=true) L2.auto4._auto_1) (h:autoParam ((e :: es).all notStar=true) L2.auto4._auto_1):JE X (.Call (.Attribute o name apos) (e :: es) [] cpos) (QL K T r to t):=⟨Q5 hK pa slot hty hm ho.run ha.run hbase hl hline h⟩
theorem HN {name:Str} {T id:String} {r:V→List V→Hp→VK→Prop} (hK:X.K=K) (pa:PlainAttrs T) (slot:Slot T name id) (hty:typeOf (.builtin id)=pure (.type "method_descriptor")) (hm:J7 X id r) (ho:JE X o to)
  (hbase:autoParam (lD o=true) L2.auto4._auto_1) (hline:autoParam ((apos.endLine == cpos.line)=true) L2.auto4._auto_1):JE X (.Call (.Attribute o name apos) [] [] cpos) (Dg K T r to):=⟨Nf hK pa slot hty hm ho.run hbase hline⟩
theorem eQ:HJ X [] Dn:=⟨Do⟩
theorem ni (hc:JT X c tt):HJ X [c] tt:=⟨Dp hc.run⟩
variable {tg iter elt:Expr} {ifs:List Expr} {sub:List (Option Nat)} {wi:TI} {g:TG} {N:List Str}
theorem fH {ta:TA} (hg:Gl X "range") (hm:X.mg "range"=none) (ha:JA X [a] ta) (h:autoParam (notStar a=true) L2.auto4._auto_1):JI X tg (.Call (.Name "range" p) [a] [] pos) (CG ta):=⟨zR hg hm ha.run (cz h)⟩
theorem dz (hK:X.K=K) (hl:JE X e te):JI X tg e (Hx K te):=⟨Hz hK hl.run⟩
theorem bF {i:Nat} (hN:X.N.Nodup) (hi:X.N[i]?=some x) (hx:Loc X.env.scope x) (hf:X.fn x=true):JG X (.Name x pos) (jL i):=⟨uC hN hi hx (.inl hf)⟩
theorem j8 (i:Nat) (h:scope.names.lookup x=some .local) (hN:N'.Nodup) (hi:autoParam (N'[i]?=some x) L2.auto4._auto_1):JG (lC X N' scope C s₀ H₀ ex) (.Name x pos) (jL i):=⟨pgB i h hN hi⟩
theorem nj:Ra X [] Lq:=⟨Hb⟩
theorem cL {gs:w5} (h1:JG X e g) (h2:Ra X es gs) (hs:autoParam ((assignEach (e :: es) X.env).map (·.2)=assign e X.env :: (assignEach es X.env).map (·.2)) L2.auto4._auto_1):Ra X (e :: es) (Cr g gs):=⟨Cu h1.run h2.run hs⟩
theorem xP {ts:List Expr} {k:Nat} {gs:w5} {n:Nat} (hK:X.K=K) (hc:X.calm=true) (h:Ra X ts gs) (hn:autoParam ((assignEach ts X.env).length=n) L2.auto4._auto_1) (hst:autoParam ((assignEach ts X.env).findIdx? (·.1)=none) L2.auto4._auto_1):JG X (.Tuple ts k pos) (Hc K n gs):=⟨HH hK hc h.run hn hst⟩
theorem lZ {ts:w6} (ho:JE X a ta) (hi:JE X b tb) (hs:Ha X ts) (h:autoParam (mZ b=true) L2.auto4._auto_1):JG X (.Subscript a b pos) (Lr ta tb ts):=⟨Ls ho.run hi.run hs (by
 intro v
 cases b <;> first | rfl | cases h)⟩
theorem gf (S:lQ N sc N' scope sub) (hc:X.calm=true) (hN:X.N=N) (hsc:X.env.scope=sc) (hi:JI X tg iter wi)
  (hg:∀ (C:Addr) (s₀:Shared) (H₀:Hp) (ex:List Addr),JG (lC X N' scope C s₀ H₀ ex) tg g)
  (ht:∀ (C:Addr) (s₀:Shared) (H₀:Hp) (ex:List Addr),HJ (lC X N' scope C s₀ H₀ ex) ifs tt)
  (he:∀ (C:Addr) (s₀:Shared) (H₀:Hp) (ex:List Addr),JE (lC X N' scope C s₀ H₀ ex) elt te) (h:autoParam (oJ iter=true) L2.auto4._auto_1):
  JE X (.ListComp elt [⟨tg,iter,ifs,0⟩] scope pos) (rz sub wi g tt te):=⟨Q8 S hc hN hsc hi.run (fun C s₀ H₀ ex=>(hg C s₀ H₀ ex).run) (fun C s₀ H₀ ex=>(ht C s₀ H₀ ex).run) (fun C s₀ H₀ ex=>(he C s₀ H₀ ex).run) h⟩
variable {st:Stmt} {sts:List Stmt} {u v:TS}
theorem aQ {i:Nat} (hN:X.N.Nodup) (hi:X.N[i]?=some x) (hx:Loc X.env.scope x) (he:JE X e te) (hf:X.fn x=true) (h:autoParam (iD e=true) L2.auto4._auto_1):JS X (.Assign [.Name x pos'] e pos) (uD te (jL i)):=⟨Q6 hN hi hx he.run hf h⟩
theorem jo {ts:w6} (he:JE X e te) (hg:JG X (.Subscript a b pos') g) (h:autoParam (iD e=true) L2.auto4._auto_1):JS X (.Assign [.Subscript a b pos'] e pos) (uD te g):=⟨Cw he.run hg.run (by show swapsWith e (some (.Subscript a b pos')) pos.line X.env=pure false;exact vK h) (by cases e <;> rfl) rfl⟩
theorem aL (he:JE X e te):JS X (.Return (some e) pos) (Lk te):=⟨Ln he.run⟩
theorem cZ (he:JE X e te) (h:autoParam (iD e=true) L2.auto4._auto_1):JS X (.Expr e pos) (yE te):=⟨Ng he.run h⟩
theorem bj {sa sb:List Stmt} (hc:JT X c tt) (ha:JB X sa u) (hb:JB X sb v):JS X (.If c sa sb pos) (Lp tt u v):=⟨Qt hc.run ha.run hb.run⟩
theorem eY {body:List Stmt} (hp:PassesOwn (model X.prog X.w) X.A X.env X.xe) (hc:X.calm=true) (hi:JI X tg iter wi) (hg:JG X tg g) (hb:JB X body u) (h:autoParam (oJ iter=true) L2.auto4._auto_1):JS X (.For tg iter body [] pos) (Hf wi g u):=⟨Q7 hp hc hi.run hg.run hb.run h⟩
theorem bC:JB X [] Cp:=⟨GZ⟩
theorem au (h:JS X st u):JB X [st] u:=⟨G8 h.run⟩
theorem az (h:JS X st u) (h2:JB X sts v):JB X (st :: sts) (GX u v):=⟨Cq h.run h2.run⟩
end
section
variable {P:Program} {w:World} {K:PySem.W.Frag} {mg:Str→Option Value} {base:Heap}
theorem iZ {x:Str} {st:Stmt} {N ps:List Str} {k:Nat} {sp:Sp} (D:f9 K mg x st) (S:aO N ps (aq st))
  (hb:∀ (kV doc pm:Value) (an:Option Addr) (cdv ct:Value) (us:List Value),us.length=ps.length→bindArgs (PySem.W.fnOf x x (fU st) (cI st) (aq st) .none kV doc pm an cdv ct) ⟨us,[]⟩=pure (ps.zip us))
  (len:∀ vs H Q E,sp vs H Q E→vs.length=ps.length)
  (hbody:∀ (f:Addr) (cdv:Value) (A:Around) (outer:List Env) (s:Shared) (H:Hp) (vs:List V) (Q:VK) (E:XK),Room k (A.deeper (envOfC x (aq st) s.heap.objs.size f cdv))→sp vs H Q E→
   ∃ t,JB (mR xG P w K mg base N x (aq st) f cdv A outer s H E).nox (cI st) t∧t {nx:=fun _ H'=>Q .non H',rt:=Q} (start N vs) H):qu P w K mg base (k+1) x ps sp:=
 Mz D S hb len fun f cdv A outer s H vs Q E hr h=>let ⟨t,j,q⟩:=hbody f cdv A outer s H vs Q E hr h;⟨t,j.run,q⟩
theorem okJ {x:Str} {st:Stmt} {N ps:List Str} {k:Nat} {sp:Sp} {f:Addr} {fd:FuncData} (F:Fun K x x st f fd) (S:aO N ps (aq st)) (len:∀ vs H Q E,sp vs H Q E→vs.length=ps.length)
  (hbody:∀ (f:Addr) (cdv:Value) (A:Around) (outer:List Env) (s:Shared) (H:Hp) (vs:List V) (Q:VK) (E:XK),Room k (A.deeper (envOfC x (aq st) s.heap.objs.size f cdv))→sp vs H Q E→
   ∃ t,JB (mR xG P w K mg base N x (aq st) f cdv A outer s H E).nox (cI st) t∧t {nx:=fun _ H'=>Q .non H',rt:=Q} (start N vs) H):oH P w K mg base xG (k+1) f fd ps sp:=
 F.ok S len fun cdv A outer s H vs Q E hr h=>let ⟨t,j,q⟩:=hbody f cdv A outer s H vs Q E hr h;⟨t,j.run,q⟩
end
theorem DX {K:PySem.W.Frag} {mg:Str→Option Value} {h:Heap} (X:K.In h) (G:h.Ns mainGlobals mg) {x:Str} {v:Value} {f:Tok→Value} (a:PySem.W.nsIn K mainGlobals x=some (some v)) (e:∃ t,v=f t):∃ t,mg x=some (f t):=by
 obtain ⟨t,rfl⟩:=e
 exact ⟨t,PySem.W.mg_of X G a⟩
theorem Rc {l:PySem.W.OpenLaw} {q:Program} {loose:List Str} {XP:(Str→Option Value)→Heap→Prop} {YP:World→Heap→Prop} {d:DefRec} {K:Params→PySem.W.Frag} {st:Stmt} {k:Nat} {sp:PySem.W.Frag→Sp} {x:Str}
  (hn:l.most=some 63) (hdf:d.params.defaults=[]) (hdn:d.name="law") (hk:Room k callerA) (hY:∀ (w:World) (h:Heap),YP w h→(K w.params).In h)
  (hb:∀ (kV doc pm:Value) (an:Option Addr) (cdv ct:Value) (us:List Value),us.length=[x].length→bindArgs (PySem.W.fnOf "law" "law" (fU st) (cI st) (aq st) .none kV doc pm an cdv ct) ⟨us,[]⟩=pure ([x].zip us))
  (F:∀ (w:World) (mg:Str→Option Value) (h:Heap),(K w.params).In h→h.Ns mainGlobals mg→f9 (K w.params) mg "law" st∧∀ (base:Heap) (f:Addr) (fd:FuncData),Fun (K w.params) "law" "law" st f fd→oH l.prog w (K w.params) mg base xG k f fd [x] (sp (K w.params)))
  (hsp:∀ (K:PySem.W.Frag) (H:Hp) (a:Addr) (ns:List Int),ns.length≤63→SqL K H a (ns.map V.int)→sp K [.ref a] H (fun v _=>v= .bl true) fun _ _ _=>False) (him:autoParam (importsNone q=true) L2.auto6._auto_1):
  PySem.W.WalkO q loose XP YP l.row.toRowW d [] (fun f vs=>PySem.call f vs):=
 L2.Hw (n:=63) (k:=k) (x:=x) (CX:=fun _=>xG) (sp:=fun w=>sp (K w.params)) hn (by decide) hdf hk hY (fun w mg fa h X G e=>by
  obtain ⟨⟨f,fd,Fn,hm⟩,ok⟩:=F w mg h X G
  rw [hdn,hm] at e
  have ef:f=fa:=by injection (Option.some.inj e)
  subst ef
  refine ⟨fd,fun s u=>?_,fun base _ _=>ok base f fd Fn⟩
  obtain ⟨oc,od,kV,doc,pm,an,cdv,ct,osl,rfl,lk,hcd⟩:=Fn.ex
  exact .of_eq (hb kV doc pm an cdv ct [u] rfl)) (fun w H a ns hl _ hS=>hsp _ H a ns hl hS) (fun _ _ _ _ _ z=>z) him
end L2
namespace L2
open PySem PySem.Spec PyProof.Rows
def Uj (xs:Nat→List V) (n:Nat):It:=⟨fun i _=>i < n,fun i H v H'=>∃ T,H T=none∧v= .ref T∧H'=upd H T (.tup (xs i)),fun i _=>i=n⟩
theorem Nm {P:Program} {w:World} {K:PySem.W.Frag} {elts:List Expr} {k:Nat} {pos:Pos} {it:Addr} {fp wr:List Addr} {n:Nat} {xs:Nat→List V} {Pt:Nat→Array Value→Prop} {St:Nat→Heap→Prop} {Mid:Nat→Addr→Heap→Prop}
  (W:∀ A:Around,A.handled=none→WalksT P w A it fp wr n Pt St Mid) (hxs:∀ i,(xs i).length≤sizeLine) (hPt:∀ i vals,Pt i vals→Vals (xs i) vals.toList) (hmem:it∈fp)
  (hobj:∀ i h,St i h→∀ b∈fp,∃ o,h.get? b=some o∧∀ v,o.data≠.cell v)
  (hself:∀ (A:Around) (i:Nat) (s:Shared) (Q:Value→Shared→Prop) (E:Value→Shared→Prop),St i s.heap→Q (.ref it) s→wpAny (model P w) A (pyIter (.ref it)) Q E s):
  Turn P w K (.Tuple elts k pos) (Uj xs n) fp it St where
 mem:=hmem
 obj:=hobj
 keep:=fun i h h' st kk=>(W {} rfl).frame i h h' st kk
 item:=by
  intro X hP hw hK hc i pins s σ H E I hf st hg
  subst hP hw hK
  have W':=W X.A (I.ok.hd hc)
  refine W'.item i s _ _ hg st fun T vals h' tk hPv hT isT mid kk=>?_
  refine ⟨.ref T,rfl,W'.go elts k pos i T _ _ _ mid fun h'' st'' kk2=>?_⟩
  have hTn:H T=none:=I.hok.fresh hT
  have hTw:T ∉ wr:=W'.apart i T h' mid
  have kall:∀ b o,b ∉ wr→s.heap.get? b=some o→h''.get? b=some o:=fun b o hb e=>kk2 b o hb (kk b o hb e)
  have nT:∀ b o,s.heap.get? b=some o→b≠T:=fun b o e=>Nat.ne_of_lt (Nat.lt_of_lt_of_le (Heap.lt_size e) hT)
  have nTH:∀ b u,H b=some u→b≠T:=fun b u e z=>by rw [z,hTn] at e;cases e
  have nW:∀ b u,H b=some u→b ∉ wr:=fun b u e hb=>by rw [(hf b (W'.sub b hb)).1] at e;cases e
  have isT':h''.IsTuple T vals:=by
   obtain ⟨o,ho,r⟩:=isT
   exact ⟨o,kk2 T o hTw ho,r⟩
  have hlT:∃ o,h''.get? T=some o:=let ⟨o,ho,_⟩:=isT';⟨o,ho⟩
  have I':Inv X pins σ (upd H T (.tup (xs i))) {s with heap:=h'',toks:=tk}:=by
   refine I.step (g':=s.gens) (d':=s.drawn) (ch:=wr) (fun b hb=>?_) (fun b o _ _ hc e _=>kall b o hc e) (fun b o _ _ hc e _=>⟨o.slots,kall b o hc e⟩) (fun b o _ e hn=>by rw [aB (nT b o e)];exact hn)
    (fun b o hc e=>⟨o,kall b o hc e⟩) (fun b ys e=>by rw [aB (nTH b _ e)];exact e) (fun b o u e=>by rw [aB (nTH b _ e)];exact e) (fun b ps e=>⟨#[],by rw [aB (nTH b _ e),e];simp⟩) (fun m hm=>?_) (fun b u e=>?_) I.bare
   ·obtain ⟨f0,f1,f2,f3,f4,f5⟩:=hf b (W'.sub b hb)
    exact ⟨f3,f1,f4,f5⟩
   ·obtain ⟨o,es,ep,ho,r⟩:=hm
    exact ⟨o,es,ep,kall _ o (fun hb=>(hf _ (W'.sub _ hb)).2.1 rfl) ho,r⟩
   ·by_cases hb:b=T
    ·subst hb
     rw [ak] at e;cases e
     obtain ⟨o,ho,hcl,nn,hd⟩:=isT'
     exact ⟨hxs i,vals.toList,hPt i vals hPv,o,ho,hcl,nn,by simpa using hd⟩
    ·rw [aB hb] at e
     refine (I.hok b u e).stay (fun c v hc' q=>kall c v ?_ q) (fun c q=>by rw [aB (nTH c _ q)];exact q) fun c ys q=>by rw [aB (nTH c _ q)];exact q
     rcases hc' with z | z
     ·rw [z];exact nW b u e
     ·exact nW c _ z
  refine ⟨.ref T,upd H T (.tup (xs i)),I',rfl,⟨T,hTn,rfl,rfl⟩,st'',fun b hb=>?_⟩
  obtain ⟨o,e,_⟩:=hobj i _ st b hb
  rw [aB (nT b o e)]
  exact (hf b hb).1
 done:=by
  intro X hP hw hK hc i pins s σ H E I hf st hg
  subst hP hw hK
  have W':=W X.A (I.ok.hd hc)
  have hg:i=n:=hg
  subst hg
  refine W'.done s _ _ st fun h' tk kk=>⟨rfl,?_⟩
  have nW:∀ b u,H b=some u→b ∉ wr:=fun b u e hb=>by rw [(hf b (W'.sub b hb)).1] at e;cases e
  refine I.step (g':=s.gens) (d':=s.drawn) (ch:=wr) (fun b hb=>?_) (fun b o _ _ hc e _=>kk b o hc e) (fun b o _ _ hc e _=>⟨o.slots,kk b o hc e⟩) (fun b o _ e hn=>hn)
    (fun b o hc e=>⟨o,kk b o hc e⟩) (fun b ys e=>e) (fun b o u e=>e) (fun b ps e=>⟨#[],by rw [e];simp⟩) (fun m hm=>?_) (fun b u e=>?_) I.bare
  ·obtain ⟨f0,f1,f2,f3,f4,f5⟩:=hf b (W'.sub b hb)
   exact ⟨f3,f1,f4,f5⟩
  ·obtain ⟨o,es,ep,ho,r⟩:=hm
   exact ⟨o,es,ep,kk _ o (fun hb=>(hf _ (W'.sub _ hb)).2.1 rfl) ho,r⟩
  ·refine (I.hok b u e).stay (fun c v hc' q=>kk c v ?_ q) (fun c q=>q) fun c ys q=>q
   rcases hc' with z | z
   ·rw [z];exact nW b u e
   ·exact nW c _ z
 self:=hself
def vY (x:Str) (i:Nat):List V:=[.int i,.str ⟨#[x.cps.getD i 0]⟩]
end L2
namespace L2
open PySem PySem.Spec PyProof.Rows
section
variable {prog:Program} {w:World} {A:Around} {E:Value→Shared→Prop} {s:Shared}
theorem rC {it l:Addr} {items:Array Value} (hne:l≠it):∀ (n i:Nat) (s:Shared) (Q:List Value→Shared→Prop),s.heap.IsListIter it l i→s.heap.IsList l items→i+n≤items.size→
  (∀ h',h'.IsListIter it l (i+n)→Heap.SameBut it s.heap h'→Q ((items.toList.drop i).take n) {s with heap:=h'})→wpAny (model prog w) A (draw (.ref it) n) Q E s
 | 0,i,s,Q,hit,_,_,hQ=>by
  show wpAny _ _ (pure []) Q E s
  exact wpAny_pure (by simpa using hQ s.heap hit (Heap.SameBut.refl ..))
 | n+1,i,s,Q,hit,ht,hle,hQ=>by
  have hlt:i < items.size:=by omega
  show wpAny _ _ (pyNext (.ref it) >>=_) Q E s
  refine wpAny_bind (wpAny_pyNext_list_item hit ht (x:=items[i]) (by simp [hlt]) fun h₁ hit₁ hs₁=>?_)
  refine wpAny_bind (wpAny_holding (rC hne n (i+1) _ _ hit₁ (ht.extBut hs₁.extBut hne) (by omega) fun h₂ hit₂ hs₂=>wpAny_pure ?_))
  have hd:items.toList.drop i=items[i] :: items.toList.drop (i+1):=by simp [List.drop_eq_getElem_cons,hlt]
  have:=hQ h₂ (by rw [show i+(n+1)=i+1+n by omega];exact hit₂) (hs₁.trans hs₂)
  rw [hd,List.take_succ_cons] at this
  exact this
theorem nu {l:Addr} {items:Array Value} {Q:List Value→Shared→Prop} (hh:A.handled=none) (ht:s.heap.IsList l items)
  (hQ:∀ h',Heap.ExtBut s.heap.objs.size s.heap h'→Q items.toList {s with heap:=h'}):wpAny (model prog w) A (unpackItems (.ref l) items.size none) Q E s:=by
 have hlt:l≠s.heap.objs.size:=by obtain ⟨o,ho,_⟩:=ht;exact Nat.ne_of_lt (Heap.lt_size ho)
 unfold unpackItems
 refine wpAny_bind ?_
 ·unfold notIterableAtAll
  refine wpAny_bind (wpAny_specialOf ht.typeIs slot_list_iter.lookup ?_)
  refine wpAny_pure ?_
  simp only [Bool.false_eq_true,if_false]
  refine wpAny_bind (wpAny_holding (wpAny_pyIter_list ht ?_))
  refine wpAny_bind (wpAny_holding (rC hlt items.size 0 _ _ ⟨_,Heap.get?_push_size _ rfl,rfl,rfl⟩ (let ⟨o,ho,r⟩:=ht;⟨o,Heap.get?_push_of_some _ ho,r⟩) (by omega) fun h₁ hit₁ hs₁=>?_))
  have hall:List.take items.size (List.drop 0 items.toList)=items.toList:=by
   rw [List.drop_zero];exact List.take_of_length_le (by simp)
  rw [hall]
  rw [if_neg (by simp)]
  have ht₁:h₁.IsList l items:=by
   have:(s.heap.push {cls:=.type "list_iterator",data:=.fields #[.ref l,.int 0 0]}).IsList l items:=let ⟨o,ho,r⟩:=ht;⟨o,Heap.get?_push_of_some _ ho,r⟩
   exact this.extBut hs₁.extBut hlt
  refine wpAny_bind (wpAny_holding (wpAny_pyNext_list_end hh hit₁ ht₁ (by simp) fun h₂ he₂=>?_))
  simp only [Option.isSome_none,Bool.false_eq_true,if_false]
  refine wpAny_pure (hQ h₂ fun b o hb e=>he₂ b o hb (hs₁.extBut b o hb (Heap.get?_push_of_some _ e)))
theorem mj {env:Env} {elts:List Expr} {x1} {pos:Pos} {l:Addr} {items:Array Value} {Q:Unit→Shared→Prop} (hh:A.handled=none) (ht:s.heap.IsList l items)
  (hn:(assignEach elts env).length=items.size) (hstar:(assignEach elts env).findIdx? (·.1)=none)
  (h:∀ h',Heap.ExtBut s.heap.objs.size s.heap h'→wpAny (model prog w) A (assignInOrder ((assignEach elts env).map (·.2)) items.toList) Q E {s with heap:=h'}):
  wpAny (model prog w) A (assign (.Tuple elts x1 pos) env (.ref l)) Q E s:=by
 rw [assign_Tuple]
 refine wpAny_bind (wpAny_standAt ?_)
 unfold unpack
 rw [hn,hstar]
 exact wpAny_bind (wpAny_holding (nu hh ht h))
end
def Rf (K:PySem.W.Frag) (n:Nat) (t:w5):TG:=fun v σ H Q=>∃ a xs,v= .ref a∧(SqT K H a xs∨SqL K H a xs)∧xs.length=n∧t xs σ H Q
theorem yV {X:Cx} {K:PySem.W.Frag} {ts:List Expr} {k:Nat} {gs:w5} {n:Nat} {pos:Pos} (hK:X.K=K) (hc:X.calm=true) (h:Ra X ts gs) (hn:autoParam ((assignEach ts X.env).length=n) L2.auto4._auto_1) (hst:autoParam ((assignEach ts X.env).findIdx? (·.1)=none) L2.auto4._auto_1):JG X (.Tuple ts k pos) (Rf K n gs):=⟨by
 subst hK
 intro pins s σ H v u Q I r hw
 obtain ⟨a,xs,e1,hq,hl,hw⟩:=hw
 subst e1
 cases r
 rcases hq with hq | hq
 ·exact (Cv hc h.run hn hst) pins s σ H (.ref a) (.ref a) Q I (show RelV (.ref a) (Value.ref a) from rfl) ⟨a,xs,rfl,hq,hl,hw⟩
 ·obtain ⟨its,rv,ht,hz⟩:=I.list hq
  refine mj (I.ok.hd hc) ht.isList (by simp [hn,← hl,rv.length]) hst fun h' hx=>?_
  have I1:Inv X pins σ H {s with heap:=h'}:=I.kept (t':=s.toks) fun b o e=>hx b o (Nat.ne_of_lt (Heap.lt_size e)) e
  exact h.run pins _ σ H xs _ Q I1 (by simpa using rv) hw⟩
theorem yW {X:Cx} {ts:List Expr} {k:Nat} {e:Expr} {te:TE} {g:TG} {pos pos':Pos} (he:JE X e te) (hg:JG X (.Tuple ts k pos') g) (h:autoParam (iD e=true) L2.auto4._auto_1) (h2:autoParam ((match e with | .Tuple ..=>false | _=>true)=true) L2.auto4._auto_1):JS X (.Assign [.Tuple ts k pos'] e pos) (uD te g):=
 ⟨Cw he.run hg.run (by show swapsWith e (some (.Tuple ts k pos')) pos.line X.env=pure false;exact vK h) (by cases e <;> first | rfl | cases h2) rfl⟩
def Rg (K:PySem.W.Frag):R2:=fun x y H Q=>rNe x y H Q∨∃ (a b:Addr) (ns ms:List Int),x= .ref a∧y= .ref b∧SqL K H a (ns.map V.int)∧SqL K H b (ms.map V.int)∧Q (.bl (!decide (ns=ms))) H
theorem Np {X:Cx} {K:PySem.W.Frag} (hK:X.K=K) (hu:X.A.units+64 < cLine):OpR X (compareOp .NotEq) (Rg K):=by
 subst hK
 intro pins s σ H x y v u Q I rx ry h
 rcases h with h | ⟨a,b,ns,ms,rfl,rfl,ha,hb,q⟩
 ·exact Qz pins s σ H x y v u Q I rx ry h
 ·cases rx
  cases ry
  obtain ⟨its,r1,p1,z1⟩:=I.list ha
  obtain ⟨jts,r2,p2,z2⟩:=I.list hb
  exact PySem.W.ne_intsK p1.isList (intsAre_of r1) p2.isList (intsAre_of r2) hu ⟨.bl _,H,I,rfl,q⟩
section
variable {H:Hp} {Q:VK} {K:PySem.W.Frag} {σ:St}
theorem ig {n:Nat} {gs:w5} {p:Addr} {xs:List V} {R:St→Hp→Prop} (s:SqT K H p xs) (hl:xs.length=n) (h:gs xs σ H R):Hc K n gs (.ref p) σ H R:=⟨p,xs,rfl,s,hl,h⟩
theorem iH {t:TG} {u:w5} {v:V} {vs:List V} {R:St→Hp→Prop} (h:t v σ H fun σ' H'=>u vs σ' H' R):Cr t u (v :: vs) σ H R:=⟨v,vs,rfl,h⟩
theorem j9 {R:St→Hp→Prop} (h:R σ H):Lq [] σ H R:=⟨rfl,h⟩
theorem d9 {p:Addr} {xs:List V} {y:V} (hp:H p=some (.lst xs)) (c:xs.length < sizeLine) (h:Q .non (upd H p (.lst (xs ++ [y])))):yO (.ref p) [y] H Q:=⟨p,xs,y,rfl,rfl,hp,c,h⟩
theorem Ko {f:Int→V} {i:Int} (h:Q (f i) H):rU f (.int i) H Q:=⟨i,rfl,h⟩
theorem DY {a:Addr} {xs:List V} {k:Int} (ha:H a=some (.lst xs)) (h0: -(2 ^ 63)≤k) (h1:k < 2 ^ 63) (hz:xs.length*k.toNat≤sizeLine) (h:∀ p,H p=none→Q (.ref p) (upd H p (.lst (List.replicate k.toNat xs).flatten))):Dz (.ref a) (.int k) H Q:=
 .inr (.inr ⟨a,k,xs,rfl,rfl,ha,h0,h1,hz,h⟩)
end
end L2
namespace L2
open PySem PySem.Spec PyProof.Rows
section
variable {X:Cx} {tg iter elt:Expr} {ifs:List Expr} {scope:Scope} {pos:Pos} {N':List Str} {sub:List (Option Nat)} {wi:TI} {g:TG} {tt:TT} {te:TE}
theorem Ea {N:List Str} {sc:Scope} {use:Option (Value→Sem Unit)} {R:Value→Shared→Prop} {p0:Pos} (S:lQ N sc N' scope sub) (hc:X.calm=true) (hN:X.N=N) (hsc:X.env.scope=sc) (hi:PI X tg iter wi)
  (hg:∀ (C:Addr) (s₀:Shared) (H₀:Hp) (ex:List Addr),PG (lC X N' scope C s₀ H₀ ex) tg g)
  (ht:∀ (C:Addr) (s₀:Shared) (H₀:Hp) (ex:List Addr),uJ (lC X N' scope C s₀ H₀ ex) ifs tt)
  (he:∀ (C:Addr) (s₀:Shared) (H₀:Hp) (ex:List Addr),PE (lC X N' scope C s₀ H₀ ex) elt te)
  (hs:∀ x,foldedSetIterable iter X.env x=pure x) (pins:List (Addr×Obj)) (s:Shared) (σ:St) (H:Hp) (Q:VK) (I:Inv X pins σ H s) (h:rz sub wi g tt te σ H Q)
  (hend:∀ (D C:Addr) (s5:Shared) (H5:Hp) (m:Str→Option Value),Inv X pins σ H5 s5→iw X pins H5 C→s5.heap.Ns C m→Q (.ref D) H5→compPost (model X.prog X.w) X.A X.xe use R (.ref D) C (.ok .next) s5):
  wpAny (model X.prog X.w) X.A (comprehension (.ListComp elt [⟨tg,iter,ifs,0⟩] scope pos) scope X.env p0 (newList []) false (eval iter X.env) use) R X.xe s:=by
 have hcl:∀ x∈scope.names,x.2=NameKind.free→∃ c,X.env.cells.lookup x.1=some c:=fun x hx hk=>I.ok.has x.1 (by have:=S.free x hx hk;rw [← hsc] at this;exact this)
 refine wpAny_comprehension_free (use:=use) rfl hs (lO hcl) S.kind S.loc ?_
 refine dD (hi pins s σ H _ I h) fun v s1 h1=>dD h1 fun itv s2 h2=>?_
 obtain ⟨it,fp,tn,J,H2,e,I2,T,st2,f2,W,⟨m0,w0⟩,turn⟩:=h2
 subst e
 refine wpAny_newObj_type (fB fun h₁ hns₁ hk31 hcl₁=>?_)
 dsimp only at hns₁ hk31 hcl₁ ⊢
 generalize hs3:({s2 with heap:=s2.heap.push {cls:=.type "list",dict:=none,data:=.seq ([]:List Value).toArray}}:Shared)=s3
 have e3:s2.heap.push {cls:=.type "list",dict:=none,data:=.seq ([]:List Value).toArray}=s3.heap:=by rw [← hs3]
 rw [e3] at hns₁ hk31 hcl₁ ⊢
 have hD3:s3.heap.get? s2.heap.objs.size=some {cls:=.type "list",dict:=none,data:=.seq ([]:List Value).toArray}:=by rw [← e3];exact Heap.get?_push_size _ rfl
 have I3:Inv X pins σ H2 s3:=by
  rw [← hs3]
  exact I2.kept (t':=s2.toks) fun b o e=>Heap.get?_push_of_some _ e
 have k23:∀ b o,s2.heap.get? b=some o→s3.heap.get? b=some o:=fun b o e=>by rw [← e3];exact Heap.get?_push_of_some _ e
 have hsz:s3.heap.objs.size=s2.heap.objs.size+1:=by rw [← e3,Heap.size_push]
 have hDn:H2 s2.heap.objs.size=none:=I2.hok.fresh (Nat.le_refl _)
 have fD:iw X pins H2 s2.heap.objs.size:=I2.fpOk (Nat.le_refl _) hDn
 have hfo:∀ b∈fp,b < s2.heap.objs.size:=fun b hb=>let ⟨o,e,_⟩:=T.obj _ _ st2 b hb;Heap.lt_size e
 have hDfp:s2.heap.objs.size ∉ fp:=fun z=>absurd (hfo _ z) (Nat.lt_irrefl _)
 have I4:=ue (tk:=s3.toks+([]:List (Str×Value)).length) S hN hsc I3 f2 (fun b hb=>by rw [hsz];exact Nat.lt_succ_of_lt (hfo b hb)) (D:=s2.heap.objs.size) (by rw [hsz];exact Nat.lt_succ_self _) fD hns₁ hk31 hcl₁
 have stat:∀ {H':Hp} {ob:Obj},(∀ b∈fp,H' b=none)→∀ b∈fp,iw (lC X N' scope s3.heap.objs.size s3 H2 (s2.heap.objs.size :: fp)) [(s2.heap.objs.size,ob)] H' b:=fun {H' ob} hn b hb=>by
  obtain ⟨q1,q2⟩:=I4.ok.exf b (List.mem_cons_of_mem _ hb)
  refine ⟨hn b hb,q1,I4.ok.exfs b (List.mem_cons_of_mem _ hb),.inl (List.mem_cons_of_mem _ hb),q2,fun p hp z=>?_⟩
  have hp':p=(s2.heap.objs.size,ob):=by simpa [lC] using hp
  subst hp'
  have z':s2.heap.objs.size=b:=z
  exact hDfp (by rw [z'];exact hb)
 generalize hXC:lC X N' scope s3.heap.objs.size s3 H2 (s2.heap.objs.size :: fp)=XC at I4 stat
 have eP:XC.prog=X.prog:=by rw [← hXC];rfl
 have eW:XC.w=X.w:=by rw [← hXC];rfl
 have eK:XC.K=X.K:=by rw [← hXC];rfl
 have eA:XC.A=X.A:=by rw [← hXC];rfl
 have eE:XC.env=compEnvC scope (Ag X scope s3.heap.objs.size) s3.heap.objs.size X.env:=by rw [← hXC];rfl
 have eC:XC.calm=true:=by rw [← hXC];exact hc
 have eX:XC.xe=fun _ _=>False:=by rw [← hXC];rfl
 have eH:XC.H₀=H2:=by rw [← hXC];rfl
 have eS:XC.s₀=s3:=by rw [← hXC];rfl
 have eF:XC.fs=frs X.stack:=by rw [← hXC];rfl
 have eEx:XC.ex=s2.heap.objs.size :: fp:=by rw [← hXC];rfl
 have ePn:XC.pn=[]:=by rw [← hXC];rfl
 have hgC:PG XC tg g:=by rw [← hXC];exact hg _ _ _ _
 have htC:uJ XC ifs tt:=by rw [← hXC];exact ht _ _ _ _
 have heC:PE XC elt te:=by rw [← hXC];exact he _ _ _ _
 have pinD:∀ {σ':St} {H':Hp} {s':Shared} {ob:Obj},Inv XC [] σ' H' s'→H' s2.heap.objs.size=none→s'.heap.get? s2.heap.objs.size=some ob→(∀ v,ob.data≠.cell v)→Inv XC [(s2.heap.objs.size,ob)] σ' H' s':=fun {σ' H' s' ob} J hn hg hd=>
  J.pins_of fun p hp=>by
   have hp':p=(s2.heap.objs.size,ob):=by simpa using hp
   subst hp'
   refine ⟨hg,hn,(J.ok.exf _ (by rw [eEx];exact List.mem_cons_self)).1,J.ok.exfs _ (by rw [eEx];exact List.mem_cons_self),hd⟩
 have loop:codeAny (model X.prog X.w) X.A (.compLoop (.ListComp elt [⟨tg,iter,ifs,0⟩] scope pos) 0 (.ref it) (.ref s2.heap.objs.size) (compEnvC scope (Ag X scope s3.heap.objs.size) s3.heap.objs.size X.env))
   (compPost (model X.prog X.w) X.A X.xe use R (.ref s2.heap.objs.size) s3.heap.objs.size) {s3 with heap:=h₁,toks:=s3.toks+([]:List (Str×Value)).length}:=by
  refine ud (fun n s'=>∃ (i:Nat) (ys:List V) (its:List Value) (nn:Nat) (H':Hp),Inv XC [] (b8 sub σ) H' s'∧tn i s'.heap∧(∀ b∈fp,H' b=none)∧H' s2.heap.objs.size=none∧
   s'.heap.get? s2.heap.objs.size=some {cls:=.type "list",data:=.seq its.toArray nn}∧Vals ys its∧W i n ys H') ?_ m0
   ⟨0,[],[],_,H2,I4,T.keep _ _ _ st2 fun b _ o e=>hk31 b o (k23 b o e),fun b hb=>(f2 b hb).1,hDn,hk31 _ _ hD3,.nil,w0⟩
  rintro n s4 ⟨i,ys,its,nn,H4,J4,st4,fr4,dn4,dg4,rv4,w4⟩
  have P4:=pinD J4 dn4 dg4 (fun v z=>by cases z)
  rcases turn i n ys H4 w4 with ⟨stop,hyl,qn⟩ | ⟨go,hyl,N,hN,step⟩
  ·have hdone:=T.done XC eP eW eK eC i _ s4 _ H4 (fun _ _=>False) P4 (stat fr4) st4 stop
   rw [eA] at hdone
   refine wpAny_mono hdone (fun r s5 ⟨hr,I5⟩=>?_) fun _ _ z=>z
   subst hr
   obtain ⟨m,hn,_⟩:=id I5.loc
   have hCe:XC.env.locals=s3.heap.objs.size:=by rw [eE];rfl
   rw [hCe] at hn
   have hDg:=(I5.pin (s2.heap.objs.size,_) (by rw [ePn];exact List.mem_cons_self)).1
   have hDne:s2.heap.objs.size≠s3.heap.objs.size:=by rw [hsz];exact Nat.ne_of_lt (Nat.lt_succ_self _)
   have hHC:H4 s3.heap.objs.size=none:=by have:=I5.free;rw [hCe] at this;exact this
   have k56:∀ b o,b≠s3.heap.objs.size→s5.heap.get? b=some o→s5.heap.get? b=some o:=fun b o hb e=>e
   have un:=I5.base
   rw [eF,eEx,eH,eS] at un
   have nC:∀ b o,s3.heap.get? b=some o→b≠s3.heap.objs.size:=fun b o e=>Nat.ne_of_lt (Heap.lt_size e)
   have hok6:HOk X.prog X.w (upd H4 s2.heap.objs.size (.lst ys)) s5.heap:=by
    have h5:=I5.hok
    rw [eP,eW] at h5
    have GD:∀ b u,H4 b=some u→b≠s3.heap.objs.size:=fun b u e z=>by rw [z,hHC] at e;cases e
    intro b u e
    by_cases hb:b=s2.heap.objs.size
    ·subst hb
     rw [ak] at e;cases e
     exact ⟨hyl,its,nn,rv4,k56 _ _ hDne hDg⟩
    ·rw [aB hb] at e
     have nD:∀ c u,H4 c=some u→c≠s2.heap.objs.size:=fun c u e z=>by rw [z,dn4] at e;cases e
     refine (h5 b u e).stay (fun c v hc' q=>k56 c v ?_ q) (fun c q=>by rw [aB (nD c _ q)];exact q) fun c xs q=>by rw [aB (nD c _ q)];exact q
     rcases hc' with z | z
     ·rw [z];exact GD b u e
     ·exact GD c _ z
   have nD2:∀ c u,H4 c=some u→c≠s2.heap.objs.size:=fun c u e z=>by rw [z,dn4] at e;cases e
   have un6:Un (frs X.stack) (s2.heap.objs.size :: fp) H2 (upd H4 s2.heap.objs.size (.lst ys)) s3.heap s5.heap:=
    ⟨fun b o e nn' hb hx=>k56 b o (nC b o e) (un.keep b o e nn' hb hx),fun b o e nn' hb hx=>let ⟨sl,q⟩:=un.slot b o e nn' hb hx;⟨sl,k56 b _ (nC b o e) q⟩,
     fun b o e nn' hx=>by rw [aB (fun z=>hx (by rw [z];exact List.mem_cons_self))];exact un.free b o e nn' hx,
     fun b o e hx=>let ⟨o',q⟩:=un.there b o e hx;⟨o',k56 b o' (nC b o e) q⟩,
     fun b xs e=>by have q:=un.tups b xs e;rw [aB (nD2 b _ q)];exact q,
     fun b o u e=>by have q:=un.frzs b o u e;rw [aB (nD2 b _ q)];exact q,
     fun b ps e=>let ⟨more,q⟩:=un.tbls b ps e;⟨more,by rw [aB (nD2 b _ q)];exact q⟩⟩
   have I6:Inv X pins σ (upd H4 s2.heap.objs.size (.lst ys)) s5:=by
    refine I3.call' (s':=s5) (ch:=s2.heap.objs.size :: fp) ?_ un6 hok6 I5.bare fun b hb=>?_
    ·show s5.os=s3.os
     have:=I5.os
     rw [eS] at this
     exact this
    ·have q:iw X pins H2 b:=by
      rcases List.mem_cons.mp hb with rfl | z
      ·exact fD
      ·exact f2 b z
     obtain ⟨f0,f1,f2',f3,f4,f5⟩:=q
     exact ⟨f3,f1,f4,f5⟩
   have dC:upd H4 s2.heap.objs.size (.lst ys) s3.heap.objs.size=none:=by rw [aB (Ne.symm hDne)];exact hHC
   exact hend _ _ s5 _ m I6 (I3.fpOk (Nat.le_refl _) dC) hn (qn _ dn4)
  ·have hitem:=T.item XC eP eW eK eC i _ s4 _ H4 (fun _ _=>False) P4 (stat fr4) st4 go
   rw [eA] at hitem
   refine wpAny_mono hitem (fun r s5 ⟨u,hr,h5⟩=>?_) fun _ _ z=>z
   subst hr
   dsimp only
   refine wpAny_mono h5 (fun _ s6 ⟨x,H6,I6,r6,y6,st6,fr6⟩=>?_) fun _ _ z=>z
   have P6:=I6.pinned (stat fr6) (T.obj _ _ st6)
   rw [← eE,← eP,← eW,← eA]
   refine wpAny_mono (hgC _ s6 _ H6 x u _ P6 r6 (step x H6 y6)) (fun _ s7 ⟨σ7,H7,I7,kp7,q7⟩=>?_) fun _ _ z=>by rw [eX] at z;exact z
   refine wpAny_mono (htC _ s7 σ7 H7 _ I7 q7) (fun ok s8 ⟨H8,I8,q8⟩=>?_) fun _ _ z=>by rw [eX] at z;exact z
   have fin:∀ {H9:Hp} {s9:Shared},Inv XC ([(s2.heap.objs.size,({cls:=.type "list",data:=.seq its.toArray nn}:Obj))] ++ oA fp s6.heap) σ7 H9 s9→Inv XC [] (b8 sub σ) H9 s9∧tn (i+1) s9.heap∧(∀ b∈fp,H9 b=none)∧H9 s2.heap.objs.size=none∧
     s9.heap.get? s2.heap.objs.size=some {cls:=.type "list",data:=.seq its.toArray nn}:=fun {H9 s9} J=>by
    have pD:=J.pin (s2.heap.objs.size,({cls:=.type "list",data:=.seq its.toArray nn}:Obj)) (by rw [ePn];simp)
    have pF:∀ b∈fp,∀ o,s6.heap.get? b=some o→s9.heap.get? b=some o∧H9 b=none:=fun b hb o e=>by
     have q:=J.pin (b,o) (by rw [ePn];exact List.mem_append_right _ (List.mem_append_right _ (jj hb e)))
     exact ⟨q.1,q.2.1⟩
    refine ⟨?_,T.keep _ _ _ st6 fun b hb o e=>(pF b hb o e).1,fun b hb=>?_,pD.2.1,pD.1⟩
    ·have J0:Inv XC [] σ7 H9 s9:=J.pins_of fun p hp=>nomatch hp
     exact J0.weak kp7.1.symm fun j v e=>kp7.2 j v e
    ·obtain ⟨o,e,_⟩:=T.obj _ _ st6 b hb
     exact (pF b hb o e).2
   cases ok with
   | false=>
    rw [if_neg (by simp)]
    rw [if_neg (by simp)] at q8
    obtain ⟨m',hm,w8⟩:=hN _ _ q8
    obtain ⟨a1,a2,a3,a4,a5⟩:=fin I8
    exact ⟨m',hm,i+1,ys,its,nn,H8,a1,a2,a3,a4,a5,rv4,w8⟩
   | true=>
    rw [if_pos rfl]
    rw [if_pos rfl] at q8
    refine wpAny_mono (heC _ s8 σ7 H8 _ I8 q8) (fun xv s9 ⟨y,H9,I9,r9,n9⟩=>?_) fun _ _ z=>by rw [eX] at z;exact z
    obtain ⟨m',hm,w9⟩:=hN _ _ n9
    obtain ⟨a1,a2,a3,a4,a5⟩:=fin I9
    refine wpAny_list_append_plain (items:=its.toArray) ⟨nn,a5⟩ (fun h' ⟨n',hp'⟩ sb=>?_) (by simp;rw [← rv4.length];omega)
    obtain ⟨q1,q2⟩:=I4.ok.exf s2.heap.objs.size (by rw [eEx];exact List.mem_cons_self)
    have a1':Inv XC [] (b8 sub σ) H9 {s9 with heap:=h'}:=a1.turned (t':=s9.toks) (fun b o hb e=>(sb.2 b hb).trans e) a4 q1 (.inl (by rw [eEx];exact List.mem_cons_self)) q2 (fun p hp=>by rw [ePn] at hp;exact nomatch hp)
    refine ⟨m',hm,i+1,ys ++ [y],its ++ [xv],n',H9,a1',T.keep _ _ _ a2 fun b hb o e=>(sb.2 b (fun z=>hDfp (by rw [← z];exact hb))).trans e,a3,a4,?_,rv4.append (.cons r9 .nil),w9⟩
    rw [hp']
    simp
 subst hs3
 exact codeAny_compStart_list loop (T.self _ 0 _ _ _ (T.keep _ _ _ st2 fun b _ o e=>hk31 b o (k23 b o e)) loop)
theorem xQ {N:List Str} {sc:Scope} {i:Nat} {x:Str} {pos' spos:Pos} (hNd:X.N.Nodup) (hxi:X.N[i]?=some x) (hx:Loc X.env.scope x) (hf:X.fn x=true) (S:lQ N sc N' scope sub) (hc:X.calm=true) (hN:X.N=N) (hsc:X.env.scope=sc) (hi:PI X tg iter wi)
  (hg:∀ (C:Addr) (s₀:Shared) (H₀:Hp) (ex:List Addr),PG (lC X N' scope C s₀ H₀ ex) tg g)
  (ht:∀ (C:Addr) (s₀:Shared) (H₀:Hp) (ex:List Addr),uJ (lC X N' scope C s₀ H₀ ex) ifs tt)
  (he:∀ (C:Addr) (s₀:Shared) (H₀:Hp) (ex:List Addr),PE (lC X N' scope C s₀ H₀ ex) elt te)
  (hs:∀ x,foldedSetIterable iter X.env x=pure x):PS X (.Assign [.Name x pos'] (.ListComp elt [⟨tg,iter,ifs,0⟩] scope pos) spos) (uD (rz sub wi g tt te) (jL i)):=by
 intro pins s σ H D I h
 have hsw:∃ b,swapsWith (.ListComp elt [⟨tg,iter,ifs,0⟩] scope pos) (some (.Name x pos')) spos.line X.env=pure b:=⟨_,rfl⟩
 obtain ⟨b,hsw⟩:=hsw
 cases b with
 | false=>exact Cy hNd hxi hx (yP S hc hN hsc hi hg ht he hs) hsw (.inl hf) pins s σ H D I h
 | true=>
  rw [exec_Assign_Name_used _ _ _ _ hsw]
  refine wpAny_bind (wpAny_standAt (wpAny_bind ?_))
  show wpAny _ X.A (do let _ ← comprehension (.ListComp elt [⟨tg,iter,ifs,0⟩] scope pos) scope X.env _ (newList []) false (eval iter X.env) (some (assign (.Name x pos') X.env))) _ _ s
  refine wpAny_bind (wpAny_mono (Ea (use:=some (assign (.Name x pos') X.env)) (R:=fun _ s'=>SP X pins D .next s') S hc hN hsc hi hg ht he hs pins s σ H _ I h ?_) (fun _ s' hq=>wpAny_pure (wpAny_pure hq)) fun _ _ e=>e)
  intro Da C s5 H5 m I5 fC hn q
  show wpAny _ X.A (assign (.Name x pos') X.env (.ref Da)) _ _ _
  refine wpAny_assign_Name (tO I5 hNd hxi hx (v:=.ref Da) rfl (fun s6 I6 qq0=>?_) (.inl hf))
  obtain ⟨a,sb,ha⟩:=qq0
  obtain ⟨f0,f1,f2,f3,f4,f5⟩:=fC
  have hCa:C≠a:=fun z=>by
   rcases ha with e | e
   ·exact f1 (z.trans e)
   ·exact f4 x a e z.symm
  exact ⟨m,hn.sameBut sb hCa,fun h' hs'=>⟨_,H5,I6.turned (t':=s6.toks) (fun b o hb e=>hs'.extBut b o hb e) f0 f1 f3 f4 f5,q⟩⟩
end
section
variable {X:Cx} {tg iter elt:Expr} {ifs:List Expr} {scope:Scope} {pos:Pos} {N':List Str} {sub:List (Option Nat)} {wi:TI} {g:TG} {tt:TT} {te:TE} {N:List Str} {sc:Scope}
theorem qD {i:Nat} {x:Str} {pos' spos:Pos} (hNd:X.N.Nodup) (hxi:X.N[i]?=some x) (hx:Loc X.env.scope x) (S:lQ N sc N' scope sub) (hc:X.calm=true) (hN:X.N=N) (hsc:X.env.scope=sc) (hi:JI X tg iter wi)
  (hg:∀ (C:Addr) (s₀:Shared) (H₀:Hp) (ex:List Addr),JG (lC X N' scope C s₀ H₀ ex) tg g)
  (ht:∀ (C:Addr) (s₀:Shared) (H₀:Hp) (ex:List Addr),HJ (lC X N' scope C s₀ H₀ ex) ifs tt)
  (he:∀ (C:Addr) (s₀:Shared) (H₀:Hp) (ex:List Addr),JE (lC X N' scope C s₀ H₀ ex) elt te) (hf:X.fn x=true) (h:autoParam (oJ iter=true) L2.auto4._auto_1):
  JS X (.Assign [.Name x pos'] (.ListComp elt [⟨tg,iter,ifs,0⟩] scope pos) spos) (uD (rz sub wi g tt te) (jL i)):=
 ⟨xQ hNd hxi hx hf S hc hN hsc hi.run (fun C s₀ H₀ ex=>(hg C s₀ H₀ ex).run) (fun C s₀ H₀ ex=>(ht C s₀ H₀ ex).run) (fun C s₀ H₀ ex=>(he C s₀ H₀ ex).run) (DN h)⟩
end
end L2
namespace L2
open PySem PySem.Spec PyProof.Rows
section
variable {X:Cx} {pins:List (Addr×Obj)} {σ:St} {H:Hp} {s:Shared}
theorem Inv.newtup {wr:List Addr} {T:Addr} {vals:Array Value} {xs:List V} {h'':Heap} {tk:Nat} (I:Inv X pins σ H s) (hf:∀ b∈wr,iw X pins H b) (hT:s.heap.objs.size≤T)
  (kall:∀ b o,b ∉ wr→s.heap.get? b=some o→h''.get? b=some o) (isT':h''.IsTuple T vals) (hv:Vals xs vals.toList) (hx:xs.length≤sizeLine):Inv X pins σ (upd H T (.tup xs)) {s with heap:=h'',toks:=tk}:=by
 have hTn:H T=none:=I.hok.fresh hT
 have nT:∀ b o,s.heap.get? b=some o→b≠T:=fun b o e=>Nat.ne_of_lt (Nat.lt_of_lt_of_le (Heap.lt_size e) hT)
 have nTH:∀ b u,H b=some u→b≠T:=fun b u e z=>by rw [z,hTn] at e;cases e
 have nW:∀ b u,H b=some u→b ∉ wr:=fun b u e hb=>by rw [(hf b hb).1] at e;cases e
 refine I.step (g':=s.gens) (d':=s.drawn) (ch:=wr) (fun b hb=>?_) (fun b o _ _ hc e _=>kall b o hc e) (fun b o _ _ hc e _=>⟨o.slots,kall b o hc e⟩) (fun b o _ e hn=>by rw [aB (nT b o e)];exact hn)
  (fun b o hc e=>⟨o,kall b o hc e⟩) (fun b ys e=>by rw [aB (nTH b _ e)];exact e) (fun b o u e=>by rw [aB (nTH b _ e)];exact e) (fun b ps e=>⟨#[],by rw [aB (nTH b _ e),e];simp⟩) (fun m hm=>?_) (fun b u e=>?_) I.bare
 ·obtain ⟨f0,f1,f2,f3,f4,f5⟩:=hf b hb
  exact ⟨f3,f1,f4,f5⟩
 ·obtain ⟨o,es,ep,ho,r⟩:=hm
  exact ⟨o,es,ep,kall _ o (fun hb=>(hf _ hb).2.1 rfl) ho,r⟩
 ·by_cases hb:b=T
  ·subst hb
   rw [ak] at e;cases e
   obtain ⟨o,ho,hcl,nn,hd⟩:=isT'
   exact ⟨hx,vals.toList,hv,o,ho,hcl,nn,by simpa using hd⟩
  ·rw [aB hb] at e
   refine (I.hok b u e).stay (fun c v hc' q=>kall c v ?_ q) (fun c q=>by rw [aB (nTH c _ q)];exact q) fun c ys q=>by rw [aB (nTH c _ q)];exact q
   rcases hc' with z | z
   ·rw [z];exact nW b u e
   ·exact nW c _ z
theorem Inv.only {wr:List Addr} {h':Heap} {tk:Nat} (I:Inv X pins σ H s) (hf:∀ b∈wr,iw X pins H b) (kk:∀ b o,b ∉ wr→s.heap.get? b=some o→h'.get? b=some o):Inv X pins σ H {s with heap:=h',toks:=tk}:=by
 have nW:∀ b u,H b=some u→b ∉ wr:=fun b u e hb=>by rw [(hf b hb).1] at e;cases e
 refine I.step (g':=s.gens) (d':=s.drawn) (ch:=wr) (fun b hb=>?_) (fun b o _ _ hc e _=>kk b o hc e) (fun b o _ _ hc e _=>⟨o.slots,kk b o hc e⟩) (fun b o _ e hn=>hn)
   (fun b o hc e=>⟨o,kk b o hc e⟩) (fun b ys e=>e) (fun b o u e=>e) (fun b ps e=>⟨#[],by rw [e];simp⟩) (fun m hm=>?_) (fun b u e=>?_) I.bare
 ·obtain ⟨f0,f1,f2,f3,f4,f5⟩:=hf b hb
  exact ⟨f3,f1,f4,f5⟩
 ·obtain ⟨o,es,ep,ho,r⟩:=hm
  exact ⟨o,es,ep,kk _ o (fun hb=>(hf _ hb).2.1 rfl) ho,r⟩
 ·refine (I.hok b u e).stay (fun c v hc' q=>kk c v ?_ q) (fun c q=>q) fun c ys q=>q
  rcases hc' with z | z
  ·rw [z];exact nW b u e
  ·exact nW c _ z
end
def Qj (K:PySem.W.Frag) (a b:Addr):It:=
 ⟨fun i H=>∃ xs ys x y,SqL K H a xs∧SqL K H b ys∧xs[i]?=some x∧ys[i]?=some y,
  fun i H v H'=>∃ T x y,H T=none∧v= .ref T∧(∀ xs,SqL K H a xs→xs[i]?=some x)∧(∀ ys,SqL K H b ys→ys[i]?=some y)∧H'=upd H T (.tup [x,y]),
  fun i H=>∃ xs ys,SqL K H a xs∧SqL K H b ys∧(xs.length≤i∨ys.length≤i)⟩
theorem Eb {P:Program} {w:World} {K:PySem.W.Frag} {elts:List Expr} {k:Nat} {pos:Pos} {z TI TO i1 i2 a b:Addr} (D:ZipApart z TI TO i1 i2 a b):
  Turn P w K (.Tuple elts k pos) (Qj K a b) [z,TI,TO,i1,i2] z (fun i h=>IsZip h z TI TO .none∧IsPair h TI (.ref i1) (.ref i2)∧(∃ c d,IsPair h TO c d)∧h.IsListIter i1 a i∧h.IsListIter i2 b i) where
 mem:=by simp
 obj:=fun i h st c hc=>by
  obtain ⟨hz,hTI,⟨x,y,hTO⟩,⟨o1,e1,c1,d1⟩,⟨o2,e2,c2,d2⟩⟩:=st
  simp only [List.mem_cons,List.mem_nil_iff,or_false] at hc
  rcases hc with rfl | rfl | rfl | rfl | rfl
  ·exact ⟨_,hz,fun v z=>by cases z⟩
  ·exact ⟨_,hTI,fun v z=>by cases z⟩
  ·exact ⟨_,hTO,fun v z=>by cases z⟩
  ·exact ⟨_,e1,fun v z=>by rw [d1] at z;cases z⟩
  ·exact ⟨_,e2,fun v z=>by rw [d2] at z;cases z⟩
 keep:=fun i h h' st kk=>by
  obtain ⟨hz,hTI,⟨x,y,hTO⟩,h1,h2⟩:=st
  exact ⟨kk z (by simp) _ hz,kk TI (by simp) _ hTI,⟨x,y,kk TO (by simp) _ hTO⟩,h1.at fun o e=>kk i1 (by simp) o e,h2.at fun o e=>kk i2 (by simp) o e⟩
 item:=by
  intro X hP hw hK hc i pins s σ H E I hf st hg
  subst hP hw hK
  obtain ⟨hz,hTI,⟨c,d,hTO⟩,h1,h2⟩:=st
  obtain ⟨xs,ys,x,y,hq,hq2,hx,hy⟩:=hg
  obtain ⟨its,rv,p,_⟩:=I.list hq
  obtain ⟨jts,rv2,p2,_⟩:=I.list hq2
  obtain ⟨u,hu,ru⟩:=rv.get hx
  obtain ⟨u2,hu2,ru2⟩:=rv2.get hy
  refine wpAny_pyNext_zip_item D hz hTI hTO h1 h2 p.isList p2.isList (x:=u) (y:=u2) (by simpa using hu) (by simpa using hu2) fun h' a1 a2 a3 a4 a5 a6 hk=>?_
  refine ⟨_,rfl,wpAny_letOwnedTupleGo_zip a1 fun h'' a1' sb=>?_⟩
  have lt:∀ {c o},s.heap.get? c=some o→s.heap.objs.size≠c:=fun e=>Nat.ne_of_gt (Heap.lt_size e)
  have isT:h''.IsTuple s.heap.objs.size #[u,u2]:=⟨_,sb.extBut _ _ (lt hz) a5,rfl,_,rfl⟩
  have kall:∀ b o,b ∉ [z,TI,TO,i1,i2]→s.heap.get? b=some o→h''.get? b=some o:=fun b o hb e=>by
   simp only [List.mem_cons,List.mem_nil_iff,or_false,not_or] at hb
   exact sb.extBut _ _ hb.1 (hk b o hb.1 hb.2.2.1 hb.2.2.2.1 hb.2.2.2.2 e)
  have hTn:H s.heap.objs.size=none:=I.hok.fresh (Nat.le_refl _)
  refine ⟨.ref s.heap.objs.size,_,I.newtup (tk:=s.toks) hf (Nat.le_refl _) kall isT (xs:=[x,y]) (.cons ru (.cons ru2 .nil)) (by simp;decide),rfl,⟨_,x,y,hTn,rfl,fun zs hs=>by rw [I.list_inj hs hq];exact hx,fun zs hs=>by rw [I.list_inj hs hq2];exact hy,rfl⟩,?_,fun b hb=>?_⟩
  ·exact ⟨a1',sb.extBut _ _ D.TIz (hk _ _ D.TIz D.TITO D.TIi1 D.TIi2 hTI),⟨_,_,sb.extBut _ _ D.TOz a2⟩,a3.extBut sb.extBut D.i1z,a4.extBut sb.extBut D.i2z⟩
  ·have:s.heap.objs.size≠b:=by
    simp only [List.mem_cons,List.mem_nil_iff,or_false] at hb
    rcases hb with rfl | rfl | rfl | rfl | rfl
    ·exact lt hz
    ·exact lt hTI
    ·exact lt hTO
    ·obtain ⟨o,e,_⟩:=h1;exact lt e
    ·obtain ⟨o,e,_⟩:=h2;exact lt e
   rw [aB (Ne.symm this)]
   exact (hf b hb).1
 done:=by
  intro X hP hw hK hc i pins s σ H E I hf st hg
  subst hP hw hK
  obtain ⟨hz,hTI,⟨c,d,hTO⟩,h1,h2⟩:=st
  obtain ⟨xs,ys,hq,hq2,hx⟩:=hg
  obtain ⟨its,rv,p,_⟩:=I.list hq
  obtain ⟨jts,rv2,p2,_⟩:=I.list hq2
  have l1:=rv.length
  have l2:=rv2.length
  refine wpAny_pyNext_zip_end (I.ok.hd hc) D hz hTI hTO h1 h2 p.isList p2.isList (by simp;omega) fun h' hk=>⟨rfl,I.only (tk:=s.toks) hf fun b o hb e=>?_⟩
  simp only [List.mem_cons,List.mem_nil_iff,or_false,not_or] at hb
  exact hk b o hb.1 hb.2.2.1 hb.2.2.2.1 hb.2.2.2.2 e
 self:=fun _ _ _ _ _ st h=>wpAny_pyIter_zip st.1 h
def Rh (K:PySem.W.Frag) (ta:TA):TI:=fun σ H R=>ta σ H fun vs H1=>∃ a b xs ys,vs=[.ref a,.ref b]∧SqL K H1 a xs∧SqL K H1 b ys∧R (Qj K a b) H1
theorem Nq {X:Cx} {K:PySem.W.Frag} {a b:Expr} {ta:TA} {elts:List Expr} {k:Nat} {tp p pos:Pos} (hK:X.K=K) (hg:Gl X "zip") (hm:X.mg "zip"=none) (ha:JA X [a,b] ta) (h:autoParam (notStar a=true) L2.auto4._auto_1) (h2:autoParam (notStar b=true) L2.auto4._auto_1):
  JI X (.Tuple elts k tp) (.Call (.Name "zip" p) [a,b] [] pos) (Rh K ta):=⟨by
 subst hK
 intro pins s σ H R I hq
 refine Call_ (fQ I hg hm Nk (PyProof.Rows.callWith_type1 (dD (ha.run pos pins s σ H _ I hq) fun us s1 qq0=>?_) (cz h) (by rw [cz h2];rfl)))
 obtain ⟨vs,H1,I1,r1,q1⟩:=qq0
 obtain ⟨l1,l2,xs,ys,e,hl1,hl2,q⟩:=q1
 subst e
 obtain ⟨u,u2,rfl,e1,e2⟩:∃ u u2,us=[u,u2]∧RelV (.ref l1) u∧RelV (.ref l2) u2:=by
  cases r1 with
  | cons x r=>cases r with
   | cons y r=>cases r with
    | nil=>exact ⟨_,_,rfl,x,y⟩
 cases e1
 cases e2
 obtain ⟨its,rv,p1,_⟩:=I1.list hl1
 obtain ⟨jts,rv2,p2,_⟩:=I1.list hl2
 have lt1:l1 < s1.heap.objs.size:=by obtain ⟨o,ho,_⟩:=p1.isList;exact Heap.lt_size ho
 have lt2:l2 < s1.heap.objs.size:=by obtain ⟨o,ho,_⟩:=p2.isList;exact Heap.lt_size ho
 refine call_zip_2 p1.isList p2.isList fun h' z1 z2 z3 z4 z5 z6 hk=>?_
 have J1:Inv X pins σ H1 {s1 with heap:=h'}:=I1.kept (t':=s1.toks) hk
 have D:ZipApart (s1.heap.objs.size+4) (s1.heap.objs.size+2) (s1.heap.objs.size+3) s1.heap.objs.size (s1.heap.objs.size+1) l1 l2:=by
  have key:∀ n a b:Nat,a < n→b < n→ZipApart (n+4) (n+2) (n+3) n (n+1) a b:=fun n a b h1 h2=>by
   constructor <;> (show (_:Nat)≠_) <;> omega
  exact key _ _ _ lt1 lt2
 refine wpAny_pyIter_zip z1 ?_
 refine ⟨s1.heap.objs.size+4,_,_,_,H1,rfl,J1,Eb D,⟨z1,z2,⟨_,_,z3⟩,z4,z5⟩,fun b hb=>?_,q⟩
 have hb':s1.heap.objs.size≤b:=by
  simp only [List.mem_cons,List.mem_nil_iff,or_false] at hb
  have key:∀ n c:Nat,(c=n+4∨c=n+2∨c=n+3∨c=n∨c=n+1)→n≤c:=fun n c h=>by omega
  exact key _ _ hb
 exact I1.fpOk hb' (I1.hok.fresh hb')⟩
def Nr (K:PySem.W.Frag) (a:Addr):It:=
 ⟨fun i H=>∃ xs x,SqL K H a xs∧xs[i]?=some x,
  fun i H v H'=>∃ T x,H T=none∧v= .ref T∧(∀ xs,SqL K H a xs→xs[i]?=some x)∧H'=upd H T (.tup [.int i,x]),
  fun i H=>∃ xs,SqL K H a xs∧xs.length≤i⟩
theorem xR {P:Program} {w:World} {K:PySem.W.Frag} {elts:List Expr} {k:Nat} {pos:Pos} {e it a:Addr} (hne:e≠it):
  Turn P w K (.Tuple elts k pos) (Nr K a) [e,it] e (fun i h=>(∃ old,IsEnum h e it i old)∧h.IsListIter it a i) where
 mem:=by simp
 obj:=fun i h st c hc=>by
  obtain ⟨⟨old,he⟩,⟨o1,e1,c1,d1⟩⟩:=st
  simp only [List.mem_cons,List.mem_nil_iff,or_false] at hc
  rcases hc with rfl | rfl
  ·exact ⟨_,he,fun v z=>by cases z⟩
  ·exact ⟨_,e1,fun v z=>by rw [d1] at z;cases z⟩
 keep:=fun i h h' st kk=>by
  obtain ⟨⟨old,he⟩,h1⟩:=st
  exact ⟨⟨old,kk e (by simp) _ he⟩,h1.at fun o q=>kk it (by simp) o q⟩
 item:=by
  intro X hP hw hK hc i pins s σ H E I hf st hg
  subst hP hw hK
  obtain ⟨⟨old,he⟩,h1⟩:=st
  obtain ⟨xs,x,hq,hx⟩:=hg
  obtain ⟨its,rv,p,_⟩:=I.list hq
  obtain ⟨u,hu,ru⟩:=rv.get hx
  refine wpAny_pyNext_enum_item he h1 p.isList (x:=u) (by simpa using hu) hne fun h' a1 a2 a3 a4 hk=>?_
  refine ⟨_,rfl,wpAny_letOwnedTupleGo_enum a1 fun h'' a1' sb=>?_⟩
  have lt:∀ {c o},s.heap.get? c=some o→s.heap.objs.size≠c:=fun e=>Nat.ne_of_gt (Heap.lt_size e)
  have lti:s.heap.objs.size≠it:=by obtain ⟨o,q,_⟩:=h1;exact lt q
  have isT:h''.IsTuple s.heap.objs.size #[.int i s.toks,u]:=⟨_,sb.extBut _ _ (lt he) a3,rfl,_,rfl⟩
  have kall:∀ b o,b ∉ [e,it]→s.heap.get? b=some o→h''.get? b=some o:=fun b o hb q=>by
   simp only [List.mem_cons,List.mem_nil_iff,or_false,not_or] at hb
   exact sb.extBut _ _ hb.1 (hk b o hb.1 hb.2 q)
  have hTn:H s.heap.objs.size=none:=I.hok.fresh (Nat.le_refl _)
  refine ⟨.ref s.heap.objs.size,_,I.newtup (tk:=s.toks+1) hf (Nat.le_refl _) kall isT (xs:=[.int i,x]) (.cons ⟨_,rfl⟩ (.cons ru .nil)) (by simp;decide),rfl,⟨_,x,hTn,rfl,fun zs hs=>by rw [I.list_inj hs hq];exact hx,rfl⟩,?_,fun b hb=>?_⟩
  ·exact ⟨⟨_,a1'⟩,a2.extBut sb.extBut (Ne.symm hne)⟩
  ·have:s.heap.objs.size≠b:=by
    simp only [List.mem_cons,List.mem_nil_iff,or_false] at hb
    rcases hb with rfl | rfl
    ·exact lt he
    ·exact lti
   rw [aB (Ne.symm this)]
   exact (hf b hb).1
 done:=by
  intro X hP hw hK hc i pins s σ H E I hf st hg
  subst hP hw hK
  obtain ⟨⟨old,he⟩,h1⟩:=st
  obtain ⟨xs,hq,hx⟩:=hg
  obtain ⟨its,rv,p,_⟩:=I.list hq
  have l1:=rv.length
  refine wpAny_pyNext_enum_end (I.ok.hd hc) he h1 p.isList (by simp;omega) fun h' hk=>⟨rfl,I.only (tk:=s.toks) hf fun b o hb q=>?_⟩
  simp only [List.mem_cons,List.mem_nil_iff,or_false,not_or] at hb
  exact hk b o hb.2 q
 self:=fun _ _ _ _ _ st h=>let ⟨⟨_,he⟩,_⟩:=st;wpAny_pyIter_enum he h
theorem Ak {X:Cx} {elts:List Expr} {k:Nat} {tp:Pos} {pins:List (Addr×Obj)} {σ:St} {H1:Hp} {s1:Shared} {x:Str} {t:Tok} {R:It→Hp→Prop} (hc:X.calm=true) (I1:Inv X pins σ H1 s1) (q:R (Uj (vY x) x.cps.size) H1):
  wpAny (model X.prog X.w) X.A (call (.type "enumerate") [.str x t]) (fun v s1=>wpAny (model X.prog X.w) X.A (pyIter v) (PIE X pins σ (.Tuple elts k tp) R) X.xe s1) X.xe s1:=by
 refine call_enumerate_str fun h' he hit hsz hk=>?_
 have J1:Inv X pins σ H1 {s1 with heap:=h'}:=I1.kept (t':=s1.toks) hk
 have ne1:s1.heap.objs.size+1≠s1.heap.objs.size:=Nat.succ_ne_self _
 have nm:s1.heap.objs.size+1 ∉ [s1.heap.objs.size]:=fun z=>ne1 (List.mem_singleton.mp z)
 have hPt:∀ (i:Nat) (vals:Array Value),(∃ t y,SignAt x i y∧vals= #[.int i t,y])→Vals (vY x i) vals.toList:=by
  rintro i vals ⟨t,y,⟨c,u,e1,rfl⟩,rfl⟩
  refine .cons ⟨t,rfl⟩ (.cons ⟨u,?_⟩ .nil)
  rw [show x.cps.getD i 0=c by simp [Array.getD_eq_getD_getElem?,e1]]
 have fin:∀ (ty:String) (Dr:∀ A:Around,A.handled=none→Draws X.prog X.w A s1.heap.objs.size [s1.heap.objs.size] x.cps.size (SignAt x) fun i h=>h.IsStrIter s1.heap.objs.size ty x t i),h'.IsStrIter s1.heap.objs.size ty x t 0→
   wpAny (model X.prog X.w) X.A (pyIter (.ref (s1.heap.objs.size+1))) (PIE X pins σ (.Tuple elts k tp) R) X.xe {s1 with heap:=h'}:=by
  intro ty Dr hit'
  have W:∀ A:Around,A.handled=none→WalksT X.prog X.w A (s1.heap.objs.size+1) [s1.heap.objs.size+1,s1.heap.objs.size] [s1.heap.objs.size+1,s1.heap.objs.size] x.cps.size
    (fun i vals=>∃ t y,SignAt x i y∧vals= #[.int i t,y]) (fun i h=>(∃ old,IsEnum h (s1.heap.objs.size+1) s1.heap.objs.size i old)∧h.IsStrIter s1.heap.objs.size ty x t i)
    (fun i T h=>(∃ y,IsEnumOut h (s1.heap.objs.size+1) s1.heap.objs.size ((i:Int)+1) y T)∧h.IsStrIter s1.heap.objs.size ty x t (i+1)∧T≠s1.heap.objs.size+1∧T≠s1.heap.objs.size):=
   fun A hA=>WalksT.enumerateD (Dr A.in1 hA) (s1.heap.objs.size+1) ne1 nm (by simp)
  have hself:∀ (A:Around) (i:Nat) (s:Shared) (Q:Value→Shared→Prop) (E:Value→Shared→Prop),((∃ old,IsEnum s.heap (s1.heap.objs.size+1) s1.heap.objs.size i old)∧s.heap.IsStrIter s1.heap.objs.size ty x t i)→Q (.ref (s1.heap.objs.size+1)) s→wpAny (model X.prog X.w) A (pyIter (.ref (s1.heap.objs.size+1))) Q E s:=by
   rintro A i s Q E ⟨⟨old,he⟩,_⟩ hQ
   exact wpAny_pyIter_enum he hQ
  refine hself _ 0 _ _ _ ⟨⟨_,he⟩,hit'⟩ ?_
  refine ⟨s1.heap.objs.size+1,[s1.heap.objs.size+1,s1.heap.objs.size],_,_,H1,rfl,J1,Nm W (fun i=>by simp [vY];decide) hPt (by simp) ?_ hself,⟨⟨_,he⟩,hit'⟩,fun b hb=>?_,q⟩
  ·rintro i h ⟨⟨old,he⟩,o,ho,hcl,hd⟩ b hb
   rcases List.mem_cons.mp hb with rfl | hb
   ·exact ⟨_,he,fun v z=>by cases z⟩
   ·rw [List.mem_singleton.mp hb]
    exact ⟨o,ho,fun v z=>by rw [hd] at z;cases z⟩
  ·have hb':s1.heap.objs.size≤b:=by
    rcases List.mem_cons.mp hb with rfl | hb
    ·exact Nat.le_succ _
    ·rw [List.mem_singleton.mp hb];exact Nat.le_refl _
   exact I1.fpOk hb' (I1.hok.fresh hb')
 cases hx:x.cps.all (· < 128)
 ·exact fin "str_iterator" (fun A hA=>Draws.strWide hA _ x t) (by simpa [strIterType,hx] using hit)
 ·exact fin "str_ascii_iterator" (fun A hA=>Draws.strAscii hA _ x t) (by simpa [strIterType,hx] using hit)
end L2
namespace L2
open PySem PySem.Spec PyProof.Rows PySem.SeqAt
mutual
def DR (H:Hp):PyData→V→Prop
 | .none,v=>v= .non
 | .bool b,v=>v= .bl b
 | .int n,v=>v= .int n
 | .str x,v=>v= .str x
 | .list ds,v=>∃ a vs,v= .ref a∧H a=some (.lst vs)∧DRs H ds vs
 | .tuple ds,v=>∃ a vs,v= .ref a∧H a=some (.tup vs)∧DRs H ds vs
 | .dict _,_=>False
def DRs (H:Hp):List PyData→List V→Prop
 | [],vs=>vs=[]
 | d :: ds,vs=>∃ v r,vs=v :: r∧DR H d v∧DRs H ds r
end
mutual
theorem DR.same {H H':Hp} (s:Same H H'):∀ (d:PyData) (v:V),DR H d v→DR H' d v
 | .none,_,h=>by rw [DR] at h ⊢;exact h
 | .bool _,_,h=>by rw [DR] at h ⊢;exact h
 | .int _,_,h=>by rw [DR] at h ⊢;exact h
 | .str _,_,h=>by rw [DR] at h ⊢;exact h
 | .list ds,v,h=>by rw [DR] at h ⊢;obtain ⟨a,vs,e,q,r⟩:=h;exact ⟨a,vs,e,s _ _ q,DRs.same s ds vs r⟩
 | .tuple ds,v,h=>by rw [DR] at h ⊢;obtain ⟨a,vs,e,q,r⟩:=h;exact ⟨a,vs,e,s _ _ q,DRs.same s ds vs r⟩
 | .dict _,_,h=>by rw [DR] at h;exact h.elim
theorem DRs.same {H H':Hp} (s:Same H H'):∀ (ds:List PyData) (vs:List V),DRs H ds vs→DRs H' ds vs
 | [],_,h=>by rw [DRs] at h ⊢;exact h
 | d :: ds,vs,h=>by rw [DRs] at h ⊢;obtain ⟨v,r,e,q,t⟩:=h;exact ⟨v,r,e,DR.same s d v q,DRs.same s ds r t⟩
end
theorem xT {H:Hp} {n:Int} {v:V}:DR H (.int n) v↔v= .int n:=by rw [DR]
theorem Nt {H:Hp} {n:Str} {v:V}:DR H (.str n) v↔v= .str n:=by rw [DR]
theorem HQ {H:Hp} {n:Bool} {v:V}:DR H (.bool n) v↔v= .bl n:=by rw [DR]
theorem HR {H:Hp} {v:V}:DR H .none v↔v= .non:=by rw [DR]
theorem jq {H:Hp} {ds:List PyData} {v:V}:DR H (.list ds) v↔∃ a vs,v= .ref a∧H a=some (.lst vs)∧DRs H ds vs:=by rw [DR]
theorem Ec {H:Hp} {ds:List PyData} {v:V}:DR H (.tuple ds) v↔∃ a vs,v= .ref a∧H a=some (.tup vs)∧DRs H ds vs:=by rw [DR]
theorem jr {H:Hp} {vs:List V}:DRs H [] vs↔vs=[]:=by rw [DRs]
theorem jb {H:Hp} {d:PyData} {ds:List PyData} {vs:List V}:DRs H (d :: ds) vs↔∃ v r,vs=v :: r∧DR H d v∧DRs H ds r:=by rw [DRs]
theorem vZ {H:Hp}:∀ (ns:List Int),DRs H (ns.map PyData.int) (ns.map V.int)
 | []=>jr.mpr rfl
 | n :: ns=>jb.mpr ⟨_,_,rfl,xT.mpr rfl,vZ ns⟩
mutual
theorem DR.reads {P:Program} {w:World} {H:Hp} {h:Heap} (ok:HOk P w H h):∀ (d:PyData) (v:V) (u:Value),DR H d v→RelV v u→∃ as,Reads h u d as
 | .none,_,u,q,r=>by rw [DR] at q;subst q;cases r;exact ⟨_,.none⟩
 | .bool b,_,u,q,r=>by rw [DR] at q;subst q;cases r;exact ⟨_,.bool _⟩
 | .int n,_,u,q,r=>by rw [DR] at q;subst q;obtain ⟨t,rfl⟩:=r;exact ⟨_,.int _ _⟩
 | .str n,_,u,q,r=>by rw [DR] at q;subst q;obtain ⟨t,rfl⟩:=r;exact ⟨_,.str _ _⟩
 | .list ds,v,u,q,r=>by
  rw [DR] at q
  obtain ⟨a,vs,rfl,e,t⟩:=q
  cases r
  obtain ⟨_,its,n,rv,g⟩:=ok a _ e
  obtain ⟨as,ra⟩:=DRs.reads ok ds vs its t rv
  exact ⟨_,.list g rfl rfl (by simpa using ra)⟩
 | .tuple ds,v,u,q,r=>by
  rw [DR] at q
  obtain ⟨a,vs,rfl,e,t⟩:=q
  cases r
  obtain ⟨_,its,rv,g⟩:=ok a _ e
  obtain ⟨as,ra⟩:=DRs.reads ok ds vs its t rv
  obtain ⟨o,ho,hc,n,hd⟩:=g
  exact ⟨_,.tuple ho hc hd (by simpa using ra)⟩
 | .dict _,_,_,q,_=>by rw [DR] at q;exact q.elim
theorem DRs.reads {P:Program} {w:World} {H:Hp} {h:Heap} (ok:HOk P w H h):∀ (ds:List PyData) (vs:List V) (us:List Value),DRs H ds vs→Vals vs us→∃ as,ReadsAll h us ds as
 | [],_,us,q,r=>by rw [DRs] at q;subst q;cases r;exact ⟨_,.nil⟩
 | d :: ds,_,us,q,r=>by
  rw [DRs] at q
  obtain ⟨v,r',rfl,q1,q2⟩:=q
  cases r with
  | cons a b=>
   obtain ⟨as,h1⟩:=DR.reads ok d v _ q1 a
   obtain ⟨bs,h2⟩:=DRs.reads ok ds r' _ q2 b
   exact ⟨_,.cons h1 h2⟩
end
def Ri:R2:=fun x y H Q=>∃ d e,DR H d x∧DR H e y∧shaped d=true∧shaped e=true∧Q (.bl (PyData.eqv d e)) H
def Rj:R2:=fun x y H Q=>∃ d e,DR H d x∧DR H e y∧shaped d=true∧shaped e=true∧Q (.bl (!PyData.eqv d e)) H
section
variable {X:Cx}
theorem Nu (hu:X.A.units+64 < cLine):OpR X (compareOp .Eq) Ri:=by
 intro pins s σ H x y v u Q I rx ry h
 obtain ⟨d,e,h1,h2,h3,h4,q⟩:=h
 obtain ⟨as,r1⟩:=DR.reads I.hok d x v h1 rx
 obtain ⟨bs,r2⟩:=DR.reads I.hok e y u h2 ry
 exact eq_dataH r1 r2 h3 h4 hu ⟨.bl _,H,I,rfl,q⟩
theorem Nv (hu:X.A.units+64 < cLine):OpR X (compareOp .NotEq) Rj:=by
 intro pins s σ H x y v u Q I rx ry h
 obtain ⟨d,e,h1,h2,h3,h4,q⟩:=h
 obtain ⟨as,r1⟩:=DR.reads I.hok d x v h1 rx
 obtain ⟨bs,r2⟩:=DR.reads I.hok e y u h2 ry
 exact ne_dataH r1 r2 h3 h4 hu ⟨.bl _,H,I,rfl,q⟩
def HS (K:PySem.W.Frag):R2:=fun x y H Q=>MK K x y H Q∨Ri x y H Q
def Ed (K:PySem.W.Frag):R2:=fun x y H Q=>Rg K x y H Q∨Rj x y H Q
theorem Ny {K:PySem.W.Frag} (hK:X.K=K) (hu:X.A.units+64 < cLine):OpR X (compareOp .Eq) (HS K):=(M6 hK (Nat.lt_of_le_of_lt (Nat.le_add_right _ _) hu)).or (Nu hu)
theorem Nz {K:PySem.W.Frag} (hK:X.K=K) (hu:X.A.units+64 < cLine):OpR X (compareOp .NotEq) (Ed K):=(Np hK hu).or (Nv hu)
end
section
variable {H:Hp} {Q:VK} {K:PySem.W.Frag} {σ:St}
theorem jt {i j:Int} (h:Q (.bl (decide (V.int i=V.int j))) H):HS K (.int i) (.int j) H Q:=.inl (.inl ⟨rfl,h⟩)
theorem ju {i j:Bool} (h:Q (.bl (decide (V.bl i=V.bl j))) H):HS K (.bl i) (.bl j) H Q:=.inl (.inl ⟨rfl,h⟩)
theorem jw {i j:Int} (h:Q (.bl (!decide (V.int i=V.int j))) H):Ed K (.int i) (.int j) H Q:=.inl (.inl ⟨rfl,h⟩)
theorem v4 {x y:V} {d:PyData} (h1:DR H d x) (h2:DR H d y) (hs:shaped d=true) (h:Q (.bl false) H):Ed K x y H Q:=
 .inr ⟨d,d,h1,h2,hs,hs,by rw [PySem.SeqAt.eqv_refl d (canLay_of_shaped hs)];exact h⟩
theorem v5 {x y:V} {d e:PyData} (h1:DR H d x) (h2:DR H e y) (hs:shaped d=true) (hs2:shaped e=true) (h:Q (.bl (!PyData.eqv d e)) H):Ed K x y H Q:=.inr ⟨d,e,h1,h2,hs,hs2,h⟩
theorem pX {a:TA} {R:It→Hp→Prop} (h:a σ H fun vs H1=>∃ a b xs ys,vs=[.ref a,.ref b]∧SqL K H1 a xs∧SqL K H1 b ys∧R (Qj K a b) H1):Rh K a σ H R:=h
theorem HW {a b:Addr} {xs ys:List V} {g:TG} {tb:TS} {D:Ends} (Pv:Nat→St→Hp→Prop) (hl:xs.length=ys.length) (h0:Pv 0 σ H) (hq:∀ i σ H,i≤xs.length→Pv i σ H→SqL K H a xs∧SqL K H b ys)
  (hs:∀ i σ H T x y,xs[i]?=some x→ys[i]?=some y→Pv i σ H→H T=none→g (.ref T) σ (upd H T (.tup [x,y])) fun σ2 H2=>tb {D with nx:=Pv (i+1),ct:=Pv (i+1),bk:=D.nx} σ2 H2) (hd:∀ σ H,Pv xs.length σ H→D.nx σ H):
  ∃ W:Nat→Nat→St→Hp→Prop,(∃ m,W 0 m σ H)∧∀ i m σ H,W i m σ H→
   ((Qj K a b).stop i H∧D.nx σ H)∨((Qj K a b).go i H∧∃ N:St→Hp→Prop,(∀ σ' H',N σ' H'→∃ m',m' < m∧W (i+1) m' σ' H')∧∀ x H',(Qj K a b).yld i H x H'→g x σ H' fun σ2 H2=>tb {D with nx:=N,ct:=N,bk:=D.nx} σ2 H2):=by
 refine ⟨fun i m σ H=>m=xs.length - i∧i≤xs.length∧Pv i σ H,⟨xs.length,by simp,Nat.zero_le _,h0⟩,?_⟩
 rintro i m σ H ⟨rfl,hi,p⟩
 obtain ⟨q1,q2⟩:=hq i σ H hi p
 by_cases hlt:i < xs.length
 ·refine .inr ⟨⟨xs,ys,xs[i],ys[i],q1,q2,List.getElem?_eq_getElem hlt,List.getElem?_eq_getElem (by omega)⟩,Pv (i+1),fun σ' H' p'=>⟨xs.length - (i+1),by omega,rfl,hlt,p'⟩,fun x H' y=>?_⟩
  obtain ⟨T,u,v,hT,e1,e2,e3,e4⟩:=y
  subst e1 e4
  exact hs i σ H T u v (e2 xs q1) (e3 ys q2) p hT
 ·have e:i=xs.length:=by omega
  subst e
  exact .inl ⟨⟨xs,ys,q1,q2,.inl (Nat.le_refl _)⟩,hd σ H p⟩
theorem Al {a:Addr} {xs:List V} {g:TG} {tb:TS} {D:Ends} (Pv:Nat→St→Hp→Prop) (h0:Pv 0 σ H) (hq:∀ i σ H,i≤xs.length→Pv i σ H→SqL K H a xs)
  (hs:∀ i σ H T x,xs[i]?=some x→Pv i σ H→H T=none→g (.ref T) σ (upd H T (.tup [.int i,x])) fun σ2 H2=>tb {D with nx:=Pv (i+1),ct:=Pv (i+1),bk:=D.nx} σ2 H2) (hd:∀ σ H,Pv xs.length σ H→D.nx σ H):
  ∃ W:Nat→Nat→St→Hp→Prop,(∃ m,W 0 m σ H)∧∀ i m σ H,W i m σ H→
   ((Nr K a).stop i H∧D.nx σ H)∨((Nr K a).go i H∧∃ N:St→Hp→Prop,(∀ σ' H',N σ' H'→∃ m',m' < m∧W (i+1) m' σ' H')∧∀ x H',(Nr K a).yld i H x H'→g x σ H' fun σ2 H2=>tb {D with nx:=N,ct:=N,bk:=D.nx} σ2 H2):=by
 refine ⟨fun i m σ H=>m=xs.length - i∧i≤xs.length∧Pv i σ H,⟨xs.length,by simp,Nat.zero_le _,h0⟩,?_⟩
 rintro i m σ H ⟨rfl,hi,p⟩
 have q1:=hq i σ H hi p
 by_cases hlt:i < xs.length
 ·refine .inr ⟨⟨xs,xs[i],q1,List.getElem?_eq_getElem hlt⟩,Pv (i+1),fun σ' H' p'=>⟨xs.length - (i+1),by omega,rfl,hlt,p'⟩,fun x H' y=>?_⟩
  obtain ⟨T,u,hT,e1,e2,e4⟩:=y
  subst e1 e4
  exact hs i σ H T u (e2 xs q1) p hT
 ·have e:i=xs.length:=by omega
  subst e
  exact .inl ⟨⟨xs,q1,Nat.le_refl _⟩,hd σ H p⟩
end
end L2
namespace L2
open PySem PySem.Spec PyProof.Rows
theorem Ef:typeLookup (.type "list_reverseiterator") "__len__"=pure none:=by rw [typeLookup_type,builtinLookup_eq_fast];kernel_rfl
theorem Am:typeLookup (.type "list_reverseiterator") "__length_hint__"=pure (some (.builtin "list_reverseiterator.__length_hint__")):=by rw [typeLookup_type,builtinLookup_eq_fast];kernel_rfl
section
variable {prog:Program} {w:World} {A:Around} {E:Value→Shared→Prop} {s:Shared}
theorem Eg {it l:Addr} {i:Int} {Q:Bool→Shared→Prop} (hit:s.heap.IsRevIter it l i) (h:Q false s):wpAny (model prog w) A (Builtin.List.listLengthHint (.ref it)) Q E s:=by
 unfold Builtin.List.listLengthHint
 refine wpAny_bind (wpAny_specialOf hit.typeIs Ef ?_)
 show wpAny _ _ (specialOf (Value.ref it) (Str.ofString "__length_hint__") >>=_) _ _ _
 refine wpAny_bind (wpAny_specialOf hit.typeIs Am ?_)
 generalize hid:("list_reverseiterator.__length_hint__":String)=id0
 wp_delta
 rw [show splitId id0=some ("list_reverseiterator","__length_hint__") from by subst hid;decide+kernel]
 subst hid
 refine wpAny_bind (wpAny_isInstance (T:="list_reverseiterator") (b:=true) hit.typeIs (by rw [isSubtype_type];kernel_rfl) ?_)
 refine wpAny_ite_split (fun hab=>absurd hab (by decide)) (fun _=>?_)
 refine wpAny_ite_split (fun _=>?_) (fun hab=>absurd (by decide+kernel) hab)
 refine wpAny_ite_split (fun hab=>absurd hab (by decide+kernel)) (fun _=>?_)
 exact wpAny_pure h
theorem Eh {it l:Addr} {items:Array Value} {Q:Value→Shared→Prop} (hh:A.handled=none) (hit:s.heap.IsRevIter it l ((items.size:Int) - 1)) (hl:s.heap.IsList l items) (hne:l≠it) (hn:items.size≤sizeLine)
  (hQ:∀ h' tk acc' c',(∀ b o,b≠it→s.heap.get? b=some o→h'.get? b=some o)→h'.get? s.heap.objs.size=some {cls:=.type "list",dict:=none,data:=.seq acc' c',slots:=#[]}→
   ItemsOf (fun i v=>items[items.size - 1 - i]?=some v) acc' items.size→Q (.ref s.heap.objs.size) {s with heap:=h',toks:=tk}):
  wpAny (model prog w) A (call (.type "list") [.ref it]) Q E s:=by
 refine callType_codes (Q₁:=fun obj s₁=>obj= .ref s.heap.objs.size∧s₁={s with heap:=s.heap.push {cls:=.type "list",data:=.seq #[]}}) F.called_list (F.typeCall_list_1 _) F.entry_list_init
  (code_list_new _ ⟨rfl,rfl⟩) fun obj s₁ h₁=>?_
 obtain ⟨rfl,rfl⟩:=h₁
 have iti:it < s.heap.objs.size:=by obtain ⟨o,e,_⟩:=hit;exact Heap.lt_size e
 have itl:l < s.heap.objs.size:=by obtain ⟨o,e,_⟩:=hl;exact Heap.lt_size e
 generalize hS0:s.heap.objs.size=S at iti itl hQ
 have hS:(s.heap.push {cls:=.type "list",data:=.seq #[]}).get? S=some {cls:=.type "list",data:=.seq #[]}:=by rw [← hS0];exact Heap.get?_push_size _ rfl
 have kp:∀ b o,s.heap.get? b=some o→(s.heap.push {cls:=.type "list",data:=.seq #[]}).get? b=some o:=fun b o e=>Heap.get?_push_of_some _ e
 generalize s.heap.push {cls:=.type "list",data:=.seq #[]}=h1 at hS kp
 have hit1:h1.IsRevIter it l ((items.size:Int) - 1):=hit.at fun o e=>kp it o e
 have hl1:h1.IsList l items:=hl.at fun o e=>kp l o e
 refine ⟨⟨_,hS,rfl⟩,F.args_list_init_2 _ _,?_⟩
 have nSi:S≠it:=Nat.ne_of_gt iti
 have nSl:S≠l:=Nat.ne_of_gt itl
 have hSf:S ∉ [it,l]:=by simp [nSi,nSl]
 have W:=(Walks.listRev (prog:=prog) (w:=w) (A:=A.in1.in1) hh it l hne items).toS
 show wpAny _ A.in1.in1 (do let old ← Builtin.List.listItems (.ref S);Builtin.List.listUpdate (.ref S) (fun _=>#[]);letGo old.toList.reverse;Builtin.List.listExtendWith (.ref S) (.ref it) .none) _ _ _
 unfold Builtin.List.listItems
 refine wpAny_bind (wpAny_bind (wpAny_seqItems hS rfl (wpAny_pure ?_)))
 show wpAny _ A.in1.in1 (updateSeq S (fun _=>#[]) >>=fun _=>letGo (#[]:Array Value).toList.reverse >>=fun _=>Builtin.List.listExtendWith (.ref S) (.ref it) .none) _ _ _
 refine wpAny_bind (wpAny_updateSeq hS rfl ?_)
 have hS2:=Heap.get?_update_self (Obj.mapSeq (fun _=>(#[]:Array Value))) hS rfl
 have k2:∀ b o,b≠S→h1.get? b=some o→(h1.update S (Obj.mapSeq (fun _=>(#[]:Array Value)))).get? b=some o:=fun b o hb e=>(Heap.get?_update_other _ _ (Ne.symm hb)).trans e
 generalize h1.update S (Obj.mapSeq (fun _=>(#[]:Array Value)))=h2 at hS2 k2
 have hit2:=hit1.at (h':=h2) fun o e=>k2 it o (Ne.symm nSi) e
 have hl2:=hl1.at (h':=h2) fun o e=>k2 l o (Ne.symm nSl) e
 refine wpAny_bind (wpAny_letGo ?_)
 unfold Builtin.List.listExtendWith
 refine wpAny_bind (wpAny_typeOf (T:="list_reverseiterator") (Heap.IsRevIter.typeIs (s:={s with heap:=h2}) hit2) ?_)
 have e1:Builtin.List.listSameRef (.ref S) (.ref it)=false:=by simp [Builtin.List.listSameRef,nSi]
 have e2:(Value.type "list_reverseiterator" == Value.type "list")=false:=by decide
 have e3:(Value.type "list_reverseiterator" == Value.type "tuple")=false:=by decide
 simp only [e1,e2,e3,Bool.or_false,Bool.false_eq_true,if_false]
 refine wpAny_bind (wpAny_pyIter_revIter (s:={s with heap:=h2}) hit2 ?_)
 refine wpAny_bind (wpAny_holding (Eg (s:={s with heap:=h2}) hit2 ?_))
 refine wpAny_ite_split (fun hab=>absurd hab (by decide+kernel)) (fun _=>?_)
 refine wpAny_pure ⟨plainId_quiet F.plain_extend_loop _,?_⟩
 refine codeAny_extend_loopS W hn S hSf .none items.size 0 _ #[] _ rfl (Nat.zero_le _) ⟨Nat.zero_le _,by simpa using hit2,hl2⟩ hS2 (ItemsOf.nil _) fun s' acc' c' hm hS' hacc=>?_
 rw [Moved.eq_with hm]
 refine ⟨rfl,hQ s'.heap s'.toks acc' c' (fun b o hb e=>hm.heap b o (fun hmem=>?_) (k2 b o (fun z=>?_) (kp b o e))) hS' hacc⟩
 ·rcases List.mem_cons.mp hmem with e' | hmem
  ·exact absurd (Heap.lt_size e) (by rw [e',hS0];exact Nat.lt_irrefl _)
  ·exact hb (List.mem_singleton.mp hmem)
 ·exact absurd (Heap.lt_size e) (by rw [z,hS0];exact Nat.lt_irrefl _)
end
end L2
namespace L2
open PySem PySem.Spec PyProof.Rows
section
variable {X:Cx} {K:PySem.W.Frag} {a b c e:Expr} {ta tb tc te:TE} {pos p p2 p3:Pos}
theorem HX {op op':CmpOp} {r r':R2} (ho:OpR X (compareOp op) r) (ho':OpR X (compareOp op') r') (ha:JE X a ta) (hb:JE X b tb) (hc:JE X c tc) (hm:autoParam (lastMarks [op,op'] [b,c]=false) L2.auto5._auto_1):
  JE X (.Compare a [op,op'] [b,c] pos) (qU r r' ta tb tc):=⟨CN ho ho' ha.run hb.run hc.run hm⟩
theorem v6 {op op':CmpOp} {r r':R2} (ho:OpR X (compareOp op) r) (ho':OpR X (compareOp op') r') (ha:JE X a ta) (hb:JE X b tb) (hc:JE X c tc) (hm:autoParam (lastMarks [op,op'] [b,c]=false) L2.auto5._auto_1):
  JT X (.Compare a [op,op'] [b,c] pos) (vo (qU r r' ta tb tc)):=⟨CP ho ho' ha.run hb.run hc.run hm⟩
theorem arg1 {Q:List Value→Shared→Prop} {E:Value→Shared→Prop} {s:Shared} (hs:notStar e=true) (h:wpAny (model X.prog X.w) X.A (eval e X.env) (fun u s1=>Q [u] s1) E s):wpAny (model X.prog X.w) X.A (spliced (backTo pos (starEach [e] X.env))) Q E s:=by
 rw [cz hs]
 show wpAny _ _ (spliced ((false,eval e X.env) :: backTo pos (starEach [] X.env))) _ _ s
 exact Calls.spliced_cons (wpAny_mono h (fun u s1 q=>Calls.spliced_nil q) fun _ _ z=>z)
def Ei (K:PySem.W.Frag) (ta:TE):TE:=fun σ H Q=>ta σ H fun x H1=>∃ l xs,x= .ref l∧SqL K H1 l xs∧∀ q,H1 q=none→Q (.ref q) (upd H1 q (.lst xs.reverse))
theorem An (hK:X.K=K) (hc:X.calm=true) (hg:Gl X "list") (hm:X.mg "list"=none) (hg2:Gl X "reversed") (hm2:X.mg "reversed"=none) (ha:JE X a ta) (h:autoParam (notStar a=true) L2.auto4._auto_1):
  JE X (.Call (.Name "list" p) [.Call (.Name "reversed" p2) [a] [] p3] [] pos) (Ei K ta):=⟨by
 subst hK
 intro pins s σ H Q I hq
 refine wpAny_Call_Name_kw (fQ I hg hm cF (PyProof.Rows.callWith_type1 (arg1 rfl (wpAny_Call_Name_kw (fQ I hg2 hm2 pH (PyProof.Rows.callWith_type1 (arg1 h (dD (ha.run pins s σ H _ I hq) fun u s1 qq0=>?_)) (cz h) rfl)))) rfl rfl))
 obtain ⟨x,H1,I1,rx,l,xs,ex,hx,q⟩:=qq0
 subst ex
 cases rx
 obtain ⟨its,r,ht,hz⟩:=I1.list hx
 have hlen:=r.length
 refine call_reversed_list ht.isList ?_
 have lt:l < s1.heap.objs.size:=by obtain ⟨o,ho,_⟩:=ht.isList;exact Heap.lt_size ho
 have e0:(s1.heap.push (PySem.revObj l ((its.toArray.size:Int) - 1))).get? s1.heap.objs.size=some (PySem.revObj l ((its.toArray.size:Int) - 1)):=Heap.get?_push_size _ rfl
 have k0:∀ b o,s1.heap.get? b=some o→(s1.heap.push (PySem.revObj l ((its.toArray.size:Int) - 1))).get? b=some o:=fun b o q=>Heap.get?_push_of_some _ q
 have s0:(s1.heap.push (PySem.revObj l ((its.toArray.size:Int) - 1))).objs.size=s1.heap.objs.size+1:=Heap.size_push ..
 refine Eh (it:=s1.heap.objs.size) (l:=l) (I1.ok.hd hc) ⟨_,e0,rfl,rfl⟩ (ht.isList.at fun o q=>k0 l o q) (Nat.ne_of_lt lt) (by simp;omega) fun h' tk acc' c' hk hS hacc=>?_
 have eacc:acc'.toList=its.reverse:=by
  apply List.ext_getElem?
  intro i
  have a1:acc'.size=its.length:=by have:=hacc.1;simpa using this
  by_cases hi:i < its.length
  ·have hi':i < acc'.size:=by omega
   have a2:=hacc.2 i acc'[i] (Array.getElem?_eq_getElem hi')
   rw [List.getElem?_reverse hi]
   simp at a2
   rw [a2]
   simp [hi']
  ·rw [List.getElem?_eq_none (by simp;omega),List.getElem?_eq_none (by simp;omega)]
 have rr:Vals xs.reverse acc'.toList:=by rw [eacc];exact r.reverse
 have k1:∀ b o,s1.heap.get? b=some o→h'.get? b=some o:=fun b o z=>hk b o (Nat.ne_of_lt (Heap.lt_size z)) (k0 b o z)
 have hle:s1.heap.objs.size≤(s1.heap.push (PySem.revObj l ((its.toArray.size:Int) - 1))).objs.size:=by rw [s0];exact Nat.le_succ _
 refine ⟨.ref _,_,I1.laid (t':=tk) (o:=.lst xs.reverse) k1 hle ⟨by simp;omega,acc'.toList,c',rr,by simpa using hS⟩,rfl,q _ (I1.hok.fresh hle)⟩⟩
end
end L2
namespace L2
open PySem PySem.Spec PyProof.Rows
def Ao (h:Heap) (T:Addr):Prop:=∃ oT ts,h.get? T=some oT∧oT.data= .fields ts∧3 < ts.size
def dG (C:Addr) (dd:Option Addr) (vs:Array Value):Obj:={cls:=.ref C,dict:=dd,data:=.fields vs}
def HY (l:List Env):List Addr:=l.filterMap (·.frame)
section
variable {M:Model} {A:Around} {E:Value→Shared→Prop}
theorem uq {base:Heap} {env:Env} {outer:List Env} {L x C:Addr} {dd:Option Addr} {vs:Array Value} {hd:Value} {had:Bool} {Q:Unit→Shared→Prop} {s:Shared}
  (fr:A.frames=some (env :: outer)) (ff:s.heap.FunFrames base (env :: outer)) (fL:env.frame=some L) (ex:s.heap.get? x=some (dG C dd vs)) (sz:1 < vs.size) (nx:x ∉ HY (env :: outer))
  (k:∀ h' T,h'.get? x=some (dG C dd (vs.setIfInBounds 1 (.ref T)))→s.heap.objs.size≤T→Ao h' T→(∀ b o,b≠x→b ∉ HY (env :: outer)→s.heap.get? b=some o→h'.get? b=some o)→
   (∀ b o,b≠x→s.heap.get? b=some o→∃ sl,h'.get? b=some {o with slots:=sl})→Q () {s with heap:=h'}):
  wpAny M A (do let c ← frameOf env;let pl ← entryPlaceOf L had;let t ← EntryCells.newEntry hd c .none (rawInt L) .none pl;setField (.ref x) 1 t) Q E s:=by
 refine wpAny_bind (wpAny_frameOf_fun fr ff fL fun g1 so=>?_)
 refine wpAny_bind (wpAny_entryPlaceOf fun pl isp=>?_)
 unfold EntryCells.newEntry newFields
 refine wpAny_bind (wpAny_newObj_type ?_ (isp.sizeOk5 _ _ _ _ _))
 have x1:g1.get? x=some (dG C dd vs):=(so.2.1 x nx).trans ex
 have lts:([hd,Value.ref L,.none,rawInt L,.none] ++ (if pl.isEmpty then List.replicate 6 Value.none else pl)).toArray.size > 3:=by
  simp only [List.size_toArray,List.length_append,List.length_cons,List.length_nil];omega
 generalize ([hd,Value.ref L,.none,rawInt L,.none] ++ (if pl.isEmpty then List.replicate 6 Value.none else pl)).toArray=tv at lts
 have x2:(g1.push {cls:=.type "traceback",dict:=none,data:=.fields tv}).get? x=some (dG C dd vs):=Heap.get?_push_of_some _ x1
 have nTx:g1.objs.size≠x:=Nat.ne_of_gt (Heap.lt_size x1)
 have t2:(g1.push {cls:=.type "traceback",dict:=none,data:=.fields tv}).get? g1.objs.size=some {cls:=.type "traceback",dict:=none,data:=.fields tv}:=Heap.get?_push_size _ rfl
 have o2:∀ b o,g1.get? b=some o→(g1.push {cls:=.type "traceback",dict:=none,data:=.fields tv}).get? b=some o:=fun b o e=>Heap.get?_push_of_some _ e
 refine wpAny_setField (vs:=vs) x2 rfl sz ?_
 have e3:=Heap.get?_update_self (Obj.mapFields (·.setIfInBounds 1 (Value.ref g1.objs.size))) x2 rfl
 have ot:∀ b,b≠x→((g1.push {cls:=.type "traceback",dict:=none,data:=.fields tv}).update x (Obj.mapFields (·.setIfInBounds 1 (Value.ref g1.objs.size)))).get? b=(g1.push {cls:=.type "traceback",dict:=none,data:=.fields tv}).get? b:=fun b hb=>Heap.get?_update_other _ _ (Ne.symm hb)
 refine k _ g1.objs.size e3 (by rw [so.1];exact Nat.le_refl _) ⟨_,tv,(ot _ nTx).trans t2,rfl,lts⟩ (fun b o hb hf e=>?_) (fun b o hb e=>?_)
 ·rw [ot b hb];exact o2 b o ((so.2.1 b hf).trans e)
 ·obtain ⟨sl,q⟩:=so.2.2 b o e
  exact ⟨sl,by rw [ot b hb];exact o2 b _ q⟩
structure yX (fs:List Addr) (x C:Addr) (dd:Option Addr) (hd:Option Addr) (h h':Heap) (T:Addr):Prop where
 obj:∃ vs,h'.get? x=some (dG C dd vs)∧vs[1]?=some (.ref T)∧vs[2]?=some .none
 tb:Ao h' T
 ne:T≠x
 new:h.objs.size≤T∨hd=some T
 keep:∀ b o,b≠x→some b≠hd→b ∉ fs→h.get? b=some o→h'.get? b=some o
 slot:∀ b o,b≠x→some b≠hd→h.get? b=some o→∃ sl,h'.get? b=some {o with slots:=sl}
 tail:∀ b o,hd=some b→h.get? b=some o→∃ o',h'.get? b=some o'
theorem Rk {base:Heap} {env:Env} {outer:List Env} {L x C:Addr} {dd:Option Addr} {vs:Array Value} {Q:Unit→Shared→Prop} {s:Shared}
  (fr:A.frames=some (env :: outer)) (ff:s.heap.FunFrames base (env :: outer)) (fL:env.frame=some L) (ex:s.heap.get? x=some (dG C dd vs)) (h1:vs[1]?=some .none∧vs[2]?=some .none) (nx:x ∉ HY (env :: outer))
  (k:∀ h' T,yX (HY (env :: outer)) x C dd none s.heap h' T→Q () {s with heap:=h'}):wpAny M A (noteFrame (.ref x) env) Q E s:=by
 unfold noteFrame
 simp only [fL]
 refine wpAny_bind (wpAny_field ex rfl h1.1 ?_)
 rw [if_neg (by decide)]
 have sz:1 < vs.size:=(Array.getElem?_eq_some_iff.mp h1.1).1
 refine uq fr ff fL ex sz nx fun h' T a1 a2 a3 a4 a5=>k h' T ⟨⟨_,a1,by simp [sz],by rw [Array.getElem?_setIfInBounds_ne (by decide)];exact h1.2⟩,a3,?_,.inl a2,fun b o hb _ hf e=>a4 b o hb hf e,fun b o hb _ e=>a5 b o hb e,fun b o z=>by cases z⟩
 exact Nat.ne_of_gt (Nat.lt_of_lt_of_le (Heap.lt_size ex) a2)
theorem Rm {base:Heap} {env:Env} {outer:List Env} {L x C T0:Addr} {dd:Option Addr} {vs:Array Value} {Q:Unit→Shared→Prop} {s:Shared}
  (fr:A.frames=some (env :: outer)) (ff:s.heap.FunFrames base (env :: outer)) (fL:env.frame=some L) (ex:s.heap.get? x=some (dG C dd vs)) (h1:vs[1]?=some (.ref T0)∧vs[2]?=some .none) (t0:Ao s.heap T0) (ne:T0≠x) (nx:x ∉ HY (env :: outer)) (nT:T0 ∉ HY (env :: outer))
  (k:∀ h' T,yX (HY (env :: outer)) x C dd (some T0) s.heap h' T→Q () {s with heap:=h'}):wpAny M A (noteFrame (.ref x) env) Q E s:=by
 obtain ⟨oT,ts,g,d,l3⟩:=id t0
 unfold noteFrame
 simp only [fL]
 refine wpAny_bind (wpAny_field ex rfl h1.1 ?_)
 rw [if_pos (show (Value.ref T0 != Value.none)=true from by simp)]
 refine wpAny_bind (wpAny_field g d (Array.getElem?_eq_getElem l3) ?_)
 by_cases q:(ts[3] == rawInt L)=true
 ·rw [if_pos q]
  exact wpAny_pure (k _ T0 ⟨⟨vs,ex,h1⟩,t0,ne,.inr rfl,fun b o _ _ _ e=>e,fun b o _ _ e=>⟨o.slots,e⟩,fun b o _ e=>⟨o,e⟩⟩)
 ·rw [if_neg q]
  refine wpAny_bind (wpAny_setField g d l3 ?_)
  have tT:=Heap.get?_update_self (Obj.mapFields (·.setIfInBounds 3 Value.none)) g (Obj.isFreed_of_fields (Obj.data_mapFields d _))
  have ot:∀ b,b≠T0→(s.heap.update T0 (Obj.mapFields (·.setIfInBounds 3 Value.none))).get? b=s.heap.get? b:=fun b hb=>Heap.get?_update_other _ _ (Ne.symm hb)
  have sz:1 < vs.size:=(Array.getElem?_eq_some_iff.mp h1.1).1
  have ff2:(s.heap.update T0 (Obj.mapFields (·.setIfInBounds 3 Value.none))).FunFrames base (env :: outer):=ff.of_keeps fun b o hb hn=>by
   refine ⟨o,(ot b (fun z=>?_)).trans hb,rfl⟩
   rw [z,g] at hb;cases hb;exact hn _ d
  refine uq (s:={s with heap:=s.heap.update T0 (Obj.mapFields (·.setIfInBounds 3 Value.none))}) fr ff2 fL ((ot x (Ne.symm ne)).trans ex) sz nx fun h' T a1 a2 a3 a4 a5=>k h' T ⟨⟨_,a1,by simp [sz],by rw [Array.getElem?_setIfInBounds_ne (by decide)];exact h1.2⟩,a3,?_,.inl (by rw [Heap.size_update] at a2;exact a2),fun b o hb h0 hf e=>a4 b o hb hf ((ot b (fun z=>h0 (by rw [z]))).trans e),fun b o hb h0 e=>a5 b o hb ((ot b (fun z=>h0 (by rw [z]))).trans e),fun b o hb e=>?_⟩
  ·exact Nat.ne_of_gt (Nat.lt_of_lt_of_le (Heap.lt_size ex) (by rw [Heap.size_update] at a2;exact a2))
  ·cases hb
   obtain ⟨sl,z⟩:=a5 T0 _ ne tT
   exact ⟨_,z⟩
theorem Rn {x C T0:Addr} {dd:Option Addr} {vs:Array Value} {Q:Unit→Shared→Prop} {s:Shared} (ex:s.heap.get? x=some (dG C dd vs)) (h1:vs[1]?=some (.ref T0)∧vs[2]?=some .none) (t0:Ao s.heap T0) (ne:T0≠x)
  (k:∀ h',yX [] x C dd (some T0) s.heap h' T0→Q () {s with heap:=h'}):wpAny M A (setFlight (.ref x) none) Q E s:=by
 obtain ⟨oT,ts,g,d,l3⟩:=id t0
 unfold setFlight
 refine wpAny_bind (wpAny_field ex rfl h1.1 ?_)
 rw [if_pos (show (Value.ref T0 != Value.none)=true from by simp)]
 refine wpAny_setField g d l3 (k _ ?_)
 have d2:=Obj.data_mapFields d (·.setIfInBounds 3 ((none:Option Addr).elim Value.none fun f=>rawInt f))
 have tT:=Heap.get?_update_self (Obj.mapFields (·.setIfInBounds 3 ((none:Option Addr).elim Value.none fun f=>rawInt f))) g (Obj.isFreed_of_fields d2)
 have ot:∀ b,b≠T0→(s.heap.update T0 (Obj.mapFields (·.setIfInBounds 3 ((none:Option Addr).elim Value.none fun f=>rawInt f)))).get? b=s.heap.get? b:=fun b hb=>Heap.get?_update_other _ _ (Ne.symm hb)
 exact ⟨⟨vs,(ot x (Ne.symm ne)).trans ex,h1⟩,⟨_,_,tT,d2,by simpa using l3⟩,ne,.inr rfl,fun b o _ h0 _ e=>(ot b (fun z=>h0 (by rw [z]))).trans e,fun b o _ h0 e=>⟨o.slots,(ot b (fun z=>h0 (by rw [z]))).trans e⟩,fun b o hb e=>by cases hb;exact ⟨_,tT⟩⟩
end
end L2
namespace L2
open PySem PySem.Spec PyProof.Rows
def Ro:List Value:=[.type "ValueError",.type "Exception",.type "BaseException",.type "object"]
def Qk (K:PySem.W.Frag) (D:Addr):Bool:=match K.lookup D with
 | some ⟨.type "type",_,.cls cd,sl⟩=>(match cd.mro,sl.toList with
  | .ref E :: bm,[_,_,_,_,some (.builtin n),_]=>E == D && n == "ValueError.__new__" && cd.hasDel == false && cd.hasDict && PySem.W.tailIn K Ro bm
  | _,_=>false)
 | _=>false
theorem rD {K:PySem.W.Frag} {D:Addr} (q:Qk K D=true):∃ nm qn N bs bm sn sub ab col dd k0 k1 k2 k3 k5,K.lookup D=some (excClassObj nm qn D N bs bm true sn sub ab col dd k0 k1 k2 k3 k5 "ValueError.__new__")∧∀ h,K.In h→OwnTail h Ro bm:=by
 unfold Qk at q
 split at q
 ·rename_i dd cd sl ho
  split at q
  ·rename_i D' bm k0 k1 k2 k3 n k5 hm hs
   simp only [Bool.and_eq_true,beq_iff_eq] at q
   obtain ⟨⟨⟨⟨e1,e2⟩,e3⟩,e4⟩,e5⟩:=q
   subst e1 e2
   obtain ⟨nm,bs,mro,ns,qn,hd,sn,sub,ab,col,del⟩:=cd
   dsimp only at hm e3 e4
   subst hm e3 e4
   have hsl:sl= #[k0,k1,k2,k3,some (.builtin "ValueError.__new__"),k5]:=by
    obtain ⟨l⟩:=sl
    dsimp only at hs
    rw [hs]
   subst hsl
   exact ⟨nm,qn,ns,bs,bm,sn,sub,ab,col,dd,k0,k1,k2,k3,k5,ho,fun h X=>PySem.W.tail_of_in X e5⟩
  ·cases q
 ·cases q
section
variable {prog:Program} {w:World} {A:Around} {K:PySem.W.Frag} {D f:Addr} {E:Value→Shared→Prop}
theorem v7 {h:Heap} {g:Array GenState} {d:Drawn} {t:Nat} {os:OsState} {us:List Value} {Q:Fin→Shared→Prop} (X:K.In h) (hx:Qk K D=true)
  (hi:PySem.W.findIn K (.ref D) "__init__"=some (some (.ref f))) (hf:PySem.W.typeIn K (.ref f)=some (.type "function")) (hl:us.length≤sizeLine)
  (k:wpAny (model prog w) A (call (.ref f) (.ref (h.objs.size+1) :: us)) (fun r s'=>r= .none∧Q (.done (.ret (.ref (h.objs.size+1)))) s') E
   ⟨(h.push {cls:=.type "tuple",data:=.seq us.toArray}).push (dG D none #[.ref h.objs.size,.none,.none,.none,.bool false,.none]),g,d,t,os⟩):
  wpAny (model prog w) A (Builtin.«type.__call__» ⟨.ref D :: us,[]⟩) Q E ⟨h,g,d,t,os⟩:=by
 obtain ⟨nm,qn,N,bs,bm,sn,sub,ab,col,dd,k0,k1,k2,k3,k5,lk0,tl⟩:=rD hx
 have T:=tl h X
 have hD:=X _ _ lk0
 have L3:=PySem.W.looks_findIn (M:=model prog w) X hi
 have L4:=PySem.W.bind_fn (M:=model prog w) X (.ref (h.objs.size+1)) hf
 repeat (first | with_reducible refine wpAny_loadPart_at hD ?_ | with_reducible refine wpAny_madeBy_exc hD ?_ | wp_step)
 refine codeAny_call_builtin_code (Code.quiet_builtin _ F.excBase_ValueError.quiet) (wpAny_check_new_subT F.excBase_ValueError T hD (codeAny_exc_new_subT F.excBase_ValueError T hD ?_ hl))
 show wpAny _ _ _ _ _ _
 have keep:∀ b o,h.get? b=some o→((h.push {cls:=.type "tuple",data:=.seq us.toArray}).push (dG D none #[.ref h.objs.size,.none,.none,.none,.bool false,.none])).get? b=some o:=fun b o q=>Heap.get?_push_of_some _ (Heap.get?_push_of_some _ q)
 have gx:((h.push {cls:=.type "tuple",data:=.seq us.toArray}).push (dG D none #[.ref h.objs.size,.none,.none,.none,.bool false,.none])).get? (h.objs.size+1)=some (dG D none #[.ref h.objs.size,.none,.none,.none,.bool false,.none]):=by
  have:=Heap.get?_push_size (h.push {cls:=.type "tuple",data:=.seq us.toArray}) (o:=dG D none #[.ref h.objs.size,.none,.none,.none,.bool false,.none]) rfl
  rwa [Heap.size_push] at this
 have hD1:=keep _ _ hD
 have M3:=L3.keeps keep
 have M4:=L4.keeps keep
 have cD:(Value.ref D :: bm).contains (.ref D)=true:=by simp
 unfold dG at gx M3 M4 hD1 k
 unfold isInstance
 repeat (first | with_reducible refine wpAny_loadPart_at gx ?_ | (with_reducible refine wpAny_isSubtype_exc hD1 ?_;rw [cD]) | wp_step)
 show wpAny _ _ (typeLookup (.ref D) _) _ _ _
 refine M3.at ?_
 refine wpAny_holding (wpAny_bind (M4.at ?_))
 dsimp only
 refine wpAny_bind (wpAny_mono k (fun r s' hr=>?_) fun _ _ z=>z)
 obtain ⟨rfl,z⟩:=hr
 wp_walk
 exact z
theorem NB {s:Shared} {us:List Value} {Q:Value→Shared→Prop} (X:K.In s.heap) (hx:Qk K D=true)
  (hi:PySem.W.findIn K (.ref D) "__init__"=some (some (.ref f))) (hf:PySem.W.typeIn K (.ref f)=some (.type "function")) (hl:us.length≤sizeLine)
  (k:wpAny (model prog w) (A.under (.builtin "type.__call__" ⟨.ref D :: us,[]⟩)) (call (.ref f) (.ref (s.heap.objs.size+1) :: us)) (fun r s'=>r= .none∧Q (.ref (s.heap.objs.size+1)) s') E
   {s with heap:=(s.heap.push {cls:=.type "tuple",data:=.seq us.toArray}).push (dG D none #[.ref s.heap.objs.size,.none,.none,.none,.bool false,.none])}):
  wpAny (model prog w) A (call (.ref D) us) Q E s:=by
 obtain ⟨h,g,d,t,os⟩:=s
 obtain ⟨nm,qn,N,bs,bm,sn,sub,ab,col,dd,k0,k1,k2,k3,k5,lk0,tl⟩:=rD hx
 have hD:=X _ _ lk0
 have f1:=tc_lookup
 have f2:=tc_bind (.ref D)
 have hT:(⟨h,g,d,t,os⟩:Shared).TypeIs (.ref D) "type":=⟨_,hD,rfl⟩
 refine wpAny_call (codeAny_of_tree ?_)
 show wpAny _ _ (callAny (.ref D) _) _ _ _
 repeat (any_goals (first | assumption | with_reducible refine wpAny_loadPart_at hD ?_ | wp_step))
 refine ⟨rfl,codeAny_call_builtin_at (Code.quiet_builtin _ (by decide+kernel)) entry_typeCall (wpAny_check_type_call_sub hD (v7 X hx hi hf hl ?_))⟩
 exact k
end
end L2
namespace L2
open PySem PySem.Spec PyProof.Rows
def oK (x C dx:Addr):HO:=.ext fun h=>∃ vs,h.get? x=some (dG C (some dx) vs)∧vs[2]?=some .none
def ik (x C:Addr):HO:=.ext fun h=>∃ t,h.get? x=some (dG C none #[.ref t,.none,.none,.none,.bool false,.none])
theorem yZ {P:Program} {w:World} {H:Hp} {h:Heap} {x C dx:Addr} {vs:Array Value} (e:h.get? x=some (dG C (some dx) vs)) (h2:vs[2]?=some .none):ObjOk P w H h x (oK x C dx):=
 ⟨⟨vs,e,h2⟩,⟨_,e⟩,fun h1 h2 ⟨vs,e,z⟩ k=>⟨vs,k _ e,z⟩⟩
theorem za {P:Program} {w:World} {H:Hp} {h:Heap} {x C dx:Addr} (ok:HOk P w H h) (e:H x=some (oK x C dx)):∃ vs,h.get? x=some (dG C (some dx) vs)∧vs[2]?=some .none:=(ok _ _ e).1
structure Head (X:Cx) (pins:List (Addr×Obj)) (H:Hp) (x C dx T:Addr) (h:Heap):Prop where
 obj:∃ vs,h.get? x=some (dG C (some dx) vs)∧vs[1]?=some (.ref T)∧vs[2]?=some .none
 tb:Ao h T
 fp:iw X pins H T
 tr:H x=some (oK x C dx)
theorem Head.ne {X:Cx} {pins:List (Addr×Obj)} {H:Hp} {x C dx T:Addr} {h:Heap} (a:Head X pins H x C dx T h):T≠x:=fun z=>by
 have:=a.fp.1
 rw [z,a.tr] at this;cases this
def Fly (X:Cx) (pins:List (Addr×Obj)) (H:Hp) (x C dx:Addr) (h:Heap):Prop:=
 H x=some (oK x C dx)∧((∃ vs,h.get? x=some (dG C (some dx) vs)∧vs[1]?=some .none∧vs[2]?=some .none)∨∃ T,Head X pins H x C dx T h)
section
variable {X:Cx} {pins:List (Addr×Obj)} {σ:St} {H:Hp} {s:Shared} {x C dx:Addr} {h':Heap} {T:Addr} {hd:Option Addr}
theorem Inv.noted {fs:List Addr} (I:Inv X pins σ H s) (hx:H x=some (oK x C dx)) (hh:∀ b,hd=some b→iw X pins H b) (hf:∀ b∈fs,b∈X.env.locals :: X.fs) (N:yX fs x C (some dx) hd s.heap h' T):Inv X pins σ H {s with heap:=h'}:=by
 obtain ⟨m,⟨oL,esL,epL,hoL,rL⟩,_⟩:=id I.loc
 have fsF:∀ b∈fs,H b=none:=fun b hb=>by
  rcases List.mem_cons.mp (hf b hb) with e | hb
  ·rw [e];exact I.free
  ·obtain ⟨_,o,ho,_⟩:=I.ok.funs.mem hb
   exact I.base.free b o ho (I.ok.frf b hb) fun z=>I.ok.exfs b z hb
 have nx:∀ b,H b=none→b≠x:=fun b n z=>by rw [z,hx] at n;cases n
 have hdF:∀ b,hd=some b→H b=none:=fun b e=>(hh b e).1
 have mem:∀ b,b ∉ hd.toList→some b≠hd:=fun b nb z=>nb (by rw [← z];simp)
 refine I.step (g':=s.gens) (d':=s.drawn) (t':=s.toks) (ch:=hd.toList) (fun b hb=>?_) (fun b o hL hb hc e n=>?_) (fun b o hL hb hc e n=>?_) (fun _ _ _ _ n=>n) (fun b o hc e=>?_) (fun _ _ e=>e) (fun _ _ _ e=>e) (fun b ps e=>⟨#[],by rw [e];simp⟩) (fun m hm=>?_) (fun b u e=>?_) I.bare
 ·have e:hd=some b:=by cases hd <;> simp_all
  obtain ⟨_,a2,_,a4,a5,a6⟩:=hh b e
  exact ⟨a4,a2,a5,a6⟩
 ·refine N.keep b o (nx b n) (mem b hc) (fun z=>?_) e
  rcases List.mem_cons.mp (hf b z) with q | q
  ·exact hL q
  ·exact hb q
 ·exact N.slot b o (nx b n) (mem b hc) e
 ·by_cases q:b=x
  ·obtain ⟨vs,z,_⟩:=N.obj
   exact ⟨_,by rw [q];exact z⟩
  ·obtain ⟨sl,z⟩:=N.slot b o q (mem b hc) e
   exact ⟨_,z⟩
 ·obtain ⟨o,es,ep,ho,r⟩:=hm
  obtain ⟨sl,z⟩:=N.slot _ o (nx _ I.free) (fun q=>(hh _ q.symm).2.1 rfl) ho
  exact ⟨_,es,ep,z,r⟩
 ·by_cases q:b=x
  ·subst q
   rw [hx] at e;cases e
   obtain ⟨vs,z,_,z2⟩:=N.obj
   exact yZ z z2
  ·refine (I.hok b u e).stay (fun c v hc z=>?_) (fun _ q=>q) fun _ _ q=>q
   have tc:∃ u,H c=some u:=by
    rcases hc with rfl | hc
    ·exact ⟨_,e⟩
    ·exact ⟨_,hc⟩
   obtain ⟨uc,tc⟩:=tc
   refine N.keep c v (fun zz=>?_) (fun zz=>?_) (fun zz=>?_) z
   ·rcases hc with rfl | hc
    ·exact q zz
    ·rw [zz,hx] at hc;cases hc
   ·rw [hdF c zz.symm] at tc;cases tc
   ·rw [fsF c zz] at tc;cases tc
theorem v8 {A:Around} {E:Value→Shared→Prop} {Q:Unit→Shared→Prop} (I:Inv X pins σ H s) (hst:X.stack=X.env :: X.outer) (hfr:X.env.frame=some X.env.locals) (hA:A.frames=some X.stack) (F:Fly X pins H x C dx s.heap)
  (k:∀ h' T,Inv X pins σ H {s with heap:=h'}→Head X pins H x C dx T h'→Q () {s with heap:=h'}):wpAny (model X.prog X.w) A (noteFrame (.ref x) X.env) Q E s:=by
 have ff:s.heap.FunFrames X.base (X.env :: X.outer):=hst ▸ I.stack
 have sub:∀ b∈HY (X.env :: X.outer),b∈X.env.locals :: X.fs:=fun b hb=>I.stkSub b (by rw [hst];exact hb)
 have nf:∀ b u,H b=some u→b ∉ HY (X.env :: X.outer):=fun b u e z=>by
  rw [I.stkFree b (by rw [hst];exact z)] at e;cases e
 obtain ⟨hx,⟨vs,e,h1⟩ | ⟨T0,hT⟩⟩:=F
 ·refine Rk (hst ▸ hA) ff hfr e h1 (nf x _ hx) fun h' T N=>?_
  have J:=I.noted hx (fun b z=>by cases z) sub N
  refine k h' T J ⟨N.obj,N.tb,?_,hx⟩
  have zT:s.heap.objs.size≤T:=by rcases N.new with z | z;exact z;cases z
  exact I.fpOk zT (I.hok.fresh zT)
 ·obtain ⟨vs,e,h1⟩:=hT.obj
  refine Rm (hst ▸ hA) ff hfr e h1 hT.tb hT.ne (nf x _ hx) (fun z=>?_) fun h' T N=>?_
  ·rcases List.mem_cons.mp (sub T0 z) with q | q
   ·exact hT.fp.2.1 q
   ·exact hT.fp.2.2.1 q
  ·have J:=I.noted hx (fun b z=>by cases z;exact hT.fp) sub N
   refine k h' T J ⟨N.obj,N.tb,?_,hx⟩
   rcases N.new with z | z
   ·exact I.fpOk z (I.hok.fresh z)
   ·cases z;exact hT.fp
theorem rE {A:Around} {E:Value→Shared→Prop} {Q:Unit→Shared→Prop} (I:Inv X pins σ H s) (F:Head X pins H x C dx T s.heap)
  (k:∀ h',Inv X pins σ H {s with heap:=h'}→Head X pins H x C dx T h'→Q () {s with heap:=h'}):wpAny (model X.prog X.w) A (setFlight (.ref x) none) Q E s:=by
 obtain ⟨vs,e,h1⟩:=F.obj
 refine Rn e h1 F.tb F.ne fun h' N=>?_
 exact k h' (I.noted F.tr (fun b z=>by cases z;exact F.fp) (fun b z=>absurd z (by simp)) N) ⟨N.obj,N.tb,F.fp,F.tr⟩
def NK (P:Program) (w:World):Ca:=fun outer H s E e s'=>∃ x C dx T H',e= .ref x∧s'.os=s.os∧AllBare s'.gens∧Un (frs outer) [] H H' s.heap s'.heap∧HOk P w H' s'.heap∧H' x=some (oK x C dx)∧H' T=none∧s.heap.objs.size≤T∧
 (∃ vs,s'.heap.get? x=some (dG C (some dx) vs)∧vs[1]?=some (.ref T)∧vs[2]?=some .none)∧Ao s'.heap T∧E (.ref C) (some x) H'
def XE (X:Cx) (pins:List (Addr×Obj)) (R:St→XK) (e:Value) (s':Shared):Prop:=∃ x C dx σ H',e= .ref x∧Inv X pins σ H' s'∧Fly X pins H' x C dx s'.heap∧R σ (.ref C) (some x) H'
theorem Ia {R:St→XK} {e:Value} {s':Shared} (I:Inv X pins σ H s) (c:NK X.prog X.w X.stack H s (R σ) e s'):XE X pins R e s':=by
 obtain ⟨x,C,dx,T,H',rfl,os,bare,un,hok,tx,tT,zT,ob,tb,r⟩:=c
 obtain ⟨hh,g,d,t,os'⟩:=s'
 obtain rfl:os'=s.os:=os
 have J:=I.call (h':=hh) (g':=g) (d':=d) (t':=t) (ch:=[]) un hok bare (fun b z=>absurd z (by simp))
 exact ⟨x,C,dx,σ,H',rfl,J,⟨tx,.inr ⟨T,ob,tb,I.fpOk zT tT,tx⟩⟩,r⟩
def nF (X:Cx) (R:St→XK):Prop:=∀ (pins:List (Addr×Obj)) (e:Value) (s':Shared),XE X pins R e s'→X.xe e s'
end
theorem fV {P:Program} {w:World} {K:PySem.W.Frag} {mg:Str→Option Value} {base:Heap} {N:List Str} {qual:Str} {scope:Scope} {f:Addr} {cd:Value} {A:Around} {outer:List Env} {s:Shared} {H:Hp} {E:XK}:
  nF (mR (NK P w) P w K mg base N qual scope f cd A outer s H E) (fun _=>E):=by
 rintro pins e s' ⟨x,C,dx,σ,H',he,I,F,r⟩
 subst he
 show wpAny _ _ (leaving _ _) _ _ _
 unfold leaving
 refine wpAny_bind (v8 (X:=mR (NK P w) P w K mg base N qual scope f cd A outer s H E) I rfl rfl I.ok.frames F fun h1 T J1 F1=>?_)
 refine rE (X:=mR (NK P w) P w K mg base N qual scope f cd A outer s H E) J1 F1 fun h2 J2 F2=>?_
 refine ⟨x,C,dx,T,H',rfl,J2.os,J2.bare,J2.base,J2.hok,F2.tr,F2.fp.1,?_,F2.obj,F2.tb,r⟩
 rcases F2.fp.2.2.2.1 with z | z
 ·exact absurd (show T∈([]:List Addr) from z) (by simp)
 ·exact z
end L2
namespace L2
open PySem PySem.Spec PyProof.Rows
def jc (d:Addr) (fs:List (Str×V)):HO:=.ext fun h=>∃ mA,h.Ns1 d mA∧∀ f,RelO (fs.lookup f) (mA f)
theorem uO {P:Program} {w:World} {H:Hp} {h:Heap} {d:Addr} {fs:List (Str×V)} {mA:Str→Option Value} (n:h.Ns1 d mA) (r:∀ f,RelO (fs.lookup f) (mA f)):ObjOk P w H h d (jc d fs):=by
 refine ⟨⟨mA,n,r⟩,let ⟨o,_,_,e,_⟩:=n;⟨o,e⟩,fun h1 h2 ⟨m,n,r⟩ k=>⟨m,?_,r⟩⟩
 obtain ⟨o,es,ep,e,q⟩:=n
 exact ⟨o,es,ep,k _ e,q⟩
theorem qF {P:Program} {w:World} {H:Hp} {h:Heap} {d:Addr} {fs:List (Str×V)} (ok:HOk P w H h) (e:H d=some (jc d fs)):∃ mA,h.Ns1 d mA∧∀ f,RelO (fs.lookup f) (mA f):=(ok _ _ e).1
def eZ (x C d:Addr):HO:=.ext fun h=>∃ t,h.get? x=some (dG C (some d) #[.ref t,.none,.none,.none,.bool false,.none])
theorem Aq {P:Program} {w:World} {H:Hp} {h:Heap} {x C d t:Addr} (e:h.get? x=some (dG C (some d) #[.ref t,.none,.none,.none,.bool false,.none])):ObjOk P w H h x (eZ x C d):=
 ⟨⟨t,e⟩,⟨_,e⟩,fun h1 h2 ⟨t,e⟩ k=>⟨t,k _ e⟩⟩
theorem oM {P:Program} {w:World} {H:Hp} {h:Heap} {x C d:Addr} (ok:HOk P w H h) (e:H x=some (eZ x C d)):∃ t,h.get? x=some (dG C (some d) #[.ref t,.none,.none,.none,.bool false,.none]):=(ok _ _ e).1
def eG:List Value→Bool
 | [.type a,.type b,.type c,.type d]=>a == "ValueError" && b == "Exception" && c == "BaseException" && d == "object"
 | .ref _ :: r=>eG r
 | _=>false
theorem pY {l:List Value} (e:eG l=true):(∃ a r,l= .ref a :: r∧eG r=true)∨l=Ro:=by
 unfold eG at e
 split at e
 ·simp only [Bool.and_eq_true,beq_iff_eq] at e
  obtain ⟨⟨⟨rfl,rfl⟩,rfl⟩,rfl⟩:=e
  exact .inr rfl
 ·exact .inl ⟨_,_,rfl,e⟩
 ·cases e
theorem pZ (self:Value):∀ (l:List Value),eG l=true→refuseLoop self "__setattr__" l=pure ()
 | [],e=>by cases e
 | v :: r,e=>by
  rcases pY e with ⟨a,r',q,e'⟩ | q
  ·cases q
   rw [refuseLoop_ref]
   exact pZ self r e'
  ·rw [q]
   exact F.store_ValueError.passes self
theorem rF:∀ (l:List Value),eG l=true→l.contains (.type "object")=true∧l.contains (.type "BaseException")=true
 | [],e=>by cases e
 | v :: r,e=>by
  rcases pY e with ⟨a,r',q,e'⟩ | q
  ·cases q
   obtain ⟨h1,h2⟩:=rF r e'
   exact ⟨by rw [List.contains_cons,h1,Bool.or_true],by rw [List.contains_cons,h2,Bool.or_true]⟩
  ·rw [q]
   decide
def NP (K:PySem.W.Frag) (C:Addr):Bool:=Qk K C && (PySem.W.clsIn K C).any (fun cd=>eG cd.mro && cd.hasDict) && PySem.W.findIn K (.ref C) "__setattr__" == some (some (.builtin "object.__setattr__")) &&
 PySem.W.findIn K (.ref C) "__getattribute__" == some (some (.builtin "BaseException.__getattribute__")) && PySem.W.findIn K (.ref C) "__getattr__" == some none
structure XCls (K:PySem.W.Frag) (C:Addr):Prop where
 xi:Qk K C=true
 ov:∃ cd,PySem.W.clsIn K C=some cd∧eG cd.mro=true∧cd.hasDict=true
 sa:PySem.W.findIn K (.ref C) "__setattr__"=some (some (.builtin "object.__setattr__"))
 ga:PySem.W.findIn K (.ref C) "__getattribute__"=some (some (.builtin "BaseException.__getattribute__"))
 gh:PySem.W.findIn K (.ref C) "__getattr__"=some none
theorem Ib {K:PySem.W.Frag} {C:Addr} (h:NP K C=true):XCls K C:=by
 unfold NP at h
 simp only [Bool.and_eq_true,beq_iff_eq] at h
 obtain ⟨⟨⟨⟨h1,h2⟩,h3⟩,h4⟩,h5⟩:=h
 obtain ⟨cd,a,b⟩:=PySem.W.any_some h2
 simp only [Bool.and_eq_true] at b
 exact ⟨h1,⟨cd,a,b.1,b.2⟩,h3,h4,h5⟩
theorem Ie {l:List Value} (e:eG l=true):l.isEmpty=false:=by
 cases l with
 | nil=>cases e
 | cons _ _=>rfl
section
variable {prog:Program} {w:World} {A:Around} {s:Shared} {K:PySem.W.Frag} {x C:Addr} {R:Result→Shared→Prop}
theorem XCls.mro {c:Value} {b:Bool} (k:XCls K C) (h:∀ cd,PySem.W.clsIn K C=some cd→eG cd.mro=true→cd.mro.contains c=b):PySem.W.mroIn K C c=some b:=by
 obtain ⟨cd,a,o,_⟩:=k.ov
 unfold PySem.W.mroIn
 rw [a,Option.bind_some,if_neg (by rw [Ie o];decide),h cd a o]
theorem XCls.isObj (k:XCls K C):PySem.W.mroIn K C (.type "object")=some true:=k.mro fun cd _ o=>(rF _ o).1
theorem XCls.isExc (k:XCls K C):PySem.W.mroIn K C (.type "BaseException")=some true:=k.mro fun cd _ o=>(rF _ o).2
theorem Kp {ox:Obj} {od:Option Obj} {name:Str} {tk:Tok} {v:Value} (X:K.In s.heap) (I:PySem.W.InstAt s.heap x ox C od) (c:XCls K C) (ht:iQ K C name)
  (h:wpAny (model prog w) A.in1 (Builtin.ObjectAttr.storeInOwnDict (.ref x) (.ref C) (.str name tk) name v false)
   (fun fin s'=>match fin with | .done f=>R (.ok f) s' | .again c'=>c'.quiet=true∧codeAny (model prog w) A c' R s') (fun e s'=>R (.error e) s') s):
  codeAny (model prog w) A (.call (.builtin "object.__setattr__") ⟨[.ref x,.str name tk,v],[]⟩) R s:=by
 obtain ⟨cd,hc,ho,_⟩:=c.ov
 have sub:PySem.W.Looks (model prog w) s.heap (isInstance (.ref x) (.type "object")) true:=I.type.andThen (PySem.W.looks_mroIn X c.isObj)
 refine codeAny_call_builtin F.store_object.slot.plain F.store_object.entry (@PySem.W.check_slot (model prog w) _ _ s "object.__setattr__" "object" "__setattr__" (.ref x) [.str name tk,v] [] _ F.store_object.kind F.store_object.split sub (F.store_object.args (.ref x) (.str name tk) v) ?_)
 have hm:PySem.W.Looks (model prog w) s.heap (mroOf (.ref C)) cd.mro:=(PySem.W.looks_clsIn X hc).andThen .now
 have L3:PySem.W.Looks (model prog w) s.heap (Builtin.ObjectAttr.storeTaker? none) none:=.now
 rw [PySem.W.osa_eq,refuse_eq]
 refine wpAny_bind (wpAny_bind (I.type.here (wpAny_bind (hm.here ?_))))
 rw [pZ _ _ ho]
 refine wpAny_pure (wpAny_bind (I.type.here (wpAny_bind ((PySem.W.looks_findIn X ht).here (wpAny_bind (L3.here ?_))))))
 exact h
end
theorem Ej {H:Hp} {d x:Addr} {a b c:HO} (n:d≠x):upd (upd (upd H d a) x b) d c=upd (upd H x b) d c:=by
 funext y
 unfold upd
 by_cases h:y=d
 ·simp [h]
 ·simp [h]
section
variable {X:Cx} {pins:List (Addr×Obj)} {σ:St} {H:Hp} {s:Shared} {x C d:Addr} {fs:List (Str×V)} {f:Str} {v y:V} {u:Value} {A:Around} {E:Value→Shared→Prop}
theorem Rp {Q:Unit→Shared→Prop} (I:Inv X pins σ H s) (e:H x=some (ik x C)) (c:XCls X.K C) (n:iQ X.K C f) (ry:RelV y u)
  (h:∀ s' d,H d=none→d≠x→Inv X pins σ (upd (upd H x (eZ x C d)) d (jc d [(f,y)])) s'→Q () s'):wpAny (model X.prog X.w) A (setAttr (.ref x) f u) Q E s:=by
 obtain ⟨⟨t,hx⟩,-,-⟩:ObjOk X.prog X.w H s.heap x (ik x C):=I.hok x _ e
 obtain ⟨cd,hc,ho,hd⟩:=c.ov
 have J:PySem.W.InstAt s.heap x (dG C none #[.ref t,.none,.none,.none,.bool false,.none]) C none:=⟨hx,rfl,rfl,True.intro⟩
 refine PySem.W.set_plain I.kIn J c.sa (Kp (s:={s with toks:=s.toks+1}) I.kIn J c n ?_)
 refine wpAny_bind (wpAny_pure (wpAny_bind (wpAny_bind (wpAny_loadPart hx (wpAny_bind ((PySem.W.looks_clsIn (M:=model X.prog X.w) I.kIn hc).here (s:={s with toks:=s.toks+1}) ?_))))))
 rw [hd]
 have hp:s.heap.objs.size≠x:=Nat.ne_of_gt (Heap.lt_size hx)
 have hx1:(s.heap.push {cls:=.type "dict",data:=.dict #[]}).get? x=some (dG C none #[.ref t,.none,.none,.none,.bool false,.none]):=Heap.get?_push_of_some _ hx
 have d1:(s.heap.push {cls:=.type "dict",data:=.dict #[]}).get? s.heap.objs.size=some {cls:=.type "dict",data:=.dict #[]}:=Heap.get?_push_size _ rfl
 have n1:∀ {hh:Heap},hh.get? s.heap.objs.size=some {cls:=.type "dict",data:=.dict #[]}→hh.Ns1 s.heap.objs.size (fun _=>none):=fun q=>Heap.Ns1.of_empty ⟨_,#[],_,q,rfl,fun e he=>absurd he (by simp),fun _=>rfl⟩
 have I1:Inv X pins σ (upd H s.heap.objs.size (jc s.heap.objs.size [])) {s with heap:=s.heap.push {cls:=.type "dict",data:=.dict #[]},toks:=s.toks+1}:=
  I.laid (t':=s.toks+1) (fun b o q=>Heap.get?_push_of_some _ q) (Nat.le_refl _) (uO (n1 d1) fun g=>True.intro)
 refine wpAny_bind (wpAny_alloc' ?_)
 refine wpAny_bind (wpAny_update' hx1 ?_)
 have hx2:=Heap.get?_update_self (fun o:Obj=>({o with dict:=some s.heap.objs.size}:Obj)) hx1 rfl
 have ot:∀ b,b≠x→((s.heap.push {cls:=.type "dict",data:=.dict #[]}).update x fun o=>{o with dict:=some s.heap.objs.size}).get? b=(s.heap.push {cls:=.type "dict",data:=.dict #[]}).get? b:=fun b hb=>Heap.get?_update_other _ _ (Ne.symm hb)
 have e1:upd H s.heap.objs.size (jc s.heap.objs.size []) x=some (ik x C):=(aB (Ne.symm hp)).trans e
 have I2:Inv X pins σ (upd (upd H s.heap.objs.size (jc s.heap.objs.size [])) x (eZ x C s.heap.objs.size)) {s with heap:=(s.heap.push {cls:=.type "dict",data:=.dict #[]}).update x fun o=>{o with dict:=some s.heap.objs.size},toks:=s.toks+1}:=
  I1.write (t':=s.toks+1) (x:=x) (e:=x) (by rw [e1];exact True.intro) (.inl rfl) (fun b o hb q=>(ot b hb).trans q) ⟨_,hx2⟩ (Aq hx2)
 refine wpAny_pure (wpAny_bind (wpAny_pure (wpAny_bind ?_)))
 refine wpAny_nsSet1 (n1 ((ot _ hp).trans d1)) fun h' hn' hs=>?_
 obtain ⟨oD,esD,epD,hoD,hdD,hcD⟩:=hn'.count (PySem.Within.cons f u PySem.Within.nil)
 refine wpAny_bind (wpAny_lookBehind hoD (by rw [hdD];exact pastItsLine_dict (Nat.le_trans hcD (by rw [List.length_cons,List.length_nil,sizeLine_eq];omega))) ?_)
 refine wpAny_pure (h _ s.heap.objs.size (I.hok.fresh (Nat.le_refl _)) hp ?_)
 rw [← Ej (a:=jc s.heap.objs.size []) hp]
 refine I2.write (x:=s.heap.objs.size) (e:=s.heap.objs.size) (by rw [aB hp,ak];exact True.intro) (.inl rfl) (fun b o hb q=>(hs.2 b hb).trans q) ⟨_,hoD⟩ (uO hn' fun g=>?_)
 by_cases q:g=f
 ·have qb:(g == f)=true:=beq_iff_eq.mpr q
  simp only [List.lookup,qb,if_pos q]
  exact ry
 ·have qb:(g == f)=false:=beq_eq_false_iff_ne.mpr q
  simp only [List.lookup,qb,if_neg q]
  exact True.intro
end
end L2
namespace L2
open PySem PySem.Spec PyProof.Rows
section
variable {X:Cx} {pins:List (Addr×Obj)} {σ:St} {H:Hp} {s:Shared} {x C d:Addr} {fs:List (Str×V)} {f:Str} {v y:V} {u:Value} {A:Around} {E:Value→Shared→Prop}
theorem Ig {h:Heap} {P:Program} {w:World} (ok:HOk P w H h) (e:H x=some (eZ x C d)) (e2:H d=some (jc d fs)):d≠x:=fun z=>by
 subst z
 obtain ⟨t,a⟩:=oM ok e
 obtain ⟨mA,⟨o,es,ep,b,q,_⟩,_⟩:=qF ok e2
 rw [a] at b;cases b;cases q
theorem Rq {Q:Unit→Shared→Prop} (I:Inv X pins σ H s) (e:H x=some (eZ x C d)) (e2:H d=some (jc d fs)) (hl:fs.length < 1000) (c:XCls X.K C) (n:iQ X.K C f) (ry:RelV y u)
  (h:∀ s',Inv X pins σ (upd H d (jc d (zZ f y fs))) s'→Q () s'):wpAny (model X.prog X.w) A (setAttr (.ref x) f u) Q E s:=by
 have ne:=Ig I.hok e e2
 obtain ⟨vs,hx⟩:=oM I.hok e
 obtain ⟨mA,nA,rA⟩:=qF I.hok e2
 obtain ⟨cd,hc,ho,hd⟩:=c.ov
 have J:PySem.W.InstAt s.heap x (dG C (some d) #[.ref vs,.none,.none,.none,.bool false,.none]) C (some (Classical.choose nA)):=⟨hx,rfl,rfl,let ⟨_,_,q,_⟩:=Classical.choose_spec nA;q⟩
 refine PySem.W.set_plain I.kIn J c.sa (Kp (s:={s with toks:=s.toks+1}) I.kIn J c n ?_)
 refine wpAny_bind (wpAny_pure (wpAny_bind (wpAny_bind (wpAny_loadPart hx (wpAny_bind ((PySem.W.looks_clsIn (M:=model X.prog X.w) I.kIn hc).here (s:={s with toks:=s.toks+1}) ?_))))))
 rw [hd]
 refine wpAny_pure (a:=some d) (wpAny_bind (wpAny_pure (wpAny_bind ?_)))
 refine wpAny_nsSet1 (s:={s with toks:=s.toks+1}) nA fun h' hn' hs=>?_
 have wi:PySem.Within mA (fs.map (·.1)):=fun z hz=>by
  have r:=rA z
  cases q:fs.lookup z with
  | none=>rw [q] at r;exact absurd (RelO.none_of r) hz
  | some a=>exact List.mem_map.mpr ⟨(z,a),PySem.mem_of_lookup q,rfl⟩
 obtain ⟨oD,esD,epD,hoD,hdD,hcD⟩:=hn'.count (PySem.Within.cons f u wi)
 refine wpAny_bind (wpAny_lookBehind hoD (by rw [hdD];exact pastItsLine_dict (Nat.le_trans hcD (by rw [List.length_cons,List.length_map,sizeLine_eq];omega))) ?_)
 refine wpAny_pure (h _ ?_)
 refine I.write (x:=d) (e:=d) (by rw [e2];exact True.intro) (.inl rfl) (fun b o hb q=>(hs.2 b hb).trans q) ⟨_,hoD⟩ (uO hn' fun g=>?_)
 rw [pC]
 by_cases q:g=f
 ·rw [if_pos q,if_pos q];exact ry
 ·rw [if_neg q,if_neg q];exact rA g
theorem getx {b:Bool} {Q:Value→Shared→Prop} (I:Inv X pins σ H s) (e:H x=some (oK x C d)) (e2:H d=some (jc d fs)) (c:XCls X.K C) (n:iQ X.K C f) (l:fs.lookup f=some v)
  (h:∀ u s',Inv X pins σ H s'→RelV v u→Q u s'):wpAny (model X.prog X.w) A (getAttr (.ref x) f b) Q E s:=by
 obtain ⟨vs,hx,_⟩:=za I.hok e
 obtain ⟨mA,nA,rA⟩:=qF I.hok e2
 obtain ⟨cd,hc,ho,hd⟩:=c.ov
 obtain ⟨od,hod,lk⟩:=oG nA
 obtain ⟨u,hu,ru⟩:=RelO.some_of (v:=v) (o:=mA f) (by rw [← l];exact rA f)
 have J:PySem.W.InstAt s.heap x (dG C (some d) vs) C (some od):=⟨hx,rfl,rfl,hod⟩
 have hf:PySem.W.findObj X.K C (some od) f=some (.value u):=PySem.W.findObj_own (by unfold PySem.W.hasDictIn;rw [hc];exact hd) n rfl (by rw [lk,hu])
 have Z:=h u {s with toks:=s.toks+1} (I.tok _) ru
 have KI:=I.kIn
 obtain ⟨hh,g,dr,t,os⟩:=s
 have L0:=J.type (M:=model X.prog X.w)
 have L1:=PySem.W.looks_findIn (M:=model X.prog X.w) KI c.ga
 have L2:=PySem.W.looks_findIn (M:=model X.prog X.w) KI c.gh
 have L3:=PySem.W.looks_find (M:=model X.prog X.w) KI J hf
 have sub:PySem.W.Looks (model X.prog X.w) hh (isInstance (.ref x) (.type "BaseException")) true:=L0.andThen (PySem.W.looks_mroIn KI c.isExc)
 have hb0:(onTheHeap (Value.ref C) && Value.builtin "BaseException.__getattribute__" == Value.builtin "object.__getattribute__")=false:=by
  rw [show (Value.builtin "BaseException.__getattribute__" == Value.builtin "object.__getattribute__")=false from by decide+kernel,Bool.and_false]
 unfold getAttr getAttrBy
 refine wpAny_bind (wpAny_mkText (wpAny_holding (wpAny_bind (L0.at (wpAny_bind (L1.at ?_))))))
 dsimp only
 rw [hb0]
 rw [if_neg Bool.false_ne_true]
 unfold getAttrByItsOwn hookBefore
 refine wpAny_bind ?_
 rw [if_pos (show onTheHeap (Value.ref C)=true from rfl)]
 refine L2.at ?_
 refine wpAny_bind (wpAny_attempt (wpAny_holding ?_))
 have hb1:(b && onTheHeap (Value.builtin "BaseException.__getattribute__"))=false:=by cases b <;> rfl
 unfold callGetattribute
 rw [hb1,if_neg Bool.false_ne_true]
 unfold boundAndCalled
 refine wpAny_bind (wpAny_of_eq (F.attrBase_ValueError.ga.bind (.ref x)) ?_)
 refine wpAny_call (codeAny_call_builtin F.attrBase_ValueError.ga.plain F.entry_bexc_ga (@PySem.W.check_slot (model X.prog X.w) _ _ ⟨hh,g,dr,t+1,os⟩ "BaseException.__getattribute__" "BaseException" "__getattribute__" (.ref x) [.str f t] [] _ (by decide+kernel) (by decide+kernel) sub (F.args_bexc_ga (.ref x) (.str f t)) ?_))
 refine wpAny_bind (wpAny_pure (wpAny_bind (wpAny_pure (wpAny_bind (L0.at (wpAny_bind (L3.at ?_)))))))
 refine wpAny_pure ?_
 show wpAny _ _ (handedOut u) _ _ _
 rw [PySem.W.handedOut_of (z7 ru)]
 exact wpAny_pure Z
end
end L2
namespace L2
open PySem PySem.Spec PyProof.Rows
def zb (K:PySem.W.Frag) (C:Addr):Bool:=NP K C && PySem.W.findIn K (.ref C) "__class__" == some (some (.builtin "object.__class__")) && PySem.W.specialIn K (.builtin "object.__class__") "__get__" == some (some (.builtin "getset_descriptor.__get__")) && PySem.W.takesIn K (.builtin "object.__class__") == some true
structure GK (K:PySem.W.Frag) (C:Addr):Prop where
 cls:XCls K C
 ca:PySem.W.findIn K (.ref C) "__class__"=some (some (.builtin "object.__class__"))
 cg:PySem.W.specialIn K (.builtin "object.__class__") "__get__"=some (some (.builtin "getset_descriptor.__get__"))
 ct:PySem.W.takesIn K (.builtin "object.__class__")=some true
theorem Ek {K:PySem.W.Frag} {C:Addr} (h:zb K C=true):GK K C:=by
 unfold zb at h
 simp only [Bool.and_eq_true,beq_iff_eq] at h
 exact ⟨Ib h.1.1.1,h.1.1.2,h.1.2,h.2⟩
section
variable {prog:Program} {w:World} {A:Around} {E:Value→Shared→Prop} {s:Shared} {K:PySem.W.Frag} {x C:Addr} {ox od:Obj}
theorem Ar {Q:Option Value→Shared→Prop} (c:GK K C) (KI:K.In s.heap) (J:PySem.W.InstAt s.heap x ox C (some od)) (h:Q (some (.ref C)) {s with toks:=s.toks+1}):wpAny (model prog w) A (getAttr? (.ref x) "__class__") Q E s:=by
 obtain ⟨cd,hc,ho,hd⟩:=c.cls.ov
 have hf:PySem.W.findObj K C (some od) "__class__"=some (.bind (.builtin "getset_descriptor.__get__") (.builtin "object.__class__")):=PySem.W.findObj_data (by rw [hc];rfl) c.ca c.cg c.ct
 obtain ⟨hh,g,dr,t,os⟩:=s
 have L0:=J.type (M:=model prog w)
 have L1:=PySem.W.looks_findIn (M:=model prog w) KI c.cls.ga
 have L2:=PySem.W.looks_findIn (M:=model prog w) KI c.cls.gh
 have L3:=PySem.W.looks_find (M:=model prog w) KI J hf
 have sub:PySem.W.Looks (model prog w) hh (isInstance (.ref x) (.type "BaseException")) true:=L0.andThen (PySem.W.looks_mroIn KI c.cls.isExc)
 have hb0:(onTheHeap (Value.ref C) && Value.builtin "BaseException.__getattribute__" == Value.builtin "object.__getattribute__")=false:=by
  rw [show (Value.builtin "BaseException.__getattribute__" == Value.builtin "object.__getattribute__")=false from by decide+kernel,Bool.and_false]
 unfold getAttr? getAttrBy? getAttrBy
 refine wpAny_bind (wpAny_mkText (wpAny_bind (wpAny_attempt (wpAny_holding (wpAny_bind (L0.at (wpAny_bind (L1.at ?_))))))))
 dsimp only
 rw [hb0,if_neg Bool.false_ne_true]
 unfold getAttrByItsOwn hookBefore
 refine wpAny_bind ?_
 rw [if_pos (show onTheHeap (Value.ref C)=true from rfl)]
 refine L2.at ?_
 refine wpAny_bind (wpAny_attempt (wpAny_holding ?_))
 unfold callGetattribute
 rw [if_neg (show ¬ ((false && onTheHeap (Value.builtin "BaseException.__getattribute__"))=true) from by decide)]
 unfold boundAndCalled
 refine wpAny_bind (wpAny_of_eq (F.attrBase_ValueError.ga.bind (.ref x)) ?_)
 refine wpAny_call (codeAny_call_builtin F.attrBase_ValueError.ga.plain F.entry_bexc_ga (@PySem.W.check_slot (model prog w) _ _ ⟨hh,g,dr,t+1,os⟩ "BaseException.__getattribute__" "BaseException" "__getattribute__" (.ref x) [.str "__class__" t] [] _ (by decide+kernel) (by decide+kernel) sub (F.args_bexc_ga (.ref x) (.str "__class__" t)) ?_))
 refine wpAny_bind (wpAny_pure (wpAny_bind (wpAny_pure (wpAny_bind (L0.at (wpAny_bind (L3.at ?_)))))))
 show wpAny _ _ (holding [.builtin "object.__class__"] (call (.builtin "getset_descriptor.__get__") [.builtin "object.__class__",.ref x,.ref C]) >>=ret) _ _ _
 refine wpAny_bind (wpAny_holding (wpAny_call (PySem.W.class_get (s:=⟨hh,g,dr,t+1,os⟩) KI J c.cls.isObj ?_)))
 refine wpAny_pure ?_
 show wpAny _ _ (handedOut (.ref C)) _ _ _
 rw [PySem.W.handedOut_of rfl]
 exact wpAny_pure (wpAny_pure h)
theorem El (c:GK K C):PySem.W.KitX K (.ref x) (.ref C) (fun h=>PySem.W.InstAt h x ox C (some od)) where
 ty:=fun _ _ _ I=>I.type
 it:=fun _ _ X _=>by
  obtain ⟨cd,hc,_⟩:=c.cls.ov
  unfold PySem.W.clsIn at hc
  split at hc
  ·rename_i a1 a2 a3 a4 ho
   intro A1 Q1 E1 s1 k q
   unfold isType loadHead
   exact wpAny_bind (wpAny_loadPart (k _ _ (X _ _ ho)) (wpAny_pure q))
  ·cases hc
 ne:=fun h tp dd its n sl X htp=>by
  obtain ⟨cd,hc,_⟩:=c.cls.ov
  refine Bool.eq_false_iff.mpr fun q=>?_
  obtain rfl:C=tp:=Value.ref.inj (beq_iff_eq.mp q)
  unfold PySem.W.clsIn at hc
  split at hc
  ·rename_i a1 a2 a3 a4 ho
   cases (X _ _ ho).symm.trans htp
  ·cases hc
 ca:=fun X I k=>Ar c X I k
end
def IsX (H:Hp) (x C:Addr) (fs:List (Str×V)):Prop:=∃ d,H x=some (oK x C d)∧H d=some (jc d fs)
def Uk:V→Option Value
 | .ty T=>some (.type T)
 | .ref C=>some (.ref C)
 | _=>none
theorem Em {v:V} {u c:Value} (e:Uk v=some c) (r:RelV v u):u=c:=by
 cases v <;> first | cases e;exact r | cases e
def Av:List V→Option (List Value)
 | []=>some []
 | v :: r=>match Uk v,Av r with
  | some c,some l=>some (c :: l)
  | _,_=>none
theorem zc:∀ {vs:List V} {us cs:List Value},Av vs=some cs→Vals vs us→us=cs
 | [],us,cs,e,r=>by cases r;cases e;rfl
 | v :: vs,us,cs,e,r=>by
  cases r with
  | cons r1 r2=>
   unfold Av at e
   split at e
   ·rename_i c l h1 h2
    cases e
    rw [Em h1 r1,zc h2 r2]
   ·cases e
def zf (K:PySem.W.Frag):List V→Hp→VK→Prop:=fun xs H Q=>∃ x t b,(TyOf K H x t∨∃ a C fs,x= .ref a∧IsX H a C fs∧GK K C∧t= .ref C)∧
 ((∃ v c,xs=[x,v]∧Uk v=some c∧PySem.W.kitOne K t c=some b)∨(∃ p vs cs,xs=[x,.ref p]∧H p=some (.tup vs)∧Av vs=some cs∧PySem.W.kitAny K t cs=some b))∧Q (.bl b) H
section
variable {X:Cx} {pins:List (Addr×Obj)} {σ:St} {H:Hp} {s:Shared} {A:Around} {E:Value→Shared→Prop} {Q:Value→Shared→Prop} {c:Value} {b:Bool}
theorem En {x:V} {u t:Value} (I:Inv X pins σ H s) (rx:RelV x u) (ty:TyOf X.K H x t∨∃ a C fs,x= .ref a∧IsX H a C fs∧GK X.K C∧t= .ref C):
  ∃ φ:Heap→Prop,PySem.W.KitX X.K u t φ∧φ s.heap∧u≠.builtin "__main__.__loader__#opaque":=by
 rcases ty with ty | ⟨a,C,fs,rfl,⟨d,e1,e2⟩,c,rfl⟩
 ·cases ty with
  | non=>cases (show u=Value.none from rx);exact ⟨_,PySem.W.kitx_none,True.intro,(fun z=>nomatch z)⟩
  | bl y=>cases (show u=Value.bool y from rx);exact ⟨_,PySem.W.kitx_bool,True.intro,(fun z=>nomatch z)⟩
  | int i=>obtain ⟨t,q⟩:=(show ∃ t,u=Value.int i t from rx);cases q;exact ⟨_,PySem.W.kitx_int,True.intro,(fun z=>nomatch z)⟩
  | str y=>obtain ⟨t,q⟩:=(show ∃ t,u=Value.str y t from rx);cases q;exact ⟨_,PySem.W.kitx_str,True.intro,(fun z=>nomatch z)⟩
  | flt y=>obtain ⟨t,q⟩:=(show ∃ t,u=Value.float y t from rx);cases q;exact ⟨_,PySem.W.kitx_float,True.intro,(fun z=>nomatch z)⟩
  | @lst a xs ea=>
   cases (show u=Value.ref a from rx)
   obtain ⟨_,_,n,_,h1⟩:=(show ObjOk X.prog X.w H s.heap a (.lst xs) from I.hok a _ ea)
   exact ⟨_,PySem.W.kitx_list,⟨_,h1,rfl⟩,(fun z=>nomatch z)⟩
  | @frz a ob xs ea=>
   cases (show u=Value.ref a from rx)
   obtain ⟨_,_,_,n,_,h1⟩:=(show ObjOk X.prog X.w H s.heap a (.frz ob (.lst xs)) from I.hok a _ ea)
   exact ⟨_,PySem.W.kitx_list,⟨_,h1,rfl⟩,(fun z=>nomatch z)⟩
  | @tup a xs ea=>
   cases (show u=Value.ref a from rx)
   obtain ⟨_,_,_,p⟩:=(show ObjOk X.prog X.w H s.heap a (.tup xs) from I.hok a _ ea)
   obtain ⟨o,h1,h2,_⟩:=p
   exact ⟨_,PySem.W.kitx_tuple,⟨o,h1,h2⟩,(fun z=>nomatch z)⟩
  | @dK a kvs ea=>
   cases (show u=Value.ref a from rx)
   obtain ⟨_,_,vs,_,p⟩:=(show ObjOk X.prog X.w H s.heap a (.dK kvs) from I.hok a _ ea)
   obtain ⟨o,es,ep,h1,h2,_⟩:=p
   exact ⟨_,PySem.W.kitx_dict,⟨o,h1,h2.1⟩,(fun z=>nomatch z)⟩
  | @dT a kvs ea=>
   cases (show u=Value.ref a from rx)
   obtain ⟨_,_,xs,_,o,es,ep,h1,h2,_⟩:=(show ObjOk X.prog X.w H s.heap a (.dT kvs) from I.hok a _ ea)
   exact ⟨_,PySem.W.kitx_dict,⟨o,h1,h2.1⟩,(fun z=>nomatch z)⟩
  | @ins a C dx fs ea cl ha hn htk hm=>
   cases (show u=Value.ref a from rx)
   obtain ⟨mA,O,_⟩:=yI I.hok ea
   obtain ⟨od,J,_⟩:=O.look
   exact ⟨_,PySem.W.kitx_own (cl.get _) cl.hd ha hn htk hm,J,(fun z=>nomatch z)⟩
 ·cases (show u=Value.ref a from rx)
  obtain ⟨vs,hx,_⟩:=za I.hok e1
  obtain ⟨mA,nA,rA⟩:=qF I.hok e2
  obtain ⟨od,hod,lk⟩:=oG nA
  exact ⟨_,El (ox:=dG C (some d) vs) (od:=od) c,⟨hx,rfl,rfl,hod⟩,(fun z=>nomatch z)⟩
theorem oN {K:PySem.W.Frag} (hK:X.K=K):CallR X (.builtin "isinstance") (zf K):=by
 subst hK
 intro pins s σ H xs us Q I r h
 obtain ⟨x,t,b,ty,w,q⟩:=h
 rcases w with ⟨v,c,rfl,ec,e⟩ | ⟨p,vs,cs,rfl,ep,ec,e⟩
 ·obtain ⟨u,u2,rfl,ru,rv⟩:=vals2 r
  obtain rfl:=Em ec rv
  obtain ⟨φ,Z,hφ,hne⟩:=En I ru ty
  exact PySem.W.kia_one Z I.kIn hφ e hne fun tk=>⟨.bl b,H,I.tok _,rfl,q⟩
 ·obtain ⟨u,u2,rfl,ru,rv⟩:=vals2 r
  cases (show u2=Value.ref p from rv)
  obtain ⟨φ,Z,hφ,hne⟩:=En I ru ty
  obtain ⟨_,its,rt,o,h1,h2,n,h3⟩:=(show ObjOk X.prog X.w H s.heap p (.tup vs) from I.hok p _ ep)
  obtain rfl:=zc ec rt
  obtain ⟨oc,odd,oda,osl⟩:=o
  dsimp only at h2 h3
  subst h2 h3
  exact PySem.W.kia_tup Z I.kIn hφ h1 e hne fun tk=>⟨.bl b,H,I.tok _,rfl,q⟩
end
end L2
namespace L2
open PySem PySem.Spec PyProof.Rows
def v9 (P:Program) (w:World) (K:PySem.W.Frag) (mg:Str→Option Value) (base:Heap) (k:Nat) (x:Str) (ps:List Str) (sp:Sp):Prop:=
 ∃ f fd,mg x=some (.ref f)∧PySem.W.keepIn K (.ref f)=true∧Binds K fd ps []∧oH P w K mg base (NK P w) k f fd ps sp
def xU (sp:Sp) (R:St→XK) (t:TA):TE:=fun σ H Q=>t σ H fun vs H1=>sp vs H1 Q (R σ)
theorem Eo {X:Cx} (h:∀ (e:Value) (s:Shared),X.xe e s=False):nF X (fun _ _ _ _=>False):=fun _ _ _ ⟨_,_,_,_,_,_,_,_,z⟩=>z.elim
section
variable {X:Cx} {k:Nat} {f C:Addr} {fd:FuncData} {ps:List Str} {sp:Sp} {R:St→XK} {x:Str} {p pos:Pos} {e:Expr} {es:List Expr} {t:TA} {pins:List (Addr×Obj)} {σ:St} {H:Hp} {s:Shared} {Q:VK} {us:List Value} {vs:List V}
theorem Ih (F:oH X.prog X.w X.K X.mg X.base (NK X.prog X.w) k f fd ps sp) (hr:Room k X.A) (hb:Binds X.K fd ps []) (hx:nF X R) (I:Inv X pins σ H s) (r:Vals vs us) (h:sp vs H Q (R σ)):
  wpAny (model X.prog X.w) X.A (call (.ref f) us) (EP X pins σ Q) X.xe s:=by
 have hl:(us ++ []).length=ps.length:=by rw [List.append_nil,← r.length];exact F.len _ _ _ _ h
 have bd:=hb s us I.kIn hl
 rw [List.append_nil] at bd
 refine wpAny_call (codeAny_mono (F.run X.A X.stack s H ⟨us,[]⟩ us vs Q (R σ) hr I.env0 bd r h) fun rr s' hq=>?_)
 cases rr with
 | error e=>exact hx pins e s' (Ia I hq)
 | ok fl=>
  cases fl with
  | ret u=>exact I.after hq
  | next=>exact False.elim hq
  | brk=>exact False.elim hq
  | cont=>exact False.elim hq
theorem Ep (F:v9 X.prog X.w X.K X.mg X.base k x ps sp) (hr:Room k X.A) (hg:Gl X x) (hx:nF X R) (ha:PA X (e :: es) t) (hdb:(x == ("__debug__":Str))=false)
  (he:starEach (e :: es) X.env=(false,eval e X.env) :: starEach es X.env) (hpl:(backTo pos (starEach es X.env)).any (·.1)=false):PE X (.Call (.Name x p) (e :: es) [] pos) (xU sp R t):=by
 obtain ⟨f,fd,a,b,c,d⟩:=F
 intro pins s σ H Q I h
 refine wpAny_Call_Name_kw (mQ I hg a ?_ hdb)
 refine PySem.W.callWith_K (h₀:=X.base) I.ok.mod.kin b (dD (ha pos pins s σ H _ I h) fun us s1 ⟨vs,H1,I1,r,q⟩=>⟨I1.kIn,?_⟩) he hpl
 exact Ih d hr c hx I1 r q
def Er (K:PySem.W.Frag) (ta tv:TE) (f:Str):TS:=fun D σ H=>tv σ H fun y H1=>ta σ H1 fun x H2=>∃ a C,x= .ref a∧XCls K C∧iQ K C f∧
 ((H2 a=some (ik a C)∧∀ d,H2 d=none→d≠a→D.nx σ (upd (upd H2 a (eZ a C d)) d (jc d [(f,y)])))∨
  (∃ d fs,H2 a=some (eZ a C d)∧H2 d=some (jc d fs)∧fs.length < 1000∧D.nx σ (upd H2 d (jc d (zZ f y fs)))))
theorem Ii {o value:Expr} {ta tv:TE} {fn:Str} {pos':Pos} (ha:PE X o ta) (hv:PE X value tv) (hs:swapsWith value (some (.Attribute o fn pos')) pos.line X.env=pure false):PS X (.Assign [.Attribute o fn pos'] value pos) (Er X.K ta tv fn):=by
 intro pins s σ H D I h
 refine plainObj_wpAny_Assign_Attribute (dD (hv pins s σ H _ I h) fun u s1 ⟨y,H1,I1,ry,q⟩=>dD (ha pins s1 σ H1 _ I1 q) fun ov s2 qq0=>?_) hs
 obtain ⟨x,H2,I2,rx,a,C,ex,c,n,q2⟩:=qq0
 subst ex
 obtain rfl:ov=Value.ref a:=rx
 rcases q2 with ⟨e,q2⟩ | ⟨d,fs,e,e2,hl,q2⟩
 ·exact Rp I2 e c n ry fun s3 d z1 z2 I3=>⟨σ,_,I3,q2 d z1 z2⟩
 ·exact Rq I2 e e2 hl c n ry fun s3 I3=>⟨σ,_,I3,q2⟩
def Es (K:PySem.W.Frag) (ta:TE) (f:Str):TE:=fun σ H Q=>ta σ H fun x H1=>∃ a C fs v,x= .ref a∧IsX H1 a C fs∧XCls K C∧iQ K C f∧fs.lookup f=some v∧Q v H1
theorem Ij {ta:TE} {fn:Str} (he:PE X e ta) (hb:attributeBase e fn X.env (eval e X.env)=eval e X.env):PE X (.Attribute e fn pos) (Es X.K ta fn):=by
 intro pins s σ H Q I h
 refine Hk hb (dD (he pins s σ H _ I h) fun u s1 qq0=>?_)
 obtain ⟨x,H1,I1,rx,a,C,fs,v,ex,⟨d,e1,e2⟩,c,n,l,q⟩:=qq0
 subst ex
 obtain rfl:u=Value.ref a:=rx
 exact getx I1 e1 e2 c n l fun u2 s2 I2 ru=>⟨v,H1,I2,ru,q⟩
def uP (C:Addr) (fl:List Str):Sp:=fun vs H Q E=>∃ x ws,vs= .ref x :: ws∧ws.length=fl.length∧H x=some (ik x C)∧∀ d,H d=none→d≠x→Q .non (upd (upd H x (eZ x C d)) d (jc d (fl.zip ws)))
structure NQ (P:Program) (w:World) (K:PySem.W.Frag) (mg:Str→Option Value) (base:Heap) (k:Nat) (x:Str) (C:Addr) (fl:List Str):Prop where
 at_:mg x=some (.ref C)
 cl:GK K C
 kp:PySem.W.keepIn K (.ref C)=true
 na:∀ f∈fl,iQ K C f
 run:∃ f fd ps,PySem.W.findIn K (.ref C) "__init__"=some (some (.ref f))∧PySem.W.typeIn K (.ref f)=some (.type "function")∧Binds K fd ps []∧oH P w K mg base xG k f fd ps (uP C fl)
def xV (C:Addr) (fl:List Str) (R:St→XK) (t:TA):TS:=fun _ σ H=>t σ H fun vs H1=>vs.length=fl.length∧vs.length≤sizeLine∧∀ x H2,Same H1 H2→IsX H2 x C (fl.zip vs)→R σ (.ref C) (some x) H2
theorem NT {Q:Value→Shared→Prop} {E:Value→Shared→Prop} {fl:List Str} (M:NQ X.prog X.w X.K X.mg X.base k x C fl) (hr:Room (k+1) X.A) (I:Inv X pins σ H s) (r:Vals vs us) (hl:vs.length=fl.length) (hz:vs.length≤sizeLine)
  (q:∀ a d s',H a=none→H d=none→d≠a→Inv X pins σ (upd (upd (upd H a (ik a C)) a (eZ a C d)) d (jc d (fl.zip vs))) s'→Q (.ref a) s'):wpAny (model X.prog X.w) X.A (call (.ref C) us) Q E s:=by
 obtain ⟨f,fd,ps,hi,hf,hb,F⟩:=M.run
 refine NB I.kIn M.cl.cls.xi hi hf (by rw [← r.length];exact hz) ?_
 have I1:Inv X pins σ H {s with heap:=s.heap.push {cls:=.type "tuple",data:=.seq us.toArray}}:=I.kept (t':=s.toks) fun b o e=>Heap.get?_push_of_some _ e
 have sz1:(s.heap.push {cls:=.type "tuple",data:=.seq us.toArray}).objs.size=s.heap.objs.size+1:=Heap.size_push _ _
 have hfr:H (s.heap.objs.size+1)=none:=I.hok.fresh (Nat.le_succ _)
 have gx:((s.heap.push {cls:=.type "tuple",data:=.seq us.toArray}).push (dG C none #[.ref s.heap.objs.size,.none,.none,.none,.bool false,.none])).get? (s.heap.objs.size+1)=some (dG C none #[.ref s.heap.objs.size,.none,.none,.none,.bool false,.none]):=by
  rw [← sz1];exact Heap.get?_push_size _ rfl
 have I2:Inv X pins σ (upd H (s.heap.objs.size+1) (ik (s.heap.objs.size+1) C)) {s with heap:=(s.heap.push {cls:=.type "tuple",data:=.seq us.toArray}).push (dG C none #[.ref s.heap.objs.size,.none,.none,.none,.bool false,.none])}:=
  I1.laid (t':=s.toks) (fun b o e=>Heap.get?_push_of_some _ e) (by show (s.heap.push _).objs.size≤_;rw [sz1];exact Nat.le_refl _) ⟨⟨_,gx⟩,⟨_,gx⟩,fun h1 h2 ⟨t,z⟩ kk=>⟨t,kk _ z⟩⟩
 have r2:Vals (V.ref (s.heap.objs.size+1) :: vs) (Value.ref (s.heap.objs.size+1) :: us):=.cons rfl r
 have sp0:uP C fl (V.ref (s.heap.objs.size+1) :: vs) (upd H (s.heap.objs.size+1) (ik (s.heap.objs.size+1) C)) (fun v H2=>v= .non∧∃ d,H d=none∧d≠s.heap.objs.size+1∧H2=upd (upd (upd H (s.heap.objs.size+1) (ik (s.heap.objs.size+1) C)) (s.heap.objs.size+1) (eZ (s.heap.objs.size+1) C d)) d (jc d (fl.zip vs))) E0:=
  ⟨_,_,rfl,hl,ak,fun d hd ne=>⟨rfl,d,by rw [aB ne] at hd;exact hd,ne,rfl⟩⟩
 have hl2:((Value.ref (s.heap.objs.size+1) :: us) ++ []).length=ps.length:=by rw [List.append_nil,← r2.length];exact F.len _ _ _ _ sp0
 have bd:=hb _ (Value.ref (s.heap.objs.size+1) :: us) I2.kIn hl2
 rw [List.append_nil] at bd
 refine wpAny_call (codeAny_mono (F.run _ X.stack _ _ ⟨Value.ref (s.heap.objs.size+1) :: us,[]⟩ (Value.ref (s.heap.objs.size+1) :: us) _ _ E0 (hr.make C us []) (I2.env0.make C us []) bd r2 sp0) fun rr s' hq=>?_)
 cases rr with
 | error e=>exact False.elim hq
 | ok fl=>
  cases fl with
  | ret u=>
   obtain ⟨v,H',I3,rv,ev,d,hd,ne,eH⟩:=I2.after hq
   subst ev
   rw [eH] at I3
   exact ⟨rv,q _ d s' hfr hd ne I3⟩
  | next=>exact False.elim hq
  | brk=>exact False.elim hq
  | cont=>exact False.elim hq
theorem thrown {env:Env} {C:Addr} {Q:Flow→Shared→Prop} {m:Sem Value} (hc:X.calm=true) (c:GK X.K C) (hx:nF X R)
  (h:wpAny (model X.prog X.w) X.A m (fun v s1=>∃ x d H1,v= .ref x∧Inv X pins σ H1 s1∧H1 x=some (eZ x C d)∧R σ (.ref C) (some x) (upd H1 x (oK x C d))) X.xe s):
  wpAny (model X.prog X.w) X.A (raiseStmt env (some m) none) Q X.xe s:=by
 obtain ⟨nm,qn,N,bs,bm,sn,sub,ab,col,dd,k0,k1,k2,k3,k5,lk0,tl⟩:=rD c.cls.xi
 unfold raiseStmt
 refine wpAny_bind (dD h fun v s1 qq0=>?_)
 obtain ⟨x,d,H1,ev,I1,e1,r1⟩:=qq0
 subst ev
 have KI:=I1.kIn
 obtain ⟨t,he⟩:=oM I1.hok e1
 have hh:X.A.handled=none:=I1.ok.hd hc
 have hcB:(Value.ref C :: bm).contains (.type "BaseException")=true:=by
  rw [List.contains_cons,(tl _ KI).hasType (show Ro.contains (.type "BaseException")=true from by decide)];rfl
 have fin:X.xe (.ref x) s1:=by
  have I2:Inv X pins σ (upd H1 x (oK x C d)) s1:=I1.write (t':=s1.toks) (x:=x) (e:=x) (h':=s1.heap) (by rw [e1];exact True.intro) (.inl rfl) (fun b o _ z=>z) ⟨_,he⟩ (yZ he rfl)
  exact hx pins _ s1 ⟨x,C,d,σ,_,rfl,I2,⟨ak,.inl ⟨_,he,rfl,rfl⟩⟩,r1⟩
 have hD:=KI _ _ lk0
 obtain ⟨hp,g,dr,tk,os⟩:=s1
 unfold dG at he
 repeat (first | with_reducible refine wpAny_loadPart_at he ?_ | with_reducible refine wpAny_loadPart_at hD ?_ | (with_reducible refine wpAny_isSubtype_exc hD ?_;rw [hcB]) | wp_step)
 exact wpAny_raiseNew_none hh fin
end
end L2
namespace L2
open PySem PySem.Spec PyProof.Rows
section
variable {X:Cx} {k:Nat} {C:Addr} {R:St→XK} {x:Str} {p cpos pos:Pos} {e:Expr} {es:List Expr} {t:TA} {fl:List Str}
theorem wg {H:Hp} {a d:Addr} {vs:List V} (ha:H a=none) (hd:H d=none) (ne:d≠a):Same H (upd (upd (upd (upd H a (ik a C)) a (eZ a C d)) d (jc d (fl.zip vs))) a (oK a C d))∧
  IsX (upd (upd (upd (upd H a (ik a C)) a (eZ a C d)) d (jc d (fl.zip vs))) a (oK a C d)) a C (fl.zip vs):=by
 refine ⟨fun b o h=>?_,d,ak,by rw [aB ne,ak]⟩
 have na:b≠a:=fun z=>by rw [z,ha] at h;cases h
 have nd:b≠d:=fun z=>by rw [z,hd] at h;cases h
 rw [aB na,aB nd,aB na,aB na]
 exact h
theorem Et (M:NQ X.prog X.w X.K X.mg X.base k x C fl) (hr:Room (k+1) X.A) (hc:X.calm=true) (hg:Gl X x) (hx:nF X R) (ha:PA X (e :: es) t) (hdb:(x == ("__debug__":Str))=false)
  (he:starEach (e :: es) X.env=(false,eval e X.env) :: starEach es X.env) (hpl:(backTo cpos (starEach es X.env)).any (·.1)=false):PS X (.Raise (some (.Call (.Name x p) (e :: es) [] cpos)) none pos) (xV C fl R t):=by
 intro pins s σ H D I h
 rw [arm_exec_Raise]
 refine wpAny_bind (wpAny_standAt (thrown (pins:=pins) (σ:=σ) (C:=C) hc M.cl hx (wpAny_bind (dD (Q:=fun v s1=>∃ x d H1,v= .ref x∧Inv X pins σ H1 s1∧H1 x=some (eZ x C d)∧R σ (.ref C) (some x) (upd H1 x (oK x C d))) ?_ fun v s3 h3=>wpAny_bind (wpAny_standAt (wpAny_pure h3))))))
 refine wpAny_Call_Name_kw (mQ I hg M.at_ ?_ hdb)
 refine PySem.W.callWith_K (h₀:=X.base) I.ok.mod.kin M.kp (dD (ha cpos pins s σ H _ I h) fun us s1 ⟨vs,H1,I1,r,hl,hz,q⟩=>⟨I1.kIn,?_⟩) he hpl
 refine NT M hr I1 r hl hz fun a d s2 z1 z2 ne I2=>⟨a,d,_,rfl,I2,?_,?_⟩
 ·rw [aB (Ne.symm ne),ak]
 ·obtain ⟨w1,w2⟩:=wg (C:=C) (fl:=fl) (vs:=vs) z1 z2 ne
  exact q a _ w1 w2
theorem PS.nox {st:Stmt} {t:TS} (h:PS X.nox st t):PS X st t:=fun pins s σ H D I hw=>
 wpAny_mono (h pins s σ H D (I.wish _) hw) (fun _ _ q=>q.unwish) fun _ _ z=>False.elim z
end
section
variable {X:Cx} {pins:List (Addr×Obj)} {σ σ':St} {H:Hp} {s:Shared} {h':Heap}
theorem Inv.reloc {t':Nat} (I:Inv X pins σ H s) (hs:Heap.SameBut X.env.locals s.heap h') (len:σ'.length=σ.length)
  (l:∃ m',h'.Ns X.env.locals m'∧∀ (i:Nat) (x:Str) (v:V),X.N[i]?=some x→σ'[i]?=some (some v)→Ud X.env.scope x→∃ u,RelV v u∧Look X.env h' m' x u):Inv X pins σ' H {s with heap:=h',toks:=t'}:=by
 have cne:=I.cne
 obtain ⟨mm,⟨oL,_,_,hoL,_⟩,_⟩:=id I.loc
 have away:∀ b o,X.s₀.heap.get? b=some o→b≠X.env.locals:=fun b o e=>Nat.ne_of_lt (Nat.lt_of_lt_of_le (Heap.lt_size e) I.ok.above)
 refine ⟨I.ok,I.os,I.bare,⟨fun b o e n hb hx=>(hs.2 b (away b o e)).trans (I.base.keep b o e n hb hx),fun b o e n hb hx=>?_,I.base.free,fun b o e hx=>?_,I.base.tups,I.base.frzs,I.base.tbls⟩,l,fun y c e=>?_,I.free,I.freeC,fun q hq=>?_,fun b ob e=>?_,len.trans I.len⟩
 ·obtain ⟨sl,e1⟩:=I.base.slot b o e n hb hx
  exact ⟨sl,(hs.2 b (away b o e)).trans e1⟩
 ·obtain ⟨o2,e1⟩:=I.base.there b o e hx
  exact ⟨o2,(hs.2 b (away b o e)).trans e1⟩
 ·obtain ⟨w2,z⟩:=I.cell y c e
  exact ⟨w2,z.sameBut hs (cne y c e)⟩
 ·obtain ⟨e,n,ne,nf,d⟩:=I.pin q hq
  exact ⟨(hs.2 q.1 ne).trans e,n,ne,nf,d⟩
 ·refine (I.hok b ob e).stay (fun c w2 hc q=>(hs.2 c ?_).trans q) (fun _ q=>q) fun _ _ q=>q
  rintro rfl
  rcases hc with rfl | hc
  ·rw [I.free] at e;cases e
  ·rw [I.free] at hc;cases hc
theorem name_goes {A:Around} {E:Value→Shared→Prop} {i:Nat} {n:Str} {pos:Pos} {Q:Unit→Shared→Prop} (I:Inv X pins σ H s) (hN:X.N.Nodup) (hi:X.N[i]?=some n) (hl:X.env.scope.names.lookup n=some .local)
  (h:∀ s',Inv X pins (σ.set i none) H s'→Q () s'):wpAny (model X.prog X.w) A (do bindName X.env n .none;unbindBehindTheSuite X.env n pos) Q E s:=by
 have hcls:(X.env.scope.kind == .class || (X.env.scope.kind == .module && X.env.locals != X.env.globals))=false:=by rw [I.ok.kind];rfl
 have hk:X.env.kindOf n=some .local:=hl
 refine wpAny_bind (wpAny_bindName (mO (v:=.non) I hN hi (.inl hl) rfl (fun s1 I1=>?_) (.inr hl)))
 obtain ⟨m1,hn1,hl1⟩:=id I1.loc
 have hiσ:i < σ.length:=by rw [I.len];exact (List.getElem?_eq_some_iff.mp hi).1
 obtain ⟨u1,ru1,lk1⟩:=hl1 i n .non hi (by rw [List.getElem?_set_self hiσ]) (.inl hl)
 have m1n:m1 n=some u1:=by
  rcases lk1 with ⟨_,z⟩ | ⟨z | z,_⟩
  ·exact z
  ·rw [hk] at z;cases z
  ·rw [hk] at z;cases z
 unfold unbindBehindTheSuite
 refine wpAny_onRaise ?_
 unfold unbindName
 refine wpAny_bind (wpAny_point (wpAny_bind ?_))
 unfold deleteName
 simp only [hk,hcls]
 rw [if_neg (by decide)]
 refine wpAny_bind (wpAny_nsDel_keeps hn1 fun h2 v2 hn2 hs2=>?_)
 rw [m1n]
 simp only [if_true,Option.isSome_some,Bool.not_true,Bool.false_eq_true,if_false]
 refine wpAny_pure (wpAny_point (h _ (I1.reloc (t':=s1.toks) hs2 (by rw [List.length_set,List.length_set]) ⟨_,hn2,fun j y v e1 e2 e3=>?_⟩)))
 have hj:j≠i:=fun z=>by
  subst z
  rw [List.getElem?_set_self hiσ] at e2;cases e2
 rw [List.getElem?_set_ne (Ne.symm hj)] at e2
 obtain ⟨u,r,q⟩:=hl1 j y v e1 (by rw [List.getElem?_set_ne (Ne.symm hj)];exact e2) e3
 refine ⟨u,r,?_⟩
 rcases q with ⟨k,z⟩ | ⟨k,c,z1,z2⟩
 ·have ny:y≠n:=fun z=>hj (qQ hN e1 (z ▸ hi))
  exact .inl ⟨k,by show (if y=n then v2 else m1 y)=some u;rw [if_neg ny];exact z⟩
 ·exact .inr ⟨k,c,z1,z2.sameBut hs2 (I1.cne y c z1)⟩
end
end L2
namespace L2
open PySem PySem.Spec PyProof.Rows
abbrev Cx.sui (X:Cx) (x:Addr):Cx:={X with A:=X.A.mark (some (.ref x)),calm:=false,xe:=fun _ _=>False}
abbrev Cx.bod (X:Cx) (pins:List (Addr×Obj)) (R:St→XK):Cx:={X with pn:=X.pn ++ pins,xe:=XE X pins R}
section
variable {X:Cx} {pins pins':List (Addr×Obj)} {σ:St} {H:Hp} {s:Shared} {x C d T:Addr} {R:St→XK} {D:Ends}
theorem Inv.sui (I:Inv X pins σ H s) (x:Addr):Inv (X.sui x) pins σ H s:=
 ⟨⟨I.ok.mod,I.ok.kind,I.ok.glob,I.ok.blt,I.ok.above,I.ok.inj,I.ok.has,I.ok.cab,fun h=>absurd h Bool.false_ne_true,I.ok.frames,I.ok.stk,I.ok.exf,I.ok.bs,I.ok.bsz,I.ok.noex,I.ok.exfs,I.ok.funs,I.ok.frf⟩,I.os,I.bare,I.base,I.loc,I.cell,I.free,I.freeC,I.pin,I.hok,I.len⟩
theorem Inv.unsui (ok:X.Ok) (I:Inv (X.sui x) pins σ H s):Inv X pins σ H s:=⟨ok,I.os,I.bare,I.base,I.loc,I.cell,I.free,I.freeC,I.pin,I.hok,I.len⟩
theorem Inv.bod (I:Inv X pins σ H s) (R:St→XK):Inv (X.bod pins R) [] σ H s:=
 ⟨⟨I.ok.mod,I.ok.kind,I.ok.glob,I.ok.blt,I.ok.above,I.ok.inj,I.ok.has,I.ok.cab,I.ok.hd,I.ok.frames,I.ok.stk,I.ok.exf,I.ok.bs,I.ok.bsz,I.ok.noex,I.ok.exfs,I.ok.funs,I.ok.frf⟩,I.os,I.bare,I.base,I.loc,I.cell,I.free,I.freeC,fun p hp=>I.pin p (by simpa using hp),I.hok,I.len⟩
theorem Inv.unbod (I:Inv (X.bod pins R) pins' σ H s):Inv X pins σ H s:=
 ⟨⟨I.ok.mod,I.ok.kind,I.ok.glob,I.ok.blt,I.ok.above,I.ok.inj,I.ok.has,I.ok.cab,I.ok.hd,I.ok.frames,I.ok.stk,I.ok.exf,I.ok.bs,I.ok.bsz,I.ok.noex,I.ok.exfs,I.ok.funs,I.ok.frf⟩,I.os,I.bare,I.base,I.loc,I.cell,I.free,I.freeC,fun p hp=>I.pin p (List.mem_append_left _ hp),I.hok,I.len⟩
theorem SP.unbod {f:Flow} (h:SP (X.bod pins R) pins' D f s):SP X pins D f s:=by
 cases f with
 | next=>obtain ⟨σ',H',I,q⟩:=h;exact ⟨σ',H',I.unbod,q⟩
 | brk=>obtain ⟨σ',H',I,q⟩:=h;exact ⟨σ',H',I.unbod,q⟩
 | cont=>obtain ⟨σ',H',I,q⟩:=h;exact ⟨σ',H',I.unbod,q⟩
 | ret u=>obtain ⟨v,σ',H',I,r,q⟩:=h;exact ⟨v,σ',H',I.unbod,r,q⟩
theorem wj:nF (X.bod pins R) R:=by
 rintro pins' e s' ⟨x,C,d,σ,H',he,I,⟨tx,F⟩,r⟩
 refine ⟨x,C,d,σ,H',he,I.unbod,⟨tx,?_⟩,r⟩
 rcases F with F | ⟨T,F⟩
 ·exact .inl F
 ·obtain ⟨a1,a2,a3,a4,a5,a6⟩:=F.fp
  exact .inr ⟨T,F.obj,F.tb,⟨a1,a2,a3,a4,a5,fun p hp=>a6 p (List.mem_append_left _ hp)⟩,F.tr⟩
theorem Aw {A:Around} {E:Value→Shared→Prop} {P:Addr} {b:Bool} {Q:Bool→Shared→Prop} {vs:Array Value} {M:Model} {K:PySem.W.Frag} (KI:K.In s.heap) (c:XCls K C) (cP:XCls K P) (e:s.heap.get? x=some (dG C (some d) vs)) (hm:PySem.W.mroIn K C (.ref P)=some b) (h:Q b s):
  wpAny M A (excMatches (.ref x) (.ref P)) Q E s:=by
 obtain ⟨nm,qn,N,bs,bm,sn,sub,ab,col,dd,k0,k1,k2,k3,k5,lk,tl⟩:=rD c.xi
 obtain ⟨nm',qn',N',bs',bm',sn',sub',ab',col',dd',k0',k1',k2',k3',k5',lk',tl'⟩:=rD cP.xi
 have hC:=KI _ _ lk
 have hP:=KI _ _ lk'
 have hPB:(Value.ref P :: bm').contains (.type "BaseException")=true:=by
  rw [List.contains_cons,(tl' _ KI).hasType (show Ro.contains (.type "BaseException")=true from by decide)];rfl
 have hCP:(Value.ref C :: bm).contains (.ref P)=b:=by
  unfold PySem.W.mroIn PySem.W.clsIn at hm
  rw [lk] at hm
  exact Option.some.inj hm
 have f:=tc_notTuple
 obtain ⟨hp,g,dr,tk,os⟩:=s
 unfold dG at e
 unfold excMatches
 by_cases hh:P=C
 ·subst hh
  have hb:b=true:=by rw [← hCP];simp
  subst hb
  rw [lk] at lk'
  cases lk'
  repeat (first | with_reducible refine wpAny_loadPart_at e ?_ | with_reducible refine wpAny_loadPart_at hC ?_ | (with_reducible refine wpAny_isSubtype_exc hC ?_;first | rw [hPB] | rw [hCP]) | wp_step)
  exact h
 ·repeat (first | with_reducible refine wpAny_loadPart_at e ?_ | with_reducible refine wpAny_loadPart_at hP ?_ | (with_reducible refine wpAny_isSubtype_exc hP ?_;rw [hPB]) | (with_reducible refine wpAny_isSubtype_exc hC ?_;rw [hCP]) | wp_step)
  cases b <;> (wp_walk;exact h)
abbrev TH:=Ends→St→Addr→Addr→Hp→Prop
def PH (X:Cx) (hs:List ExceptHandler) (th:TH):Prop:=∀ (pins:List (Addr×Obj)) (s:Shared) (σ:St) (H:Hp) (D:Ends) (x C d T:Addr),Inv X pins σ H s→Head X pins H x C d T s.heap→th D σ x C H→
 wpAny (model X.prog X.w) X.A (handleBy (.ref x) X.env hs) (SP X pins D) X.xe s
theorem NZ:PH X [] (fun _ _ _ _ _=>False):=fun _ _ _ _ _ _ _ _ _ _ _ h=>h.elim
def Ends.gone (D:Ends) (i:Nat):Ends:={nx:=fun σ H=>D.nx (σ.set i none) H,rt:=D.rt,bk:=fun σ H=>D.bk (σ.set i none) H,ct:=fun σ H=>D.ct (σ.set i none) H}
def Ul (K:PySem.W.Frag) (P:Addr) (i:Nat) (ts:TS) (th:TH):TH:=fun D σ x C H=>∃ b,XCls K C∧PySem.W.mroIn K C (.ref P)=some b∧if b=true then ts (D.gone i) (σ.set i (some (.ref x))) H else th D σ x C H
variable {nm n:Str} {P:Addr} {i:Nat} {p pos:Pos} {b0:Stmt} {suite:List Stmt} {ts:TS} {th:TH} {hs:List ExceptHandler}
theorem Rr (hg:Gl X nm) (hm:X.mg nm=some (.ref P)) (cP:XCls X.K P) (hdb:(nm == ("__debug__":Str))=false) (hN:X.N.Nodup) (hi:X.N[i]?=some n) (hl:X.env.scope.names.lookup n=some .local)
  (hsu:∀ x,PSs (X.sui x) (b0 :: suite) ts) (hr:PH X hs th):PH X (.ExceptHandler (some (.Name nm p)) (some n) (b0 :: suite) pos :: hs) (Ul X.K P i ts th):=by
 rintro pins s σ H D x C d T I F ⟨b,c,mb,q⟩
 obtain ⟨vs,ex,h1⟩:=F.obj
 refine wpAny_handleBy_cons (codeAny_handlers_test (mQ (I.sui x) hg hm ?_ hdb)) (fun z=>nomatch z)
 refine Aw I.kIn c cP ex mb ?_
 cases b with
 | false=>
  rw [if_neg Bool.false_ne_true] at q
  exact hr pins s σ H D x C d T I F q
 | true=>
  rw [if_pos rfl] at q
  refine codeAny_handlers_suite_as ?_
  refine rE I F fun h2 I2 F2=>?_
  refine mO (X:=X.sui x) (v:=.ref x) (I2.sui x) hN hi (.inl hl) rfl (fun s3 I3=>?_) (.inr hl)
  refine wpAny_mono (hsu x pins s3 _ H (D.gone i) I3 q) (fun f s4 w=>?_) fun _ _ z=>False.elim z
  cases f with
  | next=>obtain ⟨σ',H',J,r⟩:=w;exact name_goes (J.unsui I.ok) hN hi hl fun s5 I5=>⟨_,H',I5,r⟩
  | brk=>obtain ⟨σ',H',J,r⟩:=w;exact name_goes (J.unsui I.ok) hN hi hl fun s5 I5=>⟨_,H',I5,r⟩
  | cont=>obtain ⟨σ',H',J,r⟩:=w;exact name_goes (J.unsui I.ok) hN hi hl fun s5 I5=>⟨_,H',I5,r⟩
  | ret u=>obtain ⟨v,σ',H',J,rv,r⟩:=w;exact name_goes (J.unsui I.ok) hN hi hl fun s5 I5=>⟨v,_,H',I5,rv,r⟩
def N5 (tb:(St→XK)→TS) (th:TH):TS:=fun D σ H=>tb (fun σ' c x H'=>∃ C a,c= .ref C∧x=some a∧th D σ' a C H') D σ H
theorem N6 {body:List Stmt} {h0:ExceptHandler} {tb:(St→XK)→TS} (hst:X.stack=X.env :: X.outer) (hfr:X.env.frame=some X.env.locals) (hb:∀ (pins:List (Addr×Obj)) (R:St→XK),PSs (X.bod pins R) body (tb R)) (hh:PH X (h0 :: hs) th):
  PS X (.Try body (h0 :: hs) [] [] pos) (N5 tb th):=by
 intro pins s σ H D I h
 refine wpAny_Try_except (wpAny_mono (hb pins _ [] s σ H D (I.bod _) h) (fun f s1 q=>?_) fun e s1 q=>?_)
 ·have q':=q.unbod
  cases f with
  | next=>exact wpAny_execs_nil q'
  | brk=>exact q'
  | cont=>exact q'
  | ret u=>exact q'
 ·obtain ⟨x,C,d,σ',H',rfl,I1,F1,C',a',eC,ea,r⟩:=q
  cases eC
  cases ea
  refine v8 I1 hst hfr I1.ok.frames F1 fun h2 T I2 F2=>?_
  refine rE I2 F2 fun h3 I3 F3=>?_
  exact hh pins _ σ' H' D x C d T I3 F3 r
end
end L2
namespace L2
open PySem PySem.Spec PyProof.Rows
def dB (mg:Str→Option Value) (x:Str):Addr:=match mg x with
 | some (.ref a)=>a
 | _=>0
theorem qG {mg:Str→Option Value} {x:Str} {C:Addr} (h:mg x=some (.ref C)):dB mg x=C:=by unfold dB;rw [h]
structure Ax (K:PySem.W.Frag) (mg:Str→Option Value) (x:Str):Prop where
 at_:mg x=some (.ref (dB mg x))
 cl:GK K (dB mg x)
theorem Kq {K:PySem.W.Frag} {mg:Str→Option Value} {h:Heap} (X:K.In h) (G:h.Ns mainGlobals mg) {x:Str} {C:Addr} (a:PySem.W.nsIn K mainGlobals x=some (some (.ref C))) (b:zb K C=true):Ax K mg x:=by
 have m:=PySem.W.mg_of X G a
 have e:=qG m
 exact ⟨by rw [e];exact m,by rw [e];exact Ek b⟩
structure wu (K:PySem.W.Frag) (mg:Str→Option Value) (x:Str) (fl:List Str) (qual:Str) (st:Stmt):Prop where
 c:Ax K mg x
 kp:PySem.W.keepIn K (.ref (dB mg x))=true
 na:∀ f∈fl,iQ K (dB mg x) f
 ini:∃ f fd,PySem.W.findIn K (.ref (dB mg x)) "__init__"=some (some (.ref f))∧PySem.W.typeIn K (.ref f)=some (.type "function")∧Fun K "__init__" qual st f fd
def N7 (K:PySem.W.Frag) (C:Addr) (fl:List Str):Bool:=fl.all fun n=>PySem.W.findIn K (.ref C) n == some none
theorem Eu {K:PySem.W.Frag} {mg:Str→Option Value} {h:Heap} (X:K.In h) (G:h.Ns mainGlobals mg) {x qual:Str} {C f:Addr} {fl:List Str} {st:Stmt} {oc:Value} {od an:Option Addr} {osl:Array (Option Value)} {kV doc pm cdv ct:Value}
  (a:PySem.W.nsIn K mainGlobals x=some (some (.ref C))) (b:zb K C=true) (kp:PySem.W.keepIn K (.ref C)=true) (na:N7 K C fl=true)
  (i:PySem.W.findIn K (.ref C) "__init__"=some (some (.ref f))) (t:PySem.W.typeIn K (.ref f)=some (.type "function"))
  (l:K.lookup f=some ⟨oc,od,.func (PySem.W.fnOf "__init__" qual (fU st) (cI st) (aq st) .none kV doc pm an cdv ct),osl⟩) (c:PySem.W.codeIn K cdv qual=true) (k:PySem.W.keepIn K (.ref f)=true):wu K mg x fl qual st:=by
 have m:=PySem.W.mg_of X G a
 have e:=qG m
 refine ⟨Kq X G a b,by rw [e];exact kp,fun n hn=>?_,f,_,by rw [e];exact i,t,Dl l c k⟩
 rw [e]
 have:=List.all_eq_true.mp na n hn
 exact beq_iff_eq.mp this
structure Sub (K:PySem.W.Frag) (mg:Str→Option Value) (x y:Str) (b:Bool):Prop where
 mro:PySem.W.mroIn K (dB mg x) (.ref (dB mg y))=some b
 one:PySem.W.kitOne K (.ref (dB mg x)) (.ref (dB mg y))=some b
theorem gF {K:PySem.W.Frag} {mg:Str→Option Value} {h:Heap} (X:K.In h) (G:h.Ns mainGlobals mg) {x y:Str} {C P:Addr} {r:Bool} (a:PySem.W.nsIn K mainGlobals x=some (some (.ref C))) (b:PySem.W.nsIn K mainGlobals y=some (some (.ref P)))
  (m:PySem.W.mroIn K C (.ref P)=some r) (o:PySem.W.kitOne K (.ref C) (.ref P)=some r):Sub K mg x y r:=by
 have e:=qG (PySem.W.mg_of X G a)
 have e2:=qG (PySem.W.mg_of X G b)
 exact ⟨by rw [e,e2];exact m,by rw [e,e2];exact o⟩
structure JH (X:Cx) (hs:List ExceptHandler) (th:TH):Prop where
 run:PH X hs th
section
variable {X:Cx} {K:PySem.W.Frag} {k:Nat} {x n fn:Str} {ps:List Str} {sp:Sp} {R:St→XK} {p pos cpos pos':Pos} {e o value:Expr} {es:List Expr} {t:TA} {ta tv:TE} {st:Stmt} {u ts:TS} {th:TH} {hs:List ExceptHandler} {i:Nat}
theorem gn (F:v9 X.prog X.w X.K X.mg X.base k x ps sp) (hr:Room k X.A) (hg:Gl X x) (hx:nF X R) (ha:JA X (e :: es) t) (hdb:(x == ("__debug__":Str))=false) (h:autoParam ((e :: es).all notStar=true) L2.auto4._auto_1):
  JE X (.Call (.Name x p) (e :: es) [] pos) (xU sp R t):=by
 have h1:notStar e=true:=by simp only [List.all_cons,Bool.and_eq_true] at h;exact h.1
 have h2:es.all notStar=true:=by simp only [List.all_cons,Bool.and_eq_true] at h;exact h.2
 exact ⟨Ep F hr hg hx ha.run hdb (cz h1) (jl h2)⟩
theorem Ew (h:JS X.nox st u):JS X st u:=⟨h.run.nox⟩
theorem Ex {C:Addr} (hg:Gl X x) (hm:X.mg x=some (.ref C)) (hd:(x == ("__debug__":Str))=false):JE X (.Name x pos) (tC (.ref C)):=⟨yD hg hm rfl hd⟩
theorem xW (hK:X.K=K) (he:JE X e ta) (h:autoParam (lD e=true) L2.auto4._auto_1):JE X (.Attribute e fn pos) (Es K ta fn):=by
 subst hK
 exact ⟨Ij he.run (by cases e <;> first | rfl | cases h)⟩
theorem uQ (hK:X.K=K) (ha:JE X o ta) (hv:JE X value tv) (h:autoParam (iD value=true) L2.auto4._auto_1):JS X (.Assign [.Attribute o fn pos'] value pos) (Er K ta tv fn):=by
 subst hK
 exact ⟨Ii ha.run hv.run (vK h)⟩
theorem nG {fl:List Str} (M:NQ X.prog X.w X.K X.mg X.base k x (dB X.mg x) fl) (hr:Room (k+1) X.A) (hc:X.calm=true) (hg:Gl X x) (hx:nF X R) (ha:JA X (e :: es) t) (hdb:(x == ("__debug__":Str))=false) (h:autoParam ((e :: es).all notStar=true) L2.auto4._auto_1):
  JS X (.Raise (some (.Call (.Name x p) (e :: es) [] cpos)) none pos) (xV (dB X.mg x) fl R t):=by
 have h1:notStar e=true:=by simp only [List.all_cons,Bool.and_eq_true] at h;exact h.1
 have h2:es.all notStar=true:=by simp only [List.all_cons,Bool.and_eq_true] at h;exact h.2
 exact ⟨Et M hr hc hg hx ha.run hdb (cz h1) (jl h2)⟩
theorem Ey:JH X [] (fun _ _ _ _ _=>False):=⟨NZ⟩
theorem Ez {b0:Stmt} {suite:List Stmt} (hK:X.K=K) (c:Ax K X.mg x) (hg:Gl X x) (hdb:(x == ("__debug__":Str))=false) (hN:X.N.Nodup) (hi:X.N[i]?=some n) (hl:X.env.scope.names.lookup n=some .local)
  (hsu:∀ x,JB (X.sui x) (b0 :: suite) ts) (hr:JH X hs th):JH X (.ExceptHandler (some (.Name x p)) (some n) (b0 :: suite) pos :: hs) (Ul K (dB X.mg x) i ts th):=by
 subst hK
 exact ⟨Rr hg c.at_ c.cl.cls hdb hN hi hl (fun x=>(hsu x).run) hr.run⟩
theorem EY {body:List Stmt} {h0:ExceptHandler} {tb:(St→XK)→TS} (hst:X.stack=X.env :: X.outer) (hfr:X.env.frame=some X.env.locals) (hb:∀ (pins:List (Addr×Obj)) (R:St→XK),JB (X.bod pins R) body (tb R)) (hh:JH X (h0 :: hs) th):
  JS X (.Try body (h0 :: hs) [] [] pos) (N5 tb th):=⟨N6 hst hfr (fun pins R=>(hb pins R).run) hh.run⟩
end
section
variable {P:Program} {w:World} {K:PySem.W.Frag} {mg:Str→Option Value} {base:Heap}
theorem ww {x:Str} {st:Stmt} {N ps:List Str} {k:Nat} {sp:Sp} (D:f9 K mg x st) (S:aO N ps (aq st))
  (hb:∀ (kV doc pm:Value) (an:Option Addr) (cdv ct:Value) (us:List Value),us.length=ps.length→bindArgs (PySem.W.fnOf x x (fU st) (cI st) (aq st) .none kV doc pm an cdv ct) ⟨us,[]⟩=pure (ps.zip us))
  (len:∀ vs H Q E,sp vs H Q E→vs.length=ps.length)
  (hbody:∀ (f:Addr) (cdv:Value) (A:Around) (outer:List Env) (s:Shared) (H:Hp) (vs:List V) (Q:VK) (E:XK),Room k (A.deeper (envOfC x (aq st) s.heap.objs.size f cdv))→sp vs H Q E→
   ∃ t,JB (mR (NK P w) P w K mg base N x (aq st) f cdv A outer s H E) (cI st) t∧t {nx:=fun _ H'=>Q .non H',rt:=Q} (start N vs) H):v9 P w K mg base (k+1) x ps sp:=by
 obtain ⟨f,fd,F,hm⟩:=D
 refine ⟨f,fd,hm,F.kp,F.binds hb,?_⟩
 obtain ⟨oc,od,kV,doc,pm,an,cdv,ct,osl,rfl,lk,hcd⟩:=F.ex
 exact JZ lk hcd S len fun A outer s H vs Q E hr h=>let ⟨t,j,q⟩:=hbody f cdv A outer s H vs Q E hr h;⟨t,j.run,q⟩
theorem mkX {x qual:Str} {st:Stmt} {N ps:List Str} {fl:List Str} {k:Nat} (D:wu K mg x fl qual st) (S:aO N ps (aq st))
  (hb:∀ (kV doc pm:Value) (an:Option Addr) (cdv ct:Value) (us:List Value),us.length=ps.length→bindArgs (PySem.W.fnOf "__init__" qual (fU st) (cI st) (aq st) .none kV doc pm an cdv ct) ⟨us,[]⟩=pure (ps.zip us))
  (hl:ps.length=fl.length+1)
  (hbody:∀ (f:Addr) (cdv:Value) (A:Around) (outer:List Env) (s:Shared) (H:Hp) (vs:List V) (Q:VK) (E:XK),Room k (A.deeper (envOfC qual (aq st) s.heap.objs.size f cdv))→uP (dB mg x) fl vs H Q E→
   ∃ t,JB (mR xG P w K mg base N qual (aq st) f cdv A outer s H E).nox (cI st) t∧t {nx:=fun _ H'=>Q .non H',rt:=Q} (start N vs) H):NQ P w K mg base (k+1) x (dB mg x) fl:=by
 obtain ⟨f,fd,a,b,F⟩:=D.ini
 refine ⟨D.c.at_,D.c.cl,D.kp,D.na,f,fd,ps,a,b,F.binds hb,F.ok S (fun vs H Q E h=>?_) fun cdv A outer s H vs Q E hr h=>let ⟨t,j,q⟩:=hbody f cdv A outer s H vs Q E hr h;⟨t,j.run,q⟩⟩
 obtain ⟨y,ws,rfl,hw,_⟩:=h
 rw [List.length_cons,hw,hl]
end
end L2
namespace L2
open PySem PySem.Spec PyProof.Rows
def initOf:Stmt→Stmt
 | .ClassDef _ _ _ (s :: _) _ _ _ _ _ _ _=>s
 | s=>s
section
variable {σ:St} {H:Hp} {D:Ends} {Q:VK} {sp:Sp} {R:St→XK} {a:TA} {K:PySem.W.Frag} {C P:Addr} {fl:List Str} {th:TH} {ts:TS} {i:Nat} {ta:TE} {f:Str}
theorem iI (h:a σ H fun vs H1=>sp vs H1 Q (R σ)):xU sp R a σ H Q:=h
theorem p7 {tb:(St→XK)→TS} (h:tb (fun σ' c x H'=>∃ C a,c= .ref C∧x=some a∧th D σ' a C H') D σ H):N5 tb th D σ H:=h
theorem iJ (h:a σ H fun vs H1=>vs.length=fl.length∧vs.length≤sizeLine∧∀ x H2,Same H1 H2→IsX H2 x C (fl.zip vs)→R σ (.ref C) (some x) H2):xV C fl R a D σ H:=h
theorem kh (h:ta σ H fun x H1=>∃ a C fs v,x= .ref a∧IsX H1 a C fs∧XCls K C∧iQ K C f∧fs.lookup f=some v∧Q v H1):Es K ta f σ H Q:=h
theorem zg {x C:Addr} (c:XCls K C) (m:PySem.W.mroIn K C (.ref P)=some true) (h:ts (D.gone i) (σ.set i (some (.ref x))) H):Ul K P i ts th D σ x C H:=⟨true,c,m,by rw [if_pos rfl];exact h⟩
theorem Ks {x C:Addr} (c:XCls K C) (m:PySem.W.mroIn K C (.ref P)=some false) (h:th D σ x C H):Ul K P i ts th D σ x C H:=⟨false,c,m,by rw [if_neg Bool.false_ne_true];exact h⟩
theorem kj (h:D.nx (σ.set i none) H):(D.gone i).nx σ H:=h
theorem N8 {x C:Addr} {v:V} {c:Value} {fs:List (Str×V)} {b:Bool} (ex:IsX H x C fs) (cl:GK K C) (e:Uk v=some c) (o:PySem.W.kitOne K (.ref C) c=some b) (h:Q (.bl b) H):zf K [.ref x,v] H Q:=
 ⟨.ref x,.ref C,b,.inr ⟨x,C,fs,rfl,ex,cl,rfl⟩,.inl ⟨v,c,rfl,e,o⟩,h⟩
theorem Ik {x C p:Addr} {vs:List V} {cs:List Value} {fs:List (Str×V)} {b:Bool} (ex:IsX H x C fs) (cl:GK K C) (hp:H p=some (.tup vs)) (e:Av vs=some cs) (o:PySem.W.kitAny K (.ref C) cs=some b) (h:Q (.bl b) H):zf K [.ref x,.ref p] H Q:=
 ⟨.ref x,.ref C,b,.inr ⟨x,C,fs,rfl,ex,cl,rfl⟩,.inr ⟨p,vs,cs,rfl,hp,e,o⟩,h⟩
theorem uR {x:V} {t:Value} {p:Addr} {vs:List V} {cs:List Value} {b:Bool} (ty:TyOf K H x t) (hp:H p=some (.tup vs)) (e:Av vs=some cs) (o:PySem.W.kitAny K t cs=some b) (h:Q (.bl b) H):zf K [x,.ref p] H Q:=
 ⟨x,t,b,.inl ty,.inr ⟨p,vs,cs,rfl,hp,e,o⟩,h⟩
theorem rd1 {f1 p0 p1:Str} {vs:List V} {E:XK} (c:XCls K C) (n:iQ K C f1) (h:uP C [f1] vs H Q E):Er K (qm 0) (qm 1) f1 {nx:=fun _ H'=>Q .non H',rt:=Q} (start [p0,p1] vs) H:=by
 obtain ⟨x,ws,rfl,hw,hx,q⟩:=h
 match ws,hw with
 | [v],_=>exact ⟨v,rfl,.ref x,rfl,x,C,rfl,c,n,.inl ⟨hx,fun d hd ne=>q d hd ne⟩⟩
end
theorem IsX.same {H H':Hp} {x C:Addr} {fs:List (Str×V)} (h:IsX H x C fs) (s:Same H H'):IsX H' x C fs:=let ⟨d,a,b⟩:=h;⟨d,s _ _ a,s _ _ b⟩
end L2
namespace L2
open PySem PySem.Spec PyProof.Rows
def Ay (lo c:Int) (n:Nat):It:=⟨fun i _=>i < n,fun i H x H'=>H'=H∧x= .int (lo+i*c),fun i _=>n≤i⟩
theorem Az {P:Program} {w:World} {K:PySem.W.Frag} {tg:Expr} (it:Addr) (lo c:Int) (n:Nat):Turn P w K tg (Ay lo c n) [it] it (fun i h=>IsRangeIter h it (lo+(i:Nat)*c) ((n:Int) - (i:Nat)) c) where
 mem:=by simp
 obj:=fun i h st b hb=>by
  obtain rfl:b=it:=by simpa using hb
  exact ⟨_,st,fun v z=>by
   have z2:Data.fields _=Data.cell v:=z
   cases z2⟩
 keep:=fun i h h' st k=>k it (by simp) _ st
 item:=by
  intro X hP hw hK hc i pins s σ H E I hf st hg
  subst hP hw hK
  obtain ⟨f0,f1,f2,f3,f4,f5⟩:=hf it (by simp)
  have W:=Walks.range (prog:=X.prog) (w:=X.w) (I.ok.hd hc) it lo c n
  refine W.item i s _ _ hg st fun v h' tk hv st' kk=>?_
  obtain ⟨t,rfl⟩:=hv
  have I1:Inv X pins σ H {s with heap:=h',toks:=tk}:=I.turned (fun b o hb e=>kk b o (by simpa using hb) e) f0 f1 f3 f4 f5
  exact ⟨_,rfl,qR (s:={s with heap:=h',toks:=tk}) (n:="range_iterator") st' rfl rfl (by decide) ⟨.int (lo+i*c),H,I1,⟨t,rfl⟩,⟨rfl,rfl⟩,st',fun b hb=>(hf b hb).1⟩⟩
 done:=by
  intro X hP hw hK hc i pins s σ H E I hf st hg
  subst hP hw hK
  obtain ⟨f0,f1,f2,f3,f4,f5⟩:=hf it (by simp)
  exact wpAny_pyNext_range_end (I.ok.hd hc) st (by have:n≤i:=hg;omega) fun h' eb=>⟨rfl,I.turned (t':=s.toks) (fun b o hb e=>eb b o hb e) f0 f1 f3 f4 f5⟩
 self:=fun _ _ _ _ _ st h=>wpAny_pyIter_rangeiter st h
def Fb (ta:TA):TI:=fun σ H R=>ta σ H fun vs H1=>∃ (i j c:Int) (n:Nat),vs=[.int i,.int j,.int c]∧c≠0∧Builtin.divisionGoesByPylong (j - i) c=false∧Builtin.Range.small i j c=true∧Builtin.Range.rangeSize i j c=(n:Int)∧R (Ay i c n) H1
section
variable {X:Cx} {tg:Expr}
theorem Ba {a b c:Expr} {ta:TA} {p pos:Pos} (hg:Gl X "range") (hm:X.mg "range"=none) (ha:PA X [a,b,c] ta) (hs:starEach [a,b,c] X.env=(false,eval a X.env) :: starEach [b,c] X.env) (hs2:(backTo pos (starEach [b,c] X.env)).any (·.1)=false):
  PI X tg (.Call (.Name "range" p) [a,b,c] [] pos) (Fb ta):=by
 intro pins s σ H R I h
 refine Call_ (fQ I hg hm boot_range (PyProof.Rows.callWith_type1 (dD (ha pos pins s σ H _ I h) fun us s1 ⟨vs,H1,I1,r1,q1⟩=>?_) hs hs2))
 obtain ⟨i,j,c,n,rfl,hc,hd,hsm,hn,q⟩:=q1
 cases r1 with
 | cons r rr=>
  cases rr with
  | cons r' rr=>
   cases rr with
   | cons r'' rr=>
    cases rr
    obtain ⟨t,rfl⟩:=r
    obtain ⟨t',rfl⟩:=r'
    obtain ⟨t'',rfl⟩:=r''
    refine call_range_3 hc ?_ (.inl hd)
    refine wpAny_pyIter_range (IsRange.new ..) hsm ?_
    have I2:Inv X pins σ H1 {s1 with heap:=s1.heap.push {cls:=.type "range",data:=.fields #[.int i t,.int j t',.int c t'']}}:=I1.kept (t':=s1.toks) fun b o e=>Heap.get?_push_of_some _ e
    refine ⟨(s1.heap.push {cls:=.type "range",data:=.fields #[.int i t,.int j t',.int c t'']}).objs.size,[(s1.heap.push {cls:=.type "range",data:=.fields #[.int i t,.int j t',.int c t'']}).objs.size],_,_,H1,rfl,
     I2.kept (t':=s1.toks) fun b o e=>Heap.get?_push_of_some _ e,Az _ i c n,?_,fun b hb=>?_,q⟩
    ·have e1:i+((0:Nat):Int)*c=i:=by simp
     have e2:(n:Int) - ((0:Nat):Int)=Builtin.Range.rangeSize i j c:=by rw [hn];simp
     show IsRangeIter _ _ (i+((0:Nat):Int)*c) ((n:Int) - ((0:Nat):Int)) c
     rw [e1,e2]
     exact Heap.get?_push_size _ rfl
    ·obtain rfl:b=(s1.heap.push {cls:=.type "range",data:=.fields #[.int i t,.int j t',.int c t'']}).objs.size:=by simpa using hb
     exact I2.fpOk (Nat.le_refl _) (I2.hok.fresh (Nat.le_refl _))
theorem ur {a b c:Expr} {ta:TA} {p pos:Pos} (hg:Gl X "range") (hm:X.mg "range"=none) (ha:JA X [a,b,c] ta) (h:autoParam (notStar a=true) L2.auto4._auto_1) (h2:autoParam ([b,c].all notStar=true) L2.auto4._auto_1):JI X tg (.Call (.Name "range" p) [a,b,c] [] pos) (Fb ta):=
 ⟨Ba hg hm ha.run (cz h) (jl h2)⟩
end
section
variable {σ:St} {H:Hp} {Q:VK}
theorem km {a:TA} {R:It→Hp→Prop} (h:a σ H fun vs H1=>∃ (i j c:Int) (n:Nat),vs=[.int i,.int j,.int c]∧c≠0∧Builtin.divisionGoesByPylong (j - i) c=false∧Builtin.Range.small i j c=true∧Builtin.Range.rangeSize i j c=(n:Int)∧R (Ay i c n) H1):Fb a σ H R:=h
theorem wz {lo c:Int} {n:Nat} {g:TG} {tb:TS} {D:Ends} (Pv:Nat→St→Hp→Prop) (h0:Pv 0 σ H)
  (hs:∀ i σ H,i < n→Pv i σ H→g (.int (lo+i*c)) σ H fun σ2 H2=>tb {D with nx:=Pv (i+1),ct:=Pv (i+1),bk:=D.nx} σ2 H2) (hd:∀ σ H,Pv n σ H→D.nx σ H):
  ∃ W:Nat→Nat→St→Hp→Prop,(∃ m,W 0 m σ H)∧∀ i m σ H,W i m σ H→
   ((Ay lo c n).stop i H∧D.nx σ H)∨((Ay lo c n).go i H∧∃ N:St→Hp→Prop,(∀ σ' H',N σ' H'→∃ m',m' < m∧W (i+1) m' σ' H')∧∀ x H',(Ay lo c n).yld i H x H'→g x σ H' fun σ2 H2=>tb {D with nx:=N,ct:=N,bk:=D.nx} σ2 H2):=by
 refine ⟨fun i m σ H=>m=n - i∧i≤n∧Pv i σ H,⟨n,by simp,Nat.zero_le _,h0⟩,?_⟩
 rintro i m σ H ⟨rfl,hi,p⟩
 by_cases hlt:i < n
 ·refine .inr ⟨hlt,Pv (i+1),fun σ' H' p'=>⟨n - (i+1),by omega,rfl,hlt,p'⟩,fun x H' y=>?_⟩
  obtain ⟨rfl,rfl⟩:=y
  exact hs i σ _ hlt p
 ·obtain rfl:i=n:=by omega
  exact .inl ⟨Nat.le_refl _,hd σ H p⟩
end
section
variable {X:Cx} {e:Expr} {te:TE} {lo hi:Option Expr} {st:Expr} {tl th ts:TO} {pos p2:Pos}
theorem zj:JE X (.Dict [] [] pos) xJ:=⟨Dt⟩
end
section
variable {σ:St} {H:Hp} {Q:VK} {te:TE}
theorem kE (h:∀ p,H p=none→Q (.ref p) (upd H p (.dK []))):xJ σ H Q:=h
end
def Rt (K:PySem.W.Frag) (neg:Bool):R2:=fun x y H Q=>∃ a b xs,x= .ref a∧y= .ref b∧SqL K H a xs∧SqL K H b xs∧(∀ v∈xs,dZ v=true∨∃ r,v= .ref r)∧Q (.bl (!neg)) H
theorem rG {v:V} (f:dZ v=true):yN v v=true:=by
 cases v <;> first | (cases f;done) | rfl | (simp [yN])
section
variable {X:Cx}
theorem Oa (hu:X.A.units < cLine):OpR X (compareOp .Eq) (Rt X.K false):=by
 intro pins s σ H x y v u Q I rx ry h
 obtain ⟨a,b,xs,rfl,rfl,ha,hb,fx,q⟩:=h
 cases rx
 cases ry
 obtain ⟨its,r1,p1,z1⟩:=I.list ha
 obtain ⟨jts,r2,p2,z2⟩:=I.list hb
 have l1:its.toArray.size=xs.length:=by simpa using r1.length.symm
 have l2:jts.toArray.size=xs.length:=by simpa using r2.length.symm
 refine SeqAt.eq_listAt (e:=fun _=>true) p1.isList p2.isList (by rw [l1,l2]) hu (fun j h1 h2=>?_) ?_
 ·have hj:j < xs.length:=by omega
  obtain ⟨u1,e1,q1⟩:=r1.get (List.getElem?_eq_getElem hj)
  obtain ⟨u2,e2,q2⟩:=r2.get (List.getElem?_eq_getElem hj)
  have f1:its.toArray[j]=u1:=by
   obtain ⟨_,z⟩:=List.getElem?_eq_some_iff.mp e1
   simpa using z
  have f2:jts.toArray[j]=u2:=by
   obtain ⟨_,z⟩:=List.getElem?_eq_some_iff.mp e2
   simpa using z
  rw [f1,f2]
  rcases fx _ (List.getElem_mem hj) with f | ⟨r,f⟩
  ·rw [← rG f]
   exact qY q1 q2 f f
  ·rw [f] at q1 q2
   cases (show u1=Value.ref r from q1)
   cases (show u2=Value.ref r from q2)
   exact SeqAt.EqAt.same _
 ·have e:(List.range its.toArray.size).all (fun _=>true)=true:=by simp
  rw [e]
  exact ⟨.bl true,H,I,rfl,q⟩
def Il (K:PySem.W.Frag):R2:=fun x y H Q=>HS K x y H Q∨Rt K false x y H Q
theorem Ob {K:PySem.W.Frag} (hK:X.K=K) (hu:X.A.units+64 < cLine):OpR X (compareOp .Eq) (Il K):=by
 subst hK
 exact (Ny rfl hu).or (Oa (Nat.lt_of_le_of_lt (Nat.le_add_right _ _) hu))
end
section
variable {H:Hp} {Q:VK} {K:PySem.W.Frag}
theorem jx {i j:Int} (h:Q (.bl (decide (V.int i=V.int j))) H):Il K (.int i) (.int j) H Q:=.inl (jt h)
theorem jy {i j:Bool} (h:Q (.bl (decide (V.bl i=V.bl j))) H):Il K (.bl i) (.bl j) H Q:=.inl (ju h)
end
end L2
namespace L2
open PySem PySem.Spec PyProof.Rows
open AutoSeq1 (wpAny_loadPart')
theorem uT:isSubtype (.type "dict") (.type "dict")=pure true:=by rw [isSubtype_type];kernel_rfl
theorem Bb {prog:Program} {w:World} {A:Around} {E:Value→Shared→Prop} {s:Shared} {Q:Value→Shared→Prop} {a:Addr} {o:Obj} {e:DictEntry} {ep:Nat} {k:Key} (ho:s.heap.get? a=some o) (hc:o.cls= .type "dict") (hd:o.data= .dict #[e] ep)
  (hkey:(bR prog w).is k e.key=true) (hh:e.hash=(bR prog w).hash k) (hsm:(a == sysModules)=false) (hu:A.units < cLine) (h:Q (.bool true) s):wpAny (model prog w) A (compareOp .Eq (.ref a) (.ref a)) Q E s:=by
 show wpAny _ _ (richCompare .Eq (.ref a) (.ref a)) _ _ _
 refine wpAny_richCompare_same_room ⟨o,ho,hc⟩ ⟨o,ho,hc⟩ F.slot_dict_eq (wpAny_call (codeAny_call_builtin F.slot_dict_eq.plain F.entry_dict_eq (F.slot_dict_eq.check _ _ _ _ _ _ _ _ ⟨o,ho,hc⟩ (F.args_dict_eq_2 _ _) ?_))) hu
 have ko:KeysOf (bR prog w) #[e]:=fun x hx=>by
  simp at hx
  subst hx
  exact ⟨k,hkey,hh⟩
 have f2:=uT
 obtain ⟨hp,g,d,tk,os⟩:=s
 have hT:(⟨hp,g,d,tk,os⟩:Shared).TypeIs (.ref a) "dict":=⟨_,ho,hc⟩
 unfold Builtin.«dict.__eq__»
 wp_walk using wpAny_loadPart' ho
 have en:∀ (Q:Array DictEntry→Shared→Prop) (E:Value→Shared→Prop),Q #[e] ⟨hp,g,d,tk,os⟩→wpAny (model prog w) A.in1 (dictEntries a) Q E ⟨hp,g,d,tk,os⟩:=fun Q E q=>by
  unfold dictEntries
  refine wpAny_bind (wpAny_loadPart ho ?_)
  simp only [hd]
  exact wpAny_pure q
 have eo:∀ (Q:Nat→Shared→Prop) (E:Value→Shared→Prop),Q ep ⟨hp,g,d,tk,os⟩→wpAny (model prog w) A.in1 (dictEpoch a) Q E ⟨hp,g,d,tk,os⟩:=fun Q E q=>by
  unfold dictEpoch
  refine wpAny_bind (wpAny_loadPart ho ?_)
  simp only [hd]
  exact wpAny_pure q
 simp only [hd]
 refine wpAny_pure ?_
 refine wpAny_bind (en _ _ ?_)
 rw [if_neg (by simp)]
 refine wpAny_bind (eo _ _ ?_)
 refine wpAny_bind ?_
 rw [Std.Legacy.Range.forIn_eq_forIn_range']
 simp only [Std.Legacy.Range.size,Nat.sub_zero,Nat.add_sub_cancel,Nat.div_one]
 show wpAny _ _ (forIn [0] _ _) _ _ _
 rw [List.forIn_cons]
 refine wpAny_bind (wpAny_bind (en _ _ ?_))
 show wpAny _ _ (holding [e.key,e.val] _ >>=_) _ _ _
 refine wpAny_bind (wpAny_holding ?_)
 refine wpAny_bind (show wpAny (model prog w) A.in1 (dictFind a e.key e.hash) _ _ _ from ?_)
 rw [hh]
 refine wpAny_dictFind_of hkey ho hd ko ?_
 have fi:(#[e]:Array DictEntry).findIdx? (fun e=>(bR prog w).is k e.key)=some 0:=by simp [hkey]
 rw [fi]
 refine wpAny_bind (en _ _ ?_)
 show wpAny _ _ (holding [e.val] (eqBool e.val e.val)) _ _ _
 refine wpAny_holding (SeqAt.EqAt.same e.val prog w _ _ ?_)
 rw [if_neg (by simp)]
 refine wpAny_bind (eo _ _ ?_)
 rw [if_neg (by simp)]
 refine wpAny_pure ?_
 show wpAny _ _ (forIn [] _ _) _ _ _
 rw [List.forIn_nil]
 refine wpAny_pure (wpAny_pure ?_)
 exact wpAny_pure ⟨(fun z=>nomatch z),h⟩
def Ru:R2:=fun x y H Q=>(y= .non∧Q (.bl (decide (x= .non))) H)∨∃ a b,x= .bl a∧y= .bl b∧Q (.bl (a == b)) H
def zm:R2:=fun x y H Q=>(y= .non∧Q (.bl (!decide (x= .non))) H)∨∃ a b,x= .bl a∧y= .bl b∧Q (.bl (!(a == b))) H
section
variable {X:Cx}
theorem Oc:OpR X (compareOp .Is) Ru:=LK.or (by
 intro pins s σ H x y v u Q I rx ry h
 obtain ⟨a,b,rfl,rfl,q⟩:=h
 cases rx
 cases ry
 exact is_bool ⟨.bl _,H,I,rfl,q⟩)
theorem Bc:OpR X (compareOp .IsNot) zm:=Hh.or (by
 intro pins s σ H x y v u Q I rx ry h
 obtain ⟨a,b,rfl,rfl,q⟩:=h
 cases rx
 cases ry
 exact isnot_bool ⟨.bl _,H,I,rfl,q⟩)
def Ku (K:PySem.W.Frag):R2:=fun x y H Q=>∃ a b xs,x= .ref a∧y= .ref b∧SqT K H a xs∧SqT K H b xs∧(∀ v∈xs,dZ v=true∨∃ r,v= .ref r)∧Q (.bl true) H
theorem Im (hu:X.A.units < cLine):OpR X (compareOp .Eq) (Ku X.K):=by
 intro pins s σ H x y v u Q I rx ry h
 obtain ⟨a,b,xs,rfl,rfl,ha,hb,fx,q⟩:=h
 cases rx
 cases ry
 obtain ⟨its,r1,p1,z1⟩:=I.tuple ha
 obtain ⟨jts,r2,p2,z2⟩:=I.tuple hb
 have l1:its.toArray.size=xs.length:=by simpa using r1.length.symm
 have l2:jts.toArray.size=xs.length:=by simpa using r2.length.symm
 refine SeqAt.eq_tupleAt (e:=fun _=>true) p1 p2 hu (fun j h1 h2=>?_) ?_
 ·have hj:j < xs.length:=by omega
  obtain ⟨u1,e1,q1⟩:=r1.get (List.getElem?_eq_getElem hj)
  obtain ⟨u2,e2,q2⟩:=r2.get (List.getElem?_eq_getElem hj)
  have f1:its.toArray[j]=u1:=by
   obtain ⟨_,z⟩:=List.getElem?_eq_some_iff.mp e1
   simpa using z
  have f2:jts.toArray[j]=u2:=by
   obtain ⟨_,z⟩:=List.getElem?_eq_some_iff.mp e2
   simpa using z
  rw [f1,f2]
  rcases fx _ (List.getElem_mem hj) with f | ⟨r,f⟩
  ·rw [← rG f]
   exact qY q1 q2 f f
  ·rw [f] at q1 q2
   cases (show u1=Value.ref r from q1)
   cases (show u2=Value.ref r from q2)
   exact SeqAt.EqAt.same _
 ·have e:((List.range (min its.toArray.size jts.toArray.size)).all (fun _=>true) && its.toArray.size == jts.toArray.size)=true:=by rw [l1,l2];simp
  rw [e]
  exact ⟨.bl true,H,I,rfl,q⟩
def Kv:R2:=fun x y H Q=>∃ a k v,x= .ref a∧y= .ref a∧H a=some (.dK [(k,v)])∧Q (.bl true) H
theorem Io (hu:X.A.units < cLine):OpR X (compareOp .Eq) Kv:=by
 intro pins s σ H x y v u Q I rx ry h
 obtain ⟨a,k,z,rfl,rfl,ha,q⟩:=h
 cases rx
 cases ry
 obtain ⟨_,hsm,vs,kv,o,es,ep,h1,h2,h3,h4,h5,h6⟩:=(show ObjOk X.prog X.w H s.heap a (.dK [(k,z)]) from I.hok a _ ha)
 cases kv with
 | cons a1 a2=>
  cases a2
  obtain ⟨l⟩:=es
  dsimp only at h5
  cases h5 with
  | @cons en _ _ _ p1 p2 p3=>
   cases p3
   obtain ⟨k',b1,b2⟩:=h4 en (by simp)
   exact Bb (e:=en) h1 h2.1 h3 b1 b2 hsm hu ⟨.bl true,H,I,rfl,q⟩
def Ip (K:PySem.W.Frag):R2:=fun x y H Q=>Il K x y H Q∨Ku K x y H Q∨Kv x y H Q
theorem uU {K:PySem.W.Frag} (hK:X.K=K) (hu:X.A.units+64 < cLine):OpR X (compareOp .Eq) (Ip K):=by
 subst hK
 exact (Ob rfl hu).or ((Im (Nat.lt_of_le_of_lt (Nat.le_add_right _ _) hu)).or (Io (Nat.lt_of_le_of_lt (Nat.le_add_right _ _) hu)))
end
theorem Fd {sub:List (Option Nat)} {g:TG} {tt:TT} {te:TE} {σ:St} {Q:VK} {H:Hp} {K:PySem.W.Frag} {a:Addr} {xs:List V} (Pv:Nat→List V→Hp→Prop) (hn:xs.length≤sizeLine) (h0:Pv 0 [] H) (hl:∀ i ys H,Pv i ys H→ys.length≤i)
  (hq:∀ i ys H,Pv i ys H→SqT K H a xs)
  (hs:∀ i ys H x,xs[i]?=some x→Pv i ys H→g x (b8 sub σ) H fun σ2 H2=>KeepSt (b8 sub σ) σ2∧tt σ2 H2 fun b H3=>if b=true then te σ2 H3 fun y H4=>Pv (i+1) (ys ++ [y]) H4 else Pv (i+1) ys H3)
  (hd:∀ ys H,Pv xs.length ys H→∀ D,H D=none→Q (.ref D) (upd H D (.lst ys))):jM sub g tt te σ Q (JV K a) H:=
 qz (n:=xs.length) Pv hn h0 hl (fun i ys H hi p=>⟨xs,xs[i],hq i ys H p,List.getElem?_eq_getElem hi⟩) (fun ys H p=>⟨xs,hq _ ys H p,Nat.le_refl _⟩) (fun i ys H x H' hi p y=>by
  obtain ⟨rfl,e2⟩:=y
  exact hs i ys _ x (e2 xs (hq i ys _ p)) p) hd
section
variable {H:Hp} {Q:VK} {K:PySem.W.Frag}
theorem iK {σ:St} {r r':R2} {ta tb tc:TE} (h:ta σ H fun x H1=>tb σ H1 fun y H2=>r x y H2 fun z H3=>∃ k,z= .bl k∧if k=true then tc σ H3 fun w H4=>r' y w H4 Q else Q (.bl false) H3):qU r r' ta tb tc σ H Q:=h
theorem qd {x:V} (h:Q (.bl (decide (x= .non))) H):Ru x .non H Q:=.inl ⟨rfl,h⟩
theorem gA {x:V} (h:Q (.bl (!decide (x= .non))) H):zm x .non H Q:=.inl ⟨rfl,h⟩
theorem jz {i j:Int} (h:Q (.bl (decide (V.int i=V.int j))) H):Ip K (.int i) (.int j) H Q:=.inl (jx h)
theorem jA {i j:Bool} (h:Q (.bl (decide (V.bl i=V.bl j))) H):Ip K (.bl i) (.bl j) H Q:=.inl (jy h)
end
end L2
namespace L2
open PySem PySem.Spec PyProof.Rows PySem.SeqAt
theorem xX {n:Nat}:∀ {ds:List PyData},(∀ d∈ds,d.canLay0=true∧d.depth≤n)→PyData.canLayAll0 ds=true∧PyData.depthAll ds≤n
 | [],_=>⟨rfl,by simp [PyData.depthAll]⟩
 | d :: ds,h=>by
  obtain ⟨a,b⟩:=xX fun e he=>h e (List.mem_cons_of_mem _ he)
  obtain ⟨c,e⟩:=h d (by simp)
  rw [PyData.canLayAll0,PyData.depthAll,a,c]
  exact ⟨rfl,by omega⟩
theorem kI {n:Nat} {ds:List PyData} (h:∀ d∈ds,d.canLay0=true∧d.depth≤n):(PyData.list ds).canLay0=true∧(PyData.list ds).depth≤n+1:=by
 obtain ⟨a,b⟩:=xX h
 rw [PyData.canLay0,PyData.depth]
 exact ⟨a,by omega⟩
theorem Bd {n:Nat} {ds:List PyData} (h:∀ d∈ds,d.canLay0=true∧d.depth≤n):(PyData.tuple ds).canLay0=true∧(PyData.tuple ds).depth≤n+1:=by
 obtain ⟨a,b⟩:=xX h
 rw [PyData.canLay0,PyData.depth]
 exact ⟨a,by omega⟩
theorem Ir {s:Str} (h:PyData.strOk s=true):(PyData.str s).canLay0=true∧(PyData.str s).depth≤0:=by
 rw [PyData.canLay0,PyData.depth]
 exact ⟨h,Nat.le_refl _⟩
theorem Iu (s:Int):(PyData.int s).canLay0=true∧(PyData.int s).depth≤0:=by simp [PyData.canLay0,PyData.depth]
theorem rH {d:PyData} {n:Nat} (h:d.canLay0=true∧d.depth≤n) (hn:n≤64):shaped d=true:=by
 unfold shaped
 rw [h.1,decide_eq_true (by omega)];rfl
theorem ut {xs:List V} {H:Hp} {R:Addr→Prop} (c:Nat.ble xs.length 64=true) (h:∀ p,H p=none→R p):xs.length≤sizeLine∧∀ p,H p=none→R p:=
 ⟨Nat.le_trans (Nat.le_of_ble_eq_true c) (by decide),h⟩
theorem qe {A B:Prop} (h:A):if (!false)=true then A else B:=(if_pos (show (!false)=true from rfl)).mpr h
theorem qg {A B:Prop} (h:B):if (!true)=true then A else B:=by rw [if_neg (by simp)];exact h
theorem Rv {t u:TS} {D:Ends} {σ:St} {H:Hp} (M:St→Hp→Prop) (h1:∀ σ H,M σ H→u D σ H) (h2:∀ N,(∀ σ H,M σ H→N σ H)→t {D with nx:=N} σ H):GX t u D σ H:=h2 _ h1
theorem Od {α:Type} {xs:List α} {n:Nat} {v:α} (h:xs.length=n+1) (e:xs[n]?=some v):tY xs (-1)=some v:=by
 unfold tY Cd
 rw [h,if_neg (by omega),if_pos (by omega)]
 show xs[((-1:Int)+((n+1:Nat):Int)).toNat]?=some v
 rw [show ((-1:Int)+((n+1:Nat):Int)).toNat=n by omega];exact e
end L2
namespace L2
open PySem PySem.Spec PyProof.Rows PySem.SeqAt
open AutoSeq1 (wpAny_loadPart')
section
variable {X:Cx}
end
theorem xY {prog:Program} {w:World} {A:Around} {E:Value→Shared→Prop} {s:Shared} {Q:Value→Shared→Prop} {a:Addr} {o:Obj} {e:DictEntry} {ep:Nat} {k:Key} (ho:s.heap.get? a=some o) (hc:o.cls= .type "dict") (hd:o.data= .dict #[e] ep)
  (hkey:(bR prog w).is k e.key=true) (hh:e.hash=(bR prog w).hash k) (hsm:(a == sysModules)=false) (hu:A.units < cLine) (h:Q (.bool false) s):wpAny (model prog w) A (compareOp .NotEq (.ref a) (.ref a)) Q E s:=by
 show wpAny _ _ (richCompare .NotEq (.ref a) (.ref a)) _ _ _
 refine wpAny_richCompare_same_room ⟨o,ho,hc⟩ ⟨o,ho,hc⟩ F.slot_dict_ne (wpAny_call (codeAny_call_builtin F.slot_dict_ne.plain F.entry_dict_ne (F.slot_dict_ne.check _ _ _ _ _ _ _ _ ⟨o,ho,hc⟩ (F.args_dict_ne_2 _ _) ?_))) hu
 have ko:KeysOf (bR prog w) #[e]:=fun x hx=>by
  simp at hx
  subst hx
  exact ⟨k,hkey,hh⟩
 have f2:=uT
 obtain ⟨hp,g,d,tk,os⟩:=s
 have hT:(⟨hp,g,d,tk,os⟩:Shared).TypeIs (.ref a) "dict":=⟨_,ho,hc⟩
 unfold Builtin.«dict.__ne__»
 wp_walk using wpAny_loadPart' ho
 have en:∀ (Q:Array DictEntry→Shared→Prop) (E:Value→Shared→Prop),Q #[e] ⟨hp,g,d,tk,os⟩→wpAny (model prog w) A.in1 (dictEntries a) Q E ⟨hp,g,d,tk,os⟩:=fun Q E q=>by
  unfold dictEntries
  refine wpAny_bind (wpAny_loadPart ho ?_)
  simp only [hd]
  exact wpAny_pure q
 have eo:∀ (Q:Nat→Shared→Prop) (E:Value→Shared→Prop),Q ep ⟨hp,g,d,tk,os⟩→wpAny (model prog w) A.in1 (dictEpoch a) Q E ⟨hp,g,d,tk,os⟩:=fun Q E q=>by
  unfold dictEpoch
  refine wpAny_bind (wpAny_loadPart ho ?_)
  simp only [hd]
  exact wpAny_pure q
 simp only [hd]
 refine wpAny_pure ?_
 refine wpAny_bind (en _ _ ?_)
 rw [if_neg (by simp)]
 refine wpAny_bind (eo _ _ ?_)
 refine wpAny_bind ?_
 rw [Std.Legacy.Range.forIn_eq_forIn_range']
 simp only [Std.Legacy.Range.size,Nat.sub_zero,Nat.add_sub_cancel,Nat.div_one]
 show wpAny _ _ (forIn [0] _ _) _ _ _
 rw [List.forIn_cons]
 refine wpAny_bind (wpAny_bind (en _ _ ?_))
 show wpAny _ _ (holding [e.key,e.val] _ >>=_) _ _ _
 refine wpAny_bind (wpAny_holding ?_)
 refine wpAny_bind (show wpAny (model prog w) A.in1 (dictFind a e.key e.hash) _ _ _ from ?_)
 rw [hh]
 refine wpAny_dictFind_of hkey ho hd ko ?_
 have fi:(#[e]:Array DictEntry).findIdx? (fun e=>(bR prog w).is k e.key)=some 0:=by simp [hkey]
 rw [fi]
 refine wpAny_bind (en _ _ ?_)
 show wpAny _ _ (holding [e.val] (eqBool e.val e.val)) _ _ _
 refine wpAny_holding (SeqAt.EqAt.same e.val prog w _ _ ?_)
 rw [if_neg (by simp)]
 refine wpAny_bind (eo _ _ ?_)
 rw [if_neg (by simp)]
 refine wpAny_pure ?_
 show wpAny _ _ (forIn [] _ _) _ _ _
 rw [List.forIn_nil]
 refine wpAny_pure (wpAny_pure ?_)
 exact wpAny_pure ⟨(fun z=>nomatch z),h⟩
theorem wA {prog:Program} {w:World} {A:Around} {E:Value→Shared→Prop} {s:Shared} {Q:Value→Shared→Prop} {a:Addr} {o:Obj} {ep:Nat} (ho:s.heap.get? a=some o) (hc:o.cls= .type "dict") (hd:o.data= .dict #[] ep)
  (hsm:(a == sysModules)=false) (hu:A.units < cLine) (h:Q (.bool false) s):wpAny (model prog w) A (compareOp .NotEq (.ref a) (.ref a)) Q E s:=by
 show wpAny _ _ (richCompare .NotEq (.ref a) (.ref a)) _ _ _
 refine wpAny_richCompare_same_room ⟨o,ho,hc⟩ ⟨o,ho,hc⟩ F.slot_dict_ne (wpAny_call (codeAny_call_builtin F.slot_dict_ne.plain F.entry_dict_ne (F.slot_dict_ne.check _ _ _ _ _ _ _ _ ⟨o,ho,hc⟩ (F.args_dict_ne_2 _ _) ?_))) hu
 have f2:=uT
 obtain ⟨hp,g,d,tk,os⟩:=s
 have hT:(⟨hp,g,d,tk,os⟩:Shared).TypeIs (.ref a) "dict":=⟨_,ho,hc⟩
 unfold Builtin.«dict.__ne__»
 wp_walk using wpAny_loadPart' ho
 have en:∀ (Q:Array DictEntry→Shared→Prop) (E:Value→Shared→Prop),Q #[] ⟨hp,g,d,tk,os⟩→wpAny (model prog w) A.in1 (dictEntries a) Q E ⟨hp,g,d,tk,os⟩:=fun Q E q=>by
  unfold dictEntries
  refine wpAny_bind (wpAny_loadPart ho ?_)
  simp only [hd]
  exact wpAny_pure q
 have eo:∀ (Q:Nat→Shared→Prop) (E:Value→Shared→Prop),Q ep ⟨hp,g,d,tk,os⟩→wpAny (model prog w) A.in1 (dictEpoch a) Q E ⟨hp,g,d,tk,os⟩:=fun Q E q=>by
  unfold dictEpoch
  refine wpAny_bind (wpAny_loadPart ho ?_)
  simp only [hd]
  exact wpAny_pure q
 simp only [hd]
 refine wpAny_pure ?_
 refine wpAny_bind (en _ _ ?_)
 rw [if_neg (by simp)]
 refine wpAny_bind (eo _ _ ?_)
 refine wpAny_bind ?_
 rw [Std.Legacy.Range.forIn_eq_forIn_range']
 simp only [Std.Legacy.Range.size,Nat.sub_zero,Nat.add_sub_cancel,Nat.div_one]
 show wpAny _ _ (forIn [] _ _) _ _ _
 rw [List.forIn_nil]
 refine wpAny_pure (wpAny_pure ?_)
 exact wpAny_pure ⟨(fun z=>nomatch z),h⟩
def Kw:R2:=fun x y H Q=>∃ a kvs,x= .ref a∧y= .ref a∧H a=some (.dK kvs)∧kvs.length≤1∧Q (.bl false) H
section
variable {X:Cx}
theorem Iv (hu:X.A.units < cLine):OpR X (compareOp .NotEq) Kw:=by
 intro pins s σ H x y v u Q I rx ry h
 obtain ⟨a,kvs,rfl,rfl,ha,hl,q⟩:=h
 cases rx
 cases ry
 obtain ⟨_,hsm,vs,kv,o,es,ep,h1,h2,h3,h4,h5,h6⟩:=(show ObjOk X.prog X.w H s.heap a (.dK kvs) from I.hok a _ ha)
 match kvs,hl with
 | [],_=>
  cases kv
  obtain ⟨l⟩:=es
  dsimp only at h5
  cases h5
  exact wA h1 h2.1 h3 hsm hu ⟨.bl false,H,I,rfl,q⟩
 | [(k,z)],_=>
  cases kv with
  | cons a1 a2=>
   cases a2
   obtain ⟨l⟩:=es
   dsimp only at h5
   cases h5 with
   | @cons en _ _ _ p1 p2 p3=>
    cases p3
    obtain ⟨k',b1,b2⟩:=h4 en (by simp)
    exact xY (e:=en) h1 h2.1 h3 b1 b2 hsm hu ⟨.bl false,H,I,rfl,q⟩
def Oe (K:PySem.W.Frag):R2:=fun x y H Q=>Ed K x y H Q∨Kw x y H Q
theorem Og {K:PySem.W.Frag} (hK:X.K=K) (hu:X.A.units+64 < cLine):OpR X (compareOp .NotEq) (Oe K):=(Nz hK hu).or (Iv (Nat.lt_of_le_of_lt (Nat.le_add_right _ _) hu))
end
section
variable {H:Hp} {Q:VK} {K:PySem.W.Frag} {σ:St} {D:Ends}
theorem Oh {i j:Int} (h:Q (.bl (!decide (V.int i=V.int j))) H):Oe K (.int i) (.int j) H Q:=.inl (jw h)
end
end L2
namespace L2
open PySem PySem.Spec PyProof.Rows
def Ky:List V→Hp→VK→Prop:=fun xs H Q=>(∃ i j,xs=[.int i,.int j]∧Q (.int (if j > i then j else i)) H)∨∃ (p:Addr) (ns:List Int),xs=[.ref p]∧H p=some (.lst (ns.map V.int))∧ns≠[]∧∀ M,M∈ns→(∀ a∈ns,a≤M)→Q (.int M) H
section
variable {X:Cx}
theorem Be:∀ {us:List Value} {ns:List Int},IntsAre us ns→Vals (ns.map V.int) us:=by
 intro us
 induction us with
 | nil=>intro ns h;cases h;exact .nil
 | cons u us ih=>
  intro ns h
  cases h with
  | cons a b=>exact .cons ⟨_,rfl⟩ (ih (by assumption))
theorem Bf (hc:X.calm=true):CallR X (.builtin "max") Ky:=by
 intro pins s σ H xs us Q I r h
 rcases h with h | ⟨p,ns,rfl,hp,hne,q⟩
 ·exact zW hc pins s σ H xs us Q I r h
 ·obtain ⟨u,rfl,ru⟩:=vals1 r
  cases ru
  obtain ⟨hz,its,n,rv,g⟩:=I.hok p _ hp
  have hi:IntsAre its ns:=intsAre_of rv
  have hl:=rv.length
  obtain ⟨ys,ey⟩:=hi.allInts.items
  have hn:=hi.numsOf
  have hsz:0 < ys.size:=by
   have e1:=congrArg Array.size ey
   have:0 < ns.length:=List.length_pos_iff.mpr hne
   rw [List.length_map] at hl
   simp [intItems] at e1
   omega
  have hL:s.heap.IsList p (intItems ys):=⟨_,g,rfl,n,by rw [← ey]⟩
  have en:ys.toList.map (·.1)=ns:=by rw [← nums_intItems,← ey,← hn]
  refine max_intList (I.ok.hd hc) hL hsz fun v h' tk hv hk=>?_
  obtain ⟨t,rfl⟩:=intItems_at hv
  obtain ⟨h1,h2⟩:=argBest_gt (numAt ys) (ys.size - 1)
  refine ⟨.int _,H,I.kept hk,⟨t,rfl⟩,q _ ?_ fun a ha=>?_⟩
  ·rw [← en,numAt_eq];exact getD_mem (by rw [List.length_map,Array.length_toList];omega)
  ·rw [← en] at ha
   obtain ⟨j,hj,rfl⟩:=mem_getD ha
   rw [List.length_map,Array.length_toList] at hj
   rw [← numAt_eq];exact h2 j (by omega)
end
theorem small_down {i:Int} (h0: -1≤i) (h1:i < 2 ^ 60):Builtin.Range.small i (-1) (-1)=true:=by
 unfold Builtin.Range.small Builtin.Range.rangeSize
 simp only [Builtin.Range.rangeFitsLong,Bool.and_eq_true,Bool.or_eq_true,decide_eq_true_eq,beq_iff_eq,show ¬ ((-1:Int) > 0) by decide,if_false,show (-(-1:Int))=1 by decide,Int.ediv_one]
 split <;> omega
theorem Bg {n:Nat}:Builtin.Range.rangeSize ((n:Int) - 1) (-1) (-1)=(n:Int):=by
 unfold Builtin.Range.rangeSize
 simp only [show ¬ ((-1:Int) > 0) by decide,if_false,show (-(-1:Int))=1 by decide,Int.ediv_one]
 split <;> omega
section
variable {σ:St} {H:Hp} {Q:VK} {D:Ends}
theorem lE {i j:Int} (h:Q (.int (if j > i then j else i)) H):Ky [.int i,.int j] H Q:=.inl ⟨i,j,rfl,h⟩
end
end L2
namespace L2
open PySem PySem.Spec PyProof.Rows
def rInD (K:PySem.W.Frag):R2:=fun x y H Q=>MF K x y H Q∨∃ a o,y= .ref a∧DGet H a x o∧Q (.bl o.isSome) H
def nH:w6:=fun o i v H R=>Dd o i v H R∨∃ a H4,o= .ref a∧DPut H a i v H4∧R H4
def Kz:V→List V→Hp→VK→Prop:=fun x vs H Q=>∃ (l:Addr) (xs:List V) (i:Nat) (y:V),x= .ref l∧vs=[.int i]∧H l=some (.lst xs)∧xs[i]?=some y∧i < 2 ^ 62∧Q y (upd H l (.lst (xs.eraseIdx i)))
def rJ (n0:List V→Hp→(Int→Int→Nat→Prop)→Prop) (ta:TA):TE:=fun σ H Q=>ta σ H fun vs H1=>n0 vs H1 fun lo c n=>∀ q,H1 q=none→Q (.ref q) (upd H1 q (.lst ((List.range n).map fun i:Nat=>V.int (lo+(i:Int)*c))))
def Rw:List V→Hp→(Int→Int→Nat→Prop)→Prop:=fun vs _ R=>∃ n:Nat,vs=[.int n]∧n≤1000000∧R 0 1 n
def rng3:List V→Hp→(Int→Int→Nat→Prop)→Prop:=fun vs _ R=>∃ (i j c:Int) (n:Nat),vs=[.int i,.int j,.int c]∧c≠0∧Builtin.divisionGoesByPylong (j - i) c=false∧Builtin.Range.small i j c=true∧Builtin.Range.rangeSize i j c=(n:Int)∧n≤1000000∧R i c n
theorem Bh {lo c:Int} {n:Nat} {acc:Array Value} (h:ItemsOf (fun i v=>∃ t,v= .int (lo+i*c) t) acc n):Vals ((List.range n).map fun i:Nat=>V.int (lo+(i:Int)*c)) acc.toList:=by
 obtain ⟨h1,h2⟩:=h
 have key:∀ (k:Nat) (a:List Value) (b:Nat),a.length=k→(∀ (j:Nat) (v:Value),a[j]?=some v→∃ t,v= .int (lo+((b+j:Nat):Int)*c) t)→Vals ((List.range' b k).map fun i:Nat=>V.int (lo+(i:Int)*c)) a:=by
  intro k
  induction k with
  | zero=>intro a b hl _;cases a with
   | nil=>exact .nil
   | cons _ _=>simp at hl
  | succ k ih=>
   intro a b hl hh
   cases a with
   | nil=>simp at hl
   | cons v a=>
    obtain ⟨t,e⟩:=hh 0 v (by simp)
    rw [List.range'_succ,List.map_cons]
    refine .cons ⟨t,by simpa using e⟩ (ih a (b+1) (by simpa using hl) fun j v' e=>?_)
    obtain ⟨t,e⟩:=hh (j+1) v' (by simpa using e)
    exact ⟨t,by rw [e];congr 3;omega⟩
 rw [List.range_eq_range']
 refine key n acc.toList 0 (by simpa using h1) fun j v e=>?_
 obtain ⟨t,e⟩:=h2 j v (by simpa using e)
 exact ⟨t,by rw [e];congr 3;simp⟩
section
variable {X:Cx}
theorem nJ {pins:List (Addr×Obj)} {σ:St} {H1:Hp} {s1:Shared} {Q:VK} {E:Value→Shared→Prop} {lo hi c:Int} {t u v:Tok} {tk n:Nat} (hc:X.calm=true) (I1:Inv X pins σ H1 s1) (hs:Builtin.Range.small lo hi c=true) (hn:Builtin.Range.rangeSize lo hi c=(n:Int)) (hl:n≤1000000)
  (q:∀ q,H1 q=none→Q (.ref q) (upd H1 q (.lst ((List.range n).map fun i:Nat=>V.int (lo+(i:Int)*c))))):
  wpAny (model X.prog X.w) X.A (call (.type "list") [.ref s1.heap.objs.size]) (EP X pins σ Q) E {s1 with heap:=s1.heap.push {cls:=.type "range",data:=.fields #[.int lo t,.int hi u,.int c v]},toks:=tk}:=by
 have I2:Inv X pins σ H1 {s1 with heap:=s1.heap.push {cls:=.type "range",data:=.fields #[.int lo t,.int hi u,.int c v]},toks:=tk}:=I1.kept fun b o e=>Heap.get?_push_of_some _ e
 refine call_list_range (n:=n) (I1.ok.hd hc) (IsRange.new ..) hs hn (by omega) fun h' tk' acc' c' hk hS hacc=>?_
 have hsl:n≤sizeLine:=Nat.le_trans hl (by decide)
 exact ⟨.ref _,_,I2.laid (t':=tk') (o:=.lst ((List.range n).map fun i:Nat=>V.int (lo+(i:Int)*c))) hk (Nat.le_refl _) ⟨by simpa using hsl,acc'.toList,c',Bh hacc,by simpa using hS⟩,rfl,q _ I2.fresh⟩
theorem rK {a:Expr} {ta:TA} {p p2 p3 pos:Pos} (hc:X.calm=true) (hg:Gl X "list") (hm:X.mg "list"=none) (hg2:Gl X "range") (hm2:X.mg "range"=none) (ha:JA X [a] ta) (h:autoParam (notStar a=true) L2.auto4._auto_1):
  JE X (.Call (.Name "list" p) [.Call (.Name "range" p2) [a] [] p3] [] pos) (rJ Rw ta):=⟨by
 intro pins s σ H Q I hq
 refine wpAny_Call_Name_kw (fQ I hg hm cF (PyProof.Rows.callWith_type1 (arg1 rfl (wpAny_Call_Name_kw (fQ I hg2 hm2 boot_range (PyProof.Rows.callWith_type1 (dD (ha.run p3 pins s σ H _ I hq) fun us s1 qq0=>?_) (cz h) rfl)))) rfl rfl))
 obtain ⟨vs,H1,I1,r1,q1⟩:=qq0
 obtain ⟨n,rfl,hn,q⟩:=q1
 obtain ⟨u,rfl,t,rfl⟩:=vals1 r1
 exact call_range_1 (nJ hc I1 (small_one (by omega) (by omega) (by omega) (by omega)) (by rw [rangeSize_one];split <;> omega) hn q)⟩
theorem xZ {a b c:Expr} {ta:TA} {p p2 p3 pos:Pos} (hc:X.calm=true) (hg:Gl X "list") (hm:X.mg "list"=none) (hg2:Gl X "range") (hm2:X.mg "range"=none) (ha:JA X [a,b,c] ta) (h:autoParam (notStar a=true) L2.auto4._auto_1) (h2:autoParam ([b,c].all notStar=true) L2.auto4._auto_1):
  JE X (.Call (.Name "list" p) [.Call (.Name "range" p2) [a,b,c] [] p3] [] pos) (rJ rng3 ta):=⟨by
 intro pins s σ H Q I hq
 refine wpAny_Call_Name_kw (fQ I hg hm cF (PyProof.Rows.callWith_type1 (arg1 rfl (wpAny_Call_Name_kw (fQ I hg2 hm2 boot_range (PyProof.Rows.callWith_type1 (dD (ha.run p3 pins s σ H _ I hq) fun us s1 qq0=>?_) (cz h) (jl h2))))) rfl rfl))
 obtain ⟨vs,H1,I1,r1,q1⟩:=qq0
 obtain ⟨i,j,c,n,rfl,hc0,hd,hsm,hn,hl,q⟩:=q1
 cases r1 with
 | cons r rr=>
  cases rr with
  | cons r' rr=>
   cases rr with
   | cons r'' rr=>
    cases rr
    obtain ⟨t,rfl⟩:=r
    obtain ⟨t',rfl⟩:=r'
    obtain ⟨t'',rfl⟩:=r''
    exact call_range_3 hc0 (nJ hc I1 hsm hn hl q) (.inl hd)⟩
end
section
variable {X:Cx}
theorem Oi {K:PySem.W.Frag} (hK:X.K=K) (hu:X.A.units+64 < cLine):OpR X (compareOp .In) (rInD K):=(M5 hK).or (by
 intro pins s σ H x y v u Q I rx ry h
 obtain ⟨a,o,rfl,g,q⟩:=h
 obtain rfl:u=Value.ref a:=ry
 exact d_in (by omega) I g rx fun s3 I3=>⟨.bl o.isSome,H,I3,rfl,q⟩)
theorem jB (hu:X.A.units+64 < cLine):Ha X nH:=by
 intro pins s σ H o i v ov iv u Q I ro ri rv h
 rcases h with h | ⟨a,H4,rfl,g,q⟩
 ·exact set_list pins s σ H o i v ov iv u Q I ro ri rv h
 ·obtain rfl:ov=Value.ref a:=ro
  exact Ah (by omega) I g ri rv fun s4 I4=>⟨H4,I4,q⟩
theorem Iw:Uh X "list.pop" Kz:=by
 intro pins s σ H x vs v us Q I rx rv h
 obtain ⟨l,xs,i,y,rfl,rfl,hH,hy,hi,q⟩:=h
 refine Di pins s σ H _ _ v us Q I rx rv ⟨l,xs,i,i,y,rfl,rfl,hH,by omega,by omega,?_,hy,q⟩
 have hl:=(List.getElem?_eq_some_iff.mp hy).1
 unfold seqIndex?
 simp
 omega
end
section
variable {σ:St} {H:Hp} {Q:VK} {K:PySem.W.Frag}
theorem kJ {n0:List V→Hp→(Int→Int→Nat→Prop)→Prop} {ta:TA} (h:ta σ H fun vs H1=>n0 vs H1 fun lo c n=>∀ q,H1 q=none→Q (.ref q) (upd H1 q (.lst ((List.range n).map fun i:Nat=>V.int (lo+(i:Int)*c))))):rJ n0 ta σ H Q:=h
theorem zp {n:Nat} {R:Int→Int→Nat→Prop} (hn:n≤1000000) (h:R 0 1 n):Rw [.int n] H R:=⟨n,rfl,hn,h⟩
theorem Oj {l:Addr} {xs:List V} {i:Nat} {y:V} (hl:H l=some (.lst xs)) (hy:xs[i]?=some y) (hi:i < 2 ^ 62) (h:Q y (upd H l (.lst (xs.eraseIdx i)))):Kz (.ref l) [.int i] H Q:=⟨l,xs,i,y,rfl,rfl,hl,hy,hi,h⟩
theorem lF {p:Addr} {xs:List V} {i:Int} {n:Nat} {v:V} {R:Hp→Prop} (hp:H p=some (.lst xs)) (e:Cd xs.length i=some n) (h:R (upd H p (.lst (xs.set n v)))):nH (.ref p) (.int i) v H R:=.inl (jn hp e h)
end
end L2
namespace L2
open PySem PySem.Spec PyProof.Rows
def Rx (i j:Int):Prop:=0 < j∧j < 1606938044258990275541962092341162602522202993782792835301376
section
variable {X:Cx}
theorem rM:OpR X (binaryOp .FloorDiv) (rI Rx fun i j=>.int (i / j)):=Ug fun i j _ _ _ _ _ hc q=>by
 have h1:(0:Int) < j:=hc.1
 have h2:=hc.2
 refine floordiv_int (by omega) (by rw [Int.fdiv_eq_ediv_of_nonneg i (by omega)];exact q) (.inl (PyProof.noPylong_of_log2 ?_))
 have h3:j.natAbs.log2 < 200:=(Nat.log2_lt (by omega)).mpr (by omega)
 omega
end
end L2
namespace L2
open PySem PySem.Spec PyProof.Rows
open PySem.Sem (wp)
open PySem.AutoSeq1 (wpAny_loadPart')
theorem kO (l:Addr) (items:Array Value) (n:Nat) (dct:Option Addr) (sl:Array (Option Value)):
  Meets (Builtin.«enumerate.__new__» ⟨[.type "enumerate",.ref l],[]⟩) (fun _ R s=>s.heap.get? l=some {cls:=.type "tuple",dict:=dct,data:=.seq items n,slots:=sl}∧
   R (.ok (.ret (.ref (s.heap.push {cls:=.type "tuple_iterator",data:=.fields #[.ref l,.int 0 0]}).objs.size)))
    {s with heap:=(s.heap.push {cls:=.type "tuple_iterator",data:=.fields #[.ref l,.int 0 0]}).push {cls:=.type "enumerate",data:=.fields #[.none,.bool false,.ref s.heap.objs.size,rawInt 0,.none,.none]}}):=
 .of_wp fun prog w A R s h=>by
  obtain ⟨hp,g,d,tk,os⟩:=s;obtain ⟨hl,h⟩:=h
  have hsub:=sub_enumerate
  have hL:Heap.IsTuple (Shared.heap ⟨hp,g,d,tk,os⟩) l items:=⟨_,hl,rfl,n,rfl⟩
  wp_walk using wpAny_loadPart' hl
  refine wpAny_stack_any fun st=>wpAny_pure ?_
  split
  ·rename_i c _ _ _ _ _
   cases (c == Value.type "enumerate")
   ·wp_walk using wpAny_loadPart' hl,wpAny_pyIter_tuple hL
    exact ⟨_,rfl,h⟩
   ·wp_walk using wpAny_loadPart' hl,wpAny_pyIter_tuple hL
    exact ⟨_,rfl,h⟩
  ·wp_walk using wpAny_loadPart' hl,wpAny_pyIter_tuple hL
   exact ⟨_,rfl,h⟩
section
variable {prog:Program} {w:World} {A:Around} {E:Value→Shared→Prop} {s:Shared}
theorem kW {l:Addr} {items:Array Value} {Q:Value→Shared→Prop} (hL:s.heap.IsTuple l items)
  (h:∀ h',IsEnum h' (s.heap.objs.size+1) s.heap.objs.size 0 .none→h'.IsTupleIter s.heap.objs.size l 0→h'.objs.size=s.heap.objs.size+2→
   (∀ b o,s.heap.get? b=some o→h'.get? b=some o)→Q (.ref (s.heap.objs.size+1)) {s with heap:=h'}):
  wpAny (model prog w) A (call (.type "enumerate") [.ref l]) Q E s:=by
 obtain ⟨⟨c,dct,dt,sl⟩,hl,hc,n,hd⟩:=hL
 replace hc:c= .type "tuple":=hc
 replace hd:dt= .seq items n:=hd
 subst hc hd
 refine callType_new F.called_enumerate (by decide) (F.typeCall_enumerate_1 _) (F.newCall_enumerate_1 _) (fun obj=>F.args_object_init_2 obj _) F.entry_enumerate_new
  (kO l items n dct sl) ⟨hl,?_⟩
 have hz:(s.heap.push {cls:=.type "tuple_iterator",data:=.fields #[.ref l,.int 0 0]}).objs.size=s.heap.objs.size+1:=Heap.size_push ..
 show _∧_
 rw [hz]
 have he:IsEnum ((s.heap.push {cls:=.type "tuple_iterator",data:=.fields #[.ref l,.int 0 0]}).push
   {cls:=.type "enumerate",data:=.fields #[.none,.bool false,.ref s.heap.objs.size,rawInt 0,.none,.none]}) (s.heap.objs.size+1) s.heap.objs.size 0 .none:=by
  have:=Heap.get?_push_size (s.heap.push {cls:=.type "tuple_iterator",data:=.fields #[.ref l,.int 0 0]})
   (o:={cls:=.type "enumerate",data:=.fields #[.none,.bool false,.ref s.heap.objs.size,rawInt 0,.none,.none]}) rfl
  rw [hz] at this;exact this
 refine ⟨⟨_,he,rfl⟩,h _ he ⟨_,Heap.get?_push_of_some _ (Heap.get?_push_size _ rfl),rfl,rfl⟩ (by rw [Heap.size_push,hz]) fun b o x=>Heap.get?_push_of_some _ (Heap.get?_push_of_some _ x)⟩
theorem nM {it t:Addr} {i:Nat} {items} {x:Value} {Q:Value→Shared→Prop} (hit:s.heap.IsTupleIter it t i)
  (ht:s.heap.IsTuple t items) (hx:items[i]?=some x)
  (hQ:∀ h',h'.IsTupleIter it t (i+1)→Heap.SameBut it s.heap h'→Q x {s with heap:=h'}):
  wpAny (model prog w) A (Builtin.SmallTypes.nextOf (.ref it)) Q E s:=by
 obtain ⟨o,ho,hc,hd⟩:=id hit
 obtain ⟨ol,hol,_,nl,hdl⟩:=ht
 unfold Builtin.SmallTypes.nextOf
 refine wpAny_bind (wpAny_callSpecial?_slot (name:=Str.ofString "__next__") hit.typeIs F.slot_tuple_iterator_next
  (wpAny_call_entry F.slot_tuple_iterator_next hit.typeIs F.entry_tuple_iterator_next ?_ (F.args_tuple_iterator_next_1 _)))
 show wpAny _ _ (field (.ref it) 0 >>=_) _ _ s
 refine wpAny_bind (wpAny_field ho hd (x:=.ref t) rfl ?_)
 show wpAny _ _ (if (Value.ref t == Value.none)=true then _ else _) _ _ s
 rw [if_neg (show ¬ ((Value.ref t == Value.none)=true) from Bool.false_ne_true)]
 show wpAny _ _ (field (.ref it) 1 >>=_) _ _ s
 refine wpAny_bind (wpAny_field ho hd (x:=.int i 0) rfl ?_)
 show wpAny _ _ (seqItems? (.ref t) >>=_) _ _ s
 refine wpAny_bind (wpAny_seqItems hol hdl ?_)
 simp only [Int.toNat_natCast,hx]
 refine wpAny_bind (wpAny_setField ho hd (by simp) (wpAny_pure ⟨x,rfl,wpAny_pure (hQ _ ?_ (Heap.SameBut.update ..))⟩))
 exact ⟨_,Heap.get?_update_self _ ho (Obj.isFreed_of_fields (Obj.data_mapFields hd _)),(Obj.cls_mapFields ..).trans hc,by
  rw [Obj.data_mapFields hd];simp [rawInt]⟩
theorem jd {it t:Addr} {i:Nat} {items} {Q:Value→Shared→Prop} (hh:A.handled=none)
  (hit:s.heap.IsTupleIter it t i) (ht:s.heap.IsTuple t items) (hx:items[i]?=none)
  (hE:∀ h' e,Heap.ExtBut it s.heap h'→(∃ o,h'.get? e=some o∧o.cls= .type "StopIteration")→E (.ref e) {s with heap:=h'}):
  wpAny (model prog w) A (Builtin.SmallTypes.nextOf (.ref it)) Q E s:=by
 obtain ⟨o,ho,hc,hd⟩:=id hit
 obtain ⟨ol,hol,_,nl,hdl⟩:=ht
 unfold Builtin.SmallTypes.nextOf
 refine wpAny_bind (wpAny_callSpecial?_slot (name:=Str.ofString "__next__") hit.typeIs F.slot_tuple_iterator_next
  (wpAny_call_entry F.slot_tuple_iterator_next hit.typeIs F.entry_tuple_iterator_next ?_ (F.args_tuple_iterator_next_1 _)))
 show wpAny _ _ (field (.ref it) 0 >>=_) _ _ s
 refine wpAny_bind (wpAny_field ho hd (x:=.ref t) rfl ?_)
 show wpAny _ _ (if (Value.ref t == Value.none)=true then _ else _) _ _ s
 rw [if_neg (show ¬ ((Value.ref t == Value.none)=true) from Bool.false_ne_true)]
 show wpAny _ _ (field (.ref it) 1 >>=_) _ _ s
 refine wpAny_bind (wpAny_field ho hd (x:=.int i 0) rfl ?_)
 show wpAny _ _ (seqItems? (.ref t) >>=_) _ _ s
 refine wpAny_bind (wpAny_seqItems hol hdl ?_)
 simp only [Int.toNat_natCast,hx]
 refine wpAny_bind (wpAny_rule (wpAny_bind (wpAny_setField ho hd (by simp) ?_)))
 show wpAny _ _ (newExc (.type "StopIteration") [] >>=_) _ _ _
 refine wpAny_bind ?_
 simp only [newExc,newTuple]
 refine wpAny_bind (wpAny_newObj_type ?_ (by size_fits))
 refine wpAny_bind (m:=firstArgMember _ _) (wpAny_of_eq (a:=Value.none) (by first | rfl | (simp only [firstArgMember];rfl)) ?_)
 refine wpAny_newObj_type ?_ (by size_fits)
 simp only [raiseNew]
 refine wpAny_bind (wpAny_handled ?_)
 first | rw [show A.in1.handled=none from hh] | rw [hh]
 refine wpAny_bind (wpAny_pure (wpAny_throw ?_))
 exact hE _ _ (((Heap.SameBut.update ..).extBut.push _).push _) ⟨_,Heap.get?_push_size _ rfl,rfl⟩
end
theorem wB {prog:Program} {w:World} {A:Around} (hh:A.handled=none) (it l:Addr) (hne:l≠it) (items:Array Value):
  Draws prog w A it [it,l] items.size (fun i v=>items[i]?=some v) (fun i h=>h.IsTupleIter it l i∧h.IsTuple l items) where
 live:=fun _ _ st=>let ⟨o,ho,_⟩:=st.1;⟨o,ho⟩
 frame:=fun _ _ _ st hk=>by
  obtain ⟨⟨o,ho,r⟩,⟨o2,ho2,r2⟩⟩:=st
  exact ⟨⟨o,hk it (by simp) o ho,r⟩,⟨o2,hk l (by simp) o2 ho2,r2⟩⟩
 item:=fun i s Q E hi st hQ=>by
  refine nM st.1 st.2 (x:=items[i]) (by simp [hi]) fun h' hit' hs'=>?_
  exact hQ _ h' s.toks (by simp [hi]) ⟨hit',st.2.extBut hs'.extBut hne⟩ hs'
 done:=fun s Q E st hE=>jd hh st.1 st.2 (by simp) hE
def Ol (K:PySem.W.Frag) (a:Addr):It:=
 ⟨fun i H=>∃ xs x,SqT K H a xs∧xs[i]?=some x,
  fun i H v H'=>∃ T x,H T=none∧v= .ref T∧(∀ xs,SqT K H a xs→xs[i]?=some x)∧H'=upd H T (.tup [.int i,x]),
  fun i H=>∃ xs,SqT K H a xs∧xs.length≤i⟩
end L2
namespace L2
open PySem PySem.Spec PyProof.Rows
theorem yc {P:Program} {w:World} {K:PySem.W.Frag} {elts:List Expr} {k:Nat} {pos:Pos} {e it a:Addr} (hne:e≠it) (hea:e≠a) (hai:a≠it):
  Turn P w K (.Tuple elts k pos) (Ol K a) [e,it] e (fun i h=>(∃ old,IsEnum h e it i old)∧h.IsTupleIter it a i) where
 mem:=by simp
 obj:=fun i h st c hc=>by
  obtain ⟨⟨old,he⟩,⟨o1,e1,c1,d1⟩⟩:=st
  simp only [List.mem_cons,List.mem_nil_iff,or_false] at hc
  rcases hc with rfl | rfl
  ·exact ⟨_,he,fun v z=>by cases z⟩
  ·exact ⟨_,e1,fun v z=>by rw [d1] at z;cases z⟩
 keep:=fun i h h' st kk=>by
  obtain ⟨⟨old,he⟩,⟨o1,e1,r1⟩⟩:=st
  exact ⟨⟨old,kk e (by simp) _ he⟩,⟨o1,kk it (by simp) _ e1,r1⟩⟩
 item:=by
  intro X hP hw hK hc i pins s σ H E I hf st hg
  subst hP hw hK
  obtain ⟨⟨old,he⟩,h1⟩:=st
  obtain ⟨xs,x,hq,hx⟩:=hg
  obtain ⟨its,rv,p,_⟩:=I.tuple hq
  obtain ⟨u,hu,ru⟩:=rv.get hx
  have p':s.heap.IsTuple a its.toArray:=p
  refine wpAny_pyNext_enum_itemD (wB (A:=X.A.in1) (I.ok.hd hc) it a hai its.toArray) he ⟨h1,p'⟩ (by have:=(List.getElem?_eq_some_iff.mp hu).1;simpa using this) hne (by simp [hne,hea]) fun x' h' tk hx' a1 a2 a3 a4 hk=>?_
  have ex:x'=u:=by
   have h2:its[i]?=some x':=by simpa using hx'
   rw [hu] at h2
   exact (Option.some.inj h2).symm
  subst ex
  refine ⟨_,rfl,wpAny_letOwnedTupleGo_enum a1 fun h'' a1' sb=>?_⟩
  have lt:∀ {c o},s.heap.get? c=some o→s.heap.objs.size≠c:=fun e=>Nat.ne_of_gt (Heap.lt_size e)
  have lti:s.heap.objs.size≠it:=by obtain ⟨o,q,_⟩:=h1;exact lt q
  have isT:h''.IsTuple s.heap.objs.size #[.int i tk,x']:=⟨_,sb.extBut _ _ (lt he) a3,rfl,_,rfl⟩
  have kall:∀ b o,b ∉ [e,it]→s.heap.get? b=some o→h''.get? b=some o:=fun b o hb q=>by
   simp only [List.mem_cons,List.mem_nil_iff,or_false,not_or] at hb
   exact sb.extBut _ _ hb.1 (hk b o hb.1 hb.2 q)
  have hTn:H s.heap.objs.size=none:=I.hok.fresh (Nat.le_refl _)
  refine ⟨.ref s.heap.objs.size,_,I.newtup (tk:=tk+1) hf (Nat.le_refl _) kall isT (xs:=[.int i,x]) (.cons ⟨_,rfl⟩ (.cons ru .nil)) (by simp;decide),rfl,⟨_,x,hTn,rfl,fun zs hs=>by rw [I.tuple_inj hs hq];exact hx,rfl⟩,?_,fun b hb=>?_⟩
  ·exact ⟨⟨_,a1'⟩,a2.1.extBut sb.extBut (Ne.symm hne)⟩
  ·have:s.heap.objs.size≠b:=by
    simp only [List.mem_cons,List.mem_nil_iff,or_false] at hb
    rcases hb with rfl | rfl
    ·exact lt he
    ·exact lti
   rw [aB (Ne.symm this)]
   exact (hf b hb).1
 done:=by
  intro X hP hw hK hc i pins s σ H E I hf st hg
  subst hP hw hK
  obtain ⟨⟨old,he⟩,h1⟩:=st
  obtain ⟨xs,hq,hx⟩:=hg
  obtain ⟨its,rv,p,_⟩:=I.tuple hq
  have l1:=rv.length
  have p':s.heap.IsTuple a its.toArray:=p
  have pn:(its.toArray)[i]?=none:=by simp;omega
  have ht:s.TypeIs (.ref e) "enumerate":=⟨_,he,rfl⟩
  unfold pyNext
  refine wpAny_bind (wpAny_attempt (wpAny_callSpecial?_slot (name:=Str.ofString "__next__") ht F.slot_enumerate_next
   (wpAny_call_entry F.slot_enumerate_next ht F.entry_enumerate_next ?_ (F.args_enumerate_next_1 _))))
  show wpAny _ _ (field (.ref e) 2 >>=_) _ _ _
  refine wpAny_bind (wpAny_field he rfl (x:=.ref it) rfl ?_)
  refine wpAny_bind (jd (A:=X.A.in1) (I.ok.hd hc) h1 p' pn fun h' x he' hx'=>?_)
  obtain ⟨o,ho,hc'⟩:=hx'
  refine wpAny_bind (wpAny_isInstance (T:="StopIteration") (b:=true) ⟨o,ho,hc'⟩ isSubtype_stop ?_)
  refine wpAny_pure ⟨rfl,I.only (tk:=s.toks) hf fun b o hb q=>?_⟩
  simp only [List.mem_cons,List.mem_nil_iff,or_false,not_or] at hb
  exact he' b o hb.2 q
 self:=fun _ _ _ _ _ st h=>let ⟨⟨_,he⟩,_⟩:=st;wpAny_pyIter_enum he h
def Fe (K:PySem.W.Frag) (ta:TA):TI:=fun σ H R=>ta σ H fun vs H1=>(∃ x:Str,vs=[.str x]∧R (Uj (vY x) x.cps.size) H1)∨(∃ a xs,vs=[.ref a]∧SqL K H1 a xs∧R (Nr K a) H1)∨∃ a xs,vs=[.ref a]∧SqT K H1 a xs∧R (Ol K a) H1
theorem wC {X:Cx} {K:PySem.W.Frag} {a:Expr} {ta:TA} {elts:List Expr} {k:Nat} {tp p pos:Pos} (hK:X.K=K) (hc:X.calm=true) (hg:Gl X "enumerate") (hm:X.mg "enumerate"=none) (ha:JA X [a] ta) (h:autoParam (notStar a=true) L2.auto4._auto_1):
  JI X (.Tuple elts k tp) (.Call (.Name "enumerate" p) [a] [] pos) (Fe K ta):=⟨by
 subst hK
 intro pins s σ H R I hq
 refine Call_ (fQ I hg hm uM (PyProof.Rows.callWith_type1 (dD (ha.run pos pins s σ H _ I hq) fun us s1 qq0=>?_) (cz h) rfl))
 obtain ⟨vs,H1,I1,r1,q1⟩:=qq0
 rcases q1 with ⟨x,e,q⟩ | ⟨l,xs,e,hl,q⟩ | ⟨l,xs,e,hl,q⟩
 ·subst e
  obtain ⟨u,rfl,t,rfl⟩:=vals1 r1
  exact Ak hc I1 q
 ·subst e
  obtain ⟨u,rfl,ru⟩:=vals1 r1
  cases ru
  obtain ⟨its,rv,p1,_⟩:=I1.list hl
  refine call_enumerate_list p1.isList fun h' z1 z2 z3 hk=>?_
  have J1:Inv X pins σ H1 {s1 with heap:=h'}:=I1.kept (t':=s1.toks) hk
  refine wpAny_pyIter_enum z1 ?_
  refine ⟨s1.heap.objs.size+1,_,_,_,H1,rfl,J1,xR (Nat.succ_ne_self _),⟨⟨_,z1⟩,z2⟩,fun b hb=>?_,q⟩
  have hb':s1.heap.objs.size≤b:=by
   simp only [List.mem_cons,List.mem_nil_iff,or_false] at hb
   have key:∀ n c:Nat,(c=n+1∨c=n)→n≤c:=fun n c h=>by omega
   exact key _ _ hb
  exact I1.fpOk hb' (I1.hok.fresh hb')
 ·subst e
  obtain ⟨u,rfl,ru⟩:=vals1 r1
  cases ru
  obtain ⟨its,rv,p1,_⟩:=I1.tuple hl
  have p':s1.heap.IsTuple l its.toArray:=p1
  have lt1:l < s1.heap.objs.size:=by obtain ⟨o,ho,_⟩:=p';exact Heap.lt_size ho
  refine kW p' fun h' z1 z2 z3 hk=>?_
  have J1:Inv X pins σ H1 {s1 with heap:=h'}:=I1.kept (t':=s1.toks) hk
  refine wpAny_pyIter_enum z1 ?_
  have key2:∀ n l:Nat,l < n→n+1≠l∧l≠n:=fun n l h=>⟨by omega,by omega⟩
  refine ⟨s1.heap.objs.size+1,_,_,_,H1,rfl,J1,yc (Nat.succ_ne_self _) (key2 _ _ lt1).1 (key2 _ _ lt1).2,⟨⟨_,z1⟩,z2⟩,fun b hb=>?_,q⟩
  have hb':s1.heap.objs.size≤b:=by
   simp only [List.mem_cons,List.mem_nil_iff,or_false] at hb
   have key:∀ n c:Nat,(c=n+1∨c=n)→n≤c:=fun n c h=>by omega
   exact key _ _ hb
  exact I1.fpOk hb' (I1.hok.fresh hb')⟩
section
variable {K:PySem.W.Frag} {σ:St} {H:Hp}
theorem lG {a:TA} {R:It→Hp→Prop} (h:a σ H fun vs H1=>(∃ x:Str,vs=[.str x]∧R (Uj (vY x) x.cps.size) H1)∨(∃ a xs,vs=[.ref a]∧SqL K H1 a xs∧R (Nr K a) H1)∨∃ a xs,vs=[.ref a]∧SqT K H1 a xs∧R (Ol K a) H1):Fe K a σ H R:=h
end
section
variable {X:Cx} {e:Expr} {te:TE} {lo hi:Option Expr} {st:Expr} {tl th ts:TO} {pos p2:Pos}
end
end L2
namespace L2
open PySem PySem.Spec PyProof.Rows
end L2
namespace L2
open PySem PySem.Spec PyProof.Rows
open PySem.Sem (wp)
open PySem.AutoSeq1 (wpAny_loadPart')
section
variable {prog:Program} {w:World} {A:Around} {E:Value→Shared→Prop} {s:Shared}
end
end L2
namespace L2
open PySem PySem.Spec PyProof.Rows
section
variable {prog:Program} {w:World} {A:Around} {E:Value→Shared→Prop} {s:Shared}
end
end L2
namespace L2
open PySem PySem.Spec PyProof.Rows
section
variable {K:PySem.W.Frag} {σ:St} {H:Hp}
end
end L2
namespace L2
open PySem PySem.Spec PyProof.Rows
structure Sml (d:PyData):Prop where
 sh:d.showable=true
 dp:d.depth≤58
 lv:d.leavesShort 60=true
 bk:d.bulk≤10000
end L2
namespace L2
open PySem PySem.Spec PyProof.Rows
open PySem.Sem (wp)
section
variable {X:Cx} {pos:Pos} {σ:St} {H:Hp} {Q:VK} {K:PySem.W.Frag}
end
end L2
namespace L2
open PySem PySem.Spec PyProof.Rows
end L2
namespace L2
open PySem PySem.Spec PyProof.Rows
structure KC (k:Nat) (A:Around):Prop where
 dp:A.depth+3*k+5 < recursionLimit
 un:A.units+16*k+200 < cLine
 gd:A.guards=some []
structure FnU (P:Program) (w:World) (K:PySem.W.Frag) (mg:Str→Option Value) (base:Heap) (k:Nat) (f:Addr) (fd:FuncData) (ps:List Str) (sp:Sp):Prop where
 len:∀ vs H Q E,sp vs H Q E→vs.length=ps.length
 run:∀ (A:Around) (outer:List Env) (s:Shared) (H:Hp) (args:Args) (us:List Value) (vs:List V) (Q:VK) (E:XK),KC k A→Env0 P w K mg base A outer s H→BindsTo s fd args (ps.zip us)→Vals vs us→sp vs H Q E→
  codeAny (model P w) A (.call (.ref f) args) (CR xG outer P w H s Q E) s
end L2
namespace L2
open PySem PySem.Spec PyProof.Rows
section
variable {prog:Program} {w:World} {A:Around} {E:Value→Shared→Prop} {s:Shared} {K:PySem.W.Frag} {x C:Addr} {ox:Obj} {od:Option Obj}
end
section
variable {prog:Program} {w:World} {A:Around} {K:PySem.W.Frag} {D:Addr} {E:Value→Shared→Prop}
end
structure X0 (K:PySem.W.Frag) (mg:Str→Option Value) (x:Str):Prop where
 c:Ax K mg x
 ini:PySem.W.findIn K (.ref (dB mg x)) "__init__"=some (some (.builtin "ValueError.__init__"))
 kp:PySem.W.keepIn K (.ref (dB mg x))=true
section
variable {X:Cx} {x:Str} {p pos:Pos} {e:Expr} {es:List Expr} {t:TA}
end
end L2
namespace L2
open PySem PySem.Spec PyProof.Rows
open PySem.Sem (wp)
structure Om (z TI TO i1 i2:Addr) (fp1 fp2:List Addr):Prop where
 TIz:TI≠z
 TOz:TO≠z
 i1z:i1≠z
 i2z:i2≠z
 TITO:TI≠TO
 TIi1:TI≠i1
 TIi2:TI≠i2
 TOi1:TO≠i1
 TOi2:TO≠i2
 i12:i1≠i2
 f1:∀ b∈fp1,b≠z∧b≠TO∧b≠i2
 f2:∀ b∈fp2,b≠z∧b≠TO∧b≠i1
section
variable {prog:Program} {w:World} {A:Around} {E:Value→Shared→Prop} {s:Shared} {z TI TO i1 i2:Addr} {fp1 fp2:List Addr} {n1 n2 k1 k2:Nat} {P1 P2:Nat→Value→Prop} {St1 St2:Nat→Heap→Prop} {a b:Value}
end
end L2
namespace L2
open PySem PySem.Spec PyProof.Rows
open PySem.Sem (wp)
section
variable {σ:St} {H:Hp} {K:PySem.W.Frag}
end
end L2
namespace L2
open PySem PySem.Spec PyProof.Rows
open PySem.Sem (wp)
open AutoSeq1 (wpAny_loadPart')
theorem Oo:isSubtype (.type "dict") (.type "list")=pure false:=by rw [isSubtype_type];kernel_rfl
theorem Ff:isSubtype (.type "list") (.type "dict")=pure false:=by rw [isSubtype_type];kernel_rfl
theorem yd {prog:Program} {w:World} {A:Around} {E:Value→Shared→Prop} {s:Shared} {Q:Value→Shared→Prop} {a:Addr} {o:Obj} {ep:Nat} (ho:s.heap.get? a=some o) (hc:o.cls= .type "dict") (hd:o.data= .dict #[] ep)
  (hsm:(a == sysModules)=false) (hu:A.units < cLine) (h:Q (.bool true) s):wpAny (model prog w) A (compareOp .Eq (.ref a) (.ref a)) Q E s:=by
 show wpAny _ _ (richCompare .Eq (.ref a) (.ref a)) _ _ _
 refine wpAny_richCompare_same_room ⟨o,ho,hc⟩ ⟨o,ho,hc⟩ F.slot_dict_eq (wpAny_call (codeAny_call_builtin F.slot_dict_eq.plain F.entry_dict_eq (F.slot_dict_eq.check _ _ _ _ _ _ _ _ ⟨o,ho,hc⟩ (F.args_dict_eq_2 _ _) ?_))) hu
 have f2:=uT
 obtain ⟨hp,g,d,tk,os⟩:=s
 have hT:(⟨hp,g,d,tk,os⟩:Shared).TypeIs (.ref a) "dict":=⟨_,ho,hc⟩
 unfold Builtin.«dict.__eq__»
 wp_walk using wpAny_loadPart' ho
 have en:∀ (Q:Array DictEntry→Shared→Prop) (E:Value→Shared→Prop),Q #[] ⟨hp,g,d,tk,os⟩→wpAny (model prog w) A.in1 (dictEntries a) Q E ⟨hp,g,d,tk,os⟩:=fun Q E q=>by
  unfold dictEntries
  refine wpAny_bind (wpAny_loadPart ho ?_)
  simp only [hd]
  exact wpAny_pure q
 have eo:∀ (Q:Nat→Shared→Prop) (E:Value→Shared→Prop),Q ep ⟨hp,g,d,tk,os⟩→wpAny (model prog w) A.in1 (dictEpoch a) Q E ⟨hp,g,d,tk,os⟩:=fun Q E q=>by
  unfold dictEpoch
  refine wpAny_bind (wpAny_loadPart ho ?_)
  simp only [hd]
  exact wpAny_pure q
 simp only [hd]
 refine wpAny_pure ?_
 refine wpAny_bind (en _ _ ?_)
 rw [if_neg (by simp)]
 refine wpAny_bind (eo _ _ ?_)
 refine wpAny_bind ?_
 rw [Std.Legacy.Range.forIn_eq_forIn_range']
 simp only [Std.Legacy.Range.size,Nat.sub_zero,Nat.add_sub_cancel,Nat.div_one]
 show wpAny _ _ (forIn [] _ _) _ _ _
 rw [List.forIn_nil]
 refine wpAny_pure (wpAny_pure ?_)
 exact wpAny_pure ⟨(fun z=>nomatch z),h⟩
theorem jH (l b:Addr) (items:Array DictEntry) (ep:Nat) (items2:Array Value) (n2:Nat) (dd dd2:Option Addr) (sl sl2:Array (Option Value)):
  Meets (Builtin.«dict.__eq__» ⟨[.ref l,.ref b],[]⟩) (fun _ R s=>s.heap.get? l=some {cls:=.type "dict",dict:=dd,data:=.dict items ep,slots:=sl}∧s.heap.get? b=some {cls:=.type "list",dict:=dd2,data:=.seq items2 n2,slots:=sl2}∧R (.ok (.ret .notImplemented)) s):=
 .of_wp fun prog w A R s h=>by obtain ⟨hp,g,d,tk,os⟩:=s;obtain ⟨hl,hb,h⟩:=h;have f1:=Ff;wp_walk using wpAny_loadPart' hl,wpAny_loadPart' hb;exact ⟨_,rfl,h⟩
theorem jJ (l b:Addr) (items:Array DictEntry) (ep:Nat) (items2:Array Value) (n2:Nat) (dd dd2:Option Addr) (sl sl2:Array (Option Value)):
  Meets (Builtin.«list.__eq__» ⟨[.ref b,.ref l],[]⟩) (fun _ R s=>s.heap.get? b=some {cls:=.type "list",dict:=dd2,data:=.seq items2 n2,slots:=sl2}∧s.heap.get? l=some {cls:=.type "dict",dict:=dd,data:=.dict items ep,slots:=sl}∧R (.ok (.ret .notImplemented)) s):=
 .of_wp fun prog w A R s h=>by obtain ⟨hp,g,d,tk,os⟩:=s;obtain ⟨hb,hl,h⟩:=h;have f1:=Oo;wp_walk using wpAny_loadPart' hb,wpAny_loadPart' hl;exact ⟨_,rfl,h⟩
theorem dict_list {prog:Program} {w:World} {A:Around} {E:Value→Shared→Prop} {s:Shared} {Q:Value→Shared→Prop} {a b:Addr} {o:Obj} {items:Array DictEntry} {ep:Nat} {ys:Array Value} (ho:s.heap.get? a=some o) (hc:o.cls= .type "dict") (hd:o.data= .dict items ep)
  (hl:s.heap.IsList b ys) (hu:A.units < cLine) (h:Q (.bool false) s):wpAny (model prog w) A (compareOp .Eq (.ref a) (.ref b)) Q E s:=by
 show wpAny _ _ (richCompare .Eq (.ref a) (.ref b)) _ _ _
 obtain ⟨cls,dd,data,sl⟩:=o
 obtain ⟨⟨cls2,dd2,data2,sl2⟩,ho2,hc2,n2,hd2⟩:=id hl
 simp only at hc hd hc2 hd2
 subst hc hd hc2 hd2
 have hne:a≠b:=fun z=>by subst z;rw [ho] at ho2;exact absurd (congrArg Obj.cls (Option.some.inj ho2)) (by simp)
 exact (SeqAt.rc_eq_decline_or (k:=false) ⟨_,ho,rfl⟩ ⟨_,ho2,rfl⟩ (by decide) Ff F.slot_dict_eq F.slot_list_eq_refl
  (fun _ hq=>PySem.call_meets F.slot_dict_eq ⟨_,ho,rfl⟩ F.entry_dict_eq (F.args_dict_eq_2 _ _) (jH a b items ep ys n2 dd dd2 sl sl2) ⟨ho,ho2,hq⟩)
  (fun _ hq=>PySem.call_meets F.slot_list_eq_refl ⟨_,ho2,rfl⟩ F.entry_list_eq (F.args_list_eq_2 _ _) (jJ a b items ep ys n2 dd dd2 sl sl2) ⟨ho2,ho,hq⟩)
  (fun _ hq=>SeqAt.wpAny_isSame_ref_other' hne ho ho2 (by simp) hq) (.inr hu) h)
section
variable {X:Cx}
def KD (K:PySem.W.Frag):R2:=fun x y H Q=>(∃ a,x= .ref a∧y= .ref a∧H a=some (.dK [])∧Q (.bl true) H)∨∃ a b ys,x= .ref a∧y= .ref b∧H a=some (.dK [])∧SqL K H b ys∧Q (.bl false) H
theorem Iz (hu:X.A.units < cLine):OpR X (compareOp .Eq) (KD X.K):=by
 intro pins s σ H x y v u Q I rx ry h
 rcases h with ⟨a,rfl,rfl,ha,q⟩ | ⟨a,b,ys,rfl,rfl,ha,hb,q⟩
 ·cases rx
  cases ry
  obtain ⟨_,hsm,vs,kv,o,es,ep,h1,h2,h3,h4,h5,h6⟩:=(show ObjOk X.prog X.w H s.heap a (.dK []) from I.hok a _ ha)
  cases kv
  obtain ⟨l⟩:=es
  dsimp only at h5
  cases h5
  exact yd h1 h2.1 h3 hsm hu ⟨.bl true,H,I,rfl,q⟩
 ·cases rx
  cases ry
  obtain ⟨_,hsm,vs,kv,o,es,ep,h1,h2,h3,h4,h5,h6⟩:=(show ObjOk X.prog X.w H s.heap a (.dK []) from I.hok a _ ha)
  obtain ⟨its,rv,p1,_⟩:=I.list hb
  exact dict_list h1 h2.1 h3 p1.isList hu ⟨.bl false,H,I,rfl,q⟩
end
section
variable {H:Hp} {Q:VK} {K:PySem.W.Frag}
end
end L2
namespace L2
open PySem PySem.W PySem.Spec PyProof.Rows
section
variable {g:Nat→Int} {N:Nat}
end
end L2
namespace L2
open PySem PySem.W PySem.Spec PyProof.Rows
section
variable {prog:Program} {w:World} {A:Around} {E:Value→Shared→Prop} {s:Shared}
def Ry (a:Addr) (h h':Heap):Prop:=∀ b o,b≠a→h.get? b=some o→h'.get? b=some o
theorem Bj {h:Heap} {a:Addr} {f:Obj→Obj} {x y:Obj}:Ry a h (((h.update a f).push x).push y):=fun b o nb e=>by
 have e1:(h.update a f).get? b=some o:=by rw [Heap.get?_update_ne _ _ _ _ nb];exact e
 exact Heap.get?_push_of_some _ (Heap.get?_push_of_some _ e1)
theorem zq (vs:List Value):(vs.toArray.zip vs.toArray).map (·.2)=vs.toArray:=by
 apply Array.toList_inj.mp
 simp only [Array.toList_map,Array.toList_zip]
 exact List.map_snd_zip (Nat.le_refl _)
end
end L2
namespace L2
open PySem PySem.W PySem.Spec PyProof.Rows
theorem Fg:∀ a:List Int,HT.lexLt a a=false
 | []=>rfl
 | x :: xs=>by rw [HT.lexLt_cons,if_pos rfl];exact Fg xs
theorem nO:∀ {a b c:List Int},HT.lexLt a b=true→HT.lexLt b c=true→HT.lexLt a c=true
 | [],[],_,h,_=>by cases h
 | [],_ :: _,[],_,h=>by cases h
 | [],_ :: _,_ :: _,_,_=>rfl
 | _ :: _,[],_,h,_=>by cases h
 | _ :: _,_ :: _,[],_,h=>by cases h
 | x :: xs,y :: ys,z :: zs,h1,h2=>by
  rw [HT.lexLt_cons] at h1 h2 ⊢
  by_cases e1:x=y
  ·rw [if_pos e1] at h1
   by_cases e2:y=z
   ·rw [if_pos e2] at h2
    rw [if_pos (by omega)];exact nO h1 h2
   ·rw [if_neg e2] at h2
    rw [if_neg (by omega),e1];exact h2
  ·rw [if_neg e1] at h1
   have h1':=of_decide_eq_true h1
   by_cases e2:y=z
   ·rw [if_neg (by omega)];exact decide_eq_true (by omega)
   ·rw [if_neg e2] at h2
    have h2':=of_decide_eq_true h2
    rw [if_neg (by omega)];exact decide_eq_true (by omega)
theorem wD:∀ {a b:List Int},HT.lexLt a b=false→HT.lexLt b a=false→a=b
 | [],[],_,_=>rfl
 | [],_ :: _,h,_=>by cases h
 | _ :: _,[],_,h=>by cases h
 | x :: xs,y :: ys,h1,h2=>by
  rw [HT.lexLt_cons] at h1 h2
  by_cases e:x=y
  ·rw [if_pos e] at h1
   rw [if_pos e.symm] at h2
   rw [e,wD h1 h2]
  ·rw [if_neg e] at h1
   rw [if_neg (fun z=>e z.symm)] at h2
   have h1':=of_decide_eq_false h1
   have h2':=of_decide_eq_false h2
   omega
section
variable {prog:Program} {w:World} {A:Around} {E:Value→Shared→Prop} {s:Shared}
theorem Oq {b fin:Bool} {Q:Bool→Shared→Prop}:∀ (n:Nat) {vs us:List Value} {ns ms:List Int},IntsAre vs ns→IntsAre us ms→fin=decide (ns.length < ms.length)→Q (HT.lexLt ns ms) s→KatLex prog w A b fin Q (vs.zip us) n s:=by
 intro n vs us ns ms h1
 induction h1 generalizing n us ms with
 | nil=>
  intro h2 hf q
  cases h2 with
  | nil=>rw [hf];exact q
  | cons y t h2=>rw [hf];exact q
 | cons x t h1 ih=>
  intro h2 hf q
  cases h2 with
  | nil=>rw [hf];exact q
  | cons y u h2=>
   rw [List.zip_cons_cons]
   refine kat_cons (wpAny_eqBool_int ?_)
   rw [HT.lexLt_cons] at q
   by_cases e:x=y
   ·rw [if_pos e] at q
    rw [show (x == y)=true by rw [e];exact beq_self_eq_true y]
    refine kat_yes (ih (n+1) h2 ?_ q)
    rw [hf]
    simp
   ·rw [if_neg e] at q
    rw [show (x == y)=false by simpa using e]
    refine kat_no ?_
    cases hb:(b && n == 0) with
    | true=>exact oneLt_int q
    | false=>exact kat_one _ _ (lt_int q)
theorem Rz {Q:Bool→Shared→Prop} {x y:Addr} {vs us:List Value} {ns ms:List Int} (hx:IsTup s.heap x vs.toArray) (hy:IsTup s.heap y us.toArray) (h1:IntsAre vs ns) (h2:IntsAre us ms) (q:Q (HT.lexLt ns ms) s):
  wpAny (model prog w) A (keyLt' (tuples' true) (.ref x) (.ref y)) Q E s:=by
 obtain ⟨ox,gx,_,n1,dx⟩:=hx
 obtain ⟨oy,gy,_,n2,dy⟩:=hy
 refine kat_lt gx dx gy dy (Oq 0 h1 h2 ?_ q)
 have l1:=h1.length
 have l2:=h2.length
 simp [l1,l2]
theorem Bk {vs:List Value} {ts:List (List Int)} {Q:SortKind→Shared→Prop} (h2:2≤vs.length) (h:∀ i,i < vs.length→∃ a its,vs[i]?=some (.ref a)∧IsTup s.heap a its.toArray∧IntsAre its (ts.getD i [])∧ts.getD i []≠[]) (q:Q (tuples' true) s):
  wpAny (model prog w) A (keyKind' vs.toArray) Q E s:=by
 have key:∀ (l:List Value),(∀ v∈l,∃ a its ns,v= .ref a∧IsTup s.heap a its.toArray∧IntsAre its ns∧ns≠[])→∃ fs:List Value,fs.length=l.length∧KatTups s.heap l fs∧∀ v∈fs,∃ n t,v=Value.int n t:=by
  intro l
  induction l with
  | nil=>exact fun _=>⟨[],rfl,KatTups.nil,fun v hv=>by cases hv⟩
  | cons v l ih=>
   intro hl
   obtain ⟨fs,lf,kf,inf⟩:=ih fun u hu=>hl u (List.mem_cons_of_mem _ hu)
   obtain ⟨a,its,ns,rfl,⟨o,go,co,n,dn⟩,hI,hne⟩:=hl v List.mem_cons_self
   cases hI with
   | nil=>exact absurd rfl hne
   | cons x t hI=>
    refine ⟨.int x t :: fs,by simp [lf],KatTups.cons go co dn (by simp) kf,fun v hv=>?_⟩
    rcases List.mem_cons.mp hv with rfl | hv
    ·exact ⟨x,t,rfl⟩
    ·exact inf v hv
 obtain ⟨fs,lf,kf,inf⟩:=key vs fun v hv=>by
  obtain ⟨i,hi,rfl⟩:=List.mem_iff_getElem.mp hv
  obtain ⟨a,its,e,it,ia,ne⟩:=h i hi
  rw [List.getElem?_eq_getElem hi] at e
  exact ⟨a,its,_,Option.some.inj e,it,ia,ne⟩
 refine kat_kind (T:=.type "int") kf (by omega) (fun v hv=>?_) rfl q
 obtain ⟨n,t,rfl⟩:=inf v hv
 exact Looks.of_pure rfl
end
section
variable {X:Cx}
end
section
variable {H:Hp} {Q:VK}
end
end L2
namespace L2
open PySem PySem.Spec PyProof.Rows
open PySem.Sem (wp)
section
variable {prog:Program} {w:World} {A:Around} {E:Value→Shared→Prop} {s:Shared} {z TI TO i1 i2:Addr} {fp1 fp2:List Addr} {n1 n2 k1 k2:Nat} {P1 P2:Nat→Value→Prop} {St1 St2:Nat→Heap→Prop} {a b f0 f1:Value}
end
end L2
namespace L2
open PySem PySem.Spec PyProof.Rows
open PySem.Sem (wp)
open PySem.AutoSeq1 (wpAny_loadPart')
section
variable {prog:Program} {w:World} {A:Around} {E:Value→Shared→Prop} {s:Shared} {z TI TO i1 i2 e:Addr} {fp1 fp2:List Addr} {n1 n2 k1 k2:Nat} {P1 P2:Nat→Value→Prop} {St1 St2:Nat→Heap→Prop} {a b f0 f1:Value}
end
structure EApart (e z TI TO i1 i2 a b:Addr):Prop where
 Z:Om z TI TO i1 i2 [i1,a] [i2,b]
 ez:e≠z
 eTI:e≠TI
 eTO:e≠TO
 ei1:e≠i1
 ei2:e≠i2
 a1:a≠i1
 b2:b≠i2
end L2
namespace L2
open PySem PySem.Spec PyProof.Rows
open PySem.Sem (wp)
open PySem.AutoSeq1 (wpAny_loadPart')
section
variable {σ:St} {H:Hp} {K:PySem.W.Frag}
end
end L2
namespace L2
open PySem PySem.Spec PyProof.Rows
open PySem.Sem (wp)
section
variable {prog:Program} {w:World} {A:Around} {E:Value→Shared→Prop} {s:Shared}
end
structure TurnU (P:Program) (w:World) (K:PySem.W.Frag) (tg:Expr) (J:It) (fp:List Addr) (it:Addr) (tn:Nat→Heap→Prop) (xh:Addr):Prop where
 mem:it∈fp
 obj:∀ i h,tn i h→∀ b∈fp,∃ o,h.get? b=some o∧∀ v,o.data≠.cell v
 keep:∀ i h h',tn i h→(∀ b∈fp,∀ o,h.get? b=some o→h'.get? b=some o)→tn i h'
 item:∀ (X:Cx),X.prog=P→X.w=w→X.K=K→X.A.handled=some (.ref xh)→∀ (i:Nat) (pins:List (Addr×Obj)) (s:Shared) (σ:St) (H:Hp) (E:Value→Shared→Prop),Inv X pins σ H s→(∀ b∈fp,iw X pins H b)→tn i s.heap→J.go i H→
  wpAny (model P w) X.A (pyNext (.ref it)) (fun r s1=>∃ u,r=some u∧
   wpAny (model P w) X.A (letOwnedTupleGo tg (.ref it) u) (fun _ s2=>∃ x H',Inv X pins σ H' s2∧RelV x u∧J.yld i H x H'∧tn (i+1) s2.heap∧∀ b∈fp,H' b=none) E s1) E s
 done:∀ (X:Cx),X.prog=P→X.w=w→X.K=K→X.A.handled=some (.ref xh)→∀ (i:Nat) (pins:List (Addr×Obj)) (s:Shared) (σ:St) (H:Hp) (E:Value→Shared→Prop),Inv X pins σ H s→(∀ b∈fp,iw X pins H b)→tn i s.heap→J.stop i H→
  wpAny (model P w) X.A (pyNext (.ref it)) (fun r s1=>r=none∧Inv X pins σ H s1) E s
 self:∀ (A:Around) (i:Nat) (s:Shared) (Q:Value→Shared→Prop) (E:Value→Shared→Prop),tn i s.heap→Q (.ref it) s→wpAny (model P w) A (pyIter (.ref it)) Q E s
section
variable {X:Cx} {tg iter elt:Expr} {ifs:List Expr} {scope:Scope} {pos:Pos} {N':List Str} {sub:List (Option Nat)} {wi:TI} {g:TG} {tt:TT} {te:TE}
end
structure FnV (P:Program) (w:World) (K:PySem.W.Frag) (mg:Str→Option Value) (base:Heap) (k:Nat) (f:Addr) (fd:FuncData) (ps:List Str) (sp:Addr→Sp):Prop where
 len:∀ xh vs H Q E,sp xh vs H Q E→vs.length=ps.length
 run:∀ (A:Around) (outer:List Env) (s:Shared) (H:Hp) (args:Args) (us:List Value) (vs:List V) (Q:VK) (E:XK) (xh:Addr),A.handled=some (.ref xh)→KC k A→Env0 P w K mg base A outer s H→BindsTo s fd args (ps.zip us)→Vals vs us→sp xh vs H Q E→
  codeAny (model P w) A (.call (.ref f) args) (CR xG outer P w H s Q E) s
end L2
namespace L2
open PySem PySem.Spec PyProof.Rows
section
variable {X:Cx} {nm n:Str} {P:Addr} {i:Nat} {p pos:Pos} {b0:Stmt} {suite:List Stmt} {ts:Addr→TS} {th:TH} {hs:List ExceptHandler}
variable {K:PySem.W.Frag} {x:Str}
end
end L2
namespace L2
open PySem PySem.Spec PyProof.Rows
def Ql (K:PySem.W.Frag) (a:Addr) (n:Nat):It:=
 ⟨fun i H=>i < n∧∃ xs,SqL K H a xs∧xs.length=n,
  fun i H v H'=>H'=H∧∀ xs,SqL K H a xs→xs[n - 1 - i]?=some v,
  fun i _=>i=n⟩
theorem Fi {P:Program} {w:World} {K:PySem.W.Frag} {tg:Expr} {n:Nat} {it a:Addr} (hai:a≠it):
  Turn P w K tg (Ql K a n) [it] it (fun i h=>i≤n∧h.IsRevIter it a ((n:Int) - 1 - (i:Int))) where
 mem:=by simp
 obj:=fun i h st c hc=>by
  obtain ⟨_,⟨o1,e1,c1,d1⟩⟩:=st
  have e:c=it:=by simpa using hc
  subst e
  exact ⟨_,e1,fun v z=>by rw [d1] at z;cases z⟩
 keep:=fun i h h' st kk=>⟨st.1,st.2.at fun o q=>kk it (by simp) o q⟩
 item:=by
  intro X hP hw hK hc i pins s σ H E I hf st hg
  subst hP hw hK
  obtain ⟨hi,h1⟩:=st
  obtain ⟨hlt,xs,hq,hlen⟩:=hg
  obtain ⟨its,rv,p,_⟩:=I.list hq
  have l1:=rv.length
  obtain ⟨x,hx⟩:∃ x,xs[n - 1 - i]?=some x:=⟨_,List.getElem?_eq_getElem (by omega)⟩
  obtain ⟨u,hu,ru⟩:=rv.get hx
  obtain ⟨f0,f1,f2,f3,f4,f5⟩:=hf it (by simp)
  have e:(n:Int) - 1 - (i:Int)=((n - 1 - i:Nat):Int):=by omega
  rw [e] at h1
  refine wpAny_pyNext_rev_item h1 p.isList (x:=u) (by simpa using hu) fun h' st' sb=>?_
  have I1:Inv X pins σ H {s with heap:=h'}:=I.turned (t':=s.toks) (fun b o hb e=>(sb.2 b hb).trans e) f0 f1 f3 f4 f5
  obtain ⟨o,eo,c,d⟩:=id st'
  refine ⟨u,rfl,qR (s:={s with heap:=h'}) eo c d (by decide) ⟨x,H,I1,ru,⟨rfl,fun ys hy=>by rw [I.list_inj hy hq];exact hx⟩,⟨hlt,?_⟩,fun b hb=>(hf b hb).1⟩⟩
  have e2:((n - 1 - i:Nat):Int) - 1=(n:Int) - 1 - ((i+1:Nat):Int):=by omega
  rw [← e2]
  exact st'
 done:=by
  intro X hP hw hK hc i pins s σ H E I hf st hg
  subst hP hw hK
  obtain ⟨hi,h1⟩:=st
  have hin:i=n:=hg
  subst hin
  rw [show (i:Int) - 1 - (i:Int)= -1 by omega] at h1
  obtain ⟨f0,f1,f2,f3,f4,f5⟩:=hf it (by simp)
  exact wpAny_pyNext_rev_end (I.ok.hd hc) h1 fun h' eb=>⟨rfl,I.turned (t':=s.toks) (fun b o hb e=>eb b o hb e) f0 f1 f3 f4 f5⟩
 self:=fun _ _ _ _ _ st h=>wpAny_pyIter_revIter st.2 h
section
variable {K:PySem.W.Frag} {σ:St} {H:Hp}
end
def KH (K:PySem.W.Frag):R2:=fun x y H Q=>∃ a b xs,x= .ref a∧y= .ref b∧SqT K H a xs∧SqT K H b xs∧(∀ v∈xs,dZ v=true∨∃ r,v= .ref r)∧Q (.bl false) H
section
variable {X:Cx}
theorem IK (hu:X.A.units < cLine):OpR X (compareOp .NotEq) (KH X.K):=by
 intro pins s σ H x y v u Q I rx ry h
 obtain ⟨a,b,xs,rfl,rfl,ha,hb,fx,q⟩:=h
 cases rx
 cases ry
 obtain ⟨its,r1,p1,z1⟩:=I.tuple ha
 obtain ⟨jts,r2,p2,z2⟩:=I.tuple hb
 have l1:its.toArray.size=xs.length:=by simpa using r1.length.symm
 have l2:jts.toArray.size=xs.length:=by simpa using r2.length.symm
 refine SeqAt.RcNeAt.tuples (e:=fun _=>true) p1 p2 hu (fun j h1 h2=>?_) X.prog X.w _ _ ?_
 ·have hj:j < xs.length:=by omega
  obtain ⟨u1,e1,q1⟩:=r1.get (List.getElem?_eq_getElem hj)
  obtain ⟨u2,e2,q2⟩:=r2.get (List.getElem?_eq_getElem hj)
  have f1:its.toArray[j]=u1:=by
   obtain ⟨_,z⟩:=List.getElem?_eq_some_iff.mp e1
   simpa using z
  have f2:jts.toArray[j]=u2:=by
   obtain ⟨_,z⟩:=List.getElem?_eq_some_iff.mp e2
   simpa using z
  rw [f1,f2]
  rcases fx _ (List.getElem_mem hj) with f | ⟨r,f⟩
  ·rw [← rG f]
   exact qY q1 q2 f f
  ·rw [f] at q1 q2
   cases (show u1=Value.ref r from q1)
   cases (show u2=Value.ref r from q2)
   exact SeqAt.EqAt.same _
 ·have e:(!((List.range (min its.toArray.size jts.toArray.size)).all (fun _=>true) && its.toArray.size == jts.toArray.size))=false:=by rw [l1,l2];simp
  rw [e]
  exact ⟨.bl false,H,I,rfl,q⟩
def Ot (K:PySem.W.Frag):R2:=fun x y H Q=>Oe K x y H Q∨KH K x y H Q
theorem il {K:PySem.W.Frag} (hK:X.K=K) (hu:X.A.units+64 < cLine):OpR X (compareOp .NotEq) (Ot K):=by
 subst hK
 exact (Og rfl hu).or (IK (Nat.lt_of_le_of_lt (Nat.le_add_right _ _) hu))
def KJ (K:PySem.W.Frag):R2:=fun x y H Q=>yR x y H Q∨J6 K x y H Q
theorem lH {K:PySem.W.Frag} (hK:X.K=K):OpR X (binaryOp .Add) (KJ K):=by
 subst hK
 exact aP.or Hs
end
section
variable {K:PySem.W.Frag} {H:Hp} {Q:VK}
theorem oO {i j:Int} (h:Q (.bl (!decide (V.int i=V.int j))) H):Ot K (.int i) (.int j) H Q:=.inl (Oh h)
theorem zr {i j:Int} (h:Q (.int (i+j)) H):KJ K (.int i) (.int j) H Q:=.inl (jm h)
end
theorem ye {j:Int} (h0:0≤j) (h1:j < 2 ^ 60):Builtin.Range.small 0 j 4=true:=by
 unfold Builtin.Range.small Builtin.Range.rangeSize
 simp only [Builtin.Range.rangeFitsLong,Bool.and_eq_true,Bool.or_eq_true,decide_eq_true_eq,beq_iff_eq,show (4:Int) > 0 by decide,if_true]
 split <;> omega
theorem Bl {j:Nat}:Builtin.Range.rangeSize 0 j 4=((j+3) / 4:Nat):=by
 unfold Builtin.Range.rangeSize
 simp only [show (4:Int) > 0 by decide,if_true]
 split <;> omega
end L2
namespace L2
open PySem PySem.Spec PyProof.Rows
structure OTxt (K:PySem.W.Frag) (mg:Str→Option Value) (x:Str):Prop where
 at_:mg x=some (.ref (dB mg x))
 cl:Cls K (dB mg x)
 makes:PySem.W.makesIn K (dB mg x)=true
 kp:PySem.W.keepIn K (.ref (dB mg x))=true
structure MTxt (K:PySem.W.Frag) (mg:Str→Option Value) (x m qual:Str) (st:Stmt):Prop where
 ex:∃ f fd,Meth K (dB mg x) m f∧Fun K m qual st f fd
section
variable {P:Program} {w:World} {K:PySem.W.Frag} {mg:Str→Option Value} {base:Heap}
end
section
variable {X:Cx} {K:PySem.W.Frag} {k:Nat} {f C:Addr} {ps:List Str} {sp:Sp} {R:St→XK} {x m fn:Str} {p pos apos pos':Pos} {e o value:Expr} {es:List Expr} {ta tv:TE} {t:TA} {pins:List (Addr×Obj)} {σ:St} {H:Hp} {s:Shared} {Q:VK} {us:List Value} {vs:List V}
end
section
variable {σ:St} {H:Hp} {D:Ends} {Q:VK} {sp:Sp} {R:St→XK} {a:TA} {K:PySem.W.Frag} {C:Addr} {ta tv:TE} {f m:Str}
end
end L2
namespace L2
open PySem PySem.Spec PyProof.Rows
section
variable {X:Cx} {mg:Str→Option Value} {o:Expr} {ta:TE} {t:TA} {x m:Str} {ps:List Str} {sp:Sp} {k:Nat} {R:St→XK} {e:Expr} {es:List Expr} {pos apos:Pos}
end
end L2
namespace L2
open PySem PySem.Spec PyProof.Rows
section
variable {σ:St} {H:Hp} {Q:VK}
def Ou (o:HO) (n:Nat) (H:Hp) (Q:VK):Prop:=n≤sizeLine∧∀ p,H p=none→Q (.ref p) (upd H p o)
theorem oR {a:TA} (h:a σ H fun xs H1=>Ou (.lst xs) xs.length H1 Q):Hn a σ H Q:=h
theorem oU {a:TA} (h:a σ H fun xs H1=>Ou (.tup xs) xs.length H1 Q):Hm a σ H Q:=h
theorem aR {o:HO} {n:Nat} (c:Nat.ble n 64=true) (h:∀ p H',H p=none→Same H H'→H' p=some o→Q (.ref p) H'):Ou o n H Q:=
 ⟨Nat.le_trans (Nat.le_of_ble_eq_true c) (by decide),fun p np=>h p _ np ((Same.refl H).upd np) ak⟩
theorem Ov {x:Bool} {A B:Prop} (h1:x=true→A) (h2:x=false→B):if x=true then A else B:=by
 split
 ·exact h1 ‹_›
 ·exact h2 (by simpa using ‹¬ x=true›)
end
end L2
namespace L2
open PySem PySem.Spec PyProof.Rows
section
variable {X:Cx}
end
end L2
namespace L2
open PySem PySem.Spec PyProof.Rows
section
variable {sub:List (Option Nat)} {g:TG} {tt:TT} {te:TE} {σ:St} {Q:VK} {H:Hp} {K:PySem.W.Frag} {a:Addr} {xs:List V} {lo:Int} {n:Nat} {z:Str}
theorem lJ (Pv:Nat→List V→Hp→Prop) (hn:n≤sizeLine) (h0:Pv 0 [] H) (hl:∀ i ys H,Pv i ys H→ys.length≤i)
  (hs:∀ i ys H,i < n→Pv i ys H→g (.int (lo+i)) (b8 sub σ) H fun σ2 H2=>KeepSt (b8 sub σ) σ2∧tt σ2 H2 fun b H3=>if b=true then te σ2 H3 fun y H4=>Pv (i+1) (ys ++ [y]) H4 else Pv (i+1) ys H3)
  (hd:∀ ys H D H',Pv n ys H→H D=none→Same H H'→H' D=some (.lst ys)→Q (.ref D) H'):jM sub g tt te σ Q (GF lo n) H:=
 DQ Pv hn h0 hl hs fun ys H p D nD=>hd ys H D _ p nD ((Same.refl H).upd nD) ak
theorem cT (Pv:Nat→List V→Hp→Prop) (hn:xs.length≤sizeLine) (h0:Pv 0 [] H) (hl:∀ i ys H,Pv i ys H→ys.length≤i) (hq:∀ i ys H,Pv i ys H→SqL K H a xs)
  (hs:∀ i ys H x,xs[i]?=some x→Pv i ys H→g x (b8 sub σ) H fun σ2 H2=>KeepSt (b8 sub σ) σ2∧tt σ2 H2 fun b H3=>if b=true then te σ2 H3 fun y H4=>Pv (i+1) (ys ++ [y]) H4 else Pv (i+1) ys H3)
  (hd:∀ ys H D H',Pv xs.length ys H→H D=none→Same H H'→H' D=some (.lst ys)→Q (.ref D) H'):jM sub g tt te σ Q (Hd K a) H:=
 ul Pv hn h0 hl hq hs fun ys H p D nD=>hd ys H D _ p nD ((Same.refl H).upd nD) ak
theorem Bm (Pv:Nat→List V→Hp→Prop) (hn:xs.length≤sizeLine) (h0:Pv 0 [] H) (hl:∀ i ys H,Pv i ys H→ys.length≤i) (hq:∀ i ys H,Pv i ys H→SqT K H a xs)
  (hs:∀ i ys H x,xs[i]?=some x→Pv i ys H→g x (b8 sub σ) H fun σ2 H2=>KeepSt (b8 sub σ) σ2∧tt σ2 H2 fun b H3=>if b=true then te σ2 H3 fun y H4=>Pv (i+1) (ys ++ [y]) H4 else Pv (i+1) ys H3)
  (hd:∀ ys H D H',Pv xs.length ys H→H D=none→Same H H'→H' D=some (.lst ys)→Q (.ref D) H'):jM sub g tt te σ Q (JV K a) H:=
 Fd Pv hn h0 hl hq hs fun ys H p D nD=>hd ys H D _ p nD ((Same.refl H).upd nD) ak
theorem lK {f:Nat→V} {i:Nat} {y:V} (h:y=f i):(List.range i).map f ++ [y]=(List.range (i+1)).map f:=by rw [h,List.range_succ,List.map_append];rfl
theorem oV (f:Nat→V) (hn:n≤sizeLine)
  (hs:∀ i,i < n→g (.int (lo+i)) (b8 sub σ) H fun σ2 H2=>KeepSt (b8 sub σ) σ2∧tt σ2 H2 fun b H3=>if b=true then te σ2 H3 fun y H4=>H4=H∧(List.range i).map f ++ [y]=(List.range (i+1)).map f else H3=H∧(List.range i).map f=(List.range (i+1)).map f)
  (hd:∀ D H',H D=none→Same H H'→H' D=some (.lst ((List.range n).map f))→Q (.ref D) H'):jM sub g tt te σ Q (GF lo n) H:=by
 refine lJ (fun i ys H'=>H'=H∧ys=(List.range i).map f) hn ⟨rfl,rfl⟩ ?_ ?_ ?_
 ·rintro i ys H' ⟨_,rfl⟩
  simp
 ·rintro i ys H' hi ⟨rfl,rfl⟩
  exact hs i hi
 ·rintro ys H1 D H' ⟨rfl,rfl⟩ nD s e
  exact hd D H' nD s e
theorem yf (f:Nat→V) (hn:xs.length≤sizeLine) (hq:SqL K H a xs)
  (hs:∀ i x,xs[i]?=some x→g x (b8 sub σ) H fun σ2 H2=>KeepSt (b8 sub σ) σ2∧tt σ2 H2 fun b H3=>if b=true then te σ2 H3 fun y H4=>H4=H∧(List.range i).map f ++ [y]=(List.range (i+1)).map f else H3=H∧(List.range i).map f=(List.range (i+1)).map f)
  (hd:∀ D H',H D=none→Same H H'→H' D=some (.lst ((List.range xs.length).map f))→Q (.ref D) H'):jM sub g tt te σ Q (Hd K a) H:=by
 refine cT (xs:=xs) (fun i ys H'=>H'=H∧ys=(List.range i).map f) hn ⟨rfl,rfl⟩ ?_ ?_ ?_ ?_
 ·rintro i ys H' ⟨_,rfl⟩
  simp
 ·rintro i ys H' ⟨rfl,_⟩
  exact hq
 ·rintro i ys H' x hx ⟨rfl,rfl⟩
  exact hs i x hx
 ·rintro ys H1 D H' ⟨rfl,rfl⟩ nD s e
  exact hd D H' nD s e
end
end L2
namespace L2
open PySem PySem.Spec PyProof.Rows
def Kr (rk:Keyed→Int) (xs:Array Keyed) (i:Nat):Int:=match xs[i]? with
 | some p=>rk p
 | none=>0
def Seg (rk:Keyed→Int) (xs:Array Keyed) (lo hi:Nat):Prop:=∀ i j,lo≤i→i≤j→j < hi→Kr rk xs i≤Kr rk xs j
def Bo (rk:Keyed→Int) (xs:Array Keyed) (lo hi:Nat):Prop:=∀ i j,lo≤i→i≤j→j < hi→Kr rk xs j≤Kr rk xs i
structure SB (a₀:Array Keyed) (kd:SortKind) (st:SortSt):Prop where
 perm:(arrOf st).Perm a₀
 kind:kindOf st=kd
 failed:failedOf st=none
def nP (M:Model) (A:Around) (E:Value→Shared→Prop) (s:Shared) (kd:SortKind) (rk:Keyed→Int) (a₀:Array Keyed):Prop:=
 ∀ (p q:Keyed) (st:SortSt) (Q:Option Bool→SortSt→Prop),p∈a₀.toList→q∈a₀.toList→kindOf st=kd→Q (some (decide (rk p < rk q))) st→wpS M A E s (lt' p q) Q st
section
variable {M:Model} {A:Around} {E:Value→Shared→Prop} {s:Shared} {kd:SortKind} {rk:Keyed→Int} {a₀:Array Keyed}
theorem kY {xs ys:Array Keyed} {i j:Nat} (h:xs[i]?=ys[j]?):Kr rk xs i=Kr rk ys j:=by unfold Kr;rw [h]
theorem cu {xs:Array Keyed} {i:Nat} {p:Keyed} (h:xs[i]?=some p):Kr rk xs i=rk p:=by unfold Kr;rw [h]
theorem SB.size {st:SortSt} (h:SB a₀ kd st):(arrOf st).size=a₀.size:=h.perm.size_eq
theorem SB.mem {st:SortSt} (h:SB a₀ kd st) {p:Keyed} (hp:p∈(arrOf st).toList):p∈a₀.toList:=(Array.perm_iff_toList_perm.mp h.perm).mem_iff.mp hp
theorem SB.at {st:SortSt} (h:SB a₀ kd st) {i:Nat} (hi:i < a₀.size):∃ p,(arrOf st)[i]?=some p∧p∈a₀.toList:=by
 have hi':i < (arrOf st).size:=by rw [h.size];exact hi
 exact ⟨(arrOf st)[i],getElem?_pos _ i hi',h.mem (by simp)⟩
theorem aM {σ:Type} {xs:Array Keyed} {i:Nat} {p:Keyed} {Q:Keyed→SortSt→Prop} {st:SortSt} (h:xs[i]?=some p) (q:Q p st):wpS M A E s (elem' xs i) Q st:=by
 rw [elem'_eq,h];exact wpS_pure q
theorem nQ {st:SortSt} {i j:Nat} {Q:Option Bool→SortSt→Prop} (L:nP M A E s kd rk a₀) (hB:SB a₀ kd st) (hi:i < a₀.size) (hj:j < a₀.size)
  (h:Q (some (decide (Kr rk (arrOf st) i < Kr rk (arrOf st) j))) st):wpS M A E s (ltAt' i j) Q st:=by
 obtain ⟨p,e1,m1⟩:=hB.at hi
 obtain ⟨q,e2,m2⟩:=hB.at hj
 rw [ltAt'_eq]
 refine wpS_bind (wpS_get ?_)
 refine wpS_bind (aM (σ:=Unit) e1 (wpS_bind (aM (σ:=Unit) e2 ?_)))
 rw [cu e1,cu e2] at h
 exact L p q st Q m1 m2 hB.kind h
theorem lL {xs:Array Keyed} {i j:Nat} (hj:j≤xs.size) (k:Nat):Kr rk (mirror xs i j ((j - i) / 2)) k=if i≤k∧k < j then Kr rk xs (i+j - 1 - k) else Kr rk xs k:=by
 have e:=getElem?_mirror_all (i:=i) hj k
 by_cases h1:i≤k∧k < j
 ·rw [if_pos h1] at e ⊢;exact kY e
 ·rw [if_neg h1] at e ⊢;exact kY e
theorem dh {xs:Array Keyed} {i j:Nat} (hj:j≤xs.size) (heq:∀ k,i≤k→k < j→Kr rk xs k=Kr rk xs (j - 1)) (k:Nat):Kr rk (mirror xs i j ((j - i) / 2)) k=Kr rk xs k:=by
 rw [lL hj]
 split
 ·rw [heq _ (by omega) (by omega),heq k (by omega) (by omega)]
 ·rfl
theorem oW {xs:Array Keyed} {src d:Nat} (hs:src < xs.size) (hd:d≤src) (k:Nat):
  Kr rk (bubble xs src d) k=if k=src - d then Kr rk xs src else if src - d < k∧k≤src then Kr rk xs (k - 1) else Kr rk xs k:=by
 have e:=getElem?_bubble hs d hd k
 by_cases h1:k=src - d
 ·rw [if_pos h1] at e ⊢;exact kY e
 ·rw [if_neg h1] at e ⊢
  by_cases h2:src - d < k∧k≤src
  ·rw [if_pos h2] at e ⊢;exact kY e
  ·rw [if_neg h2] at e ⊢;exact kY e
structure Nx (a₀:Array Keyed) (kd:SortKind) (rk:Keyed→Int) (lo:Nat) (st st':SortSt):Prop where
 sb:SB a₀ kd st'
 fr:∀ k,k < lo→Kr rk (arrOf st') k=Kr rk (arrOf st) k
 pe:pendingOf st'=pendingOf st
theorem Nx.refl {lo:Nat} {st:SortSt} (h:SB a₀ kd st):Nx a₀ kd rk lo st st:=⟨h,fun _ _=>rfl,rfl⟩
theorem Nx.trans {lo:Nat} {st st' st'':SortSt} (h:Nx a₀ kd rk lo st st') (h':Nx a₀ kd rk lo st' st''):Nx a₀ kd rk lo st st'':=⟨h'.sb,fun k hk=>(h'.fr k hk).trans (h.fr k hk),h'.pe.trans h.pe⟩
theorem Nx.mir {lo i j:Nat} {st st':SortSt} (h:Nx a₀ kd rk lo st st') (hi:lo≤i) (hj:j≤a₀.size):Nx a₀ kd rk lo st (setArr st' (mirror (arrOf st') i j ((j - i) / 2))):=
 ⟨⟨(mirror_perm _ _ _ _).trans h.sb.perm,h.sb.kind,h.sb.failed⟩,fun k hk=>by
  show Kr rk (mirror (arrOf st') i j ((j - i) / 2)) k=_
  rw [lL (by rw [h.sb.size];exact hj),if_neg (by omega)];exact h.fr k hk,h.pe⟩
theorem Nx.bub {lo src d:Nat} {st st':SortSt} (h:Nx a₀ kd rk lo st st') (hs:src < a₀.size) (hd:d≤src) (hi:lo≤src - d):Nx a₀ kd rk lo st (setArr st' (bubble (arrOf st') src d)):=
 ⟨⟨(bubble_perm _ _ _).trans h.sb.perm,h.sb.kind,h.sb.failed⟩,fun k hk=>by
  show Kr rk (bubble (arrOf st') src d) k=_
  rw [oW (by rw [h.sb.size];exact hs) hd,if_neg (by omega),if_neg (by omega)];exact h.fr k hk,h.pe⟩
theorem qH {st:SortSt} {i j:Nat} {Q:Unit→SortSt→Prop} (h:Q () (setArr st (mirror (arrOf st) i j ((j - i) / 2)))):wpS M A E s (reverseSlice' i j) Q st:=by
 rw [reverseSlice'_eq];exact wpS_modify h
def Fj (lo a nrem:Nat):StateT SortSt Sem AscSt:=
 forIn [a:nrem] ((none,a):AscSt) fun _ __s=>do
  let __x ← ltAt' (lo+__s.snd) (lo+__s.snd - 1)
  match __x with
  | some smaller=>if smaller=true then pure (ForInStep.done (none,__s.snd)) else pure (ForInStep.yield (none,__s.snd+1))
  | _=>pure (ForInStep.done (some none,__s.snd))
def rN (lo n nrem:Nat):StateT SortSt Sem (Option Nat):=do
 reverseSlice' lo (lo+n)
 let __s ← Fj lo n nrem
 match __s.fst with
 | some r=>pure r
 | none=>pure (some __s.snd)
def zu (lo n nrem:Nat):StateT SortSt Sem DescSt:=
 forIn [n:nrem] ((none,n,0):DescSt) fun _ __s=>do
  let __x ← ltAt' (lo+__s.snd.fst) (lo+__s.snd.fst - 1)
  match __x with
  | some smaller=>
   if smaller=true then
    if __s.snd.snd > 0 then do
     reverseSlice' (lo+__s.snd.fst - (__s.snd.snd+1)) (lo+__s.snd.fst)
     pure (ForInStep.yield (none,__s.snd.fst+1,0))
    else pure (ForInStep.yield (none,__s.snd.fst+1,0))
   else do
    let __x ← ltAt' (lo+__s.snd.fst - 1) (lo+__s.snd.fst)
    match __x with
    | some larger=>
     if larger=true then pure (ForInStep.done (none,__s.snd.fst,__s.snd.snd))
     else pure (ForInStep.yield (none,__s.snd.fst+1,__s.snd.snd+1))
    | _=>pure (ForInStep.done (some none,__s.snd.fst,__s.snd.snd))
  | _=>pure (ForInStep.done (some none,__s.snd.fst,__s.snd.snd))
def rO (lo n nrem:Nat):StateT SortSt Sem (Option Nat):=do
 liftM (rule "list.sort.descending-run")
 let __s ← zu lo (n+1) nrem
 match __s.fst with
 | some r=>pure r
 | none=>
  if __s.snd.snd > 0 then do
   reverseSlice' (lo+__s.snd.fst - (__s.snd.snd+1)) (lo+__s.snd.fst)
   rN lo __s.snd.fst nrem
  else rN lo __s.snd.fst nrem
theorem Bp (lo nrem:Nat):countRun' lo nrem=(do
  let __s ← Fj lo 1 nrem
  match __s.fst with
  | some r=>pure r
  | none=>
   if (__s.snd == nrem)=true then pure (some __s.snd)
   else if __s.snd > 1 then do
    let __x ← ltAt' lo (lo+__s.snd - 1)
    match __x with
    | some rose=>if rose=true then pure (some __s.snd) else do
      reverseSlice' lo (lo+__s.snd)
      rO lo __s.snd nrem
    | _=>pure none
   else rO lo __s.snd nrem):=by
 rw [countRun'_eq]
 unfold rO rN zu Fj
 dsimp only
 congr 1
 funext __s
 obtain ⟨r,n⟩:=__s
 cases r with
 | some r=>rfl
 | none=>
  dsimp only
  split
  ·rfl
  ·split
   ·congr 1
    funext x
    cases x with
    | none=>rfl
    | some rose=>
     dsimp only
     split
     ·rfl
     ·congr 1
      funext _r
      congr 1
      funext _u
      congr 1
      congr 1
      funext s2
      obtain ⟨r2,n2,q2⟩:=s2
      cases r2 with
      | some r2=>rfl
      | none=>
       dsimp only
       split
       ·congr 1
        funext _v
        (congr 1;funext _w;congr 1;(funext s3;obtain ⟨r3,n3⟩:=s3;cases r3 <;> rfl))
       ·(congr 1;funext _w;congr 1;(funext s3;obtain ⟨r3,n3⟩:=s3;cases r3 <;> rfl))
   ·congr 1
    funext _u
    congr 1
    congr 1
    funext s2
    obtain ⟨r2,n2,q2⟩:=s2
    cases r2 with
    | some r2=>rfl
    | none=>
     dsimp only
     split
     ·congr 1
      funext _v
      (congr 1;funext _w;congr 1;(funext s3;obtain ⟨r3,n3⟩:=s3;cases r3 <;> rfl))
     ·(congr 1;funext _w;congr 1;(funext s3;obtain ⟨r3,n3⟩:=s3;cases r3 <;> rfl))
theorem wF {st:SortSt} {lo a nrem:Nat} {Q:AscSt→SortSt→Prop} (L:nP M A E s kd rk a₀) (hn:lo+nrem≤a₀.size) (ha:1≤a) (han:a≤nrem) (hB:SB a₀ kd st) (hs:Seg rk (arrOf st) lo (lo+a))
  (h:∀ n,a≤n→n≤nrem→Seg rk (arrOf st) lo (lo+n)→(n=nrem∨Kr rk (arrOf st) (lo+n) < Kr rk (arrOf st) (lo+n - 1))→Q (none,n) st):
  wpS M A E s (Fj lo a nrem) Q st:=by
 unfold Fj
 refine wpS_forRange (I:=fun x c st'=>st'=st∧c=(none,x)∧Seg rk (arrOf st) lo (lo+x)) ?step ?fin ⟨rfl,rfl,hs⟩
 case fin=>
  rintro c st' ⟨rfl,rfl,hs'⟩
  rw [show max a nrem=nrem by omega] at hs' ⊢
  exact h nrem han (Nat.le_refl _) hs' (.inl rfl)
 case step=>
  rintro x c st' hax hxn ⟨rfl,rfl,hs'⟩
  dsimp only
  refine wpS_bind (nQ L hB (by omega) (by omega) ?_)
  by_cases hless:Kr rk (arrOf st') (lo+x) < Kr rk (arrOf st') (lo+x - 1)
  ·simp only [hless,decide_true,if_true]
   exact wpS_pure (h x hax (by omega) hs' (.inr hless))
  ·simp only [hless,decide_false,Bool.false_eq_true,if_false]
   refine wpS_pure ⟨rfl,rfl,fun i j hl hij hj=>?_⟩
   by_cases hjx:j < lo+x
   ·exact hs' i j hl hij hjx
   ·have hj':j=lo+x:=by omega
    subst hj'
    by_cases hi':i=lo+x
    ·subst hi';exact Int.le_refl _
    ·exact Int.le_trans (hs' i (lo+x - 1) hl (by omega) (by omega)) (Int.not_lt.mp hless)
theorem rP {st:SortSt} {lo n nrem:Nat} {Q:Option Nat→SortSt→Prop} (L:nP M A E s kd rk a₀) (hn:lo+nrem≤a₀.size) (h1:1≤n) (hnn:n≤nrem) (hB:SB a₀ kd st)
  (hs:Bo rk (arrOf st) lo (lo+n)) (h:∀ m st',Nx a₀ kd rk lo st st'→1≤m→m≤nrem→Seg rk (arrOf st') lo (lo+m)→Q (some m) st'):
  wpS M A E s (rN lo n nrem) Q st:=by
 unfold rN
 have hsz:lo+n≤(arrOf st).size:=by rw [hB.size];omega
 refine wpS_bind (qH ?_)
 have hN:Nx a₀ kd rk lo st (setArr st (mirror (arrOf st) lo (lo+n) ((lo+n - lo) / 2))):=(Nx.refl hB).mir (Nat.le_refl _) (by omega)
 refine wpS_bind (wF L hn h1 hnn hN.sb ?_ fun m hm1 hm2 hsm _=>wpS_pure (h m _ hN (by omega) hm2 hsm))
 intro i j hl hij hj
 show Kr rk (mirror (arrOf st) lo (lo+n) ((lo+n - lo) / 2)) i≤Kr rk (mirror (arrOf st) lo (lo+n) ((lo+n - lo) / 2)) j
 rw [lL hsz,lL hsz,if_pos (by omega),if_pos (by omega)]
 exact hs _ _ (by omega) (by omega) (by omega)
theorem Bq {st:SortSt} {lo n nrem:Nat} {Q:DescSt→SortSt→Prop} (L:nP M A E s kd rk a₀) (hn:lo+nrem≤a₀.size) (h1:1≤n) (hnn:n≤nrem) (hB:SB a₀ kd st)
  (hs:Bo rk (arrOf st) lo (lo+n))
  (h:∀ m neq st',Nx a₀ kd rk lo st st'→n≤m→m≤nrem→Bo rk (arrOf st') lo (lo+m)→neq+1≤m→(∀ i,lo+m - (neq+1)≤i→i < lo+m→Kr rk (arrOf st') i=Kr rk (arrOf st') (lo+m - 1))→Q (none,m,neq) st'):
  wpS M A E s (zu lo n nrem) Q st:=by
 unfold zu
 refine wpS_forRange (I:=fun x c st'=>∃ neq,c=(none,x,neq)∧Nx a₀ kd rk lo st st'∧Bo rk (arrOf st') lo (lo+x)∧neq+1≤x∧
   (∀ i,lo+x - (neq+1)≤i→i < lo+x→Kr rk (arrOf st') i=Kr rk (arrOf st') (lo+x - 1))) ?step ?fin ⟨0,rfl,Nx.refl hB,hs,by omega,fun i h1 h2=>by congr 1;omega⟩
 case fin=>
  rintro c st' ⟨neq,rfl,hB',hs',hq,he⟩
  rw [show max n nrem=nrem by omega] at hs' hq he ⊢
  exact h nrem neq st' hB' hnn (Nat.le_refl _) hs' hq he
 case step=>
  rintro x c st' hax hxn ⟨neq,rfl,hB',hs',hq,he⟩
  dsimp only
  have hsz:lo+x≤(arrOf st').size:=by rw [hB'.sb.size];omega
  refine wpS_bind (nQ L hB'.sb (by omega) (by omega) ?_)
  by_cases hless:Kr rk (arrOf st') (lo+x) < Kr rk (arrOf st') (lo+x - 1)
  ·simp only [hless,decide_true,if_true]
   have step1:∀ xs:Array Keyed,(∀ k,Kr rk xs k=Kr rk (arrOf st') k)→Bo rk xs lo (lo+(x+1)):=by
    intro xs hk i j hl hij hj
    rw [hk,hk]
    by_cases hjx:j < lo+x
    ·exact hs' i j hl hij hjx
    ·have hj':j=lo+x:=by omega
     subst hj'
     by_cases hi':i=lo+x
     ·subst hi';exact Int.le_refl _
     ·exact Int.le_trans (Int.le_of_lt hless) (hs' i (lo+x - 1) hl (by omega) (by omega))
   by_cases hneq:neq > 0
   ·rw [if_pos hneq]
    refine wpS_bind (qH (wpS_pure ⟨0,rfl,hB'.mir (by omega) (by omega),step1 _ (dh hsz he),by omega,fun i h1 h2=>by congr 1;omega⟩))
   ·rw [if_neg hneq]
    exact wpS_pure ⟨0,rfl,hB',step1 _ (fun _=>rfl),by omega,fun i h1 h2=>by congr 1;omega⟩
  ·simp only [hless,decide_false,Bool.false_eq_true,if_false]
   refine wpS_bind (nQ L hB'.sb (by omega) (by omega) ?_)
   by_cases hlarger:Kr rk (arrOf st') (lo+x - 1) < Kr rk (arrOf st') (lo+x)
   ·simp only [hlarger,decide_true,if_true]
    exact wpS_pure (h x neq st' hB' hax (by omega) hs' hq he)
   ·simp only [hlarger,decide_false,Bool.false_eq_true,if_false]
    have heqx:Kr rk (arrOf st') (lo+x)=Kr rk (arrOf st') (lo+x - 1):=by omega
    refine wpS_pure ⟨neq+1,rfl,hB',fun i j hl hij hj=>?_,by omega,fun i h1 h2=>?_⟩
    ·by_cases hjx:j < lo+x
     ·exact hs' i j hl hij hjx
     ·have hj':j=lo+x:=by omega
      subst hj'
      by_cases hi':i=lo+x
      ·subst hi';exact Int.le_refl _
      ·rw [heqx];exact hs' i (lo+x - 1) hl (by omega) (by omega)
    ·rw [show lo+(x+1) - 1=lo+x by omega]
     by_cases hix:i=lo+x
     ·subst hix;rfl
     ·rw [heqx];exact he i (by omega) (by omega)
theorem rQ {st:SortSt} {lo n nrem:Nat} {Q:Option Nat→SortSt→Prop} (L:nP M A E s kd rk a₀) (hn:lo+nrem≤a₀.size) (hnn:n+1≤nrem) (hB:SB a₀ kd st)
  (hs:Bo rk (arrOf st) lo (lo+(n+1))) (h:∀ m st',Nx a₀ kd rk lo st st'→1≤m→m≤nrem→Seg rk (arrOf st') lo (lo+m)→Q (some m) st'):
  wpS M A E s (rO lo n nrem) Q st:=by
 unfold rO
 refine wpS_bind (wpS_lift (wpAny_rule ⟨rfl,?_⟩))
 refine wpS_bind (Bq L hn (by omega) hnn hB hs fun m neq st' hB' hm1 hm2 hs' hq he=>?_)
 dsimp only
 have hsz:lo+m≤(arrOf st').size:=by rw [hB'.sb.size];omega
 by_cases hneq:neq > 0
 ·rw [if_pos hneq]
  have N2:=hB'.mir (i:=lo+m - (neq+1)) (j:=lo+m) (by omega) (by omega)
  refine wpS_bind (qH (rP L hn (by omega) hm2 N2.sb ?_ fun m' st2 N a b c=>h m' st2 (N2.trans N) a b c))
  intro i j hl hij hj
  show Kr rk (mirror (arrOf st') _ _ _) j≤Kr rk (mirror (arrOf st') _ _ _) i
  rw [dh hsz he,dh hsz he]
  exact hs' i j hl hij hj
 ·rw [if_neg hneq]
  exact rP L hn (by omega) hm2 hB'.sb hs' fun m' st2 N a b c=>h m' st2 (hB'.trans N) a b c
theorem yg {st:SortSt} {lo nrem:Nat} {Q:Option Nat→SortSt→Prop} (L:nP M A E s kd rk a₀) (hn:lo+nrem≤a₀.size) (h1:1≤nrem) (hB:SB a₀ kd st)
  (h:∀ m st',Nx a₀ kd rk lo st st'→1≤m→m≤nrem→Seg rk (arrOf st') lo (lo+m)→Q (some m) st'):
  wpS M A E s (countRun' lo nrem) Q st:=by
 rw [Bp]
 have one:∀ xs:Array Keyed,Seg rk xs lo (lo+1):=fun xs i j hl hij hj=>by
  have:i=j:=by omega
  subst this;exact Int.le_refl _
 refine wpS_bind (wF L hn (Nat.le_refl 1) h1 hB (one _) fun n hn1 hn2 hsn hor=>?_)
 dsimp only
 by_cases hnn:n=nrem
 ·rw [if_pos (by simpa using hnn)]
  exact wpS_pure (h n st (Nx.refl hB) hn1 hn2 hsn)
 ·rw [if_neg (by simpa using hnn)]
  have hlt:Kr rk (arrOf st) (lo+n) < Kr rk (arrOf st) (lo+n - 1):=hor.resolve_left hnn
  by_cases hgt:n > 1
  ·rw [if_pos hgt]
   refine wpS_bind (nQ L hB (by omega) (by omega) ?_)
   by_cases hrose:Kr rk (arrOf st) lo < Kr rk (arrOf st) (lo+n - 1)
   ·simp only [hrose,decide_true,if_true]
    exact wpS_pure (h n st (Nx.refl hB) hn1 hn2 hsn)
   ·simp only [hrose,decide_false,Bool.false_eq_true,if_false]
    have hsz:lo+n≤(arrOf st).size:=by rw [hB.size];omega
    have hall:∀ k,lo≤k→k < lo+n→Kr rk (arrOf st) k=Kr rk (arrOf st) (lo+n - 1):=by
     intro k h0 hk
     have a1:=hsn lo k (by omega) h0 hk
     have a2:=hsn k (lo+n - 1) h0 (by omega) (by omega)
     omega
    have N2:=(Nx.refl (rk:=rk) (lo:=lo) hB).mir (i:=lo) (j:=lo+n) (by omega) (by omega)
    refine wpS_bind (qH (rQ L hn (by omega) N2.sb ?_ fun m' st2 N a b c=>h m' st2 (N2.trans N) a b c))
    intro i j hl hij hj
    show Kr rk (mirror (arrOf st) _ _ _) j≤Kr rk (mirror (arrOf st) _ _ _) i
    rw [dh hsz hall,dh hsz hall]
    by_cases hjn:j < lo+n
    ·rw [hall i hl (by omega),hall j (by omega) hjn];exact Int.le_refl _
    ·have hj':j=lo+n:=by omega
     subst hj'
     by_cases hi':i=lo+n
     ·subst hi';exact Int.le_refl _
     ·rw [hall i hl (by omega)];exact Int.le_of_lt hlt
  ·rw [if_neg hgt]
   have hn1':n=1:=by omega
   subst hn1'
   refine rQ L hn (by omega) hB ?_ h
   intro i j hl hij hj
   by_cases hi':i=j
   ·subst hi';exact Int.le_refl _
   ·have hi0:i=lo:=by omega
    have hj1:j=lo+1:=by omega
    subst hi0;subst hj1
    exact Int.le_of_lt hlt
theorem Fo {st:SortSt} {lo n ok:Nat} {Q:Bool→SortSt→Prop} (L:nP M A E s kd rk a₀) (hn:lo+n≤a₀.size) (hok:ok≤n) (hB:SB a₀ kd st) (hs:Seg rk (arrOf st) lo (lo+ok))
  (h:∀ st',Nx a₀ kd rk lo st st'→Seg rk (arrOf st') lo (lo+n)→Q true st'):wpS M A E s (binarySort' lo n ok) Q st:=by
 rw [binarySort'_eq]
 refine wpS_bind (wpS_mono (wpS_forRange (I:=fun k c st'=>c=(none,())∧Nx a₀ kd rk lo st st'∧Seg rk (arrOf st') lo (lo+min k n))
  (Q:=fun c st'=>c=(none,())∧Nx a₀ kd rk lo st st'∧Seg rk (arrOf st') lo (lo+n)) ?step ?fin ?init) ?post)
 case post=>
  rintro c st' ⟨rfl,hB',hs'⟩
  exact wpS_pure (h st' hB' hs')
 case init=>
  refine ⟨rfl,Nx.refl hB,fun i j hl hij hj=>?_⟩
  by_cases h1:ok=0
  ·have:i=j:=by omega
   subst this;exact Int.le_refl _
  ·exact hs i j hl hij (by omega)
 case fin=>
  rintro c st' ⟨hc,hB',hs'⟩
  refine ⟨hc,hB',?_⟩
  rwa [show min (max (max ok 1) n) n=n by omega] at hs'
 case step=>
  rintro k c st' hak hkn ⟨rfl,hB',hs'⟩
  rw [show min k n=k by omega] at hs'
  have hk:lo+k < a₀.size:=by omega
  refine wpS_bind (wpS_mono (wpS_forRange (I:=fun x c st''=>st''=st'∧∃ l r,c=(none,l,r)∧l≤r∧r≤k∧r - l≤k - x∧
    (∀ i,i < l→Kr rk (arrOf st') (lo+i)≤Kr rk (arrOf st') (lo+k))∧(∀ i,r≤i→i < k→Kr rk (arrOf st') (lo+k) < Kr rk (arrOf st') (lo+i)))
   (Q:=fun c st''=>st''=st'∧∃ l r,c=(none,l,r)∧l≤k∧
    (∀ i,i < l→Kr rk (arrOf st') (lo+i)≤Kr rk (arrOf st') (lo+k))∧(∀ i,l≤i→i < k→Kr rk (arrOf st') (lo+k) < Kr rk (arrOf st') (lo+i))) ?istep ?ifin ?iinit) ?ipost)
  case iinit=>exact ⟨rfl,0,k,rfl,by omega,by omega,by omega,fun i hi=>by omega,fun i h1 h2=>by omega⟩
  case ifin=>
   rintro c st'' ⟨rfl,l,r,rfl,hlr,hrk,hm,hlo,hhi⟩
   have:l=r:=by omega
   subst this
   exact ⟨rfl,l,l,rfl,hrk,hlo,hhi⟩
  case istep=>
   rintro x c st'' _ hxk ⟨rfl,l,r,rfl,hlr,hrk,hm,hlo,hhi⟩
   dsimp only
   by_cases hge:l≥r
   ·rw [if_pos hge]
    have:l=r:=by omega
    subst this
    exact wpS_pure ⟨rfl,l,l,rfl,hrk,hlo,hhi⟩
   ·rw [if_neg hge]
    refine wpS_bind (nQ L hB'.sb hk (by omega) ?_)
    by_cases hless:Kr rk (arrOf st'') (lo+k) < Kr rk (arrOf st'') (lo+(l+r) / 2)
    ·simp only [hless,decide_true,if_true]
     refine wpS_pure ⟨rfl,l,(l+r) / 2,rfl,by omega,by omega,by omega,hlo,fun i h1 h2=>?_⟩
     exact Int.lt_of_lt_of_le hless (hs' _ _ (by omega) (by omega) (by omega))
    ·simp only [hless,decide_false,Bool.false_eq_true,if_false]
     refine wpS_pure ⟨rfl,(l+r) / 2+1,r,rfl,by omega,by omega,by omega,fun i h1=>?_,hhi⟩
     exact Int.le_trans (hs' (lo+i) (lo+(l+r) / 2) (by omega) (by omega) (by omega)) (Int.not_lt.mp hless)
  case ipost=>
   rintro c st'' ⟨rfl,l,r,rfl,hlk,hlo,hhi⟩
   show wpS _ _ _ _ (do moveDown' (lo+k) (lo+l);pure (ForInStep.yield (none,()))) _ _
   rw [moveDown'_eq]
   refine wpS_bind (wpS_modify (wpS_pure ⟨rfl,hB'.bub hk (by omega) (by omega),?_⟩))
   rw [show min (k+1) n=k+1 by omega]
   have hks:lo+k < (arrOf st'').size:=by rw [hB'.sb.size];exact hk
   intro i j hl hij hj
   obtain ⟨i,rfl⟩:∃ i',i=lo+i':=⟨i - lo,by omega⟩
   obtain ⟨j,rfl⟩:∃ j',j=lo+j':=⟨j - lo,by omega⟩
   show Kr rk (bubble (arrOf st'') (lo+k) (lo+k - (lo+l))) (lo+i)≤Kr rk (bubble (arrOf st'') (lo+k) (lo+k - (lo+l))) (lo+j)
   rw [oW hks (by omega),oW hks (by omega),show lo+k - (lo+k - (lo+l))=lo+l by omega]
   repeat' split
   all_goals first
    | (exfalso;omega)
    | exact Int.le_refl _
    | exact hlo _ (by omega)
    | exact Int.le_of_lt (by rw [show lo+j - 1=lo+(j - 1) by omega];exact hhi _ (by omega) (by omega))
    | exact hs' _ _ (by omega) (by omega) (by omega)
end
end L2
namespace L2
open PySem PySem.Spec PyProof.Rows
def IV:Bool→Keyed→Array Keyed→Nat→Nat→Nat→StateT SortSt Sem (Option Nat):=sortPriv% PySem.Builtin.gallop
def Qm (left:Bool) (key:Keyed) (arr:Array Keyed) (base i:Nat):StateT SortSt Sem (Option Bool):=do
  let x ← elem' arr (base+i)
  if left then lt' x key else return (← lt' key x).map (!·)
section
variable {M:Model} {A:Around} {E:Value→Shared→Prop} {s:Shared} {kd:SortKind} {rk:Keyed→Int} {a₀:Array Keyed}
def Br (left:Bool) (key:Keyed) (arr:Array Keyed) (base n lo hi:Nat):StateT SortSt Sem (Option Nat):=do
 let __s ← forIn [:n] ((none,lo,hi):Option (Option Nat)×Nat×Nat) fun x __s=>
   if __s.snd.fst≥__s.snd.snd then pure (ForInStep.done (none,__s.snd.fst,__s.snd.snd))
   else do
    let __x ← Qm left key arr base (__s.snd.fst+(__s.snd.snd - __s.snd.fst) / 2)
    match __x with
     | some more=>
      if more=true then
       pure (ForInStep.yield (none,__s.snd.fst+(__s.snd.snd - __s.snd.fst) / 2+1,__s.snd.snd))
      else pure (ForInStep.yield (none,__s.snd.fst,__s.snd.fst+(__s.snd.snd - __s.snd.fst) / 2))
     | x=>pure (ForInStep.done (some none,__s.snd.fst,__s.snd.snd))
 match __s.fst with
  | some r=>pure r
  | none=>pure (some __s.snd.snd)
theorem wG {left:Bool} {key:Keyed} {arr:Array Keyed} {base n lo hi:Nat} {st:SortSt} {Q:Option Nat→SortSt→Prop} (P:Nat→Bool)
  (hP:∀ i (R:Option Bool→SortSt→Prop),i < n→R (some (P i)) st→wpS M A E s (Qm left key arr base i) R st) (hm:∀ i j,i≤j→j < n→P j=true→P i=true)
  (h1:lo≤hi) (h2:hi≤n) (hlo:∀ i,i < lo→P i=true) (hhi:∀ i,hi≤i→i < n→P i=false)
  (h:∀ k,k≤n→(∀ i,i < k→P i=true)→(∀ i,k≤i→i < n→P i=false)→Q (some k) st):wpS M A E s (Br left key arr base n lo hi) Q st:=by
 unfold Br
 refine wpS_bind (wpS_mono (wpS_forRange (I:=fun x c st'=>st'=st∧∃ l r,c=(none,l,r)∧l≤r∧r≤n∧r - l≤n - x∧(∀ i,i < l→P i=true)∧(∀ i,r≤i→i < n→P i=false))
   (Q:=fun c st'=>st'=st∧∃ l,c=(none,l,l)∧l≤n∧(∀ i,i < l→P i=true)∧(∀ i,l≤i→i < n→P i=false)) ?step ?fin ⟨rfl,lo,hi,rfl,h1,h2,by omega,hlo,hhi⟩) ?post)
 case fin=>
  rintro c st' ⟨rfl,l,r,rfl,a,b,d,e,f⟩
  obtain rfl:l=r:=by omega
  exact ⟨rfl,l,rfl,b,e,f⟩
 case post=>
  rintro c st' ⟨rfl,l,rfl,b,e,f⟩
  exact wpS_pure (h l b e f)
 case step=>
  rintro x c st' _ hx ⟨rfl,l,r,rfl,a,b,d,e,f⟩
  dsimp only
  by_cases hge:l≥r
  ·rw [if_pos hge]
   obtain rfl:l=r:=by omega
   exact wpS_pure ⟨rfl,l,rfl,b,e,f⟩
  ·rw [if_neg hge]
   refine wpS_bind (hP _ _ (by omega) ?_)
   dsimp only
   by_cases hb:P (l+(r - l) / 2)=true
   ·rw [if_pos hb]
    exact wpS_pure ⟨rfl,_,_,rfl,by omega,b,by omega,fun i hi=>hm i _ (by omega) (by omega) hb,f⟩
   ·rw [if_neg hb]
    refine wpS_pure ⟨rfl,_,_,rfl,by omega,by omega,by omega,e,fun i h3 h4=>?_⟩
    cases hq:P i with
    | false=>rfl
    | true=>exact absurd (hm _ _ h3 h4 hq) hb
theorem dJ {left:Bool} {key:Keyed} {arr:Array Keyed} {base n hint:Nat} {st:SortSt} {Q:Option Nat→SortSt→Prop} (P:Nat→Bool) (hh:hint < n)
  (hP:∀ i (R:Option Bool→SortSt→Prop),i < n→R (some (P i)) st→wpS M A E s (Qm left key arr base i) R st) (hm:∀ i j,i≤j→j < n→P j=true→P i=true)
  (h:∀ k,k≤n→(∀ i,i < k→P i=true)→(∀ i,k≤i→i < n→P i=false)→Q (some k) st):wpS M A E s (IV left key arr base n hint) Q st:=by
 refine wpS_bind (m:=Qm left key arr base hint) (hP hint _ hh ?_)
 dsimp only
 by_cases hr:P hint=true
 ·rw [if_pos hr]
  refine wpS_bind (wpS_mono (wpS_forRange (I:=fun x c st'=>st'=st∧∃ la of,c=(none,la,of)∧la < of∧hint+la < n∧P (hint+la)=true∧x+1≤of)
    (Q:=fun c st'=>st'=st∧∃ la of,c=(none,la,of)∧la < of∧hint+la < n∧P (hint+la)=true∧(n - hint≤of∨(hint+of < n∧P (hint+of)=false))) ?step ?fin ⟨rfl,0,1,rfl,by omega,by omega,hr,by omega⟩) ?post)
  case fin=>
   rintro c st' ⟨rfl,la,of,rfl,a,b,d,e⟩
   exact ⟨rfl,la,of,rfl,a,b,d,.inl (by omega)⟩
  case step=>
   rintro x c st' _ hx ⟨rfl,la,of,rfl,a,b,d,e⟩
   dsimp only
   by_cases hge:of≥n - hint
   ·rw [if_pos hge]
    exact wpS_pure ⟨rfl,la,of,rfl,a,b,d,.inl hge⟩
   ·rw [if_neg hge]
    refine wpS_bind (hP _ _ (by omega) ?_)
    dsimp only
    cases hq:P (hint+of) with
    | false=>
     rw [if_pos (by decide)]
     exact wpS_pure ⟨rfl,la,of,rfl,a,b,d,.inr ⟨by omega,hq⟩⟩
    | true=>
     rw [if_neg (by decide)]
     exact wpS_pure ⟨rfl,of,2*of+1,rfl,by omega,by omega,hq,by omega⟩
  case post=>
   rintro c st' ⟨rfl,la,of,rfl,a,b,d,e⟩
   dsimp only
   refine Eq.mpr (congrArg (fun m=>wpS M A E s m Q st') (?eq:_=Br left key arr base n (hint+la+1) (hint+min of (n - hint)))) ?_
   case eq=>
    unfold Br
    congr 1
    funext c
    obtain ⟨r,l,h⟩:=c
    cases r <;> rfl
   refine wG P hP hm (by omega) (by omega) (fun i hi=>hm i _ (by omega) b d) (fun i h3 h4=>?_) h
   rcases e with e | ⟨e1,e2⟩
   ·omega
   ·cases hq:P i with
    | false=>rfl
    | true=>
     have:=hm (hint+of) i (by omega) h4 hq
     rw [this] at e2;cases e2
 ·rw [if_neg hr]
  have hr':P hint=false:=by simpa using hr
  refine wpS_bind (wpS_mono (wpS_forRange (I:=fun x c st'=>st'=st∧∃ la of,c=(none,la,of)∧la < of∧la≤hint∧P (hint - la)=false∧x+1≤of)
    (Q:=fun c st'=>st'=st∧∃ la of,c=(none,la,of)∧la < of∧la≤hint∧P (hint - la)=false∧(hint+1≤of∨(of≤hint∧P (hint - of)=true))) ?step2 ?fin2 ⟨rfl,0,1,rfl,by omega,by omega,hr',by omega⟩) ?post2)
  case fin2=>
   rintro c st' ⟨rfl,la,of,rfl,a,b,d,e⟩
   exact ⟨rfl,la,of,rfl,a,b,d,.inl (by omega)⟩
  case step2=>
   rintro x c st' _ hx ⟨rfl,la,of,rfl,a,b,d,e⟩
   dsimp only
   by_cases hge:of≥hint+1
   ·rw [if_pos hge]
    exact wpS_pure ⟨rfl,la,of,rfl,a,b,d,.inl hge⟩
   ·rw [if_neg hge]
    refine wpS_bind (hP _ _ (by omega) ?_)
    dsimp only
    by_cases hq:P (hint - of)=true
    ·rw [if_pos hq]
     exact wpS_pure ⟨rfl,la,of,rfl,a,b,d,.inr ⟨by omega,hq⟩⟩
    ·rw [if_neg hq]
     exact wpS_pure ⟨rfl,of,2*of+1,rfl,by omega,by omega,by simpa using hq,by omega⟩
  case post2=>
   rintro c st' ⟨rfl,la,of,rfl,a,b,d,e⟩
   dsimp only
   refine Eq.mpr (congrArg (fun m=>wpS M A E s m Q st') (?eq:_=Br left key arr base n (hint+1 - min of (hint+1)) (hint - la))) ?_
   case eq=>
    unfold Br
    congr 1
    funext c
    obtain ⟨r,l,h⟩:=c
    cases r <;> rfl
   refine wG P hP hm (by omega) (by omega) (fun i hi=>?_) (fun i h3 h4=>?_) h
   ·rcases e with e | ⟨e1,e2⟩
    ·omega
    ·exact hm i _ (by omega) (by omega) e2
   ·cases hq:P i with
    | false=>rfl
    | true=>
     have:=hm (hint - la) i (by omega) h4 hq
     rw [this] at d;cases d
theorem iM {left:Bool} {key:Keyed} {arr:Array Keyed} {base i:Nat} {st:SortSt} {R:Option Bool→SortSt→Prop} (L:nP M A E s kd rk a₀) (hk:key∈a₀.toList) (ha:∀ p∈arr.toList,p∈a₀.toList) (hi:base+i < arr.size) (kind:kindOf st=kd)
  (h:R (some (if left=true then decide (Kr rk arr (base+i) < rk key) else decide (Kr rk arr (base+i)≤rk key))) st):wpS M A E s (Qm left key arr base i) R st:=by
 unfold Qm
 have e:arr[base+i]?=some arr[base+i]:=getElem?_pos arr (base+i) hi
 have hm:arr[base+i]∈a₀.toList:=ha _ (by simp)
 rw [cu e] at h
 refine wpS_bind (aM (σ:=Unit) e ?_)
 cases left with
 | true=>
  simp only [if_true] at h ⊢
  exact L _ _ st R hm hk kind h
 | false=>
  simp only [Bool.false_eq_true,if_false] at h ⊢
  refine wpS_bind (L _ _ st _ hk hm kind (wpS_pure ?_))
  have:(some (decide (rk key < rk arr[base+i]))).map (fun x=>!x)=some (decide (rk arr[base+i]≤rk key)):=by
   show some (!decide (rk key < rk arr[base+i]))=_
   congr 1
   rw [← decide_not]
   exact decide_eq_decide.mpr (by omega)
  rw [this];exact h
end
end L2
namespace L2
open PySem PySem.Spec PyProof.Rows
def KN:Nat→StateT SortSt Sem Unit:=sortPriv% PySem.Builtin.setMinGallop
theorem Fp (g:Nat):KN g=modify fun s=>SortSt.mk' (kindOf s) (arrOf s) (pendingOf s) g (failedOf s):=rfl
def Fq:Array Keyed→Array Keyed→StateT SortSt Sem (Array Keyed):=sortPriv% PySem.Builtin.mergeLo
def Ft:Array Keyed→Array Keyed→StateT SortSt Sem (Array Keyed):=sortPriv% PySem.Builtin.mergeHi
section
variable {M:Model} {A:Around} {E:Value→Shared→Prop} {s:Shared} {kd:SortKind} {rk:Keyed→Int} {a₀:Array Keyed}
abbrev lM (rk:Keyed→Int) (l:List Keyed):Prop:=l.Pairwise fun p q=>rk p≤rk q
structure Sm (st st':SortSt):Prop where
 arr:arrOf st'=arrOf st
 kind:kindOf st'=kindOf st
 failed:failedOf st'=failedOf st
 pend:pendingOf st'=pendingOf st
theorem Sm.refl (st:SortSt):Sm st st:=⟨rfl,rfl,rfl,rfl⟩
theorem Sm.trans {a b c:SortSt} (h:Sm a b) (h':Sm b c):Sm a c:=⟨h'.arr.trans h.arr,h'.kind.trans h.kind,h'.failed.trans h.failed,h'.pend.trans h.pend⟩
theorem nR {st st0:SortSt} {g:Nat} {Q:Unit→SortSt→Prop} (h0:Sm st0 st) (h:∀ st',Sm st0 st'→Q () st'):wpS M A E s (KN g) Q st:=by
 rw [Fp]
 exact wpS_modify (h _ (h0.trans ⟨rfl,rfl,rfl,rfl⟩))
structure MI (rk:Keyed→Int) (a b out:Array Keyed) (ia ib:Nat):Prop where
 ha:ia≤a.size
 hb:ib≤b.size
 so:lM rk out.toList
 le:∀ p∈out.toList,∀ q∈a.toList.drop ia ++ b.toList.drop ib,rk p≤rk q
 pm:(out.toList ++ (a.toList.drop ia ++ b.toList.drop ib)).Perm (a.toList ++ b.toList)
def Res (rk:Keyed→Int) (a b r:Array Keyed):Prop:=lM rk r.toList∧r.toList.Perm (a.toList ++ b.toList)
theorem jC {α:Type} (l:List α) (i k:Nat):l.drop i=(l.drop i).take k ++ l.drop (i+k):=by
 have e:l.drop (i+k)=(l.drop i).drop k:=by rw [List.drop_drop]
 rw [e,List.take_append_drop]
theorem ext_toList (a:Array Keyed) (i k:Nat):(a.extract i (i+k)).toList=(a.toList.drop i).take k:=by
 rw [Array.toList_extract,List.extract_eq_drop_take]
 congr 1
 omega
theorem MI.takeA {a b out:Array Keyed} {ia ib:Nat} (h:MI rk a b out ia ib) (Sa:lM rk a.toList) (k:Nat) (hk:ia+k≤a.size) (hc:∀ p∈(a.toList.drop ia).take k,∀ q∈b.toList.drop ib,rk p≤rk q):MI rk a b (out ++ a.extract ia (ia+k)) (ia+k) ib:=by
 have e:=jC a.toList ia k
 have Sd:lM rk (a.toList.drop ia):=Sa.sublist (List.drop_sublist _ _)
 rw [e] at Sd
 obtain ⟨s1,s2,s3⟩:=List.pairwise_append.mp Sd
 have tl:(out ++ a.extract ia (ia+k)).toList=out.toList ++ (a.toList.drop ia).take k:=by rw [Array.toList_append,ext_toList]
 refine ⟨hk,h.hb,?_,?_,?_⟩
 ·rw [tl]
  exact List.pairwise_append.mpr ⟨h.so,s1,fun p hp q hq=>h.le p hp q (List.mem_append_left _ (List.mem_of_mem_take hq))⟩
 ·rw [tl]
  intro p hp q hq
  rcases List.mem_append.mp hp with hp | hp
  ·refine h.le p hp q ?_
   rcases List.mem_append.mp hq with hq | hq
   ·exact List.mem_append_left _ (by rw [e];exact List.mem_append_right _ hq)
   ·exact List.mem_append_right _ hq
  ·rcases List.mem_append.mp hq with hq | hq
   ·exact s3 p hp q hq
   ·exact hc p hp q hq
 ·rw [tl]
  refine List.Perm.trans (List.Perm.of_eq ?_) h.pm
  conv=>rhs;rw [e]
  simp only [List.append_assoc]
theorem MI.takeB {a b out:Array Keyed} {ia ib:Nat} (h:MI rk a b out ia ib) (Sb:lM rk b.toList) (k:Nat) (hk:ib+k≤b.size) (hc:∀ p∈(b.toList.drop ib).take k,∀ q∈a.toList.drop ia,rk p≤rk q):MI rk a b (out ++ b.extract ib (ib+k)) ia (ib+k):=by
 have e:=jC b.toList ib k
 have Sd:lM rk (b.toList.drop ib):=Sb.sublist (List.drop_sublist _ _)
 rw [e] at Sd
 obtain ⟨s1,s2,s3⟩:=List.pairwise_append.mp Sd
 have tl:(out ++ b.extract ib (ib+k)).toList=out.toList ++ (b.toList.drop ib).take k:=by rw [Array.toList_append,ext_toList]
 refine ⟨h.ha,hk,?_,?_,?_⟩
 ·rw [tl]
  exact List.pairwise_append.mpr ⟨h.so,s1,fun p hp q hq=>h.le p hp q (List.mem_append_right _ (List.mem_of_mem_take hq))⟩
 ·rw [tl]
  intro p hp q hq
  rcases List.mem_append.mp hp with hp | hp
  ·refine h.le p hp q ?_
   rcases List.mem_append.mp hq with hq | hq
   ·exact List.mem_append_left _ hq
   ·exact List.mem_append_right _ (by rw [e];exact List.mem_append_right _ hq)
  ·rcases List.mem_append.mp hq with hq | hq
   ·exact hc p hp q hq
   ·exact s3 p hp q hq
 ·rw [tl]
  refine List.Perm.trans ?_ h.pm
  conv=>rhs;rw [e]
  rw [List.append_assoc]
  refine List.Perm.append_left _ ?_
  rw [← List.append_assoc,← List.append_assoc]
  exact List.Perm.append_right _ List.perm_append_comm
theorem rR {out a:Array Keyed} {i:Nat} {p:Keyed} (h:a[i]?=some p):out.push p=out ++ a.extract i (i+1):=by
 apply Array.ext'
 rw [Array.toList_append,ext_toList,Array.toList_push]
 congr 1
 obtain ⟨hi,e⟩:=Array.getElem?_eq_some_iff.mp h
 rw [List.drop_eq_getElem_cons (by simpa using hi)]
 simp [e]
theorem take1 {a:Array Keyed} {i:Nat} {p q:Keyed} (h:a[i]?=some p) (hq:q∈(a.toList.drop i).take 1):q=p:=by
 obtain ⟨hi,e⟩:=Array.getElem?_eq_some_iff.mp h
 rw [List.drop_eq_getElem_cons (by simpa using hi)] at hq
 simpa [e] using hq
theorem fW {a:Array Keyed} {i:Nat} {p q:Keyed} (Sa:lM rk a.toList) (h:a[i]?=some p) (hq:q∈a.toList.drop i):rk p≤rk q:=by
 obtain ⟨hi,e⟩:=Array.getElem?_eq_some_iff.mp h
 have Sd:lM rk (a.toList.drop i):=Sa.sublist (List.drop_sublist _ _)
 rw [List.drop_eq_getElem_cons (by simpa using hi)] at Sd hq
 rcases List.mem_cons.mp hq with rfl | hq
 ·simp [e]
 ·have:=(List.pairwise_cons.mp Sd).1 q hq
  simpa [e] using this
theorem uV {a:Array Keyed} {i:Nat} {q:Keyed} (hq:q∈a.toList.drop i):∃ j,i≤j∧j < a.size∧a[j]?=some q:=by
 obtain ⟨k,hk,e⟩:=List.mem_iff_getElem.mp hq
 have hk':i+k < a.size:=by simp at hk;omega
 refine ⟨i+k,by omega,hk',?_⟩
 rw [getElem?_pos a (i+k) hk',← e]
 simp
theorem qI {a:Array Keyed} {i k:Nat} {q:Keyed} (hq:q∈(a.toList.drop i).take k):∃ j,j < k∧a[i+j]?=some q:=by
 obtain ⟨j,hj,e⟩:=List.mem_iff_getElem.mp hq
 have hj':j < k∧i+j < a.size:=by simp at hj;omega
 refine ⟨j,hj'.1,?_⟩
 rw [getElem?_pos a (i+j) hj'.2,← e]
 simp
theorem MI.pushA {a b out:Array Keyed} {ia ib:Nat} {p:Keyed} (h:MI rk a b out ia ib) (Sa:lM rk a.toList) (e:a[ia]?=some p) (hc:∀ q∈b.toList.drop ib,rk p≤rk q):MI rk a b (out.push p) (ia+1) ib:=by
 rw [rR e]
 exact h.takeA Sa 1 (by have:=(Array.getElem?_eq_some_iff.mp e).1;omega) fun q hq r hr=>by rw [take1 e hq];exact hc r hr
theorem MI.pushB {a b out:Array Keyed} {ia ib:Nat} {p:Keyed} (h:MI rk a b out ia ib) (Sb:lM rk b.toList) (e:b[ib]?=some p) (hc:∀ q∈a.toList.drop ia,rk p≤rk q):MI rk a b (out.push p) ia (ib+1):=by
 rw [rR e]
 exact h.takeB Sb 1 (by have:=(Array.getElem?_eq_some_iff.mp e).1;omega) fun q hq r hr=>by rw [take1 e hq];exact hc r hr
theorem lN (a:Array Keyed) (i:Nat):(a.extract i a.size).toList=a.toList.drop i:=by
 rw [Array.toList_extract,List.extract_eq_drop_take,List.take_of_length_le (by simp)]
theorem MI.doneB {a b out:Array Keyed} {ia ib:Nat} (h:MI rk a b out ia ib) (Sa:lM rk a.toList) (e:ib=b.size):Res rk a b (out ++ a.extract ia a.size ++ b.extract ib b.size):=by
 have hd:b.toList.drop ib=[]:=List.drop_eq_nil_of_le (by simp [e])
 unfold Res
 rw [Array.toList_append,Array.toList_append,lN,lN,hd,List.append_nil]
 have hp:=h.pm
 rw [hd,List.append_nil] at hp
 exact ⟨List.pairwise_append.mpr ⟨h.so,Sa.sublist (List.drop_sublist _ _),fun p hp q hq=>h.le p hp q (List.mem_append_left _ hq)⟩,hp⟩
theorem MI.doneA {a b out:Array Keyed} {ia ib:Nat} (h:MI rk a b out ia ib) (Sb:lM rk b.toList) (e:ia=a.size):Res rk a b (out ++ a.extract ia a.size ++ b.extract ib b.size):=by
 have hd:a.toList.drop ia=[]:=List.drop_eq_nil_of_le (by simp [e])
 unfold Res
 rw [Array.toList_append,Array.toList_append,lN,lN,hd,List.append_nil]
 have hp:=h.pm
 rw [hd,List.nil_append] at hp
 exact ⟨List.pairwise_append.mpr ⟨h.so,Sb.sublist (List.drop_sublist _ _),fun p hp q hq=>h.le p hp q (List.mem_append_right _ hq)⟩,hp⟩
theorem MI.lastA {a b out:Array Keyed} {ia ib:Nat} (h:MI rk a b out ia ib) (Sb:lM rk b.toList) (e:ia+1=a.size) (hl:∀ p,a[a.size - 1]?=some p→∀ q∈b.toList,rk q≤rk p):Res rk a b (out ++ b.extract ib b.size ++ a.extract ia a.size):=by
 unfold Res
 rw [Array.toList_append,Array.toList_append,lN,lN]
 have hi:ia < a.size:=by omega
 have ea:a.toList.drop ia=[a[ia]]:=by
  rw [List.drop_eq_getElem_cons (by simpa using hi),List.drop_eq_nil_of_le (by simp;omega)]
  simp
 refine ⟨?_,?_⟩
 ·refine List.pairwise_append.mpr ⟨List.pairwise_append.mpr ⟨h.so,Sb.sublist (List.drop_sublist _ _),fun p hp q hq=>h.le p hp q (List.mem_append_right _ hq)⟩,by rw [ea];exact List.pairwise_singleton _ _,fun p hp q hq=>?_⟩
  rcases List.mem_append.mp hp with hp | hp
  ·exact h.le p hp q (List.mem_append_left _ hq)
  ·rw [ea] at hq
   rw [List.mem_singleton.mp hq]
   refine hl _ ?_ p (List.mem_of_mem_drop hp)
   rw [show a.size - 1=ia by omega];exact getElem?_pos a ia hi
 ·refine List.Perm.trans ?_ h.pm
  rw [List.append_assoc]
  exact List.Perm.append_left _ List.perm_append_comm
end
end L2
set_option maxHeartbeats 8000000
namespace L2
open PySem PySem.Spec PyProof.Rows
section
variable {M:Model} {A:Around} {E:Value→Shared→Prop} {s:Shared} {kd:SortKind} {rk:Keyed→Int} {a₀:Array Keyed}
theorem aG {σ α:Type} {c:Prop} [Decidable c] {x y:StateT σ Sem α} {Q:α→σ→Prop} {st:σ} (h1:c→wpS M A E s x Q st) (h2:¬ c→wpS M A E s y Q st):wpS M A E s (if c then x else y) Q st:=by
 split
 ·exact h1 ‹_›
 ·exact h2 ‹_›
def Go (rk:Keyed→Int) (a b:Array Keyed) (n:Nat) (r:Option (Array Keyed)) (out:Array Keyed) (ia ib:Nat):Prop:=(∃ x,r=some x∧Res rk a b x)∨(r=none∧MI rk a b out ia ib∧ib < b.size∧ia+1 < a.size∧n≤ia+ib)
theorem wH {a b:Array Keyed} {st:SortSt} {Q:Array Keyed→SortSt→Prop} (L:nP M A E s kd rk a₀) (ha:∀ p∈a.toList,p∈a₀.toList) (hb:∀ p∈b.toList,p∈a₀.toList) (Sa:lM rk a.toList) (Sb:lM rk b.toList)
  (n1:1≤a.size) (n2:1≤b.size) (hf:∀ p,b[0]?=some p→∀ q∈a.toList,rk p≤rk q) (hl:∀ p,a[a.size - 1]?=some p→∀ q∈b.toList,rk q≤rk p) (kind:kindOf st=kd)
  (h:∀ r st',Sm st st'→Res rk a b r→Q r st'):wpS M A E s (Fq a b) Q st:=by
 have atA:∀ {i:Nat},i < a.size→∃ p,a[i]?=some p∧p∈a₀.toList:=fun {i} hi=>⟨a[i],getElem?_pos a i hi,ha _ (by simp)⟩
 have atB:∀ {i:Nat},i < b.size→∃ p,b[i]?=some p∧p∈a₀.toList:=fun {i} hi=>⟨b[i],getElem?_pos b i hi,hb _ (by simp)⟩
 have KA:∀ {i:Nat} {p:Keyed},a[i]?=some p→Kr rk a i=rk p:=fun e=>cu e
 have SKa:∀ i j,i≤j→j < a.size→Kr rk a i≤Kr rk a j:=fun i j hij hj=>by
  obtain ⟨p,ep,_⟩:=atA (show i < a.size by omega)
  obtain ⟨q,eq,_⟩:=atA hj
  rw [cu ep,cu eq]
  refine fW Sa ep ?_
  obtain ⟨hq,e⟩:=Array.getElem?_eq_some_iff.mp eq
  rw [← e]
  exact List.mem_iff_getElem.mpr ⟨j - i,by simp;omega,by simp [show i+(j - i)=j by omega]⟩
 have SKb:∀ i j,i≤j→j < b.size→Kr rk b i≤Kr rk b j:=fun i j hij hj=>by
  obtain ⟨p,ep,_⟩:=atB (show i < b.size by omega)
  obtain ⟨q,eq,_⟩:=atB hj
  rw [cu ep,cu eq]
  refine fW Sb ep ?_
  obtain ⟨hq,e⟩:=Array.getElem?_eq_some_iff.mp eq
  rw [← e]
  exact List.mem_iff_getElem.mpr ⟨j - i,by simp;omega,by simp [show i+(j - i)=j by omega]⟩
 refine wpS_bind (wpS_lift (wpAny_rule ⟨rfl,?_⟩))
 dsimp only
 obtain ⟨p0,e0,m0⟩:=atB (i:=0) (by omega)
 refine wpS_bind (aM (σ:=Unit) e0 ?_)
 have I0:MI rk a b #[p0] 0 1:=by
  have eb:b.toList=p0 :: b.toList.drop 1:=by
   obtain ⟨hi,e⟩:=Array.getElem?_eq_some_iff.mp e0
   have:=List.drop_eq_getElem_cons (l:=b.toList) (i:=0) (by simpa using hi)
   rw [List.drop_zero] at this
   conv=>lhs;rw [this]
   simp [e]
  refine ⟨by omega,by omega,List.pairwise_singleton _ _,fun p hp q hq=>?_,?_⟩
  ·obtain rfl:p=p0:=by simpa using hp
   rcases List.mem_append.mp hq with hq | hq
   ·exact hf p e0 q (List.mem_of_mem_drop hq)
   ·exact fW Sb e0 (by rw [List.drop_zero];exact List.mem_of_mem_drop hq)
  ·show ([p0] ++ (a.toList.drop 0 ++ b.toList.drop 1)).Perm _
   rw [List.drop_zero]
   conv=>rhs;rw [eb]
   exact (List.perm_middle (a:=p0) (l₁:=a.toList) (l₂:=b.toList.drop 1)).symm
 by_cases h1:1=b.size
 ·rw [if_pos (by simpa using h1)]
  exact wpS_pure (h _ _ (Sm.refl _) (I0.doneB Sa h1))
 rw [if_neg (by simpa using h1)]
 by_cases h2:0+1=a.size
 ·rw [if_pos (by simpa using h2)]
  exact wpS_pure (h _ _ (Sm.refl _) (I0.lastA Sb h2 hl))
 rw [if_neg (by simpa using h2)]
 refine wpS_bind (wpS_get ?_)
 refine wpS_bind (wpS_mono (wpS_forRange (I:=fun x c st'=>Sm st st'∧∃ out ia ib mg,c=(none,out,ia,ib,mg)∧MI rk a b out ia ib∧ib < b.size∧ia+1 < a.size∧x+1≤ia+ib)
   (Q:=fun c st'=>Sm st st'∧∃ r,c.1=some r∧Res rk a b r) ?step ?fin ⟨Sm.refl _,_,_,_,_,rfl,I0,by omega,by omega,by omega⟩) ?post)
 case fin=>
  rintro c st' ⟨_,out,ia,ib,mg,rfl,I,x1,x2,x3⟩
  exact absurd x3 (by omega)
 case post=>
  rintro ⟨r0,c⟩ st' ⟨S,r,rfl,hr⟩
  exact wpS_pure (h r st' S hr)
 case step=>
  rintro x c st1 _ hx ⟨S1,out,ia,ib,mg,rfl,I,x1,x2,x3⟩
  dsimp only
  have kd1:kindOf st1=kd:=S1.kind.trans kind
  refine wpS_bind (wpS_mono (wpS_forRange (I:=fun y c st'=>st'=st1∧∃ out' ia' ib' ac bc,c=(none,out',ia',ib',ac,bc)∧MI rk a b out' ia' ib'∧ib' < b.size∧ia'+1 < a.size∧x+1+y≤ia'+ib')
   (Q:=fun c st'=>st'=st1∧Go rk a b (x+2) c.1 c.2.1 c.2.2.1 c.2.2.2.1) ?istep ?ifin ⟨rfl,_,_,_,_,_,rfl,I,x1,x2,by omega⟩) ?ipost)
  case ifin=>
   rintro c st' ⟨rfl,out',ia',ib',ac,bc,rfl,I',y1,y2,y3⟩
   exact ⟨rfl,.inr ⟨rfl,I',y1,y2,by show x+2≤ia'+ib';omega⟩⟩
  case istep=>
   rintro y c st' _ hy ⟨rfl,out',ia',ib',ac,bc,rfl,I',y1,y2,y3⟩
   dsimp only
   obtain ⟨pb,eb,mb⟩:=atB y1
   obtain ⟨pa,ea,ma⟩:=atA (show ia' < a.size by omega)
   refine wpS_bind (aM (σ:=Unit) eb (wpS_bind (aM (σ:=Unit) ea (wpS_bind (L _ _ _ _ mb ma kd1 ?_)))))
   dsimp only
   by_cases hw:rk pb < rk pa
   ·rw [if_pos (decide_eq_true hw)]
    refine wpS_bind (aM (σ:=Unit) eb ?_)
    have I2:=I'.pushB Sb eb fun q hq=>Int.le_trans (Int.le_of_lt hw) (fW Sa ea hq)
    by_cases h3:ib'+1=b.size
    ·rw [if_pos (by simpa using h3)]
     exact wpS_pure ⟨rfl,.inl ⟨_,rfl,I2.doneB Sa h3⟩⟩
    ·rw [if_neg (by simpa using h3)]
     split
     ·exact wpS_pure ⟨rfl,.inr ⟨rfl,I2,by show ib'+1 < _;omega,y2,by show x+2≤ia'+(ib'+1);omega⟩⟩
     ·exact wpS_pure ⟨rfl,_,_,_,_,_,rfl,I2,by omega,y2,by omega⟩
   ·rw [if_neg (by rw [decide_eq_false hw];decide)]
    refine wpS_bind (aM (σ:=Unit) ea ?_)
    have I2:=I'.pushA Sa ea fun q hq=>Int.le_trans (by omega) (fW Sb eb hq)
    by_cases h3:ia'+1+1=a.size
    ·rw [if_pos (by simpa using h3)]
     exact wpS_pure ⟨rfl,.inl ⟨_,rfl,I2.lastA Sb h3 hl⟩⟩
    ·rw [if_neg (by simpa using h3)]
     split
     ·exact wpS_pure ⟨rfl,.inr ⟨rfl,I2,y1,by show ia'+1+1 < _;omega,by show x+2≤ia'+1+ib';omega⟩⟩
     ·exact wpS_pure ⟨rfl,_,_,_,_,_,rfl,I2,y1,by omega,by omega⟩
  case ipost=>
   rintro ⟨r0,out1,ia1,ib1,ac1,bc1⟩ st' ⟨rfl,G⟩
   dsimp only at G ⊢
   rcases G with ⟨r,rfl,hr⟩ | ⟨rfl,I1,y1,y2,y3⟩
   ·exact wpS_pure ⟨S1,r,rfl,hr⟩
   dsimp only
   refine wpS_bind (wpS_lift (wpAny_rule ⟨rfl,?_⟩))
   refine wpS_bind (wpS_mono (wpS_forRange (I:=fun y c st'=>Sm st st'∧∃ out' ia' ib' mg ac bc,c=(none,out',ia',ib',mg,ac,bc)∧MI rk a b out' ia' ib'∧ib' < b.size∧ia'+1 < a.size∧x+2≤ia'+ib')
    (Q:=fun c st'=>Sm st st'∧Go rk a b (x+2) c.1 c.2.1 c.2.2.1 c.2.2.2.1) ?gstep ?gfin ⟨S1,_,_,_,_,_,_,rfl,I1,y1,y2,y3⟩) ?gpost)
   case gfin=>
    rintro c st' ⟨S2,out',ia',ib',mg',ac,bc,rfl,I',y1,y2,y3⟩
    exact ⟨S2,.inr ⟨rfl,I',y1,y2,y3⟩⟩
   case gpost=>
    rintro ⟨r0,out1,ia1,ib1,mg1,ac1,bc1⟩ st' ⟨S2,G⟩
    dsimp only at G ⊢
    rcases G with ⟨r,rfl,hr⟩ | ⟨rfl,I1,y1,y2,y3⟩
    ·exact wpS_pure ⟨S2,r,rfl,hr⟩
    dsimp only
    refine wpS_bind (nR S2 fun st2 S3=>?_)
    exact wpS_pure ⟨S3,_,_,_,_,rfl,I1,y1,y2,y3⟩
   case gstep=>
    rintro y c st' _ hy ⟨S2,out',ia',ib',mg',ac,bc,rfl,I',y1,y2,y3⟩
    dsimp only
    obtain ⟨pb,eb,mb⟩:=atB y1
    refine aG (fun _=>?_) (fun _=>?_)
    all_goals
     refine wpS_bind (nR S2 fun st3 S3=>?_)
     have kd3:kindOf st3=kd:=S3.kind.trans kind
     refine wpS_bind (aM (σ:=Unit) eb ?_)
     refine wpS_bind (dJ (fun i=>decide (Kr rk a (ia'+i)≤rk pb)) (by omega) (fun i R hi r=>iM L mb ha (by omega) kd3 (by simpa using r)) (fun i j hij hj hq=>decide_eq_true (Int.le_trans (SKa _ _ (by omega) (by omega)) (of_decide_eq_true hq))) fun k hk hk1 hk2=>?_)
     dsimp only
     have I2:=I'.takeA Sa k (by omega) fun p hp q hq=>by
      obtain ⟨j,hj,e⟩:=qI hp
      have:=of_decide_eq_true (hk1 j hj)
      rw [cu e] at this
      exact Int.le_trans this (fW Sb eb hq)
     have hgt:∀ q∈a.toList.drop (ia'+k),rk pb≤rk q:=fun q hq=>by
      obtain ⟨j,h3,h4,e⟩:=uV hq
      have:=of_decide_eq_false (hk2 (j - ia') (by omega) (by omega))
      rw [show ia'+(j - ia')=j by omega,cu e] at this
      omega
     refine aG (fun hk0=>?_) (fun hk0=>?_)
     ·refine aG (fun h3=>?_) (fun h3=>aG (fun h4=>?_) (fun h4=>?_))
      ·exact wpS_pure ⟨S3,.inl ⟨_,rfl,I2.lastA Sb (by simpa using h3) hl⟩⟩
      ·exact wpS_pure ⟨S3,.inl ⟨_,rfl,I2.doneA Sb (by simpa using h4)⟩⟩
      have hi1:ia'+k+1 < a.size:=by
       have z1:¬ ia'+k+1=a.size:=by simpa using h3
       have z2:¬ ia'+k=a.size:=by simpa using h4
       omega
      have J:=I2
      have hg2:=hgt
      refine wpS_bind (aM (σ:=Unit) eb ?_)
      have J2:=J.pushB Sb eb hg2
      refine aG (fun h5=>?_) (fun h5=>?_)
      ·exact wpS_pure ⟨S3,.inl ⟨_,rfl,J2.doneB Sa (by simpa using h5)⟩⟩
      have h5':ib'+1 < b.size:=by
       have:¬ ib'+1=b.size:=by simpa using h5
       omega
      obtain ⟨pa,ea,ma⟩:=atA (Nat.lt_of_succ_lt hi1)
      refine wpS_bind (aM (σ:=Unit) ea ?_)
      refine wpS_bind (dJ (fun i=>decide (Kr rk b (ib'+1+i) < rk pa)) (by omega) (fun i R hi r=>iM L ma hb (by omega) kd3 (by simpa using r)) (fun i j hij hj hq=>decide_eq_true (Int.lt_of_le_of_lt (SKb _ _ (by omega) (by omega)) (of_decide_eq_true hq))) fun k1 hk1 hk11 hk12=>?_)
      dsimp only
      have J3:=J2.takeB Sb k1 (by omega) fun p hp q hq=>by
       obtain ⟨j,hj,e⟩:=qI hp
       have:=of_decide_eq_true (hk11 j hj)
       rw [cu e] at this
       exact Int.le_trans (Int.le_of_lt this) (fW Sa ea hq)
      have hle:∀ q∈b.toList.drop (ib'+1+k1),rk pa≤rk q:=fun q hq=>by
       obtain ⟨j,h3,h4,e⟩:=uV hq
       have:=of_decide_eq_false (hk12 (j - (ib'+1)) (by omega) (by omega))
       rw [show ib'+1+(j - (ib'+1))=j by omega,cu e] at this
       omega
      refine aG (fun hk10=>?_) (fun hk10=>?_)
      ·refine aG (fun h6=>?_) (fun h6=>?_)
       ·exact wpS_pure ⟨S3,.inl ⟨_,rfl,J3.doneB Sa (by simpa using h6)⟩⟩
       have h6':ib'+1+k1 < b.size:=by
        have:¬ ib'+1+k1=b.size:=by simpa using h6
        omega
       refine wpS_bind (aM (σ:=Unit) ea ?_)
       have J5:=J3.pushA Sa ea hle
       refine aG (fun h7=>?_) (fun h7=>?_)
       ·exact wpS_pure ⟨S3,.inl ⟨_,rfl,J5.lastA Sb (by simpa using h7) hl⟩⟩
       have h7':=by simpa using h7
       refine aG (fun _=>?_) (fun _=>?_)
       ·exact wpS_pure ⟨S3,.inr ⟨rfl,J5,h6',by dsimp only;omega,by dsimp only;omega⟩⟩
       ·exact wpS_pure ⟨S3,_,_,_,_,_,_,rfl,J5,h6',by omega,by omega⟩
      ·obtain rfl:k1=0:=by omega
       refine wpS_bind (aM (σ:=Unit) ea ?_)
       have J5:=J2.pushA Sa ea hle
       refine aG (fun h7=>?_) (fun h7=>?_)
       ·exact wpS_pure ⟨S3,.inl ⟨_,rfl,J5.lastA Sb (by simpa using h7) hl⟩⟩
       have h7':=by simpa using h7
       refine aG (fun _=>?_) (fun _=>?_)
       ·exact wpS_pure ⟨S3,.inr ⟨rfl,J5,h5',by dsimp only;omega,by dsimp only;omega⟩⟩
       ·exact wpS_pure ⟨S3,_,_,_,_,_,_,rfl,J5,h5',by omega,by omega⟩
     ·obtain rfl:k=0:=by omega
      have hi1:ia'+1 < a.size:=y2
      have J:=I'
      have hg2:∀ q∈a.toList.drop ia',rk pb≤rk q:=hgt
      refine wpS_bind (aM (σ:=Unit) eb ?_)
      have J2:=J.pushB Sb eb hg2
      refine aG (fun h5=>?_) (fun h5=>?_)
      ·exact wpS_pure ⟨S3,.inl ⟨_,rfl,J2.doneB Sa (by simpa using h5)⟩⟩
      have h5':ib'+1 < b.size:=by
       have:¬ ib'+1=b.size:=by simpa using h5
       omega
      obtain ⟨pa,ea,ma⟩:=atA (Nat.lt_of_succ_lt hi1)
      refine wpS_bind (aM (σ:=Unit) ea ?_)
      refine wpS_bind (dJ (fun i=>decide (Kr rk b (ib'+1+i) < rk pa)) (by omega) (fun i R hi r=>iM L ma hb (by omega) kd3 (by simpa using r)) (fun i j hij hj hq=>decide_eq_true (Int.lt_of_le_of_lt (SKb _ _ (by omega) (by omega)) (of_decide_eq_true hq))) fun k1 hk1 hk11 hk12=>?_)
      dsimp only
      have J3:=J2.takeB Sb k1 (by omega) fun p hp q hq=>by
       obtain ⟨j,hj,e⟩:=qI hp
       have:=of_decide_eq_true (hk11 j hj)
       rw [cu e] at this
       exact Int.le_trans (Int.le_of_lt this) (fW Sa ea hq)
      have hle:∀ q∈b.toList.drop (ib'+1+k1),rk pa≤rk q:=fun q hq=>by
       obtain ⟨j,h3,h4,e⟩:=uV hq
       have:=of_decide_eq_false (hk12 (j - (ib'+1)) (by omega) (by omega))
       rw [show ib'+1+(j - (ib'+1))=j by omega,cu e] at this
       omega
      refine aG (fun hk10=>?_) (fun hk10=>?_)
      ·refine aG (fun h6=>?_) (fun h6=>?_)
       ·exact wpS_pure ⟨S3,.inl ⟨_,rfl,J3.doneB Sa (by simpa using h6)⟩⟩
       have h6':ib'+1+k1 < b.size:=by
        have:¬ ib'+1+k1=b.size:=by simpa using h6
        omega
       refine wpS_bind (aM (σ:=Unit) ea ?_)
       have J5:=J3.pushA Sa ea hle
       refine aG (fun h7=>?_) (fun h7=>?_)
       ·exact wpS_pure ⟨S3,.inl ⟨_,rfl,J5.lastA Sb (by simpa using h7) hl⟩⟩
       have h7':=by simpa using h7
       refine aG (fun _=>?_) (fun _=>?_)
       ·exact wpS_pure ⟨S3,.inr ⟨rfl,J5,h6',by dsimp only;omega,by dsimp only;omega⟩⟩
       ·exact wpS_pure ⟨S3,_,_,_,_,_,_,rfl,J5,h6',by omega,by omega⟩
      ·obtain rfl:k1=0:=by omega
       refine wpS_bind (aM (σ:=Unit) ea ?_)
       have J5:=J2.pushA Sa ea hle
       refine aG (fun h7=>?_) (fun h7=>?_)
       ·exact wpS_pure ⟨S3,.inl ⟨_,rfl,J5.lastA Sb (by simpa using h7) hl⟩⟩
       have h7':=by simpa using h7
       refine aG (fun _=>?_) (fun _=>?_)
       ·exact wpS_pure ⟨S3,.inr ⟨rfl,J5,h5',by dsimp only;omega,by dsimp only;omega⟩⟩
       ·exact wpS_pure ⟨S3,_,_,_,_,_,_,rfl,J5,h5',by omega,by omega⟩
end
end L2
namespace L2
open PySem PySem.Spec PyProof.Rows
section
variable {M:Model} {A:Around} {E:Value→Shared→Prop} {s:Shared} {kd:SortKind} {rk:Keyed→Int} {a₀:Array Keyed}
structure MH (rk:Keyed→Int) (a b out:Array Keyed) (na nb:Nat):Prop where
 ha:na≤a.size
 hb:nb≤b.size
 so:lM rk out.toList.reverse
 le:∀ p∈a.toList.take na ++ b.toList.take nb,∀ q∈out.toList,rk p≤rk q
 pm:((a.toList.take na ++ b.toList.take nb) ++ out.toList.reverse).Perm (a.toList ++ b.toList)
theorem jD {α:Type} (l:List α) {i n:Nat} (h:i≤n):l.take n=l.take i ++ (l.drop i).take (n - i):=by
 rw [List.take_drop,show i+(n - i)=n by omega]
 conv=>lhs;rw [← List.take_append_drop i (l.take n)]
 rw [List.take_take,Nat.min_eq_left h]
theorem gq (a:Array Keyed) {i n:Nat} (h:i≤n):(a.extract i n).toList=(a.toList.drop i).take (n - i):=by
 rw [Array.toList_extract,List.extract_eq_drop_take]
theorem MH.takeA {a b out:Array Keyed} {na nb:Nat} (h:MH rk a b out na nb) (Sa:lM rk a.toList) (i:Nat) (hi:i≤na) (hc:∀ q∈(a.toList.drop i).take (na - i),∀ p∈b.toList.take nb,rk p≤rk q):MH rk a b (out ++ (a.extract i na).reverse) i nb:=by
 have e:=jD a.toList hi
 have Sd:lM rk (a.toList.take na):=Sa.sublist (List.take_sublist _ _)
 rw [e] at Sd
 obtain ⟨s1,s2,s3⟩:=List.pairwise_append.mp Sd
 have tl:(out ++ (a.extract i na).reverse).toList=out.toList ++ ((a.toList.drop i).take (na - i)).reverse:=by rw [Array.toList_append,Array.toList_reverse,gq a hi]
 have rl:(out ++ (a.extract i na).reverse).toList.reverse=(a.toList.drop i).take (na - i) ++ out.toList.reverse:=by rw [tl,List.reverse_append,List.reverse_reverse]
 refine ⟨by have:=h.ha;omega,h.hb,?_,?_,?_⟩
 ·rw [rl]
  exact List.pairwise_append.mpr ⟨s2,h.so,fun p hp q hq=>h.le p (List.mem_append_left _ (by rw [e];exact List.mem_append_right _ hp)) q (List.mem_reverse.mp hq)⟩
 ·rw [tl]
  intro p hp q hq
  rcases List.mem_append.mp hq with hq | hq
  ·refine h.le p ?_ q hq
   rcases List.mem_append.mp hp with hp | hp
   ·exact List.mem_append_left _ (by rw [e];exact List.mem_append_left _ hp)
   ·exact List.mem_append_right _ hp
  ·have hq:=List.mem_reverse.mp hq
   rcases List.mem_append.mp hp with hp | hp
   ·exact s3 p hp q hq
   ·exact hc q hq p hp
 ·rw [rl]
  refine List.Perm.trans ?_ h.pm
  conv=>rhs;rw [e]
  rw [← List.append_assoc]
  refine List.Perm.append_right _ ?_
  rw [List.append_assoc,List.append_assoc]
  exact List.Perm.append_left _ List.perm_append_comm
theorem MH.takeB {a b out:Array Keyed} {na nb:Nat} (h:MH rk a b out na nb) (Sb:lM rk b.toList) (i:Nat) (hi:i≤nb) (hc:∀ q∈(b.toList.drop i).take (nb - i),∀ p∈a.toList.take na,rk p≤rk q):MH rk a b (out ++ (b.extract i nb).reverse) na i:=by
 have e:=jD b.toList hi
 have Sd:lM rk (b.toList.take nb):=Sb.sublist (List.take_sublist _ _)
 rw [e] at Sd
 obtain ⟨s1,s2,s3⟩:=List.pairwise_append.mp Sd
 have tl:(out ++ (b.extract i nb).reverse).toList=out.toList ++ ((b.toList.drop i).take (nb - i)).reverse:=by rw [Array.toList_append,Array.toList_reverse,gq b hi]
 have rl:(out ++ (b.extract i nb).reverse).toList.reverse=(b.toList.drop i).take (nb - i) ++ out.toList.reverse:=by rw [tl,List.reverse_append,List.reverse_reverse]
 refine ⟨h.ha,by have:=h.hb;omega,?_,?_,?_⟩
 ·rw [rl]
  exact List.pairwise_append.mpr ⟨s2,h.so,fun p hp q hq=>h.le p (List.mem_append_right _ (by rw [e];exact List.mem_append_right _ hp)) q (List.mem_reverse.mp hq)⟩
 ·rw [tl]
  intro p hp q hq
  rcases List.mem_append.mp hq with hq | hq
  ·refine h.le p ?_ q hq
   rcases List.mem_append.mp hp with hp | hp
   ·exact List.mem_append_left _ hp
   ·exact List.mem_append_right _ (by rw [e];exact List.mem_append_left _ hp)
  ·have hq:=List.mem_reverse.mp hq
   rcases List.mem_append.mp hp with hp | hp
   ·exact hc q hq p hp
   ·exact s3 p hp q hq
 ·rw [rl]
  refine List.Perm.trans (List.Perm.of_eq ?_) h.pm
  conv=>rhs;rw [e]
  simp only [List.append_assoc]
theorem wI {out a:Array Keyed} {n:Nat} {p:Keyed} (hn:1≤n) (h:a[n - 1]?=some p):out.push p=out ++ (a.extract (n - 1) n).reverse:=by
 rw [rR h,show n - 1+1=n by omega]
 congr 1
 apply Array.ext'
 rw [Array.toList_reverse,gq a (by omega),show n - (n - 1)=1 by omega]
 obtain ⟨hi,e⟩:=Array.getElem?_eq_some_iff.mp h
 rw [List.drop_eq_getElem_cons (by simpa using hi)]
 simp
theorem nU {a:Array Keyed} {n:Nat} {p q:Keyed} (Sa:lM rk a.toList) (hn:1≤n) (h:a[n - 1]?=some p) (hq:q∈a.toList.take n):rk q≤rk p:=by
 obtain ⟨hi,e⟩:=Array.getElem?_eq_some_iff.mp h
 obtain ⟨k,hk,ek⟩:=List.mem_iff_getElem.mp hq
 have hk':k < n∧k < a.size:=by simp at hk;omega
 have hqk:a[k]?=some q:=by rw [getElem?_pos a k hk'.2,← ek];simp
 refine fW Sa hqk ?_
 rw [← e]
 exact List.mem_iff_getElem.mpr ⟨n - 1 - k,by simp;omega,by simp [show k+(n - 1 - k)=n - 1 by omega]⟩
theorem MH.pushA {a b out:Array Keyed} {na nb:Nat} {p:Keyed} (h:MH rk a b out na nb) (Sa:lM rk a.toList) (hn:1≤na) (e:a[na - 1]?=some p) (hc:∀ q∈b.toList.take nb,rk q≤rk p):MH rk a b (out.push p) (na - 1) nb:=by
 rw [wI hn e]
 refine h.takeA Sa (na - 1) (by omega) fun q hq r hr=>?_
 rw [show na - (na - 1)=1 by omega] at hq
 rw [take1 e hq];exact hc r hr
theorem MH.pushB {a b out:Array Keyed} {na nb:Nat} {p:Keyed} (h:MH rk a b out na nb) (Sb:lM rk b.toList) (hn:1≤nb) (e:b[nb - 1]?=some p) (hc:∀ q∈a.toList.take na,rk q≤rk p):MH rk a b (out.push p) na (nb - 1):=by
 rw [wI hn e]
 refine h.takeB Sb (nb - 1) (by omega) fun q hq r hr=>?_
 rw [show nb - (nb - 1)=1 by omega] at hq
 rw [take1 e hq];exact hc r hr
theorem Bs (a:Array Keyed) (n:Nat):(a.extract 0 n).toList=a.toList.take n:=by
 rw [gq a (Nat.zero_le n),List.drop_zero,Nat.sub_zero]
theorem MH.doneA {a b out:Array Keyed} {na nb:Nat} (h:MH rk a b out na nb) (Sb:lM rk b.toList) (e:na=0):Res rk a b (a.extract 0 na ++ b.extract 0 nb ++ out.reverse):=by
 unfold Res
 rw [Array.toList_append,Array.toList_append,Bs,Bs,Array.toList_reverse]
 refine ⟨?_,h.pm⟩
 have:a.toList.take na=[]:=by rw [e];rfl
 rw [this,List.nil_append]
 exact List.pairwise_append.mpr ⟨Sb.sublist (List.take_sublist _ _),h.so,fun p hp q hq=>h.le p (List.mem_append_right _ hp) q (List.mem_reverse.mp hq)⟩
theorem MH.doneB {a b out:Array Keyed} {na nb:Nat} (h:MH rk a b out na nb) (Sa:lM rk a.toList) (e:nb=0):Res rk a b (a.extract 0 na ++ b.extract 0 nb ++ out.reverse):=by
 unfold Res
 rw [Array.toList_append,Array.toList_append,Bs,Bs,Array.toList_reverse]
 refine ⟨?_,h.pm⟩
 have:b.toList.take nb=[]:=by rw [e];rfl
 rw [this,List.append_nil]
 exact List.pairwise_append.mpr ⟨Sa.sublist (List.take_sublist _ _),h.so,fun p hp q hq=>h.le p (List.mem_append_left _ hp) q (List.mem_reverse.mp hq)⟩
theorem MH.firstB {a b out:Array Keyed} {na nb:Nat} (h:MH rk a b out na nb) (Sa:lM rk a.toList) (e:nb=1) (hf:∀ p,b[0]?=some p→∀ q∈a.toList,rk p≤rk q):Res rk a b (b.extract 0 nb ++ a.extract 0 na ++ out.reverse):=by
 unfold Res
 rw [Array.toList_append,Array.toList_append,Bs,Bs,Array.toList_reverse]
 have hi:0 < b.size:=by have:=h.hb;omega
 have eb:b.toList.take nb=[b[0]]:=by
  rw [e]
  have:=List.drop_eq_getElem_cons (l:=b.toList) (i:=0) (by simpa using hi)
  rw [List.drop_zero] at this
  rw [this];simp
 refine ⟨?_,(List.Perm.append_right _ List.perm_append_comm).trans h.pm⟩
 refine List.pairwise_append.mpr ⟨List.pairwise_append.mpr ⟨by rw [eb];exact List.pairwise_singleton _ _,Sa.sublist (List.take_sublist _ _),fun p hp q hq=>?_⟩,h.so,fun p hp q hq=>h.le p ?_ q (List.mem_reverse.mp hq)⟩
 ·rw [eb] at hp
  rw [List.mem_singleton.mp hp]
  exact hf _ (getElem?_pos b 0 hi) q (List.mem_of_mem_take hq)
 ·rcases List.mem_append.mp hp with hp | hp
  ·exact List.mem_append_right _ hp
  ·exact List.mem_append_left _ hp
theorem iT {a:Array Keyed} {i k:Nat} {q:Keyed} (hq:q∈(a.toList.drop i).take k):∃ j,i≤j∧j < i+k∧a[j]?=some q:=by
 obtain ⟨j,hj,e⟩:=qI hq
 exact ⟨i+j,by omega,by omega,e⟩
theorem yh {a:Array Keyed} {n:Nat} {q:Keyed} (hq:q∈a.toList.take n):∃ j,j < n∧a[j]?=some q:=by
 obtain ⟨k,hk,e⟩:=List.mem_iff_getElem.mp hq
 have hk':k < n∧k < a.size:=by simp at hk;omega
 exact ⟨k,hk'.1,by rw [getElem?_pos a k hk'.2,← e];simp⟩
def GoH (rk:Keyed→Int) (a b:Array Keyed) (n:Nat) (r:Option (Array Keyed)) (na nb:Nat) (out:Array Keyed):Prop:=(∃ x,r=some x∧Res rk a b x)∨(r=none∧MH rk a b out na nb∧1≤na∧2≤nb∧n+na+nb≤a.size+b.size)
theorem wJ {a b:Array Keyed} {st:SortSt} {Q:Array Keyed→SortSt→Prop} (L:nP M A E s kd rk a₀) (ha:∀ p∈a.toList,p∈a₀.toList) (hb:∀ p∈b.toList,p∈a₀.toList) (Sa:lM rk a.toList) (Sb:lM rk b.toList)
  (n1:1≤a.size) (n2:1≤b.size) (hf:∀ p,b[0]?=some p→∀ q∈a.toList,rk p≤rk q) (hl:∀ p,a[a.size - 1]?=some p→∀ q∈b.toList,rk q≤rk p) (kind:kindOf st=kd)
  (h:∀ r st',Sm st st'→Res rk a b r→Q r st'):wpS M A E s (Ft a b) Q st:=by
 have atA:∀ {i:Nat},i < a.size→∃ p,a[i]?=some p∧p∈a₀.toList:=fun {i} hi=>⟨a[i],getElem?_pos a i hi,ha _ (by simp)⟩
 have atB:∀ {i:Nat},i < b.size→∃ p,b[i]?=some p∧p∈a₀.toList:=fun {i} hi=>⟨b[i],getElem?_pos b i hi,hb _ (by simp)⟩
 have KA:∀ {i:Nat} {p:Keyed},a[i]?=some p→Kr rk a i=rk p:=fun e=>cu e
 have SKa:∀ i j,i≤j→j < a.size→Kr rk a i≤Kr rk a j:=fun i j hij hj=>by
  obtain ⟨p,ep,_⟩:=atA (show i < a.size by omega)
  obtain ⟨q,eq,_⟩:=atA hj
  rw [cu ep,cu eq]
  refine fW Sa ep ?_
  obtain ⟨hq,e⟩:=Array.getElem?_eq_some_iff.mp eq
  rw [← e]
  exact List.mem_iff_getElem.mpr ⟨j - i,by simp;omega,by simp [show i+(j - i)=j by omega]⟩
 have SKb:∀ i j,i≤j→j < b.size→Kr rk b i≤Kr rk b j:=fun i j hij hj=>by
  obtain ⟨p,ep,_⟩:=atB (show i < b.size by omega)
  obtain ⟨q,eq,_⟩:=atB hj
  rw [cu ep,cu eq]
  refine fW Sb ep ?_
  obtain ⟨hq,e⟩:=Array.getElem?_eq_some_iff.mp eq
  rw [← e]
  exact List.mem_iff_getElem.mpr ⟨j - i,by simp;omega,by simp [show i+(j - i)=j by omega]⟩
 refine wpS_bind (wpS_lift (wpAny_rule ⟨rfl,?_⟩))
 dsimp only
 obtain ⟨p0,e0,m0⟩:=atA (i:=a.size - 1) (by omega)
 refine wpS_bind (aM (σ:=Unit) e0 ?_)
 have I0:MH rk a b #[p0] (a.size - 1) b.size:=by
  have Z:MH rk a b #[] a.size b.size:=⟨Nat.le_refl _,Nat.le_refl _,List.Pairwise.nil,fun p _ q hq=>by simp at hq,by
   rw [List.take_of_length_le (by simp),List.take_of_length_le (by simp)];simp⟩
  exact Z.pushA Sa n1 e0 fun q hq=>hl p0 e0 q (List.mem_of_mem_take hq)
 by_cases h1:a.size - 1=0
 ·rw [if_pos (by simpa using h1)]
  exact wpS_pure (h _ _ (Sm.refl _) (I0.doneA Sb h1))
 rw [if_neg (by simpa using h1)]
 by_cases h2:b.size=1
 ·rw [if_pos (by simpa using h2)]
  exact wpS_pure (h _ _ (Sm.refl _) (I0.firstB Sa h2 hf))
 rw [if_neg (by simpa using h2)]
 refine wpS_bind (wpS_get ?_)
 refine wpS_bind (wpS_mono (wpS_forRange (I:=fun x c st'=>Sm st st'∧∃ na nb out mg,c=(none,na,nb,out,mg)∧MH rk a b out na nb∧1≤na∧2≤nb∧x+1+na+nb≤a.size+b.size)
   (Q:=fun c st'=>Sm st st'∧∃ r,c.1=some r∧Res rk a b r) ?step ?fin ⟨Sm.refl _,_,_,_,_,rfl,I0,by omega,by omega,by omega⟩) ?post)
 case fin=>
  rintro c st' ⟨_,na,nb,out,mg,rfl,I,x1,x2,x3⟩
  exact absurd x3 (by omega)
 case post=>
  rintro ⟨r0,c⟩ st' ⟨S,r,rfl,hr⟩
  exact wpS_pure (h r st' S hr)
 case step=>
  rintro x c st1 _ hx ⟨S1,na,nb,out,mg,rfl,I,x1,x2,x3⟩
  dsimp only
  have kd1:kindOf st1=kd:=S1.kind.trans kind
  refine wpS_bind (wpS_mono (wpS_forRange (I:=fun y c st'=>st'=st1∧∃ na' nb' out' ac bc,c=(none,na',nb',out',ac,bc)∧MH rk a b out' na' nb'∧1≤na'∧2≤nb'∧x+1+y+na'+nb'≤a.size+b.size)
   (Q:=fun c st'=>st'=st1∧GoH rk a b (x+2) c.1 c.2.1 c.2.2.1 c.2.2.2.1) ?istep ?ifin ⟨rfl,_,_,_,_,_,rfl,I,x1,x2,by omega⟩) ?ipost)
  case ifin=>
   rintro c st' ⟨rfl,na',nb',out',ac,bc,rfl,I',y1,y2,y3⟩
   exact ⟨rfl,.inr ⟨rfl,I',y1,y2,by dsimp only;omega⟩⟩
  case istep=>
   rintro y c st' _ hy ⟨rfl,na',nb',out',ac,bc,rfl,I',y1,y2,y3⟩
   dsimp only
   obtain ⟨pb,eb,mb⟩:=atB (i:=nb' - 1) (by have:=I'.hb;omega)
   obtain ⟨pa,ea,ma⟩:=atA (i:=na' - 1) (by have:=I'.ha;omega)
   refine wpS_bind (aM (σ:=Unit) eb (wpS_bind (aM (σ:=Unit) ea (wpS_bind (L _ _ _ _ mb ma kd1 ?_)))))
   dsimp only
   refine aG (fun hw=>?_) (fun hw=>?_)
   ·have hw:=of_decide_eq_true hw
    refine wpS_bind (aM (σ:=Unit) ea ?_)
    have I2:=I'.pushA Sa y1 ea fun q hq=>Int.le_trans (nU Sb (by omega) eb hq) (by omega)
    refine aG (fun h3=>?_) (fun h3=>?_)
    ·exact wpS_pure ⟨rfl,.inl ⟨_,rfl,I2.doneA Sb (by simpa using h3)⟩⟩
    have h3':¬ na' - 1=0:=by simpa using h3
    refine aG (fun _=>?_) (fun _=>?_)
    ·exact wpS_pure ⟨rfl,.inr ⟨rfl,I2,by dsimp only;omega,by dsimp only;omega,by dsimp only;omega⟩⟩
    ·exact wpS_pure ⟨rfl,_,_,_,_,_,rfl,I2,by omega,by omega,by omega⟩
   ·have hw:¬ rk pb < rk pa:=fun z=>hw (decide_eq_true z)
    refine wpS_bind (aM (σ:=Unit) eb ?_)
    have I2:=I'.pushB Sb (by omega) eb fun q hq=>Int.le_trans (nU Sa y1 ea hq) (by omega)
    refine aG (fun h3=>?_) (fun h3=>?_)
    ·exact wpS_pure ⟨rfl,.inl ⟨_,rfl,I2.firstB Sa (by simpa using h3) hf⟩⟩
    have h3':¬ nb' - 1=1:=by simpa using h3
    refine aG (fun _=>?_) (fun _=>?_)
    ·exact wpS_pure ⟨rfl,.inr ⟨rfl,I2,by dsimp only;omega,by dsimp only;omega,by dsimp only;omega⟩⟩
    ·exact wpS_pure ⟨rfl,_,_,_,_,_,rfl,I2,by omega,by omega,by omega⟩
  case ipost=>
   rintro ⟨r0,na1,nb1,out1,ac1,bc1⟩ st' ⟨rfl,G⟩
   dsimp only at G ⊢
   rcases G with ⟨r,rfl,hr⟩ | ⟨rfl,I1,y1,y2,y3⟩
   ·exact wpS_pure ⟨S1,r,rfl,hr⟩
   dsimp only
   refine wpS_bind (wpS_lift (wpAny_rule ⟨rfl,?_⟩))
   refine wpS_bind (wpS_mono (wpS_forRange (I:=fun y c st'=>Sm st st'∧∃ na' nb' out' mg ac bc,c=(none,na',nb',out',mg,ac,bc)∧MH rk a b out' na' nb'∧1≤na'∧2≤nb'∧x+2+na'+nb'≤a.size+b.size)
    (Q:=fun c st'=>Sm st st'∧GoH rk a b (x+2) c.1 c.2.1 c.2.2.1 c.2.2.2.1) ?gstep ?gfin ⟨S1,_,_,_,_,_,_,rfl,I1,y1,y2,y3⟩) ?gpost)
   case gfin=>
    rintro c st' ⟨S2,na',nb',out',mg',ac,bc,rfl,I',y1,y2,y3⟩
    exact ⟨S2,.inr ⟨rfl,I',y1,y2,y3⟩⟩
   case gpost=>
    rintro ⟨r0,na1,nb1,out1,mg1,ac1,bc1⟩ st' ⟨S2,G⟩
    dsimp only at G ⊢
    rcases G with ⟨r,rfl,hr⟩ | ⟨rfl,I1,y1,y2,y3⟩
    ·exact wpS_pure ⟨S2,r,rfl,hr⟩
    dsimp only
    refine wpS_bind (nR S2 fun st2 S3=>?_)
    exact wpS_pure ⟨S3,_,_,_,_,rfl,I1,y1,y2,by omega⟩
   case gstep=>
    rintro y c st' _ hy ⟨S2,na',nb',out',mg',ac,bc,rfl,I',y1,y2,y3⟩
    dsimp only
    obtain ⟨pb,eb,mb⟩:=atB (i:=nb' - 1) (by have:=I'.hb;omega)
    have hna:=I'.ha
    have hnb:=I'.hb
    refine aG (fun _=>?_) (fun _=>?_)
    all_goals
     refine wpS_bind (nR S2 fun st3 S3=>?_)
     have kd3:kindOf st3=kd:=S3.kind.trans kind
     refine wpS_bind (aM (σ:=Unit) eb ?_)
     refine wpS_bind (dJ (fun i=>decide (Kr rk a (0+i)≤rk pb)) (by omega) (fun i R hi r=>iM L mb ha (by omega) kd3 (by simpa using r)) (fun i j hij hj hq=>decide_eq_true (Int.le_trans (SKa _ _ (by omega) (by omega)) (of_decide_eq_true hq))) fun k hk hk1 hk2=>?_)
     dsimp only
     have I2:=I'.takeA Sa k (by omega) fun q hq p hp=>by
      obtain ⟨j,h3,h4,e⟩:=iT hq
      have:=of_decide_eq_false (hk2 j (by omega) (by omega))
      rw [Nat.zero_add,cu e] at this
      exact Int.le_trans (nU Sb (by omega) eb hp) (by omega)
     have hgt:∀ q∈a.toList.take k,rk q≤rk pb:=fun q hq=>by
      obtain ⟨j,h3,e⟩:=yh hq
      have:=of_decide_eq_true (hk1 j h3)
      rw [Nat.zero_add,cu e] at this
      exact this
     refine aG (fun hk0=>?_) (fun hk0=>?_)
     ·refine aG (fun h3=>?_) (fun h3=>?_)
      ·exact wpS_pure ⟨S3,.inl ⟨_,rfl,I2.doneA Sb (by simpa using h3)⟩⟩
      have h3':¬ k=0:=by simpa using h3
      have hi1:1≤k:=by omega
      have J:=I2
      have hg2:=hgt
      refine wpS_bind (aM (σ:=Unit) eb ?_)
      have J2:=J.pushB Sb (by omega) eb hg2
      refine aG (fun h5=>?_) (fun h5=>?_)
      ·exact wpS_pure ⟨S3,.inl ⟨_,rfl,J2.firstB Sa (by simpa using h5) hf⟩⟩
      have h5':¬ nb' - 1=1:=by simpa using h5
      obtain ⟨pa,ea,ma⟩:=atA (i:=k - 1) (by have:=J.ha;omega)
      refine wpS_bind (aM (σ:=Unit) ea ?_)
      refine wpS_bind (dJ (fun i=>decide (Kr rk b (0+i) < rk pa)) (by omega) (fun i R hi r=>iM L ma hb (by omega) kd3 (by simpa using r)) (fun i j hij hj hq=>decide_eq_true (Int.lt_of_le_of_lt (SKb _ _ (by omega) (by omega)) (of_decide_eq_true hq))) fun k1 hk1 hk11 hk12=>?_)
      dsimp only
      have J3:=J2.takeB Sb k1 (by omega) fun q hq p hp=>by
       obtain ⟨j,h3,h4,e⟩:=iT hq
       have:=of_decide_eq_false (hk12 j (by omega) (by omega))
       rw [Nat.zero_add,cu e] at this
       exact Int.le_trans (nU Sa hi1 ea hp) (by omega)
      have hle:∀ q∈b.toList.take k1,rk q≤rk pa:=fun q hq=>by
       obtain ⟨j,h3,e⟩:=yh hq
       have:=of_decide_eq_true (hk11 j h3)
       rw [Nat.zero_add,cu e] at this
       omega
      refine aG (fun hk10=>?_) (fun hk10=>?_)
      ·refine aG (fun h6=>?_) (fun h6=>aG (fun h8=>?_) (fun h8=>?_))
       ·exact wpS_pure ⟨S3,.inl ⟨_,rfl,J3.firstB Sa (by simpa using h6) hf⟩⟩
       ·exact wpS_pure ⟨S3,.inl ⟨_,rfl,J3.doneB Sa (by simpa using h8)⟩⟩
       have h6':¬ k1=1:=by simpa using h6
       have h8':¬ k1=0:=by simpa using h8
       refine wpS_bind (aM (σ:=Unit) ea ?_)
       have J5:=J3.pushA Sa hi1 ea hle
       refine aG (fun h7=>?_) (fun h7=>?_)
       ·exact wpS_pure ⟨S3,.inl ⟨_,rfl,J5.doneA Sb (by simpa using h7)⟩⟩
       have h7':¬ k - 1=0:=by simpa using h7
       refine aG (fun _=>?_) (fun _=>?_)
       ·exact wpS_pure ⟨S3,.inr ⟨rfl,J5,by dsimp only;omega,by dsimp only;omega,by dsimp only;omega⟩⟩
       ·exact wpS_pure ⟨S3,_,_,_,_,_,_,rfl,J5,by omega,by omega,by omega⟩
      ·obtain rfl:k1=nb' - 1:=by omega
       refine wpS_bind (aM (σ:=Unit) ea ?_)
       have J5:=J2.pushA Sa hi1 ea hle
       refine aG (fun h7=>?_) (fun h7=>?_)
       ·exact wpS_pure ⟨S3,.inl ⟨_,rfl,J5.doneA Sb (by simpa using h7)⟩⟩
       have h7':¬ k - 1=0:=by simpa using h7
       refine aG (fun _=>?_) (fun _=>?_)
       ·exact wpS_pure ⟨S3,.inr ⟨rfl,J5,by dsimp only;omega,by dsimp only;omega,by dsimp only;omega⟩⟩
       ·exact wpS_pure ⟨S3,_,_,_,_,_,_,rfl,J5,by omega,by omega,by omega⟩
     ·obtain rfl:k=na':=by omega
      have hi1:1≤k:=y1
      have J:=I'
      have hg2:=hgt
      refine wpS_bind (aM (σ:=Unit) eb ?_)
      have J2:=J.pushB Sb (by omega) eb hg2
      refine aG (fun h5=>?_) (fun h5=>?_)
      ·exact wpS_pure ⟨S3,.inl ⟨_,rfl,J2.firstB Sa (by simpa using h5) hf⟩⟩
      have h5':¬ nb' - 1=1:=by simpa using h5
      obtain ⟨pa,ea,ma⟩:=atA (i:=k - 1) (by have:=J.ha;omega)
      refine wpS_bind (aM (σ:=Unit) ea ?_)
      refine wpS_bind (dJ (fun i=>decide (Kr rk b (0+i) < rk pa)) (by omega) (fun i R hi r=>iM L ma hb (by omega) kd3 (by simpa using r)) (fun i j hij hj hq=>decide_eq_true (Int.lt_of_le_of_lt (SKb _ _ (by omega) (by omega)) (of_decide_eq_true hq))) fun k1 hk1 hk11 hk12=>?_)
      dsimp only
      have J3:=J2.takeB Sb k1 (by omega) fun q hq p hp=>by
       obtain ⟨j,h3,h4,e⟩:=iT hq
       have:=of_decide_eq_false (hk12 j (by omega) (by omega))
       rw [Nat.zero_add,cu e] at this
       exact Int.le_trans (nU Sa hi1 ea hp) (by omega)
      have hle:∀ q∈b.toList.take k1,rk q≤rk pa:=fun q hq=>by
       obtain ⟨j,h3,e⟩:=yh hq
       have:=of_decide_eq_true (hk11 j h3)
       rw [Nat.zero_add,cu e] at this
       omega
      refine aG (fun hk10=>?_) (fun hk10=>?_)
      ·refine aG (fun h6=>?_) (fun h6=>aG (fun h8=>?_) (fun h8=>?_))
       ·exact wpS_pure ⟨S3,.inl ⟨_,rfl,J3.firstB Sa (by simpa using h6) hf⟩⟩
       ·exact wpS_pure ⟨S3,.inl ⟨_,rfl,J3.doneB Sa (by simpa using h8)⟩⟩
       have h6':¬ k1=1:=by simpa using h6
       have h8':¬ k1=0:=by simpa using h8
       refine wpS_bind (aM (σ:=Unit) ea ?_)
       have J5:=J3.pushA Sa hi1 ea hle
       refine aG (fun h7=>?_) (fun h7=>?_)
       ·exact wpS_pure ⟨S3,.inl ⟨_,rfl,J5.doneA Sb (by simpa using h7)⟩⟩
       have h7':¬ k - 1=0:=by simpa using h7
       refine aG (fun _=>?_) (fun _=>?_)
       ·exact wpS_pure ⟨S3,.inr ⟨rfl,J5,by dsimp only;omega,by dsimp only;omega,by dsimp only;omega⟩⟩
       ·exact wpS_pure ⟨S3,_,_,_,_,_,_,rfl,J5,by omega,by omega,by omega⟩
      ·obtain rfl:k1=nb' - 1:=by omega
       refine wpS_bind (aM (σ:=Unit) ea ?_)
       have J5:=J2.pushA Sa hi1 ea hle
       refine aG (fun h7=>?_) (fun h7=>?_)
       ·exact wpS_pure ⟨S3,.inl ⟨_,rfl,J5.doneA Sb (by simpa using h7)⟩⟩
       have h7':¬ k - 1=0:=by simpa using h7
       refine aG (fun _=>?_) (fun _=>?_)
       ·exact wpS_pure ⟨S3,.inr ⟨rfl,J5,by dsimp only;omega,by dsimp only;omega,by dsimp only;omega⟩⟩
       ·exact wpS_pure ⟨S3,_,_,_,_,_,_,rfl,J5,by omega,by omega,by omega⟩
end
end L2
namespace L2
open PySem PySem.Spec PyProof.Rows
section
variable {M:Model} {A:Around} {E:Value→Shared→Prop} {s:Shared} {kd:SortKind} {rk:Keyed→Int} {a₀:Array Keyed}
theorem qJ (xs:Array Keyed) (i:Nat):Kr rk xs i=match xs.toList[i]? with | some p=>rk p | none=>0:=by
 unfold Kr
 rw [Array.getElem?_toList]
 all_goals (cases xs[i]? <;> rfl)
theorem rT {xs:Array Keyed} {lo hi:Nat} (h:Seg rk xs lo hi):lM rk ((xs.toList.drop lo).take (hi - lo)):=by
 refine List.pairwise_iff_getElem.mpr fun i j hi' hj hij=>?_
 have hj2:j < hi - lo∧lo+j < xs.size:=by simp at hj;omega
 have:=h (lo+i) (lo+j) (by omega) (by omega) (by omega)
 rw [cu (getElem?_pos xs (lo+i) (by omega)),cu (getElem?_pos xs (lo+j) hj2.2)] at this
 simpa using this
theorem Ow {xs:Array Keyed} {P S D:List Keyed} (e:xs.toList=P ++ S ++ D) (h:lM rk S):Seg rk xs P.length (P.length+S.length):=by
 intro i j h1 h2 h3
 have at_:∀ k,P.length≤k→k < P.length+S.length→xs.toList[k]?=S[k - P.length]?:=fun k a b=>by
  rw [e,List.append_assoc,List.getElem?_append_right a,List.getElem?_append_left (by omega)]
 have hi:i - P.length < S.length:=by omega
 have hj:j - P.length < S.length:=by omega
 rw [qJ,qJ,at_ i h1 (by omega),at_ j (by omega) h3,List.getElem?_eq_getElem hi,List.getElem?_eq_getElem hj]
 show rk _≤rk _
 by_cases hij:i=j
 ·subst hij;exact Int.le_refl _
 ·exact List.pairwise_iff_getElem.mp h _ _ hi hj (by omega)
theorem Fv:∀ (l:List Keyed) (off n:Nat) (xs:Array Keyed),off+n+l.length≤xs.size→∀ k,((l.zipIdx n).foldl (fun a (x:Keyed×Nat)=>a.setIfInBounds (off+x.2) x.1) xs)[k]?=if off+n≤k∧k < off+n+l.length then l[k - (off+n)]? else xs[k]?
 | [],off,n,xs,h,k=>by
  rw [if_neg (by rw [List.length_nil];omega)]
  rfl
 | p :: l,off,n,xs,h,k=>by
  have hl:(p :: l).length=l.length+1:=rfl
  show ((l.zipIdx (n+1)).foldl (fun a (x:Keyed×Nat)=>a.setIfInBounds (off+x.2) x.1) (xs.setIfInBounds (off+n) p))[k]?=_
  rw [Fv l off (n+1) (xs.setIfInBounds (off+n) p) (by rw [Array.size_setIfInBounds];omega)]
  by_cases h1:k=off+n
  ·subst h1
   rw [if_neg (by omega),if_pos (by omega),Array.getElem?_setIfInBounds,if_pos rfl,if_pos (by omega),Nat.sub_self];rfl
  ·by_cases h2:off+(n+1)≤k∧k < off+(n+1)+l.length
   ·rw [if_pos h2,if_pos (by omega),show k - (off+n)=(k - (off+(n+1)))+1 by omega,List.getElem?_cons_succ]
   ·rw [if_neg h2,if_neg (by omega),Array.getElem?_setIfInBounds,if_neg (by omega)]
theorem Fw (l:List Keyed) (off:Nat) (xs:Array Keyed) (h:off+l.length≤xs.size):(l.zipIdx.foldl (fun a (x:Keyed×Nat)=>a.setIfInBounds (off+x.2) x.1) xs).toList=xs.toList.take off ++ l ++ xs.toList.drop (off+l.length):=by
 refine List.ext_getElem? fun k=>?_
 rw [Array.getElem?_toList,Fv l off 0 xs (by omega) k]
 have t1:(xs.toList.take off).length=off:=by rw [List.length_take,Array.length_toList];omega
 rw [List.append_assoc]
 by_cases h1:k < off
 ·rw [if_neg (by omega),List.getElem?_append_left (by omega),List.getElem?_take_of_lt h1,Array.getElem?_toList]
 ·rw [List.getElem?_append_right (by omega),t1]
  by_cases h2:k < off+l.length
  ·rw [if_pos ⟨by omega,by omega⟩,List.getElem?_append_left (by omega),Nat.add_zero]
  ·rw [if_neg (by omega),List.getElem?_append_right (by omega),List.getElem?_drop,show off+l.length+(k - off - l.length)=k by omega,Array.getElem?_toList]
theorem zx {xs:Array Keyed} {sa na nb:Nat} (g1:Seg rk xs sa (sa+na)) (g2:Seg rk xs (sa+na) (sa+na+nb)) (n2:1≤nb) (h:∀ i,sa≤i→i < sa+na→Kr rk xs i≤Kr rk xs (sa+na)):Seg rk xs sa (sa+na+nb):=fun i j h1 h2 h3=>by
 by_cases a:j < sa+na
 ·exact g1 i j h1 h2 a
 ·by_cases b:i < sa+na
  ·exact Int.le_trans (h i h1 b) (g2 _ _ (Nat.le_refl _) (by omega) h3)
  ·exact g2 i j (by omega) h2 h3
theorem Bt {xs m:Array Keyed} {sa na nb k n':Nat} (hsz:sa+na+nb≤xs.size) (g1:Seg rk xs sa (sa+na)) (g2:Seg rk xs (sa+na) (sa+na+nb)) (hk:k < na) (hn:n'≤nb) (n2:1≤nb)
  (hA:∀ i,i < k→Kr rk xs (sa+i)≤Kr rk xs (sa+na)) (hX:∀ i,k≤i→i < na→Kr rk xs (sa+na) < Kr rk xs (sa+i)) (hB2:∀ i,n'≤i→i < nb→Kr rk xs (sa+na - 1)≤Kr rk xs (sa+na+i))
  (hm:Res rk (xs.extract (sa+k) (sa+na)) (xs.extract (sa+na) (sa+na+n')) m):
  (m.toList.zipIdx.foldl (fun a (x:Keyed×Nat)=>a.setIfInBounds (sa+k+x.2) x.1) xs).Perm xs∧Seg rk (m.toList.zipIdx.foldl (fun a (x:Keyed×Nat)=>a.setIfInBounds (sa+k+x.2) x.1) xs) sa (sa+na+nb)∧
  ∀ i,i < sa∨sa+na+nb≤i→Kr rk (m.toList.zipIdx.foldl (fun a (x:Keyed×Nat)=>a.setIfInBounds (sa+k+x.2) x.1) xs) i=Kr rk xs i:=by
 obtain ⟨hm1,hm2⟩:=hm
 rw [gq xs (by omega),gq xs (by omega),show sa+na - (sa+k)=na - k by omega,show sa+na+n' - (sa+na)=n' by omega] at hm2
 have lt:xs.toList.length=xs.size:=by simp
 have lm:m.toList.length=na - k+n':=by
  rw [hm2.length_eq,List.length_append,List.length_take,List.length_take,List.length_drop,List.length_drop,lt];omega
 have e:=Fw m.toList (sa+k) xs (by omega)
 rw [lm,show sa+k+(na - k+n')=sa+na+n' by omega] at e
 generalize m.toList.zipIdx.foldl (fun a (x:Keyed×Nat)=>a.setIfInBounds (sa+k+x.2) x.1) xs=W at e ⊢
 have t0:xs.toList.take (sa+k)=xs.toList.take sa ++ (xs.toList.drop sa).take k:=by
  have:=jD xs.toList (i:=sa) (n:=sa+k) (by omega)
  rwa [show sa+k - sa=k by omega] at this
 have t1:xs.toList.take (sa+na)=xs.toList.take (sa+k) ++ (xs.toList.drop (sa+k)).take (na - k):=by
  have:=jD xs.toList (i:=sa+k) (n:=sa+na) (by omega)
  rwa [show sa+na - (sa+k)=na - k by omega] at this
 have t2:xs.toList.drop (sa+na)=(xs.toList.drop (sa+na)).take n' ++ xs.toList.drop (sa+na+n'):=jC _ _ _
 have t3:xs.toList.drop (sa+na+n')=(xs.toList.drop (sa+na+n')).take (nb - n') ++ xs.toList.drop (sa+na+nb):=by
  have:=jC xs.toList (sa+na+n') (nb - n')
  rwa [show sa+na+n'+(nb - n')=sa+na+nb by omega] at this
 have eW:W.toList=xs.toList.take sa ++ ((xs.toList.drop sa).take k ++ m.toList ++ (xs.toList.drop (sa+na+n')).take (nb - n')) ++ xs.toList.drop (sa+na+nb):=by
  rw [e,t0]
  conv=>lhs;rw [t3]
  simp only [List.append_assoc]
 have lP:(xs.toList.take sa).length=sa:=by rw [List.length_take,lt];omega
 have lS:((xs.toList.drop sa).take k ++ m.toList ++ (xs.toList.drop (sa+na+n')).take (nb - n')).length=na+nb:=by
  rw [List.length_append,List.length_append,lm,List.length_take,List.length_take,List.length_drop,List.length_drop,lt];omega
 have kr:∀ {i:Nat} {p:Keyed},xs[i]?=some p→Kr rk xs i=rk p:=fun e=>cu e
 have memM:∀ {q:Keyed},q∈m.toList→(∃ i,k≤i∧i < na∧xs[sa+i]?=some q)∨∃ i,i < n'∧xs[sa+na+i]?=some q:=fun {q} hq=>by
  rcases List.mem_append.mp (hm2.mem_iff.mp hq) with hq | hq
  ·obtain ⟨j,h1,h2,e⟩:=iT hq
   exact .inl ⟨j - sa,by omega,by omega,by rw [show sa+(j - sa)=j by omega];exact e⟩
  ·obtain ⟨j,h1,h2,e⟩:=iT hq
   exact .inr ⟨j - (sa+na),by omega,by rw [show sa+na+(j - (sa+na))=j by omega];exact e⟩
 refine ⟨?_,?_,?_⟩
 ·rw [Array.perm_iff_toList_perm,e]
  have ex:xs.toList=xs.toList.take (sa+k) ++ ((xs.toList.drop (sa+k)).take (na - k) ++ (xs.toList.drop (sa+na)).take n') ++ xs.toList.drop (sa+na+n'):=by
   conv=>lhs;rw [← List.take_append_drop (sa+na) xs.toList,t1,t2]
   simp only [List.append_assoc]
  conv=>rhs;rw [ex]
  exact List.Perm.append_right _ (List.Perm.append_left _ hm2)
 ·have:=Ow (rk:=rk) eW ?_
  ·rw [lP,lS,← Nat.add_assoc] at this;exact this
  have s1:lM rk ((xs.toList.drop sa).take k):=by
   have:=rT (rk:=rk) (xs:=xs) (lo:=sa) (hi:=sa+k) fun i j a b c=>g1 i j a b (by omega)
   rwa [show sa+k - sa=k by omega] at this
  have s2:lM rk ((xs.toList.drop (sa+na+n')).take (nb - n')):=by
   have:=rT (rk:=rk) (xs:=xs) (lo:=sa+na+n') (hi:=sa+na+nb) fun i j a b c=>g2 i j (by omega) b c
   rwa [show sa+na+nb - (sa+na+n')=nb - n' by omega] at this
  refine List.pairwise_append.mpr ⟨List.pairwise_append.mpr ⟨s1,hm1,fun p hp q hq=>?_⟩,s2,fun p hp q hq=>?_⟩
  ·obtain ⟨j,h1,h2,ep⟩:=iT hp
   have a1:=hA (j - sa) (by omega)
   rw [show sa+(j - sa)=j by omega,kr ep] at a1
   rcases memM hq with ⟨i,h3,h4,eq⟩ | ⟨i,h3,eq⟩
   ·have:=hX i h3 h4
    rw [kr eq] at this;omega
   ·have:=g2 (sa+na) (sa+na+i) (by omega) (by omega) (by omega)
    rw [kr eq] at this;omega
  ·obtain ⟨j,h1,h2,eq⟩:=iT hq
   rcases List.mem_append.mp hp with hp | hp
   ·obtain ⟨i,h3,h4,ep⟩:=iT hp
    have a1:=hA (i - sa) (by omega)
    rw [show sa+(i - sa)=i by omega,kr ep] at a1
    have:=g2 (sa+na) j (by omega) (by omega) (by omega)
    rw [kr eq] at this;omega
   ·rcases memM hp with ⟨i,h3,h4,ep⟩ | ⟨i,h3,ep⟩
    ·have a1:=g1 (sa+i) (sa+na - 1) (by omega) (by omega) (by omega)
     have a2:=hB2 (j - (sa+na)) (by omega) (by omega)
     rw [show sa+na+(j - (sa+na))=j by omega,kr eq] at a2
     rw [kr ep] at a1;omega
    ·have:=g2 (sa+na+i) j (by omega) (by omega) (by omega)
     rw [kr ep,kr eq] at this;exact this
 ·intro i hi
  rw [qJ,qJ,eW]
  rcases hi with hi | hi
  ·rw [List.append_assoc,List.getElem?_append_left (by omega),List.getElem?_take_of_lt hi]
  ·rw [List.getElem?_append_right (by rw [List.length_append,lP,lS];omega),List.length_append,lP,lS,List.getElem?_drop,show sa+na+nb+(i - (sa+(na+nb)))=i by omega]
theorem wK {st:SortSt} {i sa na nb pw pw2:Nat} {Q:Bool→SortSt→Prop} (L:nP M A E s kd rk a₀) (hB:SB a₀ kd st) (e1:(pendingOf st)[i]?=some (sa,na,pw)) (e2:(pendingOf st)[i+1]?=some (sa+na,nb,pw2)) (n1:1≤na) (n2:1≤nb)
  (hsz:sa+na+nb≤a₀.size) (g1:Seg rk (arrOf st) sa (sa+na)) (g2:Seg rk (arrOf st) (sa+na) (sa+na+nb))
  (h:∀ st',SB a₀ kd st'→pendingOf st'=((pendingOf st).setIfInBounds i (sa,na+nb,pw)).eraseIdxIfInBounds (i+1)→Seg rk (arrOf st') sa (sa+na+nb)→(∀ k,k < sa∨sa+na+nb≤k→Kr rk (arrOf st') k=Kr rk (arrOf st) k)→Q true st'):
  wpS M A E s (mergeAt' i) Q st:=by
 refine wpS_bind (wpS_get ?_)
 dsimp only
 rw [e1,e2]
 dsimp only
 have hsz':sa+na+nb≤(arrOf st).size:=by rw [hB.size];exact hsz
 refine wpS_bind (m:=set _) ?_
 show wpS M A E s (modify fun _=>setPending st (((pendingOf st).setIfInBounds i (sa,na+nb,pw)).eraseIdxIfInBounds (i+1))) _ st
 refine wpS_modify ?_
 obtain ⟨p0,ep0,m0⟩:=hB.at (i:=sa+na) (by omega)
 refine wpS_bind (aM (σ:=Unit) ep0 ?_)
 have hmem:∀ p∈(arrOf st).toList,p∈a₀.toList:=fun p hp=>hB.mem hp
 have hK0:Kr rk (arrOf st) (sa+na)=rk p0:=cu ep0
 have hB1:SB a₀ kd (setPending st (((pendingOf st).setIfInBounds i (sa,na+nb,pw)).eraseIdxIfInBounds (i+1))):=⟨hB.perm,hB.kind,hB.failed⟩
 refine wpS_bind (dJ (arr:=arrOf st) (fun i=>decide (Kr rk (arrOf st) (sa+i)≤rk p0)) (by omega) (fun i R hi r=>iM L m0 hmem (by omega) hB1.kind (by simpa using r)) (fun i j hij hj hq=>decide_eq_true (Int.le_trans (g1 _ _ (by omega) (by omega) (by omega)) (of_decide_eq_true hq))) fun k hk hk1 hk2=>?_)
 dsimp only
 refine aG (fun h3=>?_) (fun h3=>?_)
 ·have h3':na - k=0:=by simpa using h3
  refine wpS_pure (h _ hB1 rfl (zx g1 g2 n2 fun i a b=>?_) fun _ _=>rfl)
  have:=of_decide_eq_true (hk1 (i - sa) (by omega))
  rw [show sa+(i - sa)=i by omega] at this
  rw [hK0];exact this
 have h3':¬ na - k=0:=by simpa using h3
 obtain ⟨p1,ep1,m1⟩:=hB.at (i:=sa+k+(na - k) - 1) (by omega)
 refine wpS_bind (aM (σ:=Unit) ep1 ?_)
 have hK1:Kr rk (arrOf st) (sa+na - 1)=rk p1:=by rw [show sa+na - 1=sa+k+(na - k) - 1 by omega];exact cu ep1
 refine wpS_bind (dJ (arr:=arrOf st) (fun i=>decide (Kr rk (arrOf st) (sa+na+i) < rk p1)) (by omega) (fun i R hi r=>iM L m1 hmem (by omega) hB1.kind (by simpa using r)) (fun i j hij hj hq=>decide_eq_true (Int.lt_of_le_of_lt (g2 _ _ (by omega) (by omega) (by omega)) (of_decide_eq_true hq))) fun n' hn' hn1 hn2=>?_)
 dsimp only
 have hB2:∀ i,n'≤i→i < nb→Kr rk (arrOf st) (sa+na - 1)≤Kr rk (arrOf st) (sa+na+i):=fun i a b=>by
  have:=of_decide_eq_false (hn2 i a b)
  rw [hK1];omega
 refine aG (fun h4=>?_) (fun h4=>?_)
 ·have h4':n'=0:=by simpa using h4
  refine wpS_pure (h _ hB1 rfl (zx g1 g2 n2 fun i a b=>?_) fun _ _=>rfl)
  have a1:=g1 i (sa+na - 1) a (by omega) (by omega)
  have a2:=hB2 0 (by omega) (by omega)
  exact Int.le_trans a1 a2
 have h4':¬ n'=0:=by simpa using h4
 have hA:∀ i,i < k→Kr rk (arrOf st) (sa+i)≤Kr rk (arrOf st) (sa+na):=fun i hi=>by rw [hK0];exact of_decide_eq_true (hk1 i hi)
 have hX:∀ i,k≤i→i < na→Kr rk (arrOf st) (sa+na) < Kr rk (arrOf st) (sa+i):=fun i a b=>by
  have:=of_decide_eq_false (hk2 i a b)
  rw [hK0];omega
 have memX:∀ p∈((arrOf st).extract (sa+k) (sa+na)).toList,∃ j,sa+k≤j∧j < sa+na∧(arrOf st)[j]?=some p:=fun p hp=>by
  rw [gq _ (by omega)] at hp
  obtain ⟨j,a,b,c⟩:=iT hp
  exact ⟨j,a,by omega,c⟩
 have memY:∀ p∈((arrOf st).extract (sa+na) (sa+na+n')).toList,∃ j,sa+na≤j∧j < sa+na+n'∧(arrOf st)[j]?=some p:=fun p hp=>by
  rw [gq _ (by omega)] at hp
  obtain ⟨j,a,b,c⟩:=iT hp
  exact ⟨j,a,by omega,c⟩
 have fin:∀ (m:Array Keyed) (st2:SortSt),Sm (setPending st (((pendingOf st).setIfInBounds i (sa,na+nb,pw)).eraseIdxIfInBounds (i+1))) st2→Res rk ((arrOf st).extract (sa+k) (sa+na)) ((arrOf st).extract (sa+na) (sa+na+n')) m→
   wpS M A E s (do
    modify fun s=>setArr s (List.foldl (fun a (x:Keyed×Nat)=>a.setIfInBounds (sa+k+x.snd) x.fst) (arrOf s) m.toList.zipIdx)
    let __do_lift ← get
    pure (failedOf __do_lift).isNone) Q st2:=fun m st2 S R=>by
  obtain ⟨q1,q2,q3⟩:=Bt hsz' g1 g2 (by omega) hn' n2 hA hX hB2 R
  refine wpS_bind (wpS_modify (wpS_bind (wpS_get (wpS_pure ?_))))
  have ea:arrOf st2=arrOf st:=S.arr
  have ef:failedOf st2=none:=S.failed.trans hB.failed
  show Q (failedOf st2).isNone _
  rw [ef]
  refine h _ ⟨?_,S.kind.trans hB.kind,ef⟩ S.pend ?_ ?_
  ·show (List.foldl _ (arrOf st2) _).Perm a₀
   rw [ea];exact q1.trans hB.perm
  ·show Seg rk (List.foldl _ (arrOf st2) _) _ _
   rw [ea];exact q2
  ·intro k' hk'
   show Kr rk (List.foldl _ (arrOf st2) _) _=_
   rw [ea];exact q3 k' hk'
 have szX:((arrOf st).extract (sa+k) (sa+na)).size=na - k:=by rw [Array.size_extract];omega
 have szY:((arrOf st).extract (sa+na) (sa+na+n')).size=n':=by rw [Array.size_extract];omega
 have haX:∀ p∈((arrOf st).extract (sa+k) (sa+na)).toList,p∈a₀.toList:=fun p hp=>by
  obtain ⟨j,_,_,e⟩:=memX p hp
  exact hmem p (by rw [← (Array.getElem?_eq_some_iff.mp e).2];simp)
 have haY:∀ p∈((arrOf st).extract (sa+na) (sa+na+n')).toList,p∈a₀.toList:=fun p hp=>by
  obtain ⟨j,_,_,e⟩:=memY p hp
  exact hmem p (by rw [← (Array.getElem?_eq_some_iff.mp e).2];simp)
 have SX:lM rk ((arrOf st).extract (sa+k) (sa+na)).toList:=by
  rw [gq _ (by omega)]
  exact rT fun i j a b c=>g1 i j (by omega) b c
 have SY:lM rk ((arrOf st).extract (sa+na) (sa+na+n')).toList:=by
  rw [gq _ (by omega)]
  exact rT fun i j a b c=>g2 i j (by omega) b (by omega)
 have hf:∀ p,((arrOf st).extract (sa+na) (sa+na+n'))[0]?=some p→∀ q∈((arrOf st).extract (sa+k) (sa+na)).toList,rk p≤rk q:=fun p ep q hq=>by
  rw [Array.getElem?_extract,if_pos (by omega),Nat.add_zero] at ep
  obtain ⟨j,a,b,c⟩:=memX q hq
  have:=hX (j - sa) (by omega) (by omega)
  rw [show sa+(j - sa)=j by omega,cu c,cu ep] at this
  omega
 have hl:∀ p,((arrOf st).extract (sa+k) (sa+na))[((arrOf st).extract (sa+k) (sa+na)).size - 1]?=some p→∀ q∈((arrOf st).extract (sa+na) (sa+na+n')).toList,rk q≤rk p:=fun p ep q hq=>by
  rw [szX,Array.getElem?_extract,if_pos (by omega),show sa+k+(na - k - 1)=sa+k+(na - k) - 1 by omega,ep1] at ep
  have ep:p1=p:=Option.some.inj ep
  obtain ⟨j,a,b,c⟩:=memY q hq
  have:=of_decide_eq_true (hn1 (j - (sa+na)) (by omega))
  rw [show sa+na+(j - (sa+na))=j by omega,cu c] at this
  rw [← ep];omega
 refine aG (fun _=>?_) (fun _=>?_)
 ·exact wpS_bind (wH (a:=(arrOf st).extract (sa+k) (sa+na)) (b:=(arrOf st).extract (sa+na) (sa+na+n')) L haX haY SX SY (by omega) (by omega) hf hl hB1.kind fun r st2 S R=>fin r st2 S R)
 ·exact wpS_bind (wJ (a:=(arrOf st).extract (sa+k) (sa+na)) (b:=(arrOf st).extract (sa+na) (sa+na+n')) L haX haY SX SY (by omega) (by omega) hf hl hB1.kind fun r st2 S R=>fin r st2 S R)
end
end L2
namespace L2
open PySem PySem.Spec PyProof.Rows
section
variable {M:Model} {A:Around} {E:Value→Shared→Prop} {s:Shared} {kd:SortKind} {rk:Keyed→Int} {a₀:Array Keyed}
def Runs (rk:Keyed→Int) (xs:Array Keyed):List (Nat×Nat×Nat)→Nat→Nat→Prop
 | [],s,e=>s=e
 | (st,n,_) :: l,s,e=>st=s∧1≤n∧Seg rk xs s (s+n)∧Runs rk xs l (s+n) e
theorem Runs.le {xs:Array Keyed}:∀ {l:List (Nat×Nat×Nat)} {s e:Nat},Runs rk xs l s e→s+l.length≤e
 | [],s,e,h=>Nat.le_of_eq h
 | (st,n,p) :: l,s,e,⟨_,h1,_,h2⟩=>by
  have:=Runs.le h2
  show s+(l.length+1)≤e
  omega
theorem Runs.app {xs:Array Keyed}:∀ {l:List (Nat×Nat×Nat)} {m:List (Nat×Nat×Nat)} {s e:Nat},Runs rk xs (l ++ m) s e↔∃ k,Runs rk xs l s k∧Runs rk xs m k e
 | [],m,s,e=>⟨fun h=>⟨s,rfl,h⟩,fun ⟨k,h1,h2⟩=>by
   have h1:s=k:=h1
   subst h1;exact h2⟩
 | (st,n,p) :: l,m,s,e=>⟨fun ⟨h1,h2,h3,h4⟩=>by
   obtain ⟨k,h5,h6⟩:=Runs.app.mp h4
   exact ⟨k,⟨h1,h2,h3,h5⟩,h6⟩,fun ⟨k,⟨h1,h2,h3,h4⟩,h5⟩=>⟨h1,h2,h3,Runs.app.mpr ⟨k,h4,h5⟩⟩⟩
theorem Runs.congr {xs ys:Array Keyed}:∀ {l:List (Nat×Nat×Nat)} {s e:Nat},(∀ k,s≤k→k < e→Kr rk ys k=Kr rk xs k)→Runs rk xs l s e→Runs rk ys l s e
 | [],s,e,_,h=>h
 | (st,n,p) :: l,s,e,hk,⟨h1,h2,h3,h4⟩=>by
  have hle:=Runs.le h4
  refine ⟨h1,h2,fun i j a b c=>?_,Runs.congr (fun k a b=>hk k (by omega) b) h4⟩
  rw [hk i (by omega) (by omega),hk j (by omega) (by omega)]
  exact h3 i j a b c
theorem Ox {α:Type} {l:List α} {i:Nat} (h:i+1 < l.length):∃ P a b D,l=P ++ a :: b :: D∧P.length=i:=by
 refine ⟨l.take i,l[i],l[i+1],l.drop (i+2),?_,by rw [List.length_take];omega⟩
 conv=>lhs;rw [← List.take_append_drop i l]
 rw [List.drop_eq_getElem_cons (by omega),List.drop_eq_getElem_cons h]
theorem mq {st:SortSt} {i lo:Nat} {Q:Bool→SortSt→Prop} (L:nP M A E s kd rk a₀) (hB:SB a₀ kd st) (hR:Runs rk (arrOf st) (pendingOf st).toList 0 lo) (hi:i+1 < (pendingOf st).size) (hlo:lo≤a₀.size)
  (h:∀ st',SB a₀ kd st'→Runs rk (arrOf st') (pendingOf st').toList 0 lo→(pendingOf st').size+1=(pendingOf st).size→(∀ k,lo≤k→Kr rk (arrOf st') k=Kr rk (arrOf st) k)→Q true st'):wpS M A E s (mergeAt' i) Q st:=by
 obtain ⟨P,⟨sa,na,pw⟩,⟨sb,nb,pw2⟩,D,e,hP⟩:=Ox (l:=(pendingOf st).toList) (i:=i) (by simpa using hi)
 have hR0:=hR
 rw [e] at hR
 obtain ⟨k,r1,h1,n1,g1,h2,n2,g2,r2⟩:=Runs.app.mp hR
 subst h1 h2
 have le1:=r1.le
 have le2:=r2.le
 have e1:(pendingOf st)[i]?=some (sa,na,pw):=by rw [← Array.getElem?_toList,e,List.getElem?_append_right (by omega),hP,Nat.sub_self];rfl
 have e2:(pendingOf st)[i+1]?=some (sa+na,nb,pw2):=by rw [← Array.getElem?_toList,e,List.getElem?_append_right (by omega),hP,show i+1 - i=1 by omega];rfl
 refine wK L hB e1 e2 n1 n2 (by omega) g1 g2 fun st' hB' hp hS hF=>?_
 have tl:(pendingOf st').toList=P ++ (sa,na+nb,pw) :: D:=by
  rw [hp,Array.toList_eraseIdxIfInBounds,Array.toList_setIfInBounds,e,List.set_append_right _ _ (by omega),hP,Nat.sub_self,List.set_cons_zero,List.eraseIdx_append_of_length_le (by omega),hP,show i+1 - i=1 by omega]
  rfl
 refine h st' hB' ?_ ?_ fun k hk=>hF k (.inr (by omega))
 ·rw [tl]
  refine Runs.app.mpr ⟨sa,Runs.congr (fun k a b=>hF k (.inl b)) r1,rfl,by omega,by rw [← Nat.add_assoc];exact hS,?_⟩
  rw [← Nat.add_assoc]
  exact Runs.congr (fun k a b=>hF k (.inr a)) r2
 ·have l1:=congrArg List.length tl
  have l2:=congrArg List.length e
  simp at l1 l2
  omega
theorem Runs.mod {xs:Array Keyed} {f:Nat×Nat×Nat→Nat×Nat×Nat} (hf:∀ q,(f q).1=q.1∧(f q).2.1=q.2.1):∀ {l:List (Nat×Nat×Nat)} {i s e:Nat},Runs rk xs l s e→Runs rk xs (l.modify i f) s e
 | [],i,s,e,h=>by rw [List.modify_nil];exact h
 | (st,n,p) :: l,0,s,e,⟨h1,h2,h3,h4⟩=>by
  rw [List.modify_zero_cons]
  obtain ⟨a,b⟩:=hf (st,n,p)
  generalize f (st,n,p)=q at a b
  obtain ⟨x,y,z⟩:=q
  dsimp only at a b
  subst a b
  exact ⟨h1,h2,h3,h4⟩
 | (st,n,p) :: l,i+1,s,e,⟨h1,h2,h3,h4⟩=>by
  rw [List.modify_succ_cons]
  exact ⟨h1,h2,h3,Runs.mod hf h4⟩
theorem Bu {st:SortSt} {Q:Unit→SortSt→Prop} (L:nP M A E s kd rk a₀) (hB:SB a₀ kd st) (hp:pendingOf st= #[]) (h2:2≤a₀.size)
  (h:∀ st',SB a₀ kd st'→Seg rk (arrOf st') 0 a₀.size→Q () st'):wpS M A E s sortRuns' Q st:=by
 rw [sortRuns'_eq]
 refine wpS_bind (wpS_get ?_)
 dsimp only
 generalize minRun' (arrOf st).size (arrOf st).size 0=mr
 rw [hB.size]
 refine wpS_bind (wpS_mono (wpS_forRange
  (I:=fun x c st'=>∃ lo,c=(none,lo)∧SB a₀ kd st'∧Runs rk (arrOf st') (pendingOf st').toList 0 lo∧lo≤a₀.size∧x≤lo)
  (Q:=fun c st'=>c=(none,a₀.size)∧SB a₀ kd st'∧Runs rk (arrOf st') (pendingOf st').toList 0 a₀.size) ?step ?fin ⟨0,rfl,hB,by rw [hp];rfl,by omega,by omega⟩) ?post)
 case fin=>
  rintro c st' ⟨lo,rfl,hB',hR,a,b⟩
  obtain rfl:lo=a₀.size:=by omega
  exact ⟨rfl,hB',hR⟩
 case step=>
  rintro x c st' _ hx ⟨lo,rfl,hB',hR,a,b⟩
  dsimp only
  by_cases hge:lo≥a₀.size
  ·rw [if_pos hge]
   obtain rfl:lo=a₀.size:=by omega
   exact wpS_pure ⟨rfl,hB',hR⟩
  rw [if_neg hge]
  refine wpS_bind (yg (rk:=rk) L (by omega) (by omega) hB' fun m st1 N1 m1 m2 S1=>?_)
  dsimp only
  have R1:Runs rk (arrOf st1) (pendingOf st1).toList 0 lo:=by
   rw [N1.pe]
   exact Runs.congr (fun k _ hk=>N1.fr k hk) hR
  by_cases hmr:m < mr
  ·rw [if_pos hmr]
   refine wpS_bind (wpS_lift (wpAny_rule ⟨rfl,?_⟩))
   refine wpS_bind (Fo L (by omega) (by omega) N1.sb S1 fun st2 N2 S2=>?_)
   rw [if_neg (by decide)]
   have R2:Runs rk (arrOf st2) (pendingOf st2).toList 0 lo:=by
    rw [N2.pe]
    exact Runs.congr (fun k _ hk=>N2.fr k hk) R1
   have B2:=N2.sb
   have N1:1≤min (a₀.size - lo) mr:=by omega
   have LE:lo+min (a₀.size - lo) mr≤a₀.size:=by omega
   refine wpS_bind (wpS_get ?_)
   rcases hbk:(pendingOf st2).back? with _ | ⟨s1,n1,p1⟩
   ·dsimp only
    refine wpS_bind (wpS_modify (wpS_pure ⟨_,rfl,⟨B2.perm,B2.kind,B2.failed⟩,?_,LE,by omega⟩))
    show Runs rk (arrOf st2) ((pendingOf st2).push _).toList 0 _
    rw [Array.toList_push]
    exact Runs.app.mpr ⟨lo,R2,rfl,N1,S2,rfl⟩
   ·dsimp only
    refine wpS_bind (wpS_mono (wpS_forRange (I:=fun _ c st3=>c=(none,())∧SB a₀ kd st3∧Runs rk (arrOf st3) (pendingOf st3).toList 0 lo∧Seg rk (arrOf st3) lo (lo+min (a₀.size - lo) mr))
     (Q:=fun c st3=>c=(none,())∧SB a₀ kd st3∧Runs rk (arrOf st3) (pendingOf st3).toList 0 lo∧Seg rk (arrOf st3) lo (lo+min (a₀.size - lo) mr)) ?_ (fun _ _ hh=>hh) ⟨rfl,B2,R2,S2⟩) ?_)
    ·rintro y c st3 _ _ ⟨rfl,B3,R3,S3⟩
     refine wpS_bind (wpS_get ?_)
     by_cases hs1:(pendingOf st3).size > 1
     ·rw [if_pos hs1,getElem?_pos (pendingOf st3) ((pendingOf st3).size - 2) (by omega)]
      generalize (pendingOf st3)[(pendingOf st3).size - 2]=pq
      obtain ⟨q1,q2,q3⟩:=pq
      dsimp only
      refine aG (fun _=>wpS_pure ⟨rfl,B3,R3,S3⟩) (fun _=>?_)
      refine wpS_bind (mq L B3 R3 (by omega) a fun st4 B4 R4 _ F4=>?_)
      rw [if_neg (by decide)]
      refine wpS_pure ⟨rfl,B4,R4,fun i j h5 h6 h7=>?_⟩
      rw [F4 i h5,F4 j (by omega)]
      exact S3 i j h5 h6 h7
     ·rw [if_neg hs1]
      exact wpS_pure ⟨rfl,B3,R3,S3⟩
    ·rintro c st3 ⟨rfl,B3,R3,S3⟩
     dsimp only
     refine wpS_bind (wpS_modify (wpS_bind (wpS_modify (wpS_pure ⟨_,rfl,⟨B3.perm,B3.kind,B3.failed⟩,?_,LE,by omega⟩))))
     show Runs rk (arrOf st3) (((pendingOf st3).modify _ _).push _).toList 0 _
     rw [Array.toList_push,Array.toList_modify]
     refine Runs.app.mpr ⟨lo,?_,rfl,N1,S3,rfl⟩
     refine Runs.mod ?_ R3;exact fun q=>⟨rfl,rfl⟩
  ·rw [if_neg hmr]
   obtain ⟨st2,rfl⟩:∃ st2,st1=st2:=⟨_,rfl⟩
   have R2:=R1
   have S2:=S1
   have B2:=N1.sb
   have N1:=m1
   have LE:lo+m≤a₀.size:=by omega
   refine wpS_bind (wpS_get ?_)
   rcases hbk:(pendingOf st1).back? with _ | ⟨s1,n1,p1⟩
   ·dsimp only
    refine wpS_bind (wpS_modify (wpS_pure ⟨_,rfl,⟨B2.perm,B2.kind,B2.failed⟩,?_,LE,by omega⟩))
    show Runs rk (arrOf st1) ((pendingOf st1).push _).toList 0 _
    rw [Array.toList_push]
    exact Runs.app.mpr ⟨lo,R2,rfl,N1,S2,rfl⟩
   ·dsimp only
    refine wpS_bind (wpS_mono (wpS_forRange (I:=fun _ c st3=>c=(none,())∧SB a₀ kd st3∧Runs rk (arrOf st3) (pendingOf st3).toList 0 lo∧Seg rk (arrOf st3) lo (lo+m))
     (Q:=fun c st3=>c=(none,())∧SB a₀ kd st3∧Runs rk (arrOf st3) (pendingOf st3).toList 0 lo∧Seg rk (arrOf st3) lo (lo+m)) ?_ (fun _ _ hh=>hh) ⟨rfl,B2,R2,S2⟩) ?_)
    ·rintro y c st3 _ _ ⟨rfl,B3,R3,S3⟩
     refine wpS_bind (wpS_get ?_)
     by_cases hs1:(pendingOf st3).size > 1
     ·rw [if_pos hs1,getElem?_pos (pendingOf st3) ((pendingOf st3).size - 2) (by omega)]
      generalize (pendingOf st3)[(pendingOf st3).size - 2]=pq
      obtain ⟨q1,q2,q3⟩:=pq
      dsimp only
      refine aG (fun _=>wpS_pure ⟨rfl,B3,R3,S3⟩) (fun _=>?_)
      refine wpS_bind (mq L B3 R3 (by omega) a fun st4 B4 R4 _ F4=>?_)
      rw [if_neg (by decide)]
      refine wpS_pure ⟨rfl,B4,R4,fun i j h5 h6 h7=>?_⟩
      rw [F4 i h5,F4 j (by omega)]
      exact S3 i j h5 h6 h7
     ·rw [if_neg hs1]
      exact wpS_pure ⟨rfl,B3,R3,S3⟩
    ·rintro c st3 ⟨rfl,B3,R3,S3⟩
     dsimp only
     refine wpS_bind (wpS_modify (wpS_bind (wpS_modify (wpS_pure ⟨_,rfl,⟨B3.perm,B3.kind,B3.failed⟩,?_,LE,by omega⟩))))
     show Runs rk (arrOf st3) (((pendingOf st3).modify _ _).push _).toList 0 _
     rw [Array.toList_push,Array.toList_modify]
     refine Runs.app.mpr ⟨lo,?_,rfl,N1,S3,rfl⟩
     refine Runs.mod ?_ R3;exact fun q=>⟨rfl,rfl⟩
 case post=>
  rintro c st' ⟨rfl,hB',hR⟩
  dsimp only
  have hle:=hR.le
  refine wpS_bind (wpS_mono (wpS_forRange (I:=fun x c st3=>c=(none,())∧SB a₀ kd st3∧Runs rk (arrOf st3) (pendingOf st3).toList 0 a₀.size∧(pendingOf st3).size+x≤a₀.size)
   (Q:=fun c st3=>c=(none,())∧SB a₀ kd st3∧Runs rk (arrOf st3) (pendingOf st3).toList 0 a₀.size∧(pendingOf st3).size≤1) ?_ ?_ ⟨rfl,hB',hR,by simp at hle;omega⟩) ?_)
  ·rintro y c st3 _ hy ⟨rfl,B3,R3,P3⟩
   refine wpS_bind (wpS_get ?_)
   by_cases hs1:(pendingOf st3).size≤1
   ·rw [if_pos hs1]
    exact wpS_pure ⟨rfl,B3,R3,hs1⟩
   ·rw [if_neg hs1]
    refine wpS_bind (mq L B3 R3 ?_ (Nat.le_refl _) fun st4 B4 R4 P4 _=>?_)
    ·have gen:∀ (c:Prop) [Decidable c],(if c then (pendingOf st3).size - 2 - 1 else (pendingOf st3).size - 2)+1 < (pendingOf st3).size:=fun c _=>by split <;> omega
     exact gen _
    ·rw [if_neg (by decide)]
     exact wpS_pure ⟨rfl,B4,R4,by omega⟩
  ·rintro c st3 ⟨rfl,B3,R3,P3⟩
   exact ⟨rfl,B3,R3,by omega⟩
  ·rintro c st3 ⟨rfl,B3,R3,P3⟩
   refine wpS_pure (h st3 B3 ?_)
   have hl:(pendingOf st3).toList.length≤1:=by simpa using P3
   generalize (pendingOf st3).toList=l at hl R3
   match l,hl,R3 with
   | [],_,R3=>
    have:0=a₀.size:=R3
    omega
   | [(x,n,p)],_,⟨h5,h6,h7,h8⟩=>
    have h8:0+n=a₀.size:=h8
    rw [h8] at h7
    exact h7
end
end L2
namespace L2
open PySem PySem.W PySem.Spec PyProof.Rows
section
variable {prog:Program} {w:World} {A:Around} {E:Value→Shared→Prop} {s:Shared}
theorem gM {vs:List Value} {p:Keyed} (h:p∈(vs.toArray.zip vs.toArray).toList):p.1=p.2∧p.1∈vs:=by
 rw [Array.toList_zip] at h
 exact mem_zip_self h
theorem Fx {a:Addr} {vs:List Value} {n:Nat} {κ:SortKind} {rv:Value→Int} {P:PySem.Fin→Shared→Prop}
  (ho:s.heap.get? a=some (seqObj "list" vs.toArray n)) (few:vs.length≤100000)
  (hK:2≤vs.length→∀ (s':Shared) (R:SortKind→Shared→Prop),Ry a s.heap s'.heap→R κ s'→wpAny (model prog w) A (keyKind' vs.toArray) R E s')
  (hC:∀ (s':Shared) (x y:Value) (R:Bool→Shared→Prop) (E':Value→Shared→Prop),Ry a s.heap s'.heap→x∈vs→y∈vs→R (decide (rv x < rv y)) s'→wpAny (model prog w) A (keyLt' κ x y) R E' s')
  (h:∀ out:List Value,out.Perm vs→(out.Pairwise fun x y=>rv x≤rv y)→P (.done (.ret .none)) {s with heap:=sortedHeap s.heap a vs out.toArray}):
  wpAny (model prog w) A (Builtin.«list.sort» ⟨[.ref a],[]⟩) P E s:=by
 rw [list_sort_plain]
 refine wpAny_bind (listItems_at ho rfl (wpAny_bind (listUpdate_at ho rfl ?_)))
 obtain ⟨k,hk⟩:∃ k,(s.heap.update a (Obj.mapSeq fun _=>#[])).get? a=some (seqObj "list" #[] k):=⟨_,get?_update_seq ho (fun _=>#[])⟩
 refine wpAny_bind (seqEpoch_at hk rfl (wpAny_bind (wpAny_newTuple (wpAny_bind (wpAny_newList (wpAny_holding ?_))))))
 have hk2:=Heap.get?_push_of_some (seqObj "list" #[] 0) (Heap.get?_push_of_some (seqObj "tuple" vs.toArray 0) hk)
 have bt:=Bj (h:=s.heap) (a:=a) (f:=Obj.mapSeq fun _=>#[]) (x:=seqObj "tuple" vs.toArray 0) (y:=seqObj "list" #[] 0)
 show wpAny (model prog w) A _ P E {s with heap:=(((s.heap.update a (Obj.mapSeq fun _=>#[])).push (seqObj "tuple" vs.toArray 0)).push (seqObj "list" #[] 0))}
 generalize hS:({s with heap:=(((s.heap.update a (Obj.mapSeq fun _=>#[])).push (seqObj "tuple" vs.toArray 0)).push (seqObj "list" #[] 0))}:Shared)=s2
 dsimp only
 have sz:vs.toArray.size=vs.length:=by simp
 have hs:200000≤sizeLine:=by decide
 have hk3:s2.heap.get? a=some (seqObj "list" #[] k):=by rw [← hS];exact hk2
 have bt2:Ry a s.heap s2.heap:=by rw [← hS];exact bt
 have fin:∀ out:List Value,out.Perm vs→(out.Pairwise fun x y=>rv x≤rv y)→P (.done (.ret .none)) {s2 with heap:=s2.heap.update a (Obj.mapSeq fun _=>out.toArray)}:=fun out h1 h2=>by
  rw [← hS];exact h out h1 h2
 by_cases h2:vs.toArray.size < 2
 ·rw [if_pos h2,if_pos h2]
  refine wpAny_bind (wpAny_pure ?_)
  rw [StateT.run_pure]
  refine wpAny_bind (wpAny_pure ?_)
  dsimp only
  have ez:(arrOf (SortSt.mk' general' (vs.toArray.zip vs.toArray) #[] 7 none)).map (·.2)=vs.toArray:=zq vs
  rw [ez]
  refine wpAny_bind (seqEpoch_at hk3 rfl (wpAny_bind (listUpdate_at hk3 rfl ?_ (hsz2:=by rw [sz];omega))))
  simp only [bne_self_eq_false,Bool.false_eq_true,if_false]
  refine wpAny_pure (fin vs (List.Perm.refl _) ?_)
  match vs,h2 with
  | [],_=>exact List.Pairwise.nil
  | [_],_=>exact List.pairwise_singleton _ _
  | _ :: _ :: _,h2=>simp at h2;omega
 ·rw [if_neg h2,if_neg h2]
  refine wpAny_bind (hK (by omega) _ _ bt2 ?_)
  have L:nP (model prog w) A E s2 κ (fun p=>rv p.1) (vs.toArray.zip vs.toArray):=fun p q st R hp hq hkd hr=>by
   rw [lt'_eq]
   refine wpS_bind (wpS_get ?_)
   rw [hkd]
   refine wpS_bind (wpS_lift (wpAny_attempt (hC _ _ _ _ _ bt2 (gM hp).2 (gM hq).2 ⟨rfl,?_⟩)))
   exact wpS_pure hr
  refine wpAny_bind (wpAny_mono (Bu (st:=SortSt.mk' κ (vs.toArray.zip vs.toArray) #[] 7 none) (Q:=fun _ st'=>SB (vs.toArray.zip vs.toArray) κ st'∧Seg (fun p=>rv p.1) (arrOf st') 0 (vs.toArray.zip vs.toArray).size)
   L ⟨Array.Perm.refl _,rfl,rfl⟩ rfl (by rw [Array.size_zip];omega) fun st' a1 a2=>⟨a1,a2⟩) ?_ fun _ _ e=>e)
  rintro ⟨⟨⟩,st'⟩ s' ⟨rfl,hB,hg⟩
  dsimp only
  dsimp only at hB hg
  have hp:((arrOf st').map (·.2)).toList.Perm vs:=by
   rw [Array.toList_map]
   refine ((Array.perm_iff_toList_perm.mp hB.perm).map _).trans (List.Perm.of_eq ?_)
   rw [← Array.toList_map,zq]
  have hz:(vs.toArray.zip vs.toArray).size=vs.length:=by rw [Array.size_zip];omega
  have hpw:((arrOf st').map (·.2)).toList.Pairwise fun x y=>rv x≤rv y:=by
   rw [Array.toList_map]
   have:=rT hg
   rw [Nat.sub_zero,List.drop_zero,List.take_of_length_le (by rw [Array.length_toList,hB.size];exact Nat.le_refl _)] at this
   rw [List.pairwise_map]
   refine this.imp_of_mem fun {p q} hp hq hpq=>?_
   rw [← (gM (hB.mem hp)).1,← (gM (hB.mem hq)).1]
   exact hpq
  refine wpAny_bind (seqEpoch_at hk3 rfl (wpAny_bind (listUpdate_at hk3 rfl ?_ (hsz2:=by
   have:=hp.length_eq
   rw [Array.length_toList] at this
   show ((arrOf st').map (·.2)).size≤_
   omega))))
  rw [hB.failed]
  simp only [bne_self_eq_false,Bool.false_eq_true,if_false]
  refine wpAny_pure ?_
  have:=fin _ hp hpw
  rwa [Array.toArray_toList] at this
end
theorem rW {vs:List Value} {ns:List Int} (h:IntsAre vs ns) {v:Value} (hv:v∈vs):∃ n t,v= .int n t:=h.all v hv
section
variable {X:Cx}
end
section
variable {H:Hp} {Q:VK}
end
end L2
namespace L2
open PySem PySem.Spec PyProof.Rows
theorem uv:Manifest.owners.lookup (String.ofList ['d','e','s','r','e','v','e','r'].reverse)=some Manifest.sig_reversed:=by kernel_rfl
theorem eO:Slot "reversed" "__next__" "reversed.__next__":=
 .of (owner:="reversed") (n:="__next__") (by rw [typeLookup_type,builtinLookup_eq_fast];kernel_rfl) (by decide+kernel) (by decide+kernel) (by decide+kernel)
  (by first | exact .inl (by decide+kernel) | exact .inr (by decide+kernel)) (by rw [isSubtype_type];kernel_rfl)
theorem kZ:entryFor table "reversed.__next__"=some Builtin.«reversed.__next__»:=entryFor_of_tree (by kernel_rfl)
theorem lU (a:Value):argsOk "reversed.__next__" ⟨[a],[]⟩:=by
 unfold argsOk;rw [signature?_of (id:="reversed.__next__") (n:=['_','_','t','x','e','n','_','_']) (o:=['d','e','s','r','e','v','e','r']) (by kernel_rfl) uv];kernel_rfl
theorem lV:Slot "reversed" "__iter__" "reversed.__iter__":=
 .of (owner:="reversed") (n:="__iter__") (by rw [typeLookup_type,builtinLookup_eq_fast];kernel_rfl) (by decide+kernel) (by decide+kernel) (by decide+kernel)
  (by first | exact .inl (by decide+kernel) | exact .inr (by decide+kernel)) (by rw [isSubtype_type];kernel_rfl)
theorem sY (a:Value):argsOk "reversed.__iter__" ⟨[a],[]⟩:=by
 unfold argsOk;rw [signature?_of (id:="reversed.__iter__") (n:=['_','_','r','e','t','i','_','_']) (o:=['d','e','s','r','e','v','e','r']) (by kernel_rfl) uv];kernel_rfl
theorem rY:entryFor table "reversed.__iter__"=some Builtin.«dict_keyiterator.__iter__»:=
 entryFor_alias (id':="dict_keyiterator.__iter__") (by kernel_rfl) (by first | rfl | decide+kernel | (unfold String.splitOn;simp+decide [String.splitOnAux])) (by decide+kernel) (by kernel_rfl)
theorem oX:typeLookup (.type "tuple") "__reversed__"=pure none:=by rw [typeLookup_type,builtinLookup_eq_fast];kernel_rfl
theorem sub_tuple_dict:isSubtype (.type "tuple") (.type "dict")=pure false:=by rw [isSubtype_type];kernel_rfl
theorem sZ:Slot "reversed" "__init__" "object.__init__":=
 .of (owner:="object") (n:="__init__") (by rw [typeLookup_type,builtinLookup_eq_fast];kernel_rfl) (by decide+kernel) (by decide+kernel) (by decide+kernel)
  (by first | exact .inl (by decide+kernel) | exact .inr (by decide+kernel)) (by rw [isSubtype_type];kernel_rfl)
theorem my:TypeCalled "reversed" "reversed.__new__" "object.__init__":=
 ⟨by decide+kernel,F.create_reversed,⟨_,_,F.mro_reversed⟩,F.made_reversed,F.plain_reversed_new,F.sub_reversed_self,sZ⟩
section
variable {prog:Program} {w:World} {A:Around} {E:Value→Shared→Prop} {s:Shared}
def mz (l:Addr) (i:Int):Obj:={cls:=.type "reversed",data:=.fields #[.ref l,rawInt i]}
def IsRvd (h:Heap) (a l:Addr) (i:Int):Prop:=∃ o,h.get? a=some o∧o.cls= .type "reversed"∧o.data= .fields #[.ref l,rawInt i]
theorem IsRvd.typeIs {a l:Addr} {i:Int} (x:IsRvd s.heap a l i):s.TypeIs (.ref a) "reversed":=let ⟨o,ho,hc,_⟩:=x;⟨o,ho,hc⟩
theorem IsRvd.at {h h':Heap} {a l:Addr} {i:Int} (x:IsRvd h a l i) (e:∀ o,h.get? a=some o→h'.get? a=some o):IsRvd h' a l i:=let ⟨o,ho,r⟩:=x;⟨o,e _ ho,r⟩
theorem Fy {l:Addr} {items:Array Value} {Q₁:Value→Shared→Prop} (hl:IsTup s.heap l items) (hz:items.size < 2 ^ 62)
  (h:∀ k,Q₁ (.ref s.heap.objs.size) {s with heap:=s.heap.push (mz l ((items.size:Int) - 1)),toks:=k}):
  codeAny (model prog w) A (.call (.builtin "reversed.__new__") ⟨[.type "reversed",.ref l],[]⟩) (wants Q₁ E) s:=by
 refine codeAny_of_tree ?_
 show wpAny _ A.in1 (do checkBuiltinCall "reversed.__new__" ⟨[.type "reversed",.ref l],[]⟩;again (.builtin "reversed.__new__" ⟨[.type "reversed",.ref l],[]⟩)) _ _ s
 refine wpAny_bind (wpAny_of_eq (F.newCall_reversed_1 _) (wpAny_pure ⟨plainId_quiet F.plain_reversed_new _,codeAny_builtin F.entry_reversed_new ?_⟩))
 rw [Around.under_plainId F.plain_reversed_new _]
 unfold Builtin.«reversed.__new__»
 refine wpAny_bind (wpAny_of_eq (newClass_reversed _) ?_)
 try dsimp only
 refine wpAny_bind (wpAny_of_eq (a:=()) (by first | rfl | kernel_rfl) ?_)
 refine wpAny_bind (wpAny_of_eq (a:=()) (by first | rfl | kernel_rfl) ?_)
 try dsimp only
 refine wpAny_bind (wpAny_specialOf hl.typeIs oX ?_)
 try dsimp only
 refine wpAny_bind ?_
 refine wpAny_bind (wpAny_isInstance hl.typeIs sub_tuple_dict ?_)
 rw [if_neg (by decide)]
 refine wpAny_bind (wpAny_specialOf hl.typeIs F.slot_tuple_getitem.lookup ?_)
 dsimp only
 rw [if_pos (by decide+kernel)]
 refine wpAny_pure ?_
 rw [if_neg (by decide)]
 refine wpAny_bind (len_tuple hl (by omega) ?_)
 refine wpAny_bind (wpAny_of_eq (a:=some ((items.size:Nat):Int)) rfl ?_)
 dsimp only
 refine wpAny_bind ?_
 unfold Builtin.SmallTypes.newRecord
 refine wpAny_newObj_type ?_
 exact wpAny_pure (h _)
theorem Fz {l:Addr} {items:Array Value} {Q:Value→Shared→Prop} (hl:IsTup s.heap l items) (hz:items.size < 2 ^ 62)
  (h:∀ k,Q (.ref s.heap.objs.size) {s with heap:=s.heap.push (mz l ((items.size:Int) - 1)),toks:=k}):wpAny (model prog w) A (call (.type "reversed") [.ref l]) Q E s:=by
 refine callType_codes my (F.typeCall_reversed_1 _) F.entry_object_init (Fy (Q₁:=fun obj s₁=>obj= .ref s.heap.objs.size∧∃ k,s₁={s with heap:=s.heap.push (mz l ((items.size:Int) - 1)),toks:=k}) hl hz fun k=>⟨rfl,k,rfl⟩) ?_
 rintro obj s₁ ⟨rfl,k,rfl⟩
 have hT:Shared.TypeIs {s with heap:=s.heap.push (mz l ((items.size:Int) - 1)),toks:=k} (.ref s.heap.objs.size) "reversed":=⟨_,Heap.get?_push_size _ rfl,rfl⟩
 exact ⟨hT,F.args_object_init_2 _ _,(object_init_meets my.init.lookup my.made (by decide)) prog w A.in1 _ _ ⟨hT,rfl,h k⟩⟩
theorem FJ {it l:Addr} {i:Nat} {items:Array Value} {x:Value} {Q:Option Value→Shared→Prop} (hit:IsRvd s.heap it l (i:Int)) (hl:IsTup s.heap l items) (hx:items[i]?=some x) (hz:items.size < 2 ^ 62)
  (hQ:∀ h' k,IsRvd h' it l ((i:Int) - 1)→Heap.SameBut it s.heap h'→Q (some x) {s with heap:=h',toks:=k}):wpAny (model prog w) A (pyNext (.ref it)) Q E s:=by
 obtain ⟨o,ho,hc,hd⟩:=id hit
 have hi:i < items.size:=(Array.getElem?_eq_some_iff.mp hx).1
 unfold pyNext
 refine wpAny_bind (wpAny_attempt (wpAny_callSpecial?_slot (name:=Str.ofString "__next__") hit.typeIs eO
  (wpAny_call_entry eO hit.typeIs kZ ?_ (lU _))))
 unfold Builtin.«reversed.__next__»
 refine wpAny_bind (wpAny_of_eq (a:=(Value.ref it,[])) rfl ?_)
 try dsimp only
 refine wpAny_bind (wpAny_field ho hd (x:=.ref l) rfl ?_)
 refine wpAny_bind (wpAny_field ho hd (x:=rawInt (i:Int)) rfl ?_)
 show wpAny _ _ (if (i:Int) < 0 then _ else _) _ _ s
 rw [if_neg (by omega)]
 refine wpAny_bind (wpAny_specialOf hl.typeIs F.slot_tuple_getitem.lookup ?_)
 rw [if_neg (by decide)]
 refine wpAny_bind (wpAny_mkInt ?_)
 refine wpAny_bind (wpAny_attempt (getItem_tuple (j:=i) hl (by omega) (by omega) ?_ hx ?_))
 ·unfold seqIndex?
  simp
  omega
 dsimp only
 refine wpAny_bind (wpAny_field (s:={s with toks:=s.toks+1}) ho hd (x:=rawInt (i:Int)) rfl ?_)
 refine wpAny_bind (wpAny_setField (s:={s with toks:=s.toks+1}) ho hd (by simp) ?_)
 refine wpAny_pure ⟨x,rfl,wpAny_pure (hQ _ _ ?_ (Heap.SameBut.update ..))⟩
 exact ⟨_,Heap.get?_update_self _ ho (Obj.isFreed_of_fields (Obj.data_mapFields hd _)),(Obj.cls_mapFields ..).trans hc,by
  rw [Obj.data_mapFields hd];simp⟩
theorem IW {it l:Addr} {Q:Option Value→Shared→Prop} (hh:A.handled=none) (hit:IsRvd s.heap it l (-1))
  (hQ:∀ h',Heap.ExtBut it s.heap h'→Q none {s with heap:=h'}):wpAny (model prog w) A (pyNext (.ref it)) Q E s:=by
 obtain ⟨o,ho,hc,hd⟩:=id hit
 unfold pyNext
 refine wpAny_bind (wpAny_attempt (wpAny_callSpecial?_slot (name:=Str.ofString "__next__") hit.typeIs eO
  (wpAny_call_entry eO hit.typeIs kZ ?_ (lU _))))
 unfold Builtin.«reversed.__next__»
 refine wpAny_bind (wpAny_of_eq (a:=(Value.ref it,[])) rfl ?_)
 try dsimp only
 refine wpAny_bind (wpAny_field ho hd (x:=.ref l) rfl ?_)
 refine wpAny_bind (wpAny_field ho hd (x:=rawInt (-1)) rfl ?_)
 show wpAny _ _ (if (-1:Int) < 0 then _ else _) _ _ s
 rw [if_pos (by decide)]
 refine wpAny_bind (wpAny_rule ?_)
 refine wpAny_bind ?_
 refine wpAny_bind (wpAny_setField ho hd (by simp) ?_)
 have sb1:Heap.SameBut it s.heap (s.heap.update it (Obj.mapFields (·.setIfInBounds 1 (rawInt (-1))))):=Heap.SameBut.update ..
 have ho2:=Heap.get?_update_self (Obj.mapFields (·.setIfInBounds 1 (rawInt (-1)))) ho (Obj.isFreed_of_fields (Obj.data_mapFields hd _))
 refine wpAny_setField ho2 (Obj.data_mapFields hd _) (by simp) ?_
 have sb2:Heap.SameBut it (s.heap.update it (Obj.mapFields (·.setIfInBounds 1 (rawInt (-1))))) ((s.heap.update it (Obj.mapFields (·.setIfInBounds 1 (rawInt (-1))))).update it (Obj.mapFields (·.setIfInBounds 0 .none))):=Heap.SameBut.update ..
 have eb:Heap.ExtBut it s.heap ((s.heap.update it (Obj.mapFields (·.setIfInBounds 1 (rawInt (-1))))).update it (Obj.mapFields (·.setIfInBounds 0 .none))):=sb1.extBut.trans sb2.extBut
 show wpAny _ _ _ _ _ {s with heap:=((s.heap.update it (Obj.mapFields (·.setIfInBounds 1 (rawInt (-1))))).update it (Obj.mapFields (·.setIfInBounds 0 .none)))}
 generalize ((s.heap.update it (Obj.mapFields (·.setIfInBounds 1 (rawInt (-1))))).update it (Obj.mapFields (·.setIfInBounds 0 .none)))=h2 at eb ⊢
 refine wpAny_bind ?_
 show wpAny _ _ (newExc (.type "StopIteration") [] >>=_) _ _ _
 refine wpAny_bind ?_
 simp only [newExc,newTuple]
 refine wpAny_bind (wpAny_newObj_type ?_ (by size_fits))
 refine wpAny_bind (m:=firstArgMember _ _) (wpAny_of_eq (a:=Value.none) (by first | rfl | (simp only [firstArgMember];rfl)) ?_)
 refine wpAny_newObj_type ?_ (by size_fits)
 simp only [raiseNew]
 refine wpAny_bind (wpAny_handled ?_)
 first | rw [show A.in1.handled=none from hh] | rw [hh]
 refine wpAny_bind (wpAny_pure (wpAny_throw ?_))
 refine wpAny_bind (wpAny_isInstance (T:="StopIteration") (b:=true) ⟨_,Heap.get?_push_size _ rfl,rfl⟩ isSubtype_stop ?_)
 exact wpAny_pure (hQ _ ((eb.push _).push _))
theorem wL {it l:Addr} {i:Int} {Q:Value→Shared→Prop} (hit:IsRvd s.heap it l i) (h:Q (.ref it) s):wpAny (model prog w) A (pyIter (.ref it)) Q E s:=by
 refine wpAny_pyIter_slot hit.typeIs lV (wpAny_call_entry lV hit.typeIs rY ?_ (sY _))
 show wpAny _ _ (ret (.ref it)) _ _ s
 exact wpAny_pure ⟨_,rfl,"reversed",_,hit.typeIs,eO.lookup,h⟩
end
end L2
namespace L2
open PySem PySem.Spec PyProof.Rows
def Qn (K:PySem.W.Frag) (a:Addr) (n:Nat):It:=
 ⟨fun i H=>i < n∧n < 2 ^ 62∧∃ xs,SqT K H a xs∧xs.length=n,
  fun i H v H'=>H'=H∧∀ xs,SqT K H a xs→xs[n - 1 - i]?=some v,
  fun i _=>i=n⟩
theorem FN {P:Program} {w:World} {K:PySem.W.Frag} {tg:Expr} {n:Nat} {it a:Addr} (hai:a≠it):
  Turn P w K tg (Qn K a n) [it] it (fun i h=>i≤n∧IsRvd h it a ((n:Int) - 1 - (i:Int))) where
 mem:=by simp
 obj:=fun i h st c hc=>by
  obtain ⟨_,⟨o1,e1,c1,d1⟩⟩:=st
  have e:c=it:=by simpa using hc
  subst e
  exact ⟨_,e1,fun v z=>by rw [d1] at z;cases z⟩
 keep:=fun i h h' st kk=>⟨st.1,st.2.at fun o q=>kk it (by simp) o q⟩
 item:=by
  intro X hP hw hK hc i pins s σ H E I hf st hg
  subst hP hw hK
  obtain ⟨hi,h1⟩:=st
  obtain ⟨hlt,h62,xs,hq,hlen⟩:=hg
  obtain ⟨its,rv,p,_⟩:=I.tuple hq
  have l1:=rv.length
  obtain ⟨x,hx⟩:∃ x,xs[n - 1 - i]?=some x:=⟨_,List.getElem?_eq_getElem (by omega)⟩
  obtain ⟨u,hu,ru⟩:=rv.get hx
  obtain ⟨f0,f1,f2,f3,f4,f5⟩:=hf it (by simp)
  have e:(n:Int) - 1 - (i:Int)=((n - 1 - i:Nat):Int):=by omega
  rw [e] at h1
  refine FJ h1 p (x:=u) (by simpa using hu) (by simp;omega) fun h' k st' sb=>?_
  have I1:Inv X pins σ H {s with heap:=h',toks:=k}:=I.turned (t':=k) (fun b o hb e=>(sb.2 b hb).trans e) f0 f1 f3 f4 f5
  obtain ⟨o,eo,c,d⟩:=id st'
  refine ⟨u,rfl,qR (s:={s with heap:=h',toks:=k}) eo c d (by decide) ⟨x,H,I1,ru,⟨rfl,fun ys hy=>by rw [I.tuple_inj hy hq];exact hx⟩,⟨hlt,?_⟩,fun b hb=>(hf b hb).1⟩⟩
  have e2:((n - 1 - i:Nat):Int) - 1=(n:Int) - 1 - ((i+1:Nat):Int):=by omega
  rw [← e2]
  exact st'
 done:=by
  intro X hP hw hK hc i pins s σ H E I hf st hg
  subst hP hw hK
  obtain ⟨hi,h1⟩:=st
  have hin:i=n:=hg
  subst hin
  rw [show (i:Int) - 1 - (i:Int)= -1 by omega] at h1
  obtain ⟨f0,f1,f2,f3,f4,f5⟩:=hf it (by simp)
  exact IW (I.ok.hd hc) h1 fun h' eb=>⟨rfl,I.turned (t':=s.toks) (fun b o hb e=>eb b o hb e) f0 f1 f3 f4 f5⟩
 self:=fun _ _ _ _ _ st h=>wL st.2 h
def KQ (K:PySem.W.Frag) (ta:TE):TI:=fun σ H R=>ta σ H fun x H1=>(∃ l xs,x= .ref l∧SqL K H1 l xs∧R (Ql K l xs.length) H1)∨∃ l xs,x= .ref l∧SqT K H1 l xs∧xs.length < 2 ^ 62∧R (Qn K l xs.length) H1
theorem Ja {X:Cx} {K:PySem.W.Frag} {a tg:Expr} {ta:TE} {p pos:Pos} (hK:X.K=K) (hg:Gl X "reversed") (hm:X.mg "reversed"=none) (ha:JE X a ta) (h:autoParam (notStar a=true) L2.auto4._auto_1):
  JI X tg (.Call (.Name "reversed" p) [a] [] pos) (KQ K ta):=⟨by
 subst hK
 intro pins s σ H R I hq
 refine Call_ (fQ I hg hm pH (PyProof.Rows.callWith_type1 (arg1 h (dD (ha.run pins s σ H _ I hq) fun u s1 qq0=>?_)) (cz h) rfl))
 obtain ⟨x,H1,I1,rx,hx⟩:=qq0
 rcases hx with ⟨l,xs,ex,hx,q⟩ | ⟨l,xs,ex,hx,h62,q⟩
 ·subst ex
  cases rx
  obtain ⟨its,rv,ht,hz⟩:=I1.list hx
  have hlen:=rv.length
  have lt:l < s1.heap.objs.size:=by obtain ⟨o,ho,_⟩:=ht.isList;exact Heap.lt_size ho
  refine call_reversed_list ht.isList ?_
  have e0:(s1.heap.push (PySem.revObj l ((its.toArray.size:Int) - 1))).get? s1.heap.objs.size=some (PySem.revObj l ((its.toArray.size:Int) - 1)):=Heap.get?_push_size _ rfl
  have z2:(s1.heap.push (PySem.revObj l ((its.toArray.size:Int) - 1))).IsRevIter s1.heap.objs.size l ((xs.length:Int) - 1 - ((0:Nat):Int)):=⟨_,e0,rfl,by
   show Data.fields #[.ref l,rawInt ((its.toArray.size:Int) - 1)]=_
   rw [show ((its.toArray.size:Int) - 1)=(xs.length:Int) - 1 - ((0:Nat):Int) by rw [List.size_toArray];omega]⟩
  refine wpAny_pyIter_revIter z2 ?_
  refine ⟨s1.heap.objs.size,[s1.heap.objs.size],_,_,H1,rfl,I1.kept (t':=s1.toks) fun b o q=>Heap.get?_push_of_some _ q,Fi (n:=xs.length) (Nat.ne_of_lt lt),⟨Nat.zero_le _,z2⟩,fun b hb=>?_,q⟩
  have e:b=s1.heap.objs.size:=by simpa using hb
  subst e
  exact I1.fpOk (Nat.le_refl _) (I1.hok.fresh (Nat.le_refl _))
 ·subst ex
  cases rx
  obtain ⟨its,rv,ht,hz⟩:=I1.tuple hx
  have hlen:=rv.length
  have lt:l < s1.heap.objs.size:=by obtain ⟨o,ho,_⟩:=id ht;exact Heap.lt_size ho
  refine Fz ht (by simp;omega) fun k=>?_
  have e0:(s1.heap.push (mz l ((its.toArray.size:Int) - 1))).get? s1.heap.objs.size=some (mz l ((its.toArray.size:Int) - 1)):=Heap.get?_push_size _ rfl
  have z2:IsRvd (s1.heap.push (mz l ((its.toArray.size:Int) - 1))) s1.heap.objs.size l ((xs.length:Int) - 1 - ((0:Nat):Int)):=⟨_,e0,rfl,by
   show Data.fields #[.ref l,rawInt ((its.toArray.size:Int) - 1)]=_
   rw [show ((its.toArray.size:Int) - 1)=(xs.length:Int) - 1 - ((0:Nat):Int) by rw [List.size_toArray];omega]⟩
  refine wL z2 ?_
  refine ⟨s1.heap.objs.size,[s1.heap.objs.size],_,_,H1,rfl,I1.kept (t':=k) fun b o q=>Heap.get?_push_of_some _ q,FN (n:=xs.length) (Nat.ne_of_lt lt),⟨Nat.zero_le _,z2⟩,fun b hb=>?_,q⟩
  have e:b=s1.heap.objs.size:=by simpa using hb
  subst e
  exact I1.fpOk (Nat.le_refl _) (I1.hok.fresh (Nat.le_refl _))⟩
section
variable {K:PySem.W.Frag} {σ:St} {H:Hp}
theorem FP {ta:TE} {R:It→Hp→Prop} (h:ta σ H fun x H1=>(∃ l xs,x= .ref l∧SqL K H1 l xs∧R (Ql K l xs.length) H1)∨∃ l xs,x= .ref l∧SqT K H1 l xs∧xs.length < 2 ^ 62∧R (Qn K l xs.length) H1):KQ K ta σ H R:=h
theorem Jb {a:Addr} {xs:List V} {g:TG} {tb:TS} {D:Ends} (Pv:Nat→St→Hp→Prop) (h0:Pv 0 σ H) (hl:∀ i σ H,i≤xs.length→Pv i σ H→SqL K H a xs)
  (hs:∀ i x σ H,i < xs.length→xs[xs.length - 1 - i]?=some x→Pv i σ H→g x σ H fun σ2 H2=>tb {D with nx:=Pv (i+1),ct:=Pv (i+1),bk:=D.nx} σ2 H2) (hd:∀ σ H,Pv xs.length σ H→D.nx σ H):
  ∃ W:Nat→Nat→St→Hp→Prop,(∃ m,W 0 m σ H)∧∀ i m σ H,W i m σ H→
   ((Ql K a xs.length).stop i H∧D.nx σ H)∨((Ql K a xs.length).go i H∧∃ N:St→Hp→Prop,(∀ σ' H',N σ' H'→∃ m',m' < m∧W (i+1) m' σ' H')∧∀ x H',(Ql K a xs.length).yld i H x H'→g x σ H' fun σ2 H2=>tb {D with nx:=N,ct:=N,bk:=D.nx} σ2 H2):=by
 refine ⟨fun i m σ H=>m=xs.length - i∧i≤xs.length∧Pv i σ H,⟨xs.length,by simp,Nat.zero_le _,h0⟩,?_⟩
 rintro i m σ H ⟨rfl,hi,p⟩
 have hq:=hl i σ H hi p
 by_cases hlt:i < xs.length
 ·refine .inr ⟨⟨hlt,xs,hq,rfl⟩,Pv (i+1),fun σ' H' h=>⟨xs.length - (i+1),by omega,rfl,by omega,h⟩,fun x H' y=>?_⟩
  obtain ⟨rfl,hy⟩:=y
  exact hs i x σ _ hlt (hy xs hq) p
 ·obtain rfl:i=xs.length:=by omega
  exact .inl ⟨rfl,hd σ H p⟩
theorem Jc {a:Addr} {xs:List V} {g:TG} {tb:TS} {D:Ends} (h62:xs.length < 2 ^ 62) (Pv:Nat→St→Hp→Prop) (h0:Pv 0 σ H) (hl:∀ i σ H,i≤xs.length→Pv i σ H→SqT K H a xs)
  (hs:∀ i x σ H,i < xs.length→xs[xs.length - 1 - i]?=some x→Pv i σ H→g x σ H fun σ2 H2=>tb {D with nx:=Pv (i+1),ct:=Pv (i+1),bk:=D.nx} σ2 H2) (hd:∀ σ H,Pv xs.length σ H→D.nx σ H):
  ∃ W:Nat→Nat→St→Hp→Prop,(∃ m,W 0 m σ H)∧∀ i m σ H,W i m σ H→
   ((Qn K a xs.length).stop i H∧D.nx σ H)∨((Qn K a xs.length).go i H∧∃ N:St→Hp→Prop,(∀ σ' H',N σ' H'→∃ m',m' < m∧W (i+1) m' σ' H')∧∀ x H',(Qn K a xs.length).yld i H x H'→g x σ H' fun σ2 H2=>tb {D with nx:=N,ct:=N,bk:=D.nx} σ2 H2):=by
 refine ⟨fun i m σ H=>m=xs.length - i∧i≤xs.length∧Pv i σ H,⟨xs.length,by simp,Nat.zero_le _,h0⟩,?_⟩
 rintro i m σ H ⟨rfl,hi,p⟩
 have hq:=hl i σ H hi p
 by_cases hlt:i < xs.length
 ·refine .inr ⟨⟨hlt,h62,xs,hq,rfl⟩,Pv (i+1),fun σ' H' h=>⟨xs.length - (i+1),by omega,rfl,by omega,h⟩,fun x H' y=>?_⟩
  obtain ⟨rfl,hy⟩:=y
  exact hs i x σ _ hlt (hy xs hq) p
 ·obtain rfl:i=xs.length:=by omega
  exact .inl ⟨rfl,hd σ H p⟩
end
end L2
namespace L2
open PySem PySem.W PySem.Spec PyProof.Rows
section
variable {prog:Program} {w:World} {A:Around} {E:Value→Shared→Prop} {s:Shared}
theorem wM {l:Addr} {vs:List Value} {Q:List Value→Shared→Prop} (hl:IsTup s.heap l vs.toArray) (hsz:vs.length≤sizeLine)
  (h:Q vs {s with heap:=(s.heap.push (seqObj "list" #[] 0)).update s.heap.objs.size (Obj.mapSeq (· ++ vs.toArray))}):
  wpAny (model prog w) A (collect (.ref l)) Q E s:=by
 obtain ⟨o,ho,hc,n,hd⟩:=id hl
 unfold collect
 refine wpAny_bind (wpAny_runValue (codeAny_builtin entry_proto_collect' ?_))
 show wpAny _ _ (do again (.builtin "list.__iadd__" ⟨[← newList [],.ref l],[]⟩)) _ _ s
 refine wpAny_bind (wpAny_newList (wpAny_pure ⟨Code.quiet_builtin _ (by decide+kernel),codeAny_builtin entry_list_iadd' ?_⟩))
 show wpAny _ _ (Builtin.List.listExtendWith (.ref s.heap.objs.size) (.ref l) (.ref s.heap.objs.size)) _ _ {s with heap:=s.heap.push (seqObj "list" #[] 0)}
 unfold Builtin.List.listExtendWith
 have ho':(s.heap.push (seqObj "list" #[] 0)).get? l=some o:=Heap.get?_push_of_some _ ho
 refine wpAny_bind (wpAny_typeOf (T:="tuple") ⟨o,ho',hc⟩ ?_)
 have ht:(Value.type "tuple" == Value.type "tuple")=true:=by rfl
 rw [if_pos (by rw [ht];simp)]
 refine wpAny_bind (listItems_at ho' hd ?_)
 refine wpAny_bind (listItems_at (xs:=#[]) (n:=0) (Heap.get?_push_size _ rfl) rfl ?_)
 rw [if_neg (by simp)]
 refine wpAny_bind (listUpdate_at (xs:=#[]) (n:=0) (Heap.get?_push_size _ rfl) rfl ?_ (Nat.zero_le _) (by show (#[] ++ vs.toArray).size≤sizeLine+1;simp only [Array.size_append,List.size_toArray,List.length_nil];omega))
 refine wpAny_pure ?_
 show wpAny (model prog w) A (do
   let o ← load s.heap.objs.size
   match o.data with
   | .seq xs _=>pure xs.toList
   | _=>unsupported "internal:collect") Q E {s with heap:=(s.heap.push (seqObj "list" #[] 0)).update s.heap.objs.size (Obj.mapSeq (· ++ vs.toArray))}
 refine wpAny_bind (wpAny_load (get?_update_seq (Heap.get?_push_size _ rfl) _) ?_)
 show wpAny _ _ (pure ((#[]:Array Value) ++ vs.toArray).toList) Q E _
 rw [show ((#[]:Array Value) ++ vs.toArray).toList=vs by simp]
 exact wpAny_pure h
theorem qi {l:Addr} {vs:List Value} {κ:SortKind} {rv:Value→Int} {Q:Value→Shared→Prop} (hl:∀ (A':Around) (Q':List Value→Shared→Prop),Q' vs {s with heap:=(s.heap.push (seqObj "list" #[] 0)).update s.heap.objs.size (Obj.mapSeq (· ++ vs.toArray))}→wpAny (model prog w) A' (collect (.ref l)) Q' E s) (few:vs.length≤100000)
  (hK:2≤vs.length→∀ (A':Around) (s':Shared) (R:SortKind→Shared→Prop),(∀ b o,s.heap.get? b=some o→s'.heap.get? b=some o)→R κ s'→wpAny (model prog w) A' (keyKind' vs.toArray) R E s')
  (hC:∀ (A':Around) (s':Shared) (x y:Value) (R:Bool→Shared→Prop) (E':Value→Shared→Prop),(∀ b o,s.heap.get? b=some o→s'.heap.get? b=some o)→x∈vs→y∈vs→R (decide (rv x < rv y)) s'→wpAny (model prog w) A' (keyLt' κ x y) R E' s')
  (h:∀ out:List Value,out.Perm vs→(out.Pairwise fun x y=>rv x≤rv y)→Q (.ref (s.heap.objs.size+1)) {s with heap:=sortedAll s.heap vs out.toArray}):
  wpAny (model prog w) A (call (.builtin "sorted") [.ref l]) Q E s:=by
 refine Calls.call_function_entry kind_sorted plain_sorted entry_sorted (args_sorted1 _) ?_
 unfold Builtin.«sorted»
 have hs:200000≤sizeLine:=by decide
 refine wpAny_bind (m:=checkCount "sorted" 1 1 _) (wpAny_pure (wpAny_bind (hl _ _ ?_)))
 refine wpAny_bind (wpAny_newList ?_)
 have z1:((s.heap.push (seqObj "list" #[] 0)).update s.heap.objs.size (Obj.mapSeq (· ++ vs.toArray))).objs.size=s.heap.objs.size+1:=by rw [Heap.size_update,size_push']
 have old:∀ b o,s.heap.get? b=some o→(((s.heap.push (seqObj "list" #[] 0)).update s.heap.objs.size (Obj.mapSeq (· ++ vs.toArray))).push (seqObj "list" vs.toArray 0)).get? b=some o:=fun b o e=>by
  have lb:=Heap.lt_size e
  refine Heap.get?_push_of_some _ ?_
  rw [Heap.get?_update_ne _ _ _ _ (Nat.ne_of_lt lb)]
  exact Heap.get?_push_of_some _ e
 have hoL:(((s.heap.push (seqObj "list" #[] 0)).update s.heap.objs.size (Obj.mapSeq (· ++ vs.toArray))).push (seqObj "list" vs.toArray 0)).get? (s.heap.objs.size+1)=some (seqObj "list" vs.toArray 0):=
  z1 ▸ Heap.get?_push_size _ rfl
 show wpAny _ _ _ _ _ {s with heap:=(((s.heap.push (seqObj "list" #[] 0)).update s.heap.objs.size (Obj.mapSeq (· ++ vs.toArray))).push (seqObj "list" vs.toArray 0))}
 rw [z1]
 have ok:∀ {s':Shared},Ry (s.heap.objs.size+1) (((s.heap.push (seqObj "list" #[] 0)).update s.heap.objs.size (Obj.mapSeq (· ++ vs.toArray))).push (seqObj "list" vs.toArray 0)) s'.heap→∀ b o,s.heap.get? b=some o→s'.heap.get? b=some o:=fun bt b o e=>bt b o (Nat.ne_of_lt (Nat.lt_succ_of_lt (Heap.lt_size e))) (old b o e)
 refine wpAny_bind (wpAny_holding (wpAny_call_entry slot_list_sort ⟨_,hoL,rfl⟩ entry_list_sort (Fx (κ:=κ) (rv:=rv) hoL few (fun h2 s' R bt r=>hK h2 _ s' R (ok bt) r) (fun s' x y R E' bt hx hy r=>hC _ s' x y R E' (ok bt) hx hy r) fun out h1 h2=>⟨_,rfl,?_⟩) (args_list_sort _)))
 exact wpAny_pure ⟨_,rfl,h out h1 h2⟩
end
section
variable {X:Cx}
def FQ:List V→Hp→VK→Prop:=fun xs H Q=>(∃ (p:Addr) (ns:List Int),xs=[.ref p]∧(H p=some (.lst (ns.map V.int))∨H p=some (.tup (ns.map V.int)))∧ns.length≤100000∧
  ∀ (q:Addr) (ms:List Int),H q=none→ms.Perm ns→ms.Pairwise (· ≤ ·)→Q (.ref q) (upd H q (.lst (ms.map V.int))))∨
 ∃ (p:Addr) (as:List Addr) (ct:Addr→List Int),xs=[.ref p]∧H p=some (.lst (as.map V.ref))∧as.length≤100000∧(∀ a∈as,H a=some (.tup ((ct a).map V.int))∧ct a≠[])∧
  ∀ (q:Addr) (bs:List Addr),H q=none→bs.Perm as→bs.Pairwise (fun a b=>HT.lexLt (ct b) (ct a)=false)→Q (.ref q) (upd H q (.lst (bs.map V.ref)))
theorem uw:∀ {as:List Addr} {its:List Value},Vals (as.map V.ref) its→its=as.map Value.ref
 | [],_,h=>by cases h;rfl
 | a :: as,_,h=>by
  cases h with
  | cons h1 h2=>
   cases h1
   rw [uw h2];rfl
theorem ux:∀ (as:List Addr),Vals (as.map V.ref) (as.map Value.ref)
 | []=>.nil
 | a :: as=>.cons rfl (ux as)
theorem Bv {as:List Addr} {out:List Value} (h:out.Perm (as.map Value.ref)):∃ bs:List Addr,out=bs.map Value.ref∧bs.Perm as:=by
 have key:∀ out:List Value,(∀ v∈out,∃ a,v=Value.ref a)→∃ bs:List Addr,out=bs.map Value.ref:=by
  intro out
  induction out with
  | nil=>exact fun _=>⟨[],rfl⟩
  | cons v out ih=>
   intro hv
   obtain ⟨a,rfl⟩:=hv v List.mem_cons_self
   obtain ⟨bs,rfl⟩:=ih fun u hu=>hv u (List.mem_cons_of_mem _ hu)
   exact ⟨a :: bs,rfl⟩
 obtain ⟨bs,rfl⟩:=key out fun v hv=>by
  obtain ⟨a,_,rfl⟩:=List.mem_map.mp (h.mem_iff.mp hv)
  exact ⟨a,rfl⟩
 refine ⟨bs,rfl,?_⟩
 have:=h.map (fun v=>match v with | Value.ref a=>a | _=>0)
 rwa [List.map_map,List.map_map,show ((fun v:Value=>match v with | Value.ref a=>a | _=>0) ∘ Value.ref)=id from rfl,List.map_id,List.map_id] at this
def Bw (ts:List (List Int)) (t:List Int):Int:=((ts.countP fun u=>HT.lexLt u t):Nat)
theorem zy {ts:List (List Int)} {a b:List Int} (ha:a∈ts):decide (Bw ts a < Bw ts b)=HT.lexLt a b:=by
 unfold Bw
 cases h:HT.lexLt a b with
 | true=>
  refine decide_eq_true ?_
  have key:∀ l:List (List Int),a∈l→l.countP (fun u=>HT.lexLt u a) < l.countP (fun u=>HT.lexLt u b):=by
   intro l
   induction l with
   | nil=>intro h;cases h
   | cons u l ih=>
    intro hm
    rw [List.countP_cons,List.countP_cons]
    have le:l.countP (fun u=>HT.lexLt u a)≤l.countP (fun u=>HT.lexLt u b):=List.countP_mono_left fun x _ hx=>nO hx h
    by_cases e:u=a
    ·rw [e,Fg,h,if_neg (by decide),if_pos rfl]
     omega
    ·have hm':a∈l:=(List.mem_cons.mp hm).resolve_left fun z=>e z.symm
     have:=ih hm'
     by_cases c:HT.lexLt u a=true
     ·rw [if_pos c,if_pos (nO c h)];omega
     ·rw [if_neg c];split <;> omega
  have:=key ts ha
  omega
 | false=>
  refine decide_eq_false ?_
  have le:ts.countP (fun u=>HT.lexLt u b)≤ts.countP (fun u=>HT.lexLt u a):=List.countP_mono_left fun x _ hx=>by
   cases c:HT.lexLt b a with
   | true=>exact nO hx c
   | false=>rw [wD h c];exact hx
  omega
theorem yj {prog:Program} {w:World} {A:Around} {E:Value→Shared→Prop} {s:Shared} {as:List Addr} {ct:Addr→List Int} {Q:SortKind→Shared→Prop} (h2:2≤as.length) (h:∀ a∈as,∃ its,IsTup s.heap a its.toArray∧IntsAre its (ct a)∧ct a≠[]) (q:Q (tuples' true) s):
  wpAny (model prog w) A (keyKind' (as.map Value.ref).toArray) Q E s:=by
 refine Bk (ts:=as.map ct) (by rw [List.length_map];exact h2) (fun i hi=>?_) q
 rw [List.length_map] at hi
 obtain ⟨its,it,ia,ne⟩:=h as[i] (List.getElem_mem hi)
 have e:(as.map ct).getD i []=ct as[i]:=by rw [List.getD_eq_getElem?_getD,List.getElem?_map,List.getElem?_eq_getElem hi];rfl
 rw [e]
 exact ⟨as[i],its,by rw [List.getElem?_map,List.getElem?_eq_getElem hi];rfl,it,ia,ne⟩
theorem uW:CallR X (.builtin "sorted") FQ:=by
 intro pins s σ H xs us Q I r h
 have hs2:200000≤sizeLine:=by decide
 rcases h with ⟨p,ns,rfl,hp,few,q⟩ | ⟨p,as,ct,rfl,hp,few,ht,q⟩
 ·obtain ⟨u,rfl,ru⟩:=vals1 r
  cases ru
  obtain ⟨its,rv,hcol⟩:∃ its:List Value,Vals (ns.map V.int) its∧∀ (A':Around) (E':Value→Shared→Prop) (Q':List Value→Shared→Prop),Q' its {s with heap:=(s.heap.push (seqObj "list" #[] 0)).update s.heap.objs.size (Obj.mapSeq (· ++ its.toArray))}→wpAny (model X.prog X.w) A' (collect (.ref p)) Q' E' s:=by
   rcases hp with hp | hp
   ·obtain ⟨hz,its,n,rv,g⟩:=I.hok p _ hp
    refine ⟨its,rv,fun A' E' Q' hq=>collect_list ⟨_,g,rfl,n,rfl⟩ hq (hsz:=?_)⟩
    rw [← rv.length];exact hz
   ·obtain ⟨hz,its,rv,g⟩:=I.hok p _ hp
    exact ⟨its,rv,fun A' E' Q' hq=>wM g (by rw [← rv.length];exact hz) hq⟩
  have hi:IntsAre its ns:=intsAre_of rv
  have hl:=rv.length
  rw [List.length_map] at hl
  refine qi (vs:=its) (κ:=oneType') (rv:=numOf) (fun A' Q' hq=>hcol A' _ Q' hq) (by omega) ?_ ?_ fun out hperm hs=>?_
  ·intro h2 A' s' R _ hr
   obtain ⟨v₁,v₂,rest,rfl⟩:∃ v₁ v₂ rest,its=v₁ :: v₂ :: rest:=by
    match its,h2 with
    | v₁ :: v₂ :: rest,_=>exact ⟨v₁,v₂,rest,rfl⟩
   rw [keyKind_ints hi]
   exact wpAny_pure hr
  ·intro A' s' x y R E' _ hx hy hr
   obtain ⟨a,t,rfl⟩:=rW hi hx
   obtain ⟨b,u,rfl⟩:=rW hi hy
   rw [keyLt'_oneType]
   exact oneLt_int hr
  ·obtain ⟨e,he⟩:=sortedAll_at s.heap its out.toArray
   have ho:IntsAre out (out.map numOf):=intsAre_map out fun v hv=>rW hi (hperm.mem_iff.mp hv)
   have hm:(out.map numOf).Perm ns:=(hperm.map _).trans (List.Perm.of_eq hi.nums)
   have hml:(out.map numOf).length=ns.length:=hm.length_eq
   exact ⟨.ref (s.heap.objs.size+1),_,I.laid (t':=s.toks) (o:=.lst ((out.map numOf).map V.int)) (fun b ob q=>sortedAll_old q) (Nat.le_succ _) ⟨by rw [List.length_map];omega,out,e,Be ho,by simpa using he⟩,rfl,q _ _ (I.hok.fresh (Nat.le_succ _)) hm (List.pairwise_map.mpr hs)⟩
 ·obtain ⟨u,rfl,ru⟩:=vals1 r
  cases ru
  obtain ⟨hz,its,n,rv,g⟩:=I.hok p _ hp
  obtain rfl:=uw rv
  have tup:∀ a∈as,∃ its,IsTup s.heap a its.toArray∧IntsAre its (ct a)∧ct a≠[]:=fun a ha=>by
   obtain ⟨h1,h2⟩:=ht a ha
   obtain ⟨_,it,rt,tt⟩:=I.hok a _ h1
   exact ⟨it,tt,intsAre_of rt,h2⟩
  have tupK:∀ s':Shared,(∀ b o,s.heap.get? b=some o→s'.heap.get? b=some o)→∀ a∈as,∃ its,IsTup s'.heap a its.toArray∧IntsAre its (ct a)∧ct a≠[]:=fun s' hk a ha=>by
   obtain ⟨its,⟨o,go,rr⟩,h2⟩:=tup a ha
   exact ⟨its,⟨o,hk _ _ go,rr⟩,h2⟩
  refine qi (vs:=as.map Value.ref) (κ:=tuples' true) (rv:=fun v=>match v with | .ref a=>Bw (as.map ct) (ct a) | _=>0) (fun A' Q' hq=>collect_list ⟨_,g,rfl,n,rfl⟩ hq (hsz:=by rw [List.length_map];omega)) (by rw [List.length_map];omega) ?_ ?_ fun out hperm hs=>?_
  ·intro h2 A' s' R hk hr
   exact yj (by rwa [List.length_map] at h2) (tupK s' hk) hr
  ·intro A' s' x y R E' hk hx hy hr
   obtain ⟨a,ha,rfl⟩:=List.mem_map.mp hx
   obtain ⟨b,hb,rfl⟩:=List.mem_map.mp hy
   obtain ⟨i1,t1,n1,_⟩:=tupK s' hk a ha
   obtain ⟨i2,t2,n2,_⟩:=tupK s' hk b hb
   refine Rz t1 t2 n1 n2 ?_
   rw [← zy (ts:=as.map ct) (List.mem_map.mpr ⟨a,ha,rfl⟩)]
   exact hr
  ·obtain ⟨e,he⟩:=sortedAll_at s.heap (as.map Value.ref) out.toArray
   obtain ⟨bs,rfl,hb⟩:=Bv hperm
   have hbl:=hb.length_eq
   refine ⟨.ref (s.heap.objs.size+1),_,I.laid (t':=s.toks) (o:=.lst (bs.map V.ref)) (fun b ob q=>sortedAll_old q) (Nat.le_succ _) ⟨by rw [List.length_map];omega,_,e,ux bs,by simpa using he⟩,rfl,q _ bs (I.hok.fresh (Nat.le_succ _)) hb ?_⟩
   rw [List.pairwise_map] at hs
   refine hs.imp_of_mem fun {a b} ha hb' hab=>?_
   have:=zy (ts:=as.map ct) (a:=ct b) (b:=ct a) (List.mem_map.mpr ⟨b,hb.mem_iff.mp hb',rfl⟩)
   rw [← this]
   exact decide_eq_false (by have:Bw (as.map ct) (ct a)≤Bw (as.map ct) (ct b):=hab;omega)
end
section
variable {H:Hp} {Q:VK}
theorem Jd {p:Addr} {ns:List Int} (hp:H p=some (.lst (ns.map V.int))∨H p=some (.tup (ns.map V.int))) (hn:ns.length≤100000) (h:∀ (q:Addr) (ms:List Int) (H':Hp),H q=none→Same H H'→H' q=some (.lst (ms.map V.int))→ms.Perm ns→ms.Pairwise (· ≤ ·)→Q (.ref q) H'):FQ [.ref p] H Q:=
 .inl ⟨p,ns,rfl,hp,hn,fun q ms nq a b=>h q ms _ nq ((Same.refl H).upd nq) ak a b⟩
end
end L2
namespace L2
open PySem PySem.Spec PyProof.Rows
end L2
namespace L2
open PySem PySem.Spec PyProof.Rows
def yl (K:PySem.W.Frag):R2:=fun x y H Q=>Ip K x y H Q∨KD K x y H Q
section
variable {X:Cx}
theorem d7 {K:PySem.W.Frag} (hK:X.K=K) (hu:X.A.units+64 < cLine):OpR X (compareOp .Eq) (yl K):=by
 subst hK
 exact (uU rfl hu).or (Iz (Nat.lt_of_le_of_lt (Nat.le_add_right _ _) hu))
end
section
variable {H:Hp} {Q:VK} {K:PySem.W.Frag}
theorem FT {i j:Int} (h:Q (.bl (decide (V.int i=V.int j))) H):yl K (.int i) (.int j) H Q:=.inl (jz h)
theorem FW {i j:Bool} (h:Q (.bl (decide (V.bl i=V.bl j))) H):yl K (.bl i) (.bl j) H Q:=.inl (jA h)
theorem Oz {v:V} (f:dZ v=true) (h:Q (.bl true) H):yl K v v H Q:=by
 refine .inl (.inl (.inl (.inl (.inl ?_))))
 cases v with
 | non=>exact ⟨rfl,by rw [decide_eq_true rfl];exact h⟩
 | bl b=>exact ⟨rfl,by rw [decide_eq_true rfl];exact h⟩
 | int i=>exact ⟨rfl,by rw [decide_eq_true rfl];exact h⟩
 | str i=>exact ⟨rfl,by rw [decide_eq_true rfl];exact h⟩
 | _=>cases f
theorem OD {a b:Addr} {xs:List V} (ha:H a=some (.lst xs)) (hb:H b=some (.lst xs)) (f:∀ v∈xs,dZ v=true∨∃ r,v= .ref r) (h:Q (.bl true) H):yl K (.ref a) (.ref b) H Q:=
 .inl (.inl (.inr ⟨a,b,xs,rfl,rfl,SqL.of ha,SqL.of hb,f,h⟩))
theorem uX {a b:Addr} {xs:List V} (ha:H a=some (.tup xs)) (hb:H b=some (.tup xs)) (f:∀ v∈xs,dZ v=true∨∃ r,v= .ref r) (h:Q (.bl true) H):yl K (.ref a) (.ref b) H Q:=
 .inl (.inr (.inl ⟨a,b,xs,rfl,rfl,SqT.of ha,SqT.of hb,f,h⟩))
theorem OJ {a:Addr} (ha:H a=some (.dK [])) (h:Q (.bl true) H):yl K (.ref a) (.ref a) H Q:=.inr (.inl ⟨a,rfl,rfl,ha,h⟩)
end
end L2
namespace L2
open PySem PySem.Spec PyProof.Rows
section
variable {X:Cx} {N':List Str} {scope:Scope} {C:Addr} {s₀:Shared} {H₀:Hp} {ex:List Addr} {x:Str} {pos:Pos}
theorem RB (i:Nat) (h:scope.names.lookup x=some .cell) (hN:N'.Nodup) (hi:autoParam (N'[i]?=some x) L2.auto4._auto_1):JG (lC X N' scope C s₀ H₀ ex) (.Name x pos) (jL i):=
 ⟨uC hN hi (.inr (mX h)) (.inl (decide_eq_true h))⟩
end
theorem O1 {N:List Str} {sc:Scope} {N':List Str} {scope:Scope} {sub:List (Option Nat)} {env:Env} (S:lQ N sc N' scope sub):lQ N (relabel sc env) N' scope sub:=
 ⟨S.kind,S.cel,S.loc,fun x hx hk=>(S.free x hx hk).elim (fun h=>.inl (mX h)) (fun h=>jk h),S.len,S.at_⟩
end L2
namespace L2
open PySem PySem.Spec PyProof.Rows
def KR:List V→Hp→VK→Prop:=fun xs H Q=>(∃ i j,xs=[.int i,.int j]∧Q (.int (if j < i then j else i)) H)∨(∃ i j k,xs=[.int i,.int j,.int k]∧∀ M,(M=i∨M=j∨M=k)→M≤i→M≤j→M≤k→Q (.int M) H)∨
 ∃ (p:Addr) (ns:List Int),xs=[.ref p]∧H p=some (.lst (ns.map V.int))∧ns≠[]∧∀ M,M∈ns→(∀ a∈ns,M≤a)→Q (.int M) H
section
variable {X:Cx}
theorem vals3 {v1 v2 v3:V} {us:List Value} (r:Vals [v1,v2,v3] us):∃ u1 u2 u3,us=[u1,u2,u3]∧RelV v1 u1∧RelV v2 u2∧RelV v3 u3:=by
 cases r with
 | cons a r=>cases r with
  | cons b r=>cases r with
   | cons c r=>
    cases r
    exact ⟨_,_,_,rfl,a,b,c⟩
theorem Bx (hc:X.calm=true):CallR X (.builtin "min") KR:=by
 intro pins s σ H xs us Q I r h
 rcases h with h | ⟨i,j,k,rfl,q⟩ | ⟨p,ns,rfl,hp,hne,q⟩
 ·exact zX hc pins s σ H xs us Q I r h
 ·obtain ⟨u1,u2,u3,rfl,⟨t1,rfl⟩,⟨t2,rfl⟩,⟨t3,rfl⟩⟩:=vals3 r
  refine min_three_ints (I.ok.hd hc) fun h' tk hk=>?_
  have key:∀ (M:Int) (t:Tok),(M=i∨M=j∨M=k)→M≤i→M≤j→M≤k→EP X pins σ Q (.int M t) {s with heap:=h',toks:=tk}:=fun M t h0 h1 h2 h3=>⟨.int M,H,I.kept hk,⟨t,rfl⟩,q M h0 h1 h2 h3⟩
  by_cases hba:j < i <;> by_cases hc1:k < j <;> by_cases hc2:k < i <;> simp only [hba,hc1,hc2,if_true,if_false] <;> exact key _ _ (by omega) (by omega) (by omega) (by omega)
 ·obtain ⟨u,rfl,ru⟩:=vals1 r
  cases ru
  obtain ⟨hz,its,n,rv,g⟩:=I.hok p _ hp
  have hi:IntsAre its ns:=intsAre_of rv
  have hl:=rv.length
  obtain ⟨ys,ey⟩:=hi.allInts.items
  have hn:=hi.numsOf
  have hsz:0 < ys.size:=by
   have e1:=congrArg Array.size ey
   have:0 < ns.length:=List.length_pos_iff.mpr hne
   rw [List.length_map] at hl
   simp [intItems] at e1
   omega
  have hL:s.heap.IsList p (intItems ys):=⟨_,g,rfl,n,by rw [← ey]⟩
  have en:ys.toList.map (·.1)=ns:=by rw [← nums_intItems,← ey,← hn]
  refine min_intList (I.ok.hd hc) hL hsz fun v h' tk hv hk=>?_
  obtain ⟨t,rfl⟩:=intItems_at hv
  obtain ⟨h1,h2⟩:=argBest_lt (numAt ys) (ys.size - 1)
  refine ⟨.int _,H,I.kept hk,⟨t,rfl⟩,q _ ?_ fun a ha=>?_⟩
  ·rw [← en,numAt_eq];exact getD_mem (by rw [List.length_map,Array.length_toList];omega)
  ·rw [← en] at ha
   obtain ⟨j,hj,rfl⟩:=mem_getD ha
   rw [List.length_map,Array.length_toList] at hj
   rw [← numAt_eq];exact h2 j (by omega)
end
section
variable {H:Hp} {Q:VK}
theorem qK {i j:Int} (h:Q (.int (if j < i then j else i)) H):KR [.int i,.int j] H Q:=.inl ⟨_,_,rfl,h⟩
end
section
variable {sub:List (Option Nat)} {g:TG} {tt:TT} {te:TE} {σ:St} {Q:VK} {H:Hp} {K:PySem.W.Frag} {a b:Addr} {xs ys:List V}
theorem ym (Pv:Nat→List V→Hp→Prop) (hn:xs.length≤sizeLine) (h0:Pv 0 [] H) (hl:∀ i zs H,Pv i zs H→zs.length≤i) (hq:∀ i zs H,Pv i zs H→SqL K H a xs)
  (hs:∀ i zs H T x,xs[i]?=some x→Pv i zs H→H T=none→g (.ref T) (b8 sub σ) (upd H T (.tup [.int i,x])) fun σ2 H2=>KeepSt (b8 sub σ) σ2∧tt σ2 H2 fun b H3=>if b=true then te σ2 H3 fun y H4=>Pv (i+1) (zs ++ [y]) H4 else Pv (i+1) zs H3)
  (hd:∀ zs H D H',Pv xs.length zs H→H D=none→Same H H'→H' D=some (.lst zs)→Q (.ref D) H'):jM sub g tt te σ Q (Nr K a) H:=
 qz (n:=xs.length) Pv hn h0 hl (fun i zs H hi p=>⟨xs,xs[i],hq i zs H p,List.getElem?_eq_getElem hi⟩) (fun zs H p=>⟨xs,hq _ zs H p,Nat.le_refl _⟩) (fun i zs H x H' hi p y=>by
  obtain ⟨T,u,hT,e1,e2,e4⟩:=y
  subst e1 e4
  exact hs i zs H T u (e2 xs (hq i zs H p)) p hT) fun zs H p D nD=>hd zs H D _ p nD ((Same.refl H).upd nD) ak
end
end L2
namespace HT
open PySem PySem.Spec PyProof.Rows
section
variable {prog:Program} {w:World} {A:Around} {E:Value→Shared→Prop} {s:Shared}
theorem getItem_tuple_whole {t sl:Addr} {items:Array Value} {vl vu:Value} {lo hi:Option Int} {Q:Value→Shared→Prop} (ht:IsTup s.heap t items) (hs:s.heap.IsSliceOf sl vl vu .none) (pl:IsPart vl lo) (pu:IsPart vu hi)
  (hw:sIx items.size 0 lo=0∧sIx items.size items.size hi=items.size) (h:Q (.ref t) s):wpAny (model prog w) A (getItem (.ref t) (.ref sl)) Q E s:=by
 obtain ⟨os,hos,hcs,hds⟩:=id hs
 have hTs:s.TypeIs (.ref sl) "slice":=⟨os,hos,hcs⟩
 unfold getItem
 try with_reducible refine wpAny_holding ?_
 first | refine wpAny_bind (wpAny_pure ?_) | skip
 refine wpAny_bind (wpAny_sequenceKey ht.typeIs (by decide) ?_)
 refine wpAny_bind (wpAny_callSpecial?_slot (name:=Str.ofString "__getitem__") ht.typeIs PyProof.Rows.slot_tuple_getitem
  (wpAny_call_entry PyProof.Rows.slot_tuple_getitem ht.typeIs entry_tuple_getitem ?_ (args_tuple_getitem _ _)))
 show wpAny _ _ (Builtin.Tuple.tupleItemsOf (.ref t) >>=_) _ _ s
 refine wpAny_bind (tupleItemsOf_ ht ?_)
 refine wpAny_bind (wpAny_typeOf hTs ?_)
 rw [if_pos (by decide)]
 refine wpAny_bind (iY hs pl pu ?_)
 have hyes:((((sIx items.size 0 lo:Nat):Int) == 0 && (1:Int) == 1 && (sIx items.size items.size hi - sIx items.size 0 lo) == items.size)=true):=by
  rw [hw.1,hw.2];simp
 show wpAny _ _ (if (((sIx items.size 0 lo:Nat):Int) == 0 && (1:Int) == 1 && (sIx items.size items.size hi - sIx items.size 0 lo) == items.size)=true then _ else _) _ _ s
 rw [if_pos hyes]
 unfold Builtin.Tuple.tupleIsExact
 refine wpAny_bind (wpAny_bind (wpAny_typeOf ht.typeIs (wpAny_pure ?_)))
 rw [if_pos (by decide)]
 exact wpAny_bind (wpAny_rule (wpAny_pure ⟨_,rfl,wpAny_pure h⟩))
end
end HT
namespace L2
open PySem PySem.Spec PyProof.Rows
section
variable {X:Cx}
def RC (K:PySem.W.Frag):V→Option Int→Option Int→Hp→VK→Prop:=fun x lo hi H Q=>∃ a xs,x= .ref a∧SqT K H a xs∧(HT.sIx xs.length 0 lo=0∧HT.sIx xs.length xs.length hi=xs.length)∧Q (.ref a) H
theorem Je:SlR X (RC X.K):=by
 intro pins s σ H x v vl vu lo hi sl Q I rx hs pl pu h
 obtain ⟨a,xs,rfl,hx,hw,q⟩:=h
 cases rx
 obtain ⟨its,r,ht,hz⟩:=I.tuple hx
 have hlen:its.toArray.size=xs.length:=by rw [List.size_toArray];exact r.length.symm
 refine ⟨"tuple",_,PyProof.Rows.slot_tuple_getitem.lookup,ht.typeIs,?_⟩
 exact HT.getItem_tuple_whole ht hs pl pu (by rw [hlen];exact hw) ⟨.ref a,H,I,rfl,q⟩
def O2 (K:PySem.W.Frag):V→Option Int→Option Int→Hp→VK→Prop:=fun x lo hi H Q=>rSl K x lo hi H Q∨RC K x lo hi H Q
theorem gO {K:PySem.W.Frag} (hK:X.K=K):SlR X (O2 K):=by
 subst hK
 exact MP.or Je
end
section
variable {H:Hp} {Q:VK} {K:PySem.W.Frag} {p:Addr} {xs:List V} {lo hi:Option Int}
theorem jE (hp:H p=some (.lst xs)) (h:∀ q H',H q=none→Same H H'→H' q=some (.lst (fO xs lo hi))→Q (.ref q) H'):O2 K (.ref p) lo hi H Q:=.inl (Q9 (SqL.of hp) fun q nq=>h q _ nq ((Same.refl H).upd nq) ak)
theorem O3 (hp:H p=some (.tup xs)) (h:∀ q H',Same H H'→H' q=some (.tup (fO xs lo hi))→Q (.ref q) H'):O2 K (.ref p) lo hi H Q:=by
 by_cases hw:HT.sIx xs.length 0 lo=0∧HT.sIx xs.length xs.length hi=xs.length
 ·refine .inr ⟨p,xs,rfl,SqT.of hp,hw,h p H (Same.refl H) ?_⟩
  unfold fO
  rw [hw.1,hw.2,List.drop_zero,Nat.sub_zero,List.take_length];exact hp
 ·exact .inl (.inr (.inl ⟨p,xs,rfl,SqT.of hp,hw,fun q nq=>h q _ ((Same.refl H).upd nq) ak⟩))
end
theorem rZ {xs:List V} {k:Nat}:fO xs (some (k:Int)) none=xs.drop k:=by
 unfold fO
 rw [HT.sIx_none,HT.sIx_nat]
 by_cases h:k≤xs.length
 ·rw [Nat.min_eq_left h,List.take_of_length_le (by rw [List.length_drop];omega)]
 ·rw [Nat.min_eq_right (by omega),List.drop_eq_nil_of_le (by omega),List.drop_eq_nil_of_le (by omega)];simp
theorem By {xs:List V}:fO xs none none=xs:=by
 unfold fO
 rw [HT.sIx_none,HT.sIx_none,List.drop_zero,Nat.sub_zero,List.take_length]
end L2
namespace My
open PySem L2
abbrev cC (d:Stmt) (x:Str):Prop:=(aq d).names.lookup x=some NameKind.local
abbrev Ce (d:Stmt) (x:Str):Prop:=(aq d).names.lookup x=some NameKind.cell
abbrev bT (d:Stmt) (x:Str):Prop:=(aq d).names.lookup x=some NameKind.globalImplicit
def top (i:Nat):Stmt:=PySem.Challenge.pw_panethread_k22_counts.main.body.getD i (.Pass ⟨0,0,0,0⟩)
abbrev dM:Stmt:=top 7
abbrev dN:Stmt:=top 8
abbrev cM:Stmt:=top 9
abbrev bG:Stmt:=top 11
abbrev cU:Stmt:=top 12
abbrev di:Stmt:=top 13
abbrev cN:Stmt:=top 14
abbrev bW:Stmt:=top 15
abbrev aX:Stmt:=top 16
abbrev gj:Stmt:=top 18
abbrev gQ:Stmt:=top 19
abbrev bY:Stmt:=top 20
abbrev c7:Stmt:=top 21
abbrev bD:Stmt:=top 22
abbrev dO:Stmt:=top 23
abbrev dg:Stmt:=top 24
abbrev bK:Stmt:=top 25
abbrev aH:Stmt:=top 26
abbrev bH:Stmt:=top 27
abbrev bQ:Stmt:=top 28
abbrev fc:Stmt:=top 29
abbrev aZ:Stmt:=top 30
abbrev aY:Stmt:=top 31
abbrev bM:Stmt:=top 32
abbrev aD:Stmt:=top 33
abbrev cX:Stmt:=top 34
abbrev je:Stmt:=initOf (top 2)
abbrev gB:Stmt:=initOf (top 3)
abbrev ir:Stmt:=initOf (top 4)
local macro_rules | `(tactic| walk_at "sts") => `(tactic| (with_reducible repeat (first | refine vP ?_ | refine vz ?_ | refine vy ?_ | refine qe ?_ | refine qg ?_ | (refine' pN ?hz0 ?_; (case hz0 => with_unfolding_all rfl)) | refine Kf ?_ | refine vW ?_ | refine jm ?_ | refine jV ?_ | refine pO ?_ | refine vL ?_ | refine pI ?_ | refine jP ?_ | refine pK ?_ | refine jO ?_ | refine vM ?_ | refine jR ?_ | refine vX ?_ | refine vR ?_ | refine jW ?_ | refine vN ?_ | refine pL ?_ | refine vO ?_ | refine jT ?_ | refine jU ?_ | refine pM ?_ | refine pJ ?_ | refine jQ ?_ | refine vQ ?_ | refine Kg ?_ | refine Kh ?_ | refine vU ?_ | refine pP ?_ | refine vV ?_ | refine pQ ?_ | refine jX ?_ | refine jY ?_ | refine jZ ?_ | refine j0 ?_ | refine j4 ?_ | refine pR ?_ | refine Ko ?_ | refine iH ?_ | refine j9 ?_ | (refine' ig (SqT.of ?hz0) ?hz1 ?_; (case hz0 => first | assumption | exact ak); (case hz1 => rfl)) | refine iI ?_ | refine iK ?_ | refine kj ?_ | refine p7 ?_ | refine iJ ?_ | refine kh ?_ | refine km ?_ | refine kE ?_ | refine jx ?_ | refine jy ?_ | refine jz ?_ | refine jA ?_ | refine qd ?_ | refine gA ?_ | refine jt ?_ | refine ju ?_ | refine jw ?_ | refine pX ?_ | refine j6 ?_ | (refine' Kl ?hz0 ?_; (case hz0 => with_unfolding_all first | assumption | omega | (dsimp only <;> omega) | exact ⟨by omega, by omega⟩ | exact .inl ⟨by omega, by omega⟩ | exact .inr ⟨by omega, by omega⟩ | exact ⟨by decide, by decide, by decide⟩)) | (refine' j5 ?hz0 ?_; (case hz0 => with_unfolding_all first | assumption | omega | (dsimp only <;> omega) | exact ⟨by omega, by omega⟩ | exact .inl ⟨by omega, by omega⟩ | exact .inr ⟨by omega, by omega⟩ | exact ⟨by decide, by decide, by decide⟩)) | (refine' bz (SqL.of ?hz0) ?hz1 ?_; (case hz0 => first | assumption | exact ak); (case hz1 => with_unfolding_all rfl)) | (refine' pU (SqT.of ?hz0) ?hz1 ?_; (case hz0 => first | assumption | exact ak); (case hz1 => with_unfolding_all rfl)) | (refine' jn ?hz0 ?hz1 ?_; (case hz0 => first | assumption | exact ak); (case hz1 => with_unfolding_all rfl)) | refine lE ?_ | refine kJ ?_ | refine lG ?_ | refine oO ?_ | refine zr ?_)))
local macro_rules | `(tactic| walk_at "stn") => `(tactic| (with_reducible repeat (first | refine vP ?_ | refine vz ?_ | refine vy ?_ | refine qe ?_ | refine qg ?_ | (refine' pN ?hz0 ?_; (case hz0 => with_unfolding_all rfl)) | refine Kf ?_ | refine vW ?_ | refine jm ?_ | refine jV ?_ | refine pO ?_ | refine pI ?_ | refine jP ?_ | refine pK ?_ | refine jO ?_ | refine vM ?_ | refine jR ?_ | refine vX ?_ | refine vR ?_ | refine jW ?_ | refine vN ?_ | refine pL ?_ | refine vO ?_ | refine jT ?_ | refine jU ?_ | refine pM ?_ | refine pJ ?_ | refine jQ ?_ | refine vQ ?_ | refine Kg ?_ | refine Kh ?_ | refine vU ?_ | refine pP ?_ | refine vV ?_ | refine pQ ?_ | refine jX ?_ | refine jY ?_ | refine jZ ?_ | refine j0 ?_ | refine j4 ?_ | refine pR ?_ | refine Ko ?_ | refine iH ?_ | refine j9 ?_ | (refine' ig (SqT.of ?hz0) ?hz1 ?_; (case hz0 => first | assumption | exact ak); (case hz1 => rfl)) | refine iI ?_ | refine iK ?_ | refine kj ?_ | refine p7 ?_ | refine iJ ?_ | refine kh ?_ | refine km ?_ | refine kE ?_ | refine jx ?_ | refine jy ?_ | refine jz ?_ | refine jA ?_ | refine qd ?_ | refine gA ?_ | refine jt ?_ | refine ju ?_ | refine jw ?_ | refine pX ?_ | refine j6 ?_ | (refine' Kl ?hz0 ?_; (case hz0 => with_unfolding_all first | assumption | omega | (dsimp only <;> omega) | exact ⟨by omega, by omega⟩ | exact .inl ⟨by omega, by omega⟩ | exact .inr ⟨by omega, by omega⟩ | exact ⟨by decide, by decide, by decide⟩)) | (refine' j5 ?hz0 ?_; (case hz0 => with_unfolding_all first | assumption | omega | (dsimp only <;> omega) | exact ⟨by omega, by omega⟩ | exact .inl ⟨by omega, by omega⟩ | exact .inr ⟨by omega, by omega⟩ | exact ⟨by decide, by decide, by decide⟩)) | (refine' bz (SqL.of ?hz0) ?hz1 ?_; (case hz0 => first | assumption | exact ak); (case hz1 => with_unfolding_all rfl)) | (refine' pU (SqT.of ?hz0) ?hz1 ?_; (case hz0 => first | assumption | exact ak); (case hz1 => with_unfolding_all rfl)) | (refine' jn ?hz0 ?hz1 ?_; (case hz0 => first | assumption | exact ak); (case hz1 => with_unfolding_all rfl)) | refine lE ?_ | refine kJ ?_ | refine lG ?_ | refine oO ?_ | refine zr ?_)))
def nI (cs:List Nat):List Int:=cs.map fun i:Nat=>(i:Int)
def wks (E:List Nat) (p:Nat):Bool:=decide (E.getD p 0 < E.getD (p+1) 0)
def KY (E:List Nat) (p:Nat):List Nat:=if wks E p=true then (E.set p (E.getD (p+1) 0)).set (p+1) (E.getD p 0) else E
def FZ (E:List Nat) (ps:List Nat):List Nat:=ps.foldl KY E
def wrk (E:List Nat) (ps:List Nat) (i:Nat):List Nat:=(List.range i).filter fun j=>wks (FZ E (ps.take j)) (ps.getD j 0)
def inv (E:List Nat):List Nat:=(List.range E.length).map fun x=>E.idxOf x
structure Txt (K:PySem.W.Frag) (mg:Str→Option Value):Prop where
 b_all:mg "all"=none
 b_bool:mg "bool"=none
 b_enumerate:mg "enumerate"=none
 b_int:mg "int"=none
 b_isinstance:mg "isinstance"=none
 b_len:mg "len"=none
 b_list:mg "list"=none
 b_max:mg "max"=none
 b_min:mg "min"=none
 b_range:mg "range"=none
 b_reversed:mg "reversed"=none
 b_sorted:mg "sorted"=none
 b_tuple:mg "tuple"=none
 b_zip:mg "zip"=none
 c_MOST_LINES:∃ t,mg "MOST_LINES"=some (.int 96 t)
 d_is_number:f9 K mg "is_number" dM
 d_is_within:f9 K mg "is_within" dN
 d_need_place:f9 K mg "need_place" cM
 d_is_turning:f9 K mg "is_turning" bG
 d_need_turning:f9 K mg "need_turning" cU
 d_counted:f9 K mg "counted" di
 d_counts:f9 K mg "counts" cN
 d_is_square:f9 K mg "is_square" bW
 d_from_counts:f9 K mg "from_counts" aX
 d_law_cell:f9 K mg "_law_cell" gj
 d_law_mix:f9 K mg "_law_mix" gQ
 d_law_takes:f9 K mg "_law_takes" bY
 d_law_many:f9 K mg "_law_many" c7
 d_law_turning:f9 K mg "_law_turning" bD
 d_law_whole:f9 K mg "_law_whole" dO
 d_law_list:f9 K mg "_law_list" dg
 d_law_counts:f9 K mg "_law_counts" bK
 d_law_spoiled:f9 K mg "_law_spoiled" aH
 d_law_is_square:f9 K mg "_law_is_square" bH
 d_law_from:f9 K mg "_law_from" bQ
 d_law_copy:f9 K mg "_law_copy" fc
 d_law_read:f9 K mg "_law_read" aZ
 d_law_refused:f9 K mg "_law_refused" aY
 d_law_doors:f9 K mg "_law_doors" bM
 d_law_right:f9 K mg "_law_right" aD
 d_law:f9 K mg "law" cX
 x_PaneError:Ax K mg "PaneError"
 x_NoPlace:wu K mg "NoPlace" ["found"] "NoPlace.__init__" je
 x_NoTurning:wu K mg "NoTurning" ["found"] "NoTurning.__init__" gB
 x_NoCounts:wu K mg "NoCounts" ["found"] "NoCounts.__init__" ir
 u_NoPlace_PaneError:Sub K mg "NoPlace" "PaneError" true
 u_NoPlace_NoPlace:Sub K mg "NoPlace" "NoPlace" true
 u_NoPlace_NoTurning:Sub K mg "NoPlace" "NoTurning" false
 u_NoPlace_NoCounts:Sub K mg "NoPlace" "NoCounts" false
 u_NoTurning_PaneError:Sub K mg "NoTurning" "PaneError" true
 u_NoTurning_NoPlace:Sub K mg "NoTurning" "NoPlace" false
 u_NoTurning_NoTurning:Sub K mg "NoTurning" "NoTurning" true
 u_NoTurning_NoCounts:Sub K mg "NoTurning" "NoCounts" false
 u_NoCounts_PaneError:Sub K mg "NoCounts" "PaneError" true
 u_NoCounts_NoPlace:Sub K mg "NoCounts" "NoPlace" false
 u_NoCounts_NoTurning:Sub K mg "NoCounts" "NoTurning" false
 u_NoCounts_NoCounts:Sub K mg "NoCounts" "NoCounts" true
def Kd (K:PySem.W.Frag) (H:Hp) (v:V):Prop:=(∃ n,v= .int n)∨(∃ b,v= .bl b)∨∃ T,TyOf K H v (.type T)∧PySem.W.kitOne K (.type T) (.type "int")=some false
theorem Kd.same {K:PySem.W.Frag} {H H':Hp} {v:V} (h:Kd K H v) (s:Same H H'):Kd K H' v:=by
 rcases h with h | h | ⟨T,a,c⟩
 ·exact .inl h
 ·exact .inr (.inl h)
 ·exact .inr (.inr ⟨T,a.mono fun b o e _=>s b o e,c⟩)
def jK:V→Bool
 | .int _=>true
 | _=>false
def inB (v:V) (lo hi:Int):Bool:=match v with
 | .int n=>decide (lo≤n) && decide (n≤hi)
 | _=>false
section
variable {P:Program} {w:World} {K:PySem.W.Frag} {mg:Str→Option Value} {base:Heap}
theorem RD:bT dM "isinstance":=by decide+kernel
theorem kz01:bT dM "bool":=by decide+kernel
theorem RG:cC dM "thing":=by decide+kernel
theorem kz03:bT dM "int":=by decide+kernel
theorem kz04:cC dN "low":=by decide+kernel
theorem RJ:cC dN "thing":=by decide+kernel
theorem kz06:cC dN "high":=by decide+kernel
theorem kz07:bT dN "is_number":=by decide+kernel
theorem kz08:bT cM "is_within":=by decide+kernel
theorem kz09:cC cM "high":=by decide+kernel
theorem kz0a:cC cM "low":=by decide+kernel
theorem RK:cC cM "thing":=by decide+kernel
theorem kz0c:bT cM "NoPlace":=by decide+kernel
theorem qw:cC je "self":=by decide+kernel
theorem oY:cC je "found":=by decide+kernel
theorem nY:cC gB "self":=by decide+kernel
theorem mC:cC gB "found":=by decide+kernel
theorem oZ:cC ir "self":=by decide+kernel
theorem nZ:cC ir "found":=by decide+kernel
theorem Same.put {H H':Hp} {p:Addr} {o:HO} (s:Same H H') (hn:H p=none):Same H (upd H' p o):=fun b u e=>by
 rw [aB (fun z=>by rw [z,hn] at e;cases e)]
 exact s b u e
theorem Same.back {H H':Hp} {p:Addr} (s:Same H H') (h:H' p=none):H p=none:=by
 cases e:H p with
 | none=>rfl
 | some o=>rw [s _ _ e] at h;cases h
theorem Ga {H:Hp} {v:V} {T:String} (h:TyOf K H v (.type T)) (k:PySem.W.kitOne K (.type T) (.type "int")=some false):jK v=false∧∀ lo hi,inB v lo hi=false:=by
 cases v with
 | int z=>
  cases h
  have:PySem.W.kitOne K (.type "int") (.type "int")=some true:=rfl
  rw [this] at k;cases k
 | _=>exact ⟨rfl,fun _ _=>rfl⟩
theorem wN:aO ["self","found"] ["self","found"] (aq je):=⟨rfl,rfl,rfl,by decide+kernel,rfl,by decide+kernel,by decide+kernel⟩
theorem yo (T:Txt K mg):NQ P w K mg base 1 "NoPlace" (dB mg "NoPlace") ["found"]:=mkX T.x_NoPlace wN (fun _ _ _ _ _ _ us hl=>L2.qP (fun _ _=>rfl) us hl) rfl fun f cdv A outer s H vs Q E hr h=>⟨_,(au (uQ (K:=K) rfl (ao 0 qw) (ao 1 oY))),rd1 T.x_NoPlace.c.cl.cls (T.x_NoPlace.na _ (by simp)) h⟩
theorem tD:aO ["self","found"] ["self","found"] (aq gB):=⟨rfl,rfl,rfl,by decide+kernel,rfl,by decide+kernel,by decide+kernel⟩
theorem uY (T:Txt K mg):NQ P w K mg base 1 "NoTurning" (dB mg "NoTurning") ["found"]:=mkX T.x_NoTurning tD (fun _ _ _ _ _ _ us hl=>L2.qP (fun _ _=>rfl) us hl) rfl fun f cdv A outer s H vs Q E hr h=>⟨_,(au (uQ (K:=K) rfl (ao 0 nY) (ao 1 mC))),rd1 T.x_NoTurning.c.cl.cls (T.x_NoTurning.na _ (by simp)) h⟩
theorem uZ:aO ["self","found"] ["self","found"] (aq ir):=⟨rfl,rfl,rfl,by decide+kernel,rfl,by decide+kernel,by decide+kernel⟩
theorem qj (T:Txt K mg):NQ P w K mg base 1 "NoCounts" (dB mg "NoCounts") ["found"]:=mkX T.x_NoCounts uZ (fun _ _ _ _ _ _ us hl=>L2.qP (fun _ _=>rfl) us hl) rfl fun f cdv A outer s H vs Q E hr h=>⟨_,(au (uQ (K:=K) rfl (ao 0 oZ) (ao 1 nZ))),rd1 T.x_NoCounts.c.cl.cls (T.x_NoCounts.na _ (by simp)) h⟩
def wO (K:PySem.W.Frag):Sp:=fun vs H Q _=>∃ v:V,vs=[v]∧Kd K H v∧Q (.bl (jK v)) H
theorem u0:aO ["thing"] ["thing"] (aq dM):=⟨rfl,rfl,rfl,by decide+kernel,rfl,by decide+kernel,by decide+kernel⟩
theorem fJ (T:Txt K mg):qu P w K mg base 1 "is_number" ["thing"] (wO K):=by
 refine iZ T.d_is_number u0 (fun _ _ _ _ _ _ us hl=>L2.mL (fun _=>rfl) us hl) ?_ fun f cdv A outer s H vs Q E hr h=>?_
 ·rintro vs H Q E ⟨v,rfl,_⟩;rfl
 obtain ⟨v,rfl,hT,q⟩:=h
 have hu:=hr.units0
 have hu64:=hr.units
 refine ⟨_,(au (aL (pW (aC (bN (K:=K) rfl) (aW RD) T.b_isinstance aK (aa (ao 0 RG) (aa (j7 (aW kz03) T.b_int xN (by decide+kernel) (by decide+kernel)) aj)) (by decide+kernel) (by decide+kernel)) (uo (Km (aC (bN (K:=K) rfl) (aW RD) T.b_isinstance aK (aa (ao 0 RG) (aa (j7 (aW kz01) T.b_bool qC (by decide+kernel) (by decide+kernel)) aj)) (by decide+kernel) (by decide+kernel))))))),?_⟩
 walk_at "sts"
 rcases hT with ⟨n,rfl⟩ | ⟨b,rfl⟩ | ⟨T',hty,hk⟩
 ·refine cj (.int _) rfl ?_
  walk_at "sts"
  refine cj (.int _) rfl ?_
  walk_at "sts"
  exact q
 ·refine cj (.bl _) (b:=true) (by rfl) ?_
  walk_at "sts"
  refine cj (.bl _) (b:=true) (by rfl) ?_
  walk_at "sts"
  exact q
 ·refine cj hty hk ?_
  walk_at "sts"
  rw [(Ga hty hk).1] at q
  exact q
def Gb (K:PySem.W.Frag):Sp:=fun vs H Q _=>∃ (v:V) (lo hi:Int),vs=[v,.int lo,.int hi]∧Kd K H v∧Q (.bl (inB v lo hi)) H
theorem u5:aO ["thing","low","high"] ["thing","low","high"] (aq dN):=⟨rfl,rfl,rfl,by decide+kernel,rfl,by decide+kernel,by decide+kernel⟩
theorem fK (T:Txt K mg):qu P w K mg base 2 "is_within" ["thing","low","high"] (Gb K):=by
 have fJ:=fJ (P:=P) (w:=w) (base:=base) T
 refine iZ T.d_is_within u5 (fun _ _ _ _ _ _ us hl=>L2.K4 (fun _ _ _=>rfl) us hl) ?_ fun f cdv A outer s H vs Q E hr h=>?_
 ·rintro vs H Q E ⟨v,lo,hi,rfl,_⟩;rfl
 obtain ⟨v,lo,hi,rfl,hT,q⟩:=h
 have hu:=hr.units0
 have hu64:=hr.units
 refine ⟨_,(au (aL (pW (aU fJ (hr.mono (by decide)) (aW kz07) (aa (ao 0 RJ) aj) (by decide+kernel)) (uo (HX tQ tQ (ao 1 kz04) (ao 0 RJ) (ao 2 kz06)))))),?_⟩
 walk_at "sts"
 refine ⟨v,rfl,hT,?_⟩
 walk_at "sts"
 cases v with
 | int n=>
  show if true=true then _ else _
  walk_at "sts"
  show if decide (lo≤n)=true then _ else _
  unfold inB at q
  dsimp only at q
  by_cases h:lo≤n
  ·rw [decide_eq_true h] at q ⊢
   rw [Bool.true_and] at q
   walk_at "sts"
   exact q
  ·rw [decide_eq_false h] at q ⊢
   rw [Bool.false_and] at q
   walk_at "sts"
   exact q
 | _=>exact q
def Jf (K:PySem.W.Frag) (mg:Str→Option Value):Sp:=fun vs H Q E=>∃ (v:V) (lo hi:Int),vs=[v,.int lo,.int hi]∧Kd K H v∧(inB v lo hi=true→Q .non H)∧
 (inB v lo hi=false→∀ e H',Same H H'→IsX H' e (dB mg "NoPlace") [("found",v)]→E (.ref (dB mg "NoPlace")) (some e) H')
theorem tE:aO ["thing","low","high"] ["thing","low","high"] (aq cM):=⟨rfl,rfl,rfl,by decide+kernel,rfl,by decide+kernel,by decide+kernel⟩
theorem gP (T:Txt K mg):v9 P w K mg base 3 "need_place" ["thing","low","high"] (Jf K mg):=by
 have fK:=fK (P:=P) (w:=w) (base:=base) T
 refine ww T.d_need_place tE (fun _ _ _ _ _ _ us hl=>L2.K4 (fun _ _ _=>rfl) us hl) ?_ fun f cdv A outer s H vs Q E hr h=>?_
 ·rintro vs H Q E ⟨v,lo,hi,rfl,_⟩;rfl
 obtain ⟨v,lo,hi,rfl,hT,q1,q2⟩:=h
 have hu:=hr.units0
 have hu64:=hr.units
 refine ⟨_,(au (bj (bO (bI (aU fK (hr.mono (by decide)) (aW kz08) (aa (ao 0 RK) (aa (ao 1 kz0a) (aa (ao 2 kz09) aj))) (by decide+kernel)))) (au (nG (yo (P:=P) (w:=w) (base:=base) T) (hr.mono (by decide)) rfl (aW kz0c) fV (aa (ao 0 RK) aj) (by decide+kernel))) bC)),?_⟩
 walk_at "sts"
 refine ⟨v,lo,hi,rfl,hT,?_⟩
 walk_at "sts"
 cases hb:inB v lo hi with
 | true=>
  walk_at "sts"
  exact q1 hb
 | false=>
  walk_at "sts"
  exact ⟨rfl,(show 1≤sizeLine by decide),fun x H2 S2 X2=>q2 hb x H2 S2 X2⟩
end
section
variable {P:Program} {w:World} {K:PySem.W.Frag} {mg:Str→Option Value} {base:Heap}
theorem jf (i j:Int):decide (V.int i=V.int j)=decide (i=j):=decide_eq_decide.mpr ⟨fun h=>V.int.inj h,fun h=>by rw [h]⟩
theorem bx (t:List Nat):((nI t).map V.int).length=t.length:=by unfold nI;rw [List.length_map,List.length_map]
theorem KZ {t:List Nat} {k i:Nat} (h:t[k]?=some i):((nI t).map V.int)[k]?=some (.int (i:Int)):=by unfold nI;rw [List.getElem?_map,List.getElem?_map,h];rfl
theorem sr {t:List Nat} {k:Nat} {v:V} (h:((nI t).map V.int)[k]?=some v):∃ i,t[k]?=some i∧v= .int (i:Int):=by
 unfold nI at h
 rw [List.getElem?_map,List.getElem?_map] at h
 cases e:t[k]? with
 | none=>rw [e] at h;cases h
 | some y=>rw [e] at h;exact ⟨y,rfl,(Option.some.inj h).symm⟩
theorem RL {t:List Nat} {k:Nat} {j:Int} (hk:k < t.length) (hj:j=(k:Int)):tY ((nI t).map V.int) j=some (.int ((t.getD k 0:Nat):Int)):=by
 subst hj
 refine bZ (KZ ?_)
 rw [List.getD_eq_getElem?_getD,List.getElem?_eq_getElem hk];rfl
theorem u6 (t:List Nat) (x:Nat):(nI t).map V.int ++ [.int (x:Int)]=(nI (t ++ [x])).map V.int:=by unfold nI;rw [List.map_append,List.map_append];rfl
structure Prm (t:List Nat):Prop where
 le:t.length≤96
 pm:t.Perm (List.range t.length)
theorem Prm.nd {t:List Nat} (h:Prm t):t.Nodup:=h.pm.nodup_iff.mpr List.nodup_range
theorem Prm.lt {t:List Nat} (h:Prm t) {x:Nat} (hx:x∈t):x < t.length:=List.mem_range.mp (h.pm.mem_iff.mp hx)
theorem getD_some {B:List Nat} {i:Nat} (h:i < B.length):B[i]?=some (B.getD i 0):=by rw [List.getD_eq_getElem?_getD,List.getElem?_eq_getElem h];rfl
theorem Gd {A B:List Nat} (hl:A.length=B.length) (h:∀ i,i < A.length→A.getD i 0=B.getD i 0):A=B:=by
 refine List.ext_getElem? fun i=>?_
 by_cases hi:i < A.length
 ·rw [getD_some hi,getD_some (by omega),h i hi]
 ·rw [List.getElem?_eq_none (by omega),List.getElem?_eq_none (by omega)]
def Wk:List Nat→List Nat→Prop
 | _,[]=>True
 | B,p :: us=>wks B p=true∧Wk (KY B p) us
structure Sx (B0:List Nat) (n:Nat) (B u:List Nat):Prop where
 len:B.length=n
 pm:B.Perm (List.range n)
 lt:∀ p∈u,p+1 < n
 back:FZ B u.reverse=B0
 wk:Wk B u.reverse
 link:∀ i,i < n→B.getD i 0=B0.getD ((FZ (List.range n) u).getD i 0) 0
theorem u9 {B:List Nat} {n:Nat} (hl:B.length=n) (hlt:∀ i,i < n→B.getD i 0 < n) (h:∀ i j,i < j→j < n→B.getD i 0 < B.getD j 0):B=List.range n:=by
 have mono:∀ d i,i+d < n→B.getD i 0+d≤B.getD (i+d) 0:=fun d=>by
  induction d with
  | zero=>intro i _;exact Nat.le_refl _
  | succ d ih=>
   intro i hi
   have h1:=ih i (by omega)
   have h2:=h (i+d) (i+(d+1)) (by omega) hi
   omega
 refine Gd (by rw [hl];simp) fun i hi=>?_
 rw [hl] at hi
 rw [show (List.range n).getD i 0=i by rw [List.getD_eq_getElem?_getD,List.getElem?_range hi];rfl]
 have h1:=mono i 0 (by omega)
 have h2:=mono (n - 1 - i) i (by omega)
 have h3:=hlt (i+(n - 1 - i)) (by omega)
 rw [Nat.zero_add] at h1
 omega
structure Und (t u:List Nat):Prop where
 lt:∀ p∈u,p+1 < t.length
 back:FZ (List.range t.length) u.reverse=inv t
 wk:wrk (List.range t.length) u.reverse u.reverse.length=List.range u.reverse.length
 fw:FZ (List.range t.length) u=t
end
section
variable {P:Program} {w:World} {K:PySem.W.Frag} {mg:Str→Option Value} {base:Heap}
theorem Jg:cC bG "thing":=by decide+kernel
theorem Jh:cC bG "end":=by decide+kernel
theorem O4:cC bG "seen":=by decide+kernel
theorem kz0g:bT bG "is_within":=by decide+kernel
theorem RM:bT bG "len":=by decide+kernel
theorem kz0i:bT bG "MOST_LINES":=by decide+kernel
theorem kz0j:bT bG "isinstance":=by decide+kernel
theorem kz0k:bT bG "tuple":=by decide+kernel
theorem kz0l:bT bG "list":=by decide+kernel
theorem kz0m:bT cU "is_turning":=by decide+kernel
theorem RN:cC cU "thing":=by decide+kernel
theorem kz0o:bT cU "NoTurning":=by decide+kernel
def Tn (H:Hp) (a:Addr) (t:List Nat):Prop:=H a=some (.lst ((nI t).map V.int))∨H a=some (.tup ((nI t).map V.int))
theorem Tn.same {H H':Hp} {a:Addr} {t:List Nat} (h:Tn H a t) (s:Same H H'):Tn H' a t:=h.imp (s _ _) (s _ _)
def vg (us:List V):Bool:=decide (us.length≤96) && (us.all fun u=>inB u 0 ((us.length:Int) - 1)) && decide us.Nodup
theorem zA {us:List V} (h:96 < us.length):vg us=false:=by unfold vg;rw [decide_eq_false (by omega)];rfl
theorem yp {us:List V} {u:V} (h:u∈us) (hb:inB u 0 ((us.length:Int) - 1)=false):vg us=false:=by
 unfold vg
 have:(us.all fun u=>inB u 0 ((us.length:Int) - 1))=false:=List.all_eq_false.mpr ⟨u,h,by rw [hb];simp⟩
 rw [this,Bool.and_false,Bool.false_and]
theorem Ge {us:List V} {k:Nat} {u:V} (h:us[k]?=some u) (hm:u∈us.take k):vg us=false:=by
 have:¬ us.Nodup:=fun nd=>by
  obtain ⟨i,hi,e⟩:=List.mem_iff_getElem.mp hm
  obtain ⟨hk,e2⟩:=List.getElem?_eq_some_iff.mp h
  rw [List.length_take] at hi
  rw [List.getElem_take] at e
  exact List.pairwise_iff_getElem.mp nd i k (by omega) hk (by omega) (e.trans e2.symm)
 unfold vg
 rw [decide_eq_false this,Bool.and_false]
theorem Gf {us:List V} (h:us.length≤96) (hin:∀ u∈us,inB u 0 ((us.length:Int) - 1)=true) (hnd:us.Nodup):vg us=true:=by
 unfold vg
 rw [decide_eq_true h,decide_eq_true hnd,List.all_eq_true.mpr hin];rfl
theorem su {us:List V} {v:V} (h:us.Nodup) (hm:v ∉ us):(us ++ [v]).Nodup:=by
 refine List.nodup_append.mpr ⟨h,by simp,fun a ha b hb=>?_⟩
 rw [List.mem_singleton.mp hb]
 exact fun z=>hm (z ▸ ha)
theorem zB {v:V} {h:Int} (hb:inB v 0 h=true):∃ i:Nat,v= .int (i:Int)∧(i:Int)≤h:=by
 cases v with
 | int n=>
  unfold inB at hb
  simp at hb
  exact ⟨n.toNat,by rw [Int.toNat_of_nonneg hb.1],by omega⟩
 | _=>cases hb
def RP (K:PySem.W.Frag) (H:Hp) (v:V) (b:Bool):Prop:=(∃ a us,v= .ref a∧(H a=some (.lst us)∨H a=some (.tup us))∧us.length≤10000∧(∀ u∈us,Kd K H u)∧b=vg us)∨
 ∃ T,TyOf K H v (.type T)∧PySem.W.kitAny K (.type T) [.type "list",.type "tuple"]=some false∧b=false
theorem zE {H:Hp} {a:Addr} {t:List Nat} (h:Tn H a t) (hP:Prm t):RP K H (.ref a) true:=by
 have hle:=hP.le
 refine .inl ⟨a,_,rfl,h,by rw [bx];omega,fun u hu=>?_,?_⟩
 ·obtain ⟨x,_,rfl⟩:=List.mem_map.mp hu
  exact .inl ⟨x,rfl⟩
 ·refine (Gf (by rw [bx];exact hle) (fun u hu=>?_) ?_).symm
  ·obtain ⟨x,hx,rfl⟩:=List.mem_map.mp hu
   unfold nI at hx
   obtain ⟨y,hy,rfl⟩:=List.mem_map.mp hx
   have:=hP.lt hy
   rw [bx]
   unfold inB
   simp;omega
  ·unfold nI List.Nodup
   rw [List.map_map,List.pairwise_map]
   exact hP.nd.imp fun {x y} h z=>h (by have e:((x:Nat):Int)=((y:Nat):Int):=V.int.inj z;omega)
def O5 (K:PySem.W.Frag):Sp:=fun vs H Q _=>∃ (v:V) (b:Bool),vs=[v]∧RP K H v b∧∀ H',Same H H'→Q (.bl b) H'
theorem iU:aO ["thing","seen","end"] ["thing"] (aq bG):=⟨rfl,rfl,rfl,by decide+kernel,rfl,by decide+kernel,by decide+kernel⟩
theorem dW (T:Txt K mg):qu P w K mg base 3 "is_turning" ["thing"] (O5 K):=by
 have fK:=fK (P:=P) (w:=w) (base:=base) T
 refine iZ T.d_is_turning iU (fun _ _ _ _ _ _ us hl=>L2.mL (fun _=>rfl) us hl) ?_ fun f cdv A outer s H vs Q E hr h=>?_
 ·rintro vs H Q E ⟨v,bb,rfl,_⟩;rfl
 obtain ⟨v,bb,rfl,h,q⟩:=h
 have hu:=hr.units0
 have hu64:=hr.units
 refine ⟨_,(az (bj (ie (gJ (bO (bI (aC (oN (K:=K) rfl) (aW kz0j) T.b_isinstance aK (aa (ao 0 Jg) (aa (m9 (aa (j7 (aW kz0l) T.b_list cF (by decide+kernel) (by decide+kernel)) (aa (j7 (aW kz0k) T.b_tuple jN (by decide+kernel) (by decide+kernel)) aj))) aj)) (by decide+kernel) (by decide+kernel)))) (eV (bh CK (aC (aF (K:=K) rfl) (aW RM) T.b_len bu (aa (ao 0 Jg) aj) (by decide+kernel) (by decide+kernel)) (DW (aW kz0i) T.c_MOST_LINES (by decide+kernel)) (by first | exact aV _ | with_unfolding_all rfl))))) (au (aL gw)) bC) (az (aQ (i:=1) iU.nd rfl (Or.inl O4) zj rfl) (az (eY PassesOwn.never rfl (dz (K:=K) rfl (ao 0 Jg)) (bF (i:=2) iU.nd rfl (Or.inl Jh) rfl) (az (bj (ie (gJ (bO (bI (aU fK (hr.mono (by decide)) (aW kz0g) (aa (ao 2 Jh) (aa aA (aa (bf oF (aC (aF (K:=K) rfl) (aW RM) T.b_len bu (aa (ao 0 Jg) aj) (by decide+kernel) (by decide+kernel)) aA) aj))) (by decide+kernel)))) (eV (bh (Oi (K:=K) rfl hu64) (ao 2 Jh) (ao 1 O4) (by first | exact aV _ | with_unfolding_all rfl))))) (au (aL gw)) bC) (au (jo (ts:=nH) gw (lZ (ao 1 O4) (ao 2 Jh) (jB hu64)))))) (au (aL gw))))),?_⟩
 walk_at "sts"
 have hs:20000≤sizeLine:=by decide
 rcases h with ⟨a,us,rfl,ha,hlen,hkd,rfl⟩ | ⟨T',hty,hk,rfl⟩
 ·rcases ha with ha | ha
  ·skip
   refine ut rfl fun p np=>?_
   walk_at "sts"
   have ha1:upd H p (.tup [.ty "list",.ty "tuple"]) a=some (.lst us):=dU np ha
   refine uR (.lst ha1) ak rfl (b:=true) (by rfl) ?_
   walk_at "sts"
   refine bB (SqL.of ha1) ?_
   walk_at "sts"
   by_cases h96:96 < us.length
   ·rw [decide_eq_true (show (96:Int) < (us.length:Int) by omega)]
    rw [zA h96] at q
    walk_at "sts"
    exact q _ ((Same.refl H).upd np)
   rw [decide_eq_false (show ¬ (96:Int) < (us.length:Int) by omega)]
   walk_at "sts"
   intro d nd
   have S1:Same H (upd (upd H p (.tup [.ty "list",.ty "tuple"])) d (.dK [])):=((Same.refl H).upd np).upd nd
   have hd0:upd (upd H p (.tup [.ty "list",.ty "tuple"])) d (.dK []) d=some (.dK []):=ak
   have nd':H d=none:=Same.back ((Same.refl H).upd np) nd
   generalize upd (upd H p (.tup [.ty "list",.ty "tuple"])) d (.dK [])=H1 at S1 hd0 ⊢
   walk_at "sts"
   refine .inl ⟨a,rfl,⟨_,SqL.of (S1 _ _ ha)⟩,?_⟩
   refine gW (xs:=us) (fun k σ H'=>∃ (kvs:List (Key×V)) (x2:Option V),σ=[some (.ref a),some (.ref d),x2]∧Same H H'∧H' d=some (.dK kvs)∧kvs.length≤k∧(∀ n:Nat,gY kvs (Sum.inl (n:Int))=if V.int (n:Int)∈us.take k then some (.bl true) else none)∧(∀ u∈us.take k,inB u 0 ((us.length:Int) - 1)=true)∧(us.take k).Nodup)
    ⟨[],_,rfl,S1,hd0,by simp,fun n=>by simp [vC],by simp,by simp⟩ (fun i σ H' _ h=>?_) ?_ ?_
   ·obtain ⟨_,_,_,s,_⟩:=h
    exact SqL.of (s _ _ ha)
   ·rintro k v σ H' hk ⟨kvs,x2,rfl,s,hd,hkl,hv,hin,hnd⟩
    have hkt:k < us.length:=(List.getElem?_eq_some_iff.mp hk).1
    have hmem:=List.mem_of_getElem? hk
    walk_at "sts"
    refine bB (SqL.of (s _ _ ha)) ?_
    walk_at "sts"
    refine ⟨_,_,_,rfl,(hkd v hmem).same s,?_⟩
    walk_at "sts"
    cases hb:inB v 0 ((us.length:Int) - 1) with
    | false=>
     rw [yp hmem hb] at q
     walk_at "sts"
     exact q _ s
    | true=>
     obtain ⟨i,rfl,hi⟩:=zB hb
     walk_at "sts"
     refine .inr ⟨d,_,rfl,DGet.k (k:=Sum.inl (i:Int)) hd,?_⟩
     rw [hv i]
     by_cases hm:V.int (i:Int)∈us.take k
     ·rw [if_pos hm,show (some (V.bl true)).isSome=true from rfl]
      rw [Ge hk hm] at q
      walk_at "sts"
      exact q _ s
     ·rw [if_neg hm,show (none:Option V).isSome=false from rfl]
      walk_at "sts"
      refine .inr ⟨d,_,rfl,DPut.k (k:=Sum.inl (i:Int)) hd (by omega),?_⟩
      have tk:us.take (k+1)=us.take k ++ [V.int (i:Int)]:=by rw [List.take_add_one,hk];rfl
      refine ⟨_,_,rfl,Same.put s nd',ak,Nat.le_trans (iz _ _ _) (by omega),fun n=>?_,fun u hu=>?_,?_⟩
      ·rw [vG,hv n,tk]
       by_cases hn:n=i
       ·subst hn;simp
       ·rw [if_neg (fun z=>hn (by have:=Sum.inl.inj z;omega))]
        have hne:¬ V.int (n:Int)=V.int (i:Int):=fun z=>hn (by have:=V.int.inj z;omega)
        simp [hne]
      ·rw [tk] at hu
       rcases List.mem_append.mp hu with h | h
       ·exact hin u h
       ·rw [List.mem_singleton.mp h];exact hb
      ·rw [tk]
       exact su hnd hm
   ·rintro σ H' ⟨kvs,x2,rfl,s,hd,_,_,hin,hnd⟩
    rw [List.take_length] at hin hnd
    rw [Gf (by omega) hin hnd] at q
    walk_at "sts"
    exact q _ s
  ·skip
   refine ut rfl fun p np=>?_
   walk_at "sts"
   have ha1:upd H p (.tup [.ty "list",.ty "tuple"]) a=some (.tup us):=dU np ha
   refine uR (.tup ha1) ak rfl (b:=true) (by rfl) ?_
   walk_at "sts"
   refine uN (SqT.of ha1) ?_
   walk_at "sts"
   by_cases h96:96 < us.length
   ·rw [decide_eq_true (show (96:Int) < (us.length:Int) by omega)]
    rw [zA h96] at q
    walk_at "sts"
    exact q _ ((Same.refl H).upd np)
   rw [decide_eq_false (show ¬ (96:Int) < (us.length:Int) by omega)]
   walk_at "sts"
   intro d nd
   have S1:Same H (upd (upd H p (.tup [.ty "list",.ty "tuple"])) d (.dK [])):=((Same.refl H).upd np).upd nd
   have hd0:upd (upd H p (.tup [.ty "list",.ty "tuple"])) d (.dK []) d=some (.dK []):=ak
   have nd':H d=none:=Same.back ((Same.refl H).upd np) nd
   generalize upd (upd H p (.tup [.ty "list",.ty "tuple"])) d (.dK [])=H1 at S1 hd0 ⊢
   walk_at "sts"
   refine .inr (.inl ⟨a,rfl,⟨_,SqT.of (S1 _ _ ha)⟩,?_⟩)
   refine Hg (xs:=us) (fun k σ H'=>∃ (kvs:List (Key×V)) (x2:Option V),σ=[some (.ref a),some (.ref d),x2]∧Same H H'∧H' d=some (.dK kvs)∧kvs.length≤k∧(∀ n:Nat,gY kvs (Sum.inl (n:Int))=if V.int (n:Int)∈us.take k then some (.bl true) else none)∧(∀ u∈us.take k,inB u 0 ((us.length:Int) - 1)=true)∧(us.take k).Nodup)
    ⟨[],_,rfl,S1,hd0,by simp,fun n=>by simp [vC],by simp,by simp⟩ (fun i σ H' _ h=>?_) ?_ ?_
   ·obtain ⟨_,_,_,s,_⟩:=h
    exact SqT.of (s _ _ ha)
   ·rintro k v σ H' hk ⟨kvs,x2,rfl,s,hd,hkl,hv,hin,hnd⟩
    have hkt:k < us.length:=(List.getElem?_eq_some_iff.mp hk).1
    have hmem:=List.mem_of_getElem? hk
    walk_at "sts"
    refine uN (SqT.of (s _ _ ha)) ?_
    walk_at "sts"
    refine ⟨_,_,_,rfl,(hkd v hmem).same s,?_⟩
    walk_at "sts"
    cases hb:inB v 0 ((us.length:Int) - 1) with
    | false=>
     rw [yp hmem hb] at q
     walk_at "sts"
     exact q _ s
    | true=>
     obtain ⟨i,rfl,hi⟩:=zB hb
     walk_at "sts"
     refine .inr ⟨d,_,rfl,DGet.k (k:=Sum.inl (i:Int)) hd,?_⟩
     rw [hv i]
     by_cases hm:V.int (i:Int)∈us.take k
     ·rw [if_pos hm,show (some (V.bl true)).isSome=true from rfl]
      rw [Ge hk hm] at q
      walk_at "sts"
      exact q _ s
     ·rw [if_neg hm,show (none:Option V).isSome=false from rfl]
      walk_at "sts"
      refine .inr ⟨d,_,rfl,DPut.k (k:=Sum.inl (i:Int)) hd (by omega),?_⟩
      have tk:us.take (k+1)=us.take k ++ [V.int (i:Int)]:=by rw [List.take_add_one,hk];rfl
      refine ⟨_,_,rfl,Same.put s nd',ak,Nat.le_trans (iz _ _ _) (by omega),fun n=>?_,fun u hu=>?_,?_⟩
      ·rw [vG,hv n,tk]
       by_cases hn:n=i
       ·subst hn;simp
       ·rw [if_neg (fun z=>hn (by have:=Sum.inl.inj z;omega))]
        have hne:¬ V.int (n:Int)=V.int (i:Int):=fun z=>hn (by have:=V.int.inj z;omega)
        simp [hne]
      ·rw [tk] at hu
       rcases List.mem_append.mp hu with h | h
       ·exact hin u h
       ·rw [List.mem_singleton.mp h];exact hb
      ·rw [tk]
       exact su hnd hm
   ·rintro σ H' ⟨kvs,x2,rfl,s,hd,_,_,hin,hnd⟩
    rw [List.take_length] at hin hnd
    rw [Gf (by omega) hin hnd] at q
    walk_at "sts"
    exact q _ s
 ·refine ut rfl fun p np=>?_
  walk_at "sts"
  refine uR (hty.mono fun b o e _=>dU np e) ak rfl hk ?_
  walk_at "sts"
  exact q _ ((Same.refl H).upd np)
def Ji (K:PySem.W.Frag) (mg:Str→Option Value):Sp:=fun vs H Q E=>∃ (v:V) (b:Bool),vs=[v]∧RP K H v b∧(b=true→∀ H',Same H H'→Q .non H')∧
 (b=false→∀ e H',Same H H'→IsX H' e (dB mg "NoTurning") [("found",v)]→E (.ref (dB mg "NoTurning")) (some e) H')
theorem qx:aO ["thing"] ["thing"] (aq cU):=⟨rfl,rfl,rfl,by decide+kernel,rfl,by decide+kernel,by decide+kernel⟩
theorem cV (T:Txt K mg):v9 P w K mg base 4 "need_turning" ["thing"] (Ji K mg):=by
 have dW:=dW (P:=P) (w:=w) (base:=base) T
 refine ww T.d_need_turning qx (fun _ _ _ _ _ _ us hl=>L2.mL (fun _=>rfl) us hl) ?_ fun f cdv A outer s H vs Q E hr h=>?_
 ·rintro vs H Q E ⟨v,bb,rfl,_⟩;rfl
 obtain ⟨v,bb,rfl,h,q1,q2⟩:=h
 have hu:=hr.units0
 have hu64:=hr.units
 refine ⟨_,(au (bj (bO (bI (aU dW (hr.mono (by decide)) (aW kz0m) (aa (ao 0 RN) aj) (by decide+kernel)))) (au (nG (uY (P:=P) (w:=w) (base:=base) T) (hr.mono (by decide)) rfl (aW kz0o) fV (aa (ao 0 RN) aj) (by decide+kernel))) bC)),?_⟩
 walk_at "sts"
 refine ⟨v,bb,rfl,h,fun H1 S1=>?_⟩
 walk_at "sts"
 cases bb with
 | true=>
  walk_at "sts"
  exact q1 rfl _ S1
 | false=>
  walk_at "sts"
  exact ⟨rfl,(show 1≤sizeLine by decide),fun x H2 S2 X2=>q2 rfl x H2 (S1.trans S2) X2⟩
theorem Gg (n:Nat):((List.range n).map fun i:Nat=>V.int (0+(i:Int)*1))=(nI (List.range n)).map V.int:=by
 unfold nI
 rw [List.map_map]
 refine List.map_congr_left fun x _=>?_
 show V.int (0+(x:Int)*1)=V.int (x:Int)
 congr 1;omega
def RfE (mg:Str→Option Value) (H:Hp) (v:V) (E:XK):Prop:=∀ e H',Same H H'→IsX H' e (dB mg "NoTurning") [("found",v)]→E (.ref (dB mg "NoTurning")) (some e) H'
def NpE (mg:Str→Option Value) (H:Hp) (v:V) (E:XK):Prop:=∀ e H',Same H H'→IsX H' e (dB mg "NoPlace") [("found",v)]→E (.ref (dB mg "NoPlace")) (some e) H'
def NcE (mg:Str→Option Value) (H:Hp) (v:V) (E:XK):Prop:=∀ e H',Same H H'→IsX H' e (dB mg "NoCounts") [("found",v)]→E (.ref (dB mg "NoCounts")) (some e) H'
end
section
variable {P:Program} {w:World} {K:PySem.W.Frag} {mg:Str→Option Value} {base:Heap}
theorem tG:(["_law_number"]:List Str).Nodup:=by decide+kernel
theorem O6:cC gj "_law_k":=by decide+kernel
theorem kz0q:bT gj "len":=by decide+kernel
theorem RQ:cC gj "_law_script":=by decide+kernel
theorem BJ:cC gQ "_law_number":=by decide+kernel
theorem RT:cC gQ "_law_k":=by decide+kernel
theorem kz0u:cC gQ "_law_cell_here":=by decide+kernel
theorem RV:bT dO "isinstance":=by decide+kernel
theorem kz0w:bT dO "bool":=by decide+kernel
theorem RW:cC dO "_law_thing":=by decide+kernel
theorem kz0y:bT dO "int":=by decide+kernel
theorem Jj:cC bY "_law_found":=by decide+kernel
theorem kz10:bT bY "enumerate":=by decide+kernel
theorem kz11:cC bY "_law_bases":=by decide+kernel
theorem Jk:cC bY "_law_base":=by decide+kernel
theorem RX:cC bY "_law_k":=by decide+kernel
theorem O7:cC bY "_law_cell_here":=by decide+kernel
theorem kz15:bT bY "_law_mix":=by decide+kernel
theorem Jl:cC bY "_law_left":=by decide+kernel
theorem RZ:cC c7 "_law_few":=by decide+kernel
theorem O8:cC c7 "_law_way":=by decide+kernel
theorem R0:cC c7 "_law_some":=by decide+kernel
theorem R5:cC c7 "_law_most":=by decide+kernel
theorem kz1b:bT c7 "_law_takes":=by decide+kernel
theorem kz1c:cC c7 "_law_cell_here":=by decide+kernel
theorem R6:bT dg "len":=by decide+kernel
theorem O9:cC dg "_law_found":=by decide+kernel
theorem R7:cC dg "_law_due":=by decide+kernel
theorem kz1g:bT dg "isinstance":=by decide+kernel
theorem kz1h:bT dg "list":=by decide+kernel
theorem qL {H H':Hp} {a:Addr} {xs:List V} (h:SqL K H a xs) (s:Same H H'):SqL K H' a xs:=by
 rcases h with (h | ⟨o,h⟩) | h
 ·exact .inl (.inl (s _ _ h))
 ·exact .inl (.inr ⟨o,s _ _ h⟩)
 ·exact .inr h
def Pa (K:PySem.W.Frag):Sp:=fun vs H Q _=>∃ (a:Addr) (ns:List Int) (k:Int),vs=[.ref a,.int k]∧SqL K H a (ns.map V.int)∧0≤k∧∀ n,Q (.int n) H
theorem wQ:aO ["_law_script","_law_k"] ["_law_script","_law_k"] (aq gj):=⟨rfl,rfl,rfl,by decide+kernel,rfl,by decide+kernel,by decide+kernel⟩
theorem gk (T:Txt K mg):qu P w K mg base 1 "_law_cell" ["_law_script","_law_k"] (Pa K):=by
 refine iZ T.d_law_cell wQ (fun _ _ _ _ _ _ us hl=>L2.qP (fun _ _=>rfl) us hl) ?_ fun f cdv A outer s H vs Q E hr h=>?_
 ·rintro vs H Q E ⟨a,ns,k,rfl,_⟩;rfl
 obtain ⟨a,ns,k,rfl,hS,h0,q⟩:=h
 have hu:=hr.units0
 have hu64:=hr.units
 refine ⟨_,(az (bj (bh qT (ao 1 O6) (aC (aF (K:=K) rfl) (aW kz0q) T.b_len bu (aa (ao 0 RQ) aj) (by decide+kernel) (by decide+kernel)) (by first | exact aV _ | with_unfolding_all rfl)) (au (aL (dw (K:=K) rfl (ao 0 RQ) (ao 1 O6)))) bC) (au (aL (bf (lH (K:=K) rfl) (bf iB aA (ao 1 O6)) aA)))),?_⟩
 walk_at "sts"
 refine ⟨_,_,rfl,.inl ⟨_,hS,rfl⟩,?_⟩
 walk_at "sts"
 refine iy (fun hk=>?_) (fun hk=>?_)
 ·rw [List.length_map] at hk
  walk_at "sts"
  refine bz hS (yS (v:=.int (ns.getD k.toNat 0)) h0 ?_) (q _)
  rw [List.getElem?_map,List.getD_eq_getElem?_getD,List.getElem?_eq_getElem (by omega)];rfl
 ·walk_at "sts"
  exact q _
def R8:Sp:=fun vs H Q _=>∃ n k:Int,vs=[.int n,.int k]∧∀ r,0≤r→r < 2147483587→Q (.int r) H
theorem mD:aO ["_law_cell_here","_law_k","_law_number"] ["_law_cell_here","_law_k"] (aq gQ):=⟨rfl,rfl,rfl,by decide+kernel,rfl,by decide+kernel,by decide+kernel⟩
theorem fM (T:Txt K mg):qu P w K mg base 1 "_law_mix" ["_law_cell_here","_law_k"] R8:=by
 refine iZ T.d_law_mix mD (fun _ _ _ _ _ _ us hl=>L2.qP (fun _ _=>rfl) us hl) ?_ fun f cdv A outer s H vs Q E hr h=>?_
 ·rintro vs H Q E ⟨n,k,rfl,_⟩;rfl
 obtain ⟨n,k,rfl,q⟩:=h
 have hu:=hr.units0
 have hu64:=hr.units
 refine ⟨_,(az (aQ (i:=2) mD.nd rfl (Or.inl BJ) (bf eU (bf (lH (K:=K) rfl) (bf (lH (K:=K) rfl) (bf iB (bf eU (ao 0 kz0u) aA) aA) (bf iB aA (ao 1 RT))) aA) aA) rfl) (az (aQ (i:=2) mD.nd rfl (Or.inl BJ) (bf eU (bf (lH (K:=K) rfl) (bf (lH (K:=K) rfl) (bf iB (ao 2 BJ) (ao 2 BJ)) (bf iB aA (ao 1 RT))) aA) aA) rfl) (au (aL (bf eU (bf iB (ao 2 BJ) (bf (lH (K:=K) rfl) (ao 2 BJ) aA)) aA))))),?_⟩
 walk_at "sts"
 exact q _ (by omega) (by omega)
theorem vd:aO ["_law_thing"] ["_law_thing"] (aq dO):=⟨rfl,rfl,rfl,by decide+kernel,rfl,by decide+kernel,by decide+kernel⟩
theorem cO (T:Txt K mg):qu P w K mg base 1 "_law_whole" ["_law_thing"] (wO K):=by
 refine iZ T.d_law_whole vd (fun _ _ _ _ _ _ us hl=>L2.mL (fun _=>rfl) us hl) ?_ fun f cdv A outer s H vs Q E hr h=>?_
 ·rintro vs H Q E ⟨v,rfl,_⟩;rfl
 obtain ⟨v,rfl,hT,q⟩:=h
 have hu:=hr.units0
 have hu64:=hr.units
 refine ⟨_,(au (aL (pW (aC (bN (K:=K) rfl) (aW RV) T.b_isinstance aK (aa (ao 0 RW) (aa (j7 (aW kz0y) T.b_int xN (by decide+kernel) (by decide+kernel)) aj)) (by decide+kernel) (by decide+kernel)) (uo (Km (aC (bN (K:=K) rfl) (aW RV) T.b_isinstance aK (aa (ao 0 RW) (aa (j7 (aW kz0w) T.b_bool qC (by decide+kernel) (by decide+kernel)) aj)) (by decide+kernel) (by decide+kernel))))))),?_⟩
 walk_at "sts"
 rcases hT with ⟨n,rfl⟩ | ⟨b,rfl⟩ | ⟨T',hty,hk⟩
 ·refine cj (.int _) rfl ?_
  walk_at "sts"
  refine cj (.int _) rfl ?_
  walk_at "sts"
  exact q
 ·refine cj (.bl _) (b:=true) (by rfl) ?_
  walk_at "sts"
  refine cj (.bl _) (b:=true) (by rfl) ?_
  walk_at "sts"
  exact q
 ·refine cj hty hk ?_
  walk_at "sts"
  rw [(Ga hty hk).1] at q
  exact q
def Fits (ms bs:List Int):Prop:=ms.length=bs.length∧∀ (i:Nat) (m b:Int),ms[i]?=some m→bs[i]?=some b→0≤m∧m < b
theorem Fits.push {ms bs:List Int} {k:Nat} {m b:Int} (h:Fits ms (bs.take k)) (hb:bs[k]?=some b) (h0:0≤m) (h1:m < b):Fits (ms ++ [m]) (bs.take (k+1)):=by
 have hk:k < bs.length:=(List.getElem?_eq_some_iff.mp hb).1
 have hl:ms.length=k:=by rw [h.1,List.length_take];omega
 refine ⟨by simp;omega,fun i m' b' e1 e2=>?_⟩
 by_cases hi:i < k
 ·rw [List.getElem?_append_left (by omega)] at e1
  rw [List.getElem?_take_of_lt (by omega)] at e2
  exact h.2 i m' b' e1 (by rw [List.getElem?_take_of_lt hi];exact e2)
 ·have hi2:i < k+1:=by have:=(List.getElem?_eq_some_iff.mp e1).1;simp at this;omega
  obtain rfl:i=k:=by omega
  rw [List.getElem?_append_right (by omega),hl,Nat.sub_self] at e1
  rw [List.getElem?_take_of_lt (by omega),hb] at e2
  cases e1;cases e2
  exact ⟨h0,h1⟩
def Jm (K:PySem.W.Frag):Sp:=fun vs H Q _=>∃ (n:Int) (b:Addr) (bs:List Int),vs=[.int n,.ref b]∧H b=some (.lst (bs.map V.int))∧bs.length≤100∧(∀ x∈bs,0 < x∧x < 1606938044258990275541962092341162602522202993782792835301376)∧
 ∀ (q:Addr) (ms:List Int) (H':Hp),H q=none→Same H H'→H' q=some (.lst (ms.map V.int))→Fits ms bs→Q (.ref q) H'
theorem dX:aO ["_law_cell_here","_law_bases","_law_found","_law_left","_law_k","_law_base"] ["_law_cell_here","_law_bases"] (aq bY):=⟨rfl,rfl,rfl,by decide+kernel,rfl,by decide+kernel,by decide+kernel⟩
theorem cQ (T:Txt K mg):qu P w K mg base 2 "_law_takes" ["_law_cell_here","_law_bases"] (Jm K):=by
 have fM:=fM (P:=P) (w:=w) (base:=base) T
 refine iZ T.d_law_takes dX (fun _ _ _ _ _ _ us hl=>L2.qP (fun _ _=>rfl) us hl) ?_ fun f cdv A outer s H vs Q E hr h=>?_
 ·rintro vs H Q E ⟨n,b,bs,rfl,_⟩;rfl
 obtain ⟨n,b,bs,rfl,hb,hlen,hbs,q⟩:=h
 have hu:=hr.units0
 have hu64:=hr.units
 refine ⟨_,(az (aQ (i:=2) dX.nd rfl (Or.inl Jj) (bJ aj) rfl) (az (aQ (i:=3) dX.nd rfl (Or.inl Jl) (ao 0 O7) rfl) (az (eY PassesOwn.never rfl (wC (K:=K) rfl rfl (aW kz10) T.b_enumerate (aa (ao 1 kz11) aj)) (xP (K:=K) rfl rfl (cL (bF (i:=4) dX.nd rfl (Or.inl RX) rfl) (cL (bF (i:=5) dX.nd rfl (Or.inl Jk) rfl) nj))) (au (bj (bh qT (ao 0 O7) (bf xj aA aA) (by first | exact aV _ | with_unfolding_all rfl)) (au (cZ (iR (K:=K) rfl PySem.F.plainAttrs_list PySem.F.slot_list_append PySem.F.type_list_append dR (ao 2 Jj) (aa (bf eU (aU fM (hr.mono (by decide)) (aW kz15) (aa (ao 0 O7) (aa (ao 4 RX) aj)) (by decide+kernel)) (ao 5 Jk)) aj)))) (az (cZ (iR (K:=K) rfl PySem.F.plainAttrs_list PySem.F.slot_list_append PySem.F.type_list_append dR (ao 2 Jj) (aa (bf eU (ao 3 Jl) (ao 5 Jk)) aj))) (au (aQ (i:=3) dX.nd rfl (Or.inl Jl) (bf rM (ao 3 Jl) (ao 5 Jk)) rfl)))))) (au (aL (ao 2 Jj)))))),?_⟩
 walk_at "sts"
 have hs:1000≤sizeLine:=by decide
 refine ut rfl fun f nf=>?_
 walk_at "sts"
 refine .inr (.inl ⟨b,_,rfl,SqL.of (dU nf hb),?_⟩)
 refine Al (K:=K) (xs:=bs.map V.int) (fun k σ H'=>∃ (l:Int) (ms:List Int) (x4 x5:Option V),σ=[some (.int n),some (.ref b),some (.ref f),some (.int l),x4,x5]∧Same H H'∧H' f=some (.lst (ms.map V.int))∧Fits ms (bs.take k))
  ⟨n,[],_,_,rfl,(Same.refl H).upd nf,ak,rfl,fun i m b e=>by simp at e⟩ (fun i σ H' _ h=>?_) ?_ ?_
 ·obtain ⟨_,_,_,_,_,s,_⟩:=h
  exact SqL.of (s _ _ hb)
 ·rintro k σ H' T v hk ⟨l,ms,x4,x5,rfl,s,hf,hF⟩ nT
  rw [List.getElem?_map] at hk
  obtain ⟨bb,hbb,rfl⟩:∃ y,bs[k]?=some y∧v=V.int y:=by
   cases e:bs[k]? with
   | none=>rw [e] at hk;cases hk
   | some y=>rw [e] at hk;exact ⟨y,rfl,(Option.some.inj hk).symm⟩
  obtain ⟨p0,p1⟩:=hbs bb (List.mem_of_getElem? hbb)
  have hml:ms.length≤100:=by rw [hF.1,List.length_take];omega
  have hf1:=dU nT (o:=.tup [.int k,.int bb]) hf
  have s1:=s.upd nT (o:=.tup [.int k,.int bb])
  refine ig (SqT.of ak) rfl ?_
  walk_at "sts"
  refine iy (fun hg=>?_) (fun hg=>?_)
  ·walk_at "sts"
   refine ⟨.inl ⟨rfl,_,SqL.of hf1⟩,?_⟩
   walk_at "sts"
   refine ⟨_,_,rfl,fun r r0 r1=>?_⟩
   walk_at "sts"
   refine d9 hf1 (by simp;omega) ?_
   walk_at "sts"
   refine ⟨_,ms ++ [r % bb],_,_,rfl,Same.put s1 nf,?_,hF.push hbb (Int.emod_nonneg _ (by omega)) (Int.emod_lt_of_pos _ p0)⟩
   rw [List.map_append];exact ak
  ·walk_at "sts"
   refine ⟨.inl ⟨rfl,_,SqL.of hf1⟩,?_⟩
   walk_at "sts"
   refine d9 hf1 (by simp;omega) ?_
   walk_at "sts"
   refine ⟨_,ms ++ [l % bb],_,_,rfl,Same.put s1 nf,?_,hF.push hbb (Int.emod_nonneg _ (by omega)) (Int.emod_lt_of_pos _ p0)⟩
   rw [List.map_append];exact ak
 ·rintro σ H' ⟨l,ms,x4,x5,rfl,s,hf,hF⟩
  walk_at "sts"
  refine q f ms H' nf s hf ?_
  rw [List.length_map,List.take_length] at hF
  exact hF
theorem fX {ms:List Int} {bs:List Int} (h:Fits ms bs):∀ (i:Nat) (b:Int),bs[i]?=some b→∃ m:Nat,ms[i]?=some (m:Int)∧(m:Int) < b:=fun i b hb=>by
 have hi:i < ms.length:=by rw [h.1];exact (List.getElem?_eq_some_iff.mp hb).1
 have:=h.2 i _ b (List.getElem?_eq_getElem hi) hb
 exact ⟨ms[i].toNat,by rw [List.getElem?_eq_getElem hi,Int.toNat_of_nonneg this.1],by omega⟩
def Pb (K:PySem.W.Frag):Sp:=fun vs H Q _=>∃ n:Int,vs=[.int n]∧∀ (m:Nat) H',m≤96→Same H H'→Q (.int m) H'
theorem gC:aO ["_law_cell_here","_law_way","_law_few","_law_some","_law_most"] ["_law_cell_here"] (aq c7):=⟨rfl,rfl,rfl,by decide+kernel,rfl,by decide+kernel,by decide+kernel⟩
theorem mF (T:Txt K mg):qu P w K mg base 3 "_law_many" ["_law_cell_here"] (Pb K):=by
 have cQ:=cQ (P:=P) (w:=w) (base:=base) T
 refine iZ T.d_law_many gC (fun _ _ _ _ _ _ us hl=>L2.mL (fun _=>rfl) us hl) ?_ fun f cdv A outer s H vs Q E hr h=>?_
 ·rintro vs H Q E ⟨n,rfl,_⟩;rfl
 obtain ⟨n,rfl,q⟩:=h
 have hu:=hr.units0
 have hu64:=hr.units
 refine ⟨_,(az (yW (aU cQ (hr.mono (by decide)) (aW kz1b) (aa (ao 0 kz1c) (aa (bJ (aa aA (aa aA (aa aA (aa aA aj))))) aj)) (by decide+kernel)) (yV (K:=K) rfl rfl (cL (bF (i:=1) gC.nd rfl (Or.inl O8) rfl) (cL (bF (i:=2) gC.nd rfl (Or.inl RZ) rfl) (cL (bF (i:=3) gC.nd rfl (Or.inl R0) rfl) (cL (bF (i:=4) gC.nd rfl (Or.inl R5) rfl) nj)))))) (az (bj (bh (uU (K:=K) rfl hu64) (ao 1 O8) aA (by first | exact aV _ | with_unfolding_all rfl)) (au (aL (ao 4 R5))) bC) (az (bj (bh qT (ao 1 O8) aA (by first | exact aV _ | with_unfolding_all rfl)) (au (aL (ao 3 R0))) bC) (au (aL (ao 2 RZ)))))),?_⟩
 walk_at "sts"
 refine ut rfl fun p np=>?_
 walk_at "sts"
 refine ⟨n,p,[32,9,25,97],rfl,ak,by simp,by decide,fun f ms H1 nf S1 hf hF=>?_⟩
 walk_at "sts"
 obtain ⟨a,ha,ha1⟩:=fX hF 0 32 rfl
 obtain ⟨b,hb,hb1⟩:=fX hF 1 9 rfl
 obtain ⟨c,hc,hc1⟩:=fX hF 2 25 rfl
 obtain ⟨d,hd,hd1⟩:=fX hF 3 97 rfl
 have hl:ms.length=4:=hF.1
 have em:ms=[(a:Int),b,c,d]:=by
  refine List.ext_getElem? fun i=>?_
  match i with
  | 0=>exact ha
  | 1=>exact hb
  | 2=>exact hc
  | 3=>exact hd
  | i+4=>rw [List.getElem?_eq_none (by omega),List.getElem?_eq_none (by simp)]
 subst em
 have hf':H1 f=some (.lst [.int (a:Int),.int (b:Int),.int (c:Int),.int (d:Int)]):=hf
 refine ⟨f,_,rfl,.inr (SqL.of hf'),rfl,?_⟩
 walk_at "sts"
 have S0:Same H H1:=((Same.refl H).upd np).trans S1
 refine iy (fun h=>?_) (fun h=>?_)
 ·walk_at "sts"
  exact q d _ (by omega) S0
 ·walk_at "sts"
  refine iy (fun h=>?_) (fun h=>?_)
  ·walk_at "sts"
   exact q c _ (by omega) S0
  ·walk_at "sts"
   exact q b _ (by omega) S0
def Pg (K:PySem.W.Frag):Sp:=fun vs H Q _=>∃ (a b:Addr) (t:List Nat),vs=[.ref a,.ref b]∧H a=some (.lst ((nI t).map V.int))∧H b=some (.lst ((nI t).map V.int))∧t.length≤10000∧∀ H',Same H H'→Q (.bl true) H'
theorem wR:aO ["_law_found","_law_due"] ["_law_found","_law_due"] (aq dg):=⟨rfl,rfl,rfl,by decide+kernel,rfl,by decide+kernel,by decide+kernel⟩
theorem fj (T:Txt K mg):qu P w K mg base 2 "_law_list" ["_law_found","_law_due"] (Pg K):=by
 have cO:=cO (P:=P) (w:=w) (base:=base) T
 refine iZ T.d_law_list wR (fun _ _ _ _ _ _ us hl=>L2.qP (fun _ _=>rfl) us hl) ?_ fun f cdv A outer s H vs Q E hr h=>?_
 ·rintro vs H Q E ⟨a,b,t,rfl,_⟩;rfl
 obtain ⟨a,b,t,rfl,ha,hb,hl,q⟩:=h
 have hu:=hr.units0
 have hu64:=hr.units
 refine ⟨_,(az (bj (ie (gJ (bO (bI (aC (bN (K:=K) rfl) (aW kz1g) T.b_isinstance aK (aa (ao 0 O9) (aa (j7 (aW kz1h) T.b_list cF (by decide+kernel) (by decide+kernel)) aj)) (by decide+kernel) (by decide+kernel)))) (eV (bh (il (K:=K) rfl hu64) (ao 0 O9) (ao 1 R7) (by first | exact aV _ | with_unfolding_all rfl))))) (au (aL gw)) bC) (au (aL (um (uU (K:=K) rfl hu64) (aC (aF (K:=K) rfl) (aW R6) T.b_len bu (aa (gf (sub:=[none]) (bU (N:=["_law_found","_law_due"]) (sc:=aq dg) (N':=["_law_number"]) (by decide+kernel)) rfl rfl rfl (dz (K:=K) rfl (ao 0 O9)) (fun C s₀ H₀ ex=>(j8 0 (by decide+kernel) tG)) (fun C s₀ H₀ ex=>(ni (bI (aU cO (hr.mono (by decide)) (M9 (by decide+kernel)) (aa (cJ 0 (by decide+kernel)) aj) (by decide+kernel))))) (fun C s₀ H₀ ex=>(cJ 0 (by decide+kernel)))) aj) (by decide+kernel) (by decide+kernel)) (aC (aF (K:=K) rfl) (aW R6) T.b_len bu (aa (ao 1 R7) aj) (by decide+kernel) (by decide+kernel)) (by first | exact aV _ | with_unfolding_all rfl))))),?_⟩
 walk_at "sts"
 have hs:20000≤sizeLine:=by decide
 refine cj (.lst ha) rfl ?_
 walk_at "sts"
 refine .inl (.inl (.inl (.inr ⟨a,b,nI t,nI t,rfl,rfl,SqL.of ha,SqL.of hb,?_⟩)))
 rw [decide_eq_true rfl]
 walk_at "sts"
 refine .inl ⟨a,rfl,⟨_,SqL.of ha⟩,?_⟩
 refine ul (xs:=(nI t).map V.int) (fun i ys H'=>H'=H∧ys.length=i) (by rw [bx];omega) ⟨rfl,rfl⟩ ?_ ?_ ?_ ?_
 ·rintro i ys H' ⟨_,h⟩
  omega
 ·rintro i ys H' ⟨rfl,_⟩
  exact SqL.of ha
 ·rintro i ys H' x hx ⟨rfl,hy⟩
  obtain ⟨n,_,rfl⟩:=sr hx
  walk_at "sts"
  refine ⟨KeepSt.set rfl,?_⟩
  walk_at "sts"
  refine ⟨.int n,rfl,.inl ⟨_,rfl⟩,?_⟩
  rw [show jK (V.int (n:Int))=true from rfl]
  walk_at "sts"
  exact ⟨rfl,by simp;omega⟩
 ·rintro ys H' ⟨rfl,hy⟩ D hD
  walk_at "sts"
  refine bB (SqL.of ak) ?_
  walk_at "sts"
  refine bB (SqL.of (dU hD hb)) ?_
  walk_at "sts"
  rw [hy,jf,decide_eq_true rfl]
  exact q _ ((Same.refl H').upd hD)
end
section
variable {P:Program} {w:World} {K:PySem.W.Frag} {mg:Str→Option Value} {base:Heap}
theorem Ph:cC bD "_law_found":=by decide+kernel
theorem kz1j:bT bD "_law_takes":=by decide+kernel
theorem R9:bT bD "list":=by decide+kernel
theorem Sg:bT bD "range":=by decide+kernel
theorem Sh:cC bD "_law_many_here":=by decide+kernel
theorem kz1n:cC bD "_law_cell_here":=by decide+kernel
theorem Ss:cC bD "_law_number":=by decide+kernel
theorem Su:cC bD "_law_left":=by decide+kernel
theorem Gh {i:Int} (h0:0≤i) (h1:i < 2 ^ 60):Builtin.Range.small i 0 (-1)=true:=by
 unfold Builtin.Range.small Builtin.Range.rangeSize
 simp only [Builtin.Range.rangeFitsLong,Bool.and_eq_true,Bool.or_eq_true,decide_eq_true_eq,beq_iff_eq,show ¬ ((-1:Int) > 0) by decide,if_false,show (-(-1:Int))=1 by decide,Int.ediv_one]
 split <;> omega
theorem Jo {n:Nat}:Builtin.Range.rangeSize (n:Int) 0 (-1)=(n:Int):=by
 unfold Builtin.Range.rangeSize
 simp only [show ¬ ((-1:Int) > 0) by decide,if_false,show (-(-1:Int))=1 by decide,Int.ediv_one]
 split <;> omega
theorem o4 {α β:Type} (f:α→β):∀ (l:List α) (k:Nat),(l.map f).eraseIdx k=(l.eraseIdx k).map f
 | [],_=>rfl
 | _ :: _,0=>rfl
 | a :: l,k+1=>congrArg (f a :: ·) (o4 f l k)
theorem sy:∀ (l:List Nat) (k:Nat) (h:k < l.length),(l[k] :: l.eraseIdx k).Perm l
 | _ :: _,0,_=>List.Perm.refl _
 | a :: l,k+1,h=>(List.Perm.swap a _ _).trans (List.Perm.cons a (sy l k (by simpa using h)))
theorem Gi (t:List Nat) (k:Nat):((nI t).map V.int).eraseIdx k=(nI (t.eraseIdx k)).map V.int:=by unfold nI;rw [o4,o4]
def Pj (K:PySem.W.Frag):Sp:=fun vs H Q _=>∃ (n:Int) (m:Nat),vs=[.int n,.int m]∧m≤96∧∀ (q:Addr) (t:List Nat) (H':Hp),H q=none→Same H H'→H' q=some (.lst ((nI t).map V.int))→Prm t→t.length=m→Q (.ref q) H'
theorem fY:aO ["_law_cell_here","_law_many_here","_law_left","_law_found","_law_number"] ["_law_cell_here","_law_many_here"] (aq bD):=⟨rfl,rfl,rfl,by decide+kernel,rfl,by decide+kernel,by decide+kernel⟩
theorem iV (T:Txt K mg):qu P w K mg base 3 "_law_turning" ["_law_cell_here","_law_many_here"] (Pj K):=by
 have cQ:=cQ (P:=P) (w:=w) (base:=base) T
 refine iZ T.d_law_turning fY (fun _ _ _ _ _ _ us hl=>L2.qP (fun _ _=>rfl) us hl) ?_ fun f cdv A outer s H vs Q E hr h=>?_
 ·rintro vs H Q E ⟨n,m,rfl,_⟩;rfl
 obtain ⟨n,m,rfl,hm,q⟩:=h
 have hu:=hr.units0
 have hu64:=hr.units
 refine ⟨_,(az (aQ (i:=2) fY.nd rfl (Or.inl Su) (rK rfl (aW R9) T.b_list (aW Sg) T.b_range (aa (ao 1 Sh) aj)) rfl) (az (aQ (i:=3) fY.nd rfl (Or.inl Ph) (bJ aj) rfl) (az (eY PassesOwn.never rfl (dz (K:=K) rfl (aU cQ (hr.mono (by decide)) (aW kz1j) (aa (ao 0 kz1n) (aa (xZ rfl (aW R9) T.b_list (aW Sg) T.b_range (aa (ao 1 Sh) (aa aA (aa (xO lX aA) aj)))) aj)) (by decide+kernel))) (bF (i:=4) fY.nd rfl (Or.inl Ss) rfl) (au (cZ (iR (K:=K) rfl PySem.F.plainAttrs_list PySem.F.slot_list_append PySem.F.type_list_append dR (ao 3 Ph) (aa (iR (K:=K) rfl PySem.F.plainAttrs_list PySem.F.slot_list_pop PySem.F.type_list_pop Iw (ao 2 Su) (aa (ao 4 Ss) aj)) aj))))) (au (aL (ao 3 Ph)))))),?_⟩
 walk_at "sts"
 have hs:20000≤sizeLine:=by decide
 refine zp (n:=m) (by omega) ?_
 walk_at "sts"
 intro lf nlf
 rw [Gg]
 have S1:Same H (upd H lf (.lst ((nI (List.range m)).map V.int))):=(Same.refl H).upd nlf
 have hlf:upd H lf (.lst ((nI (List.range m)).map V.int)) lf=some (.lst ((nI (List.range m)).map V.int)):=ak
 generalize upd H lf (.lst ((nI (List.range m)).map V.int))=H1 at S1 hlf ⊢
 walk_at "sts"
 refine ut rfl fun fd nfd=>?_
 walk_at "sts"
 have S2:=S1.upd nfd (o:=.lst [])
 have hlf2:=dU nfd (o:=.lst []) hlf
 have hfd2:upd H1 fd (.lst []) fd=some (.lst []):=ak
 have nfd0:=Same.back S1 nfd
 have ne:lf≠fd:=fun z=>by rw [z,nfd] at hlf;cases hlf
 generalize upd H1 fd (.lst [])=H2 at S2 hlf2 hfd2 ⊢
 refine ⟨(m:Int),0,-1,m,rfl,by decide,PyProof.noPylong_small (by decide),Gh (by omega) (by omega),Jo,by omega,?_⟩
 walk_at "sts"
 intro bs nbs
 have ebs:((List.range m).map fun i:Nat=>V.int ((m:Int)+(i:Int)* -1))=((List.range m).map fun i:Nat=>(m:Int)+(i:Int)* -1).map V.int:=by rw [List.map_map];rfl
 rw [ebs]
 have S3:=S2.upd nbs (o:=.lst (((List.range m).map fun i:Nat=>(m:Int)+(i:Int)* -1).map V.int))
 have hlf3:=dU nbs (o:=.lst (((List.range m).map fun i:Nat=>(m:Int)+(i:Int)* -1).map V.int)) hlf2
 have hfd3:=dU nbs (o:=.lst (((List.range m).map fun i:Nat=>(m:Int)+(i:Int)* -1).map V.int)) hfd2
 have hbs:upd H2 bs (.lst (((List.range m).map fun i:Nat=>(m:Int)+(i:Int)* -1).map V.int)) bs=some (.lst (((List.range m).map fun i:Nat=>(m:Int)+(i:Int)* -1).map V.int)):=ak
 generalize upd H2 bs (.lst (((List.range m).map fun i:Nat=>(m:Int)+(i:Int)* -1).map V.int))=H3 at S3 hlf3 hfd3 hbs ⊢
 refine ⟨n,bs,(List.range m).map fun i:Nat=>(m:Int)+(i:Int)* -1,rfl,hbs,by simp;omega,(fun x hx=>by obtain ⟨i,hi,rfl⟩:=List.mem_map.mp hx;have:=List.mem_range.mp hi;exact ⟨by omega,by omega⟩),fun tk ms H4 ntk S4 htk hF=>?_⟩
 walk_at "sts"
 have ml:ms.length=m:=by rw [hF.1];simp
 have hlf4:=S4 _ _ hlf3
 have hfd4:=S4 _ _ hfd3
 have tl:tk≠lf:=fun z=>by rw [z,hlf3] at ntk;cases ntk
 have tf:tk≠fd:=fun z=>by rw [z,hfd3] at ntk;cases ntk
 refine .inl ⟨tk,rfl,⟨_,SqL.of htk⟩,?_⟩
 refine gW (xs:=ms.map V.int) (fun k σ H'=>∃ (L F:List Nat) (x4:Option V),σ=[some (.int n),some (.int m),some (.ref lf),some (.ref fd),x4]∧Same H H'∧H' tk=some (.lst (ms.map V.int))∧H' lf=some (.lst ((nI L).map V.int))∧H' fd=some (.lst ((nI F).map V.int))∧(F ++ L).Perm (List.range m)∧L.length+k=m)
  ⟨List.range m,[],_,rfl,S3.trans S4,htk,hlf4,hfd4,List.Perm.refl _,by simp⟩ (fun i σ H' _ h=>?_) ?_ ?_
 ·obtain ⟨_,_,_,_,_,h,_⟩:=h
  exact SqL.of h
 ·rintro k v σ H' hk ⟨L,F,x4,rfl,s,ht,hl,hf,hp,hlen⟩
  have hkm:k < m:=by have:=(List.getElem?_eq_some_iff.mp hk).1;rw [List.length_map] at this;omega
  obtain ⟨c,hc,hcb⟩:=fX hF k ((m:Int)+(k:Int)* -1) (by rw [List.getElem?_map,List.getElem?_range hkm];rfl)
  rw [List.getElem?_map,hc] at hk
  cases hk
  have hcl:c < L.length:=by omega
  have hFl:F.length=k:=by have:=hp.length_eq;rw [List.length_append,List.length_range] at this;omega
  walk_at "sts"
  refine ⟨.inl ⟨rfl,_,SqL.of hf⟩,?_⟩
  walk_at "sts"
  refine ⟨.inl ⟨rfl,_,SqL.of hl⟩,?_⟩
  walk_at "sts"
  refine Oj hl (KZ (getD_some hcl)) (by omega) ?_
  walk_at "sts"
  rw [Gi]
  refine d9 (by rw [aB (Ne.symm ne)];exact hf) (by rw [bx];omega) ?_
  walk_at "sts"
  rw [u6]
  refine ⟨_,_,_,rfl,Same.put (Same.put s nlf) nfd0,by rw [aB tf,aB tl];exact ht,by rw [aB ne];exact ak,ak,?_,by rw [List.length_eraseIdx_of_lt hcl];omega⟩
  refine List.Perm.trans ?_ hp
  rw [List.append_assoc]
  refine List.Perm.append_left _ ?_
  have e:L.getD c 0=L[c]:=by rw [List.getD_eq_getElem?_getD,List.getElem?_eq_getElem hcl];rfl
  rw [e]
  exact sy L c hcl
 ·rintro σ H' ⟨L,F,x4,rfl,s,ht,hl,hf,hp,hlen⟩
  walk_at "sts"
  rw [List.length_map,ml] at hlen
  have e:L=[]:=List.length_eq_zero_iff.mp (by omega)
  subst e
  rw [List.append_nil] at hp
  have hFl:F.length=m:=by rw [hp.length_eq];simp
  exact q fd F H' nfd0 s hf ⟨by omega,by rw [hFl];exact hp⟩ hFl
end
local macro_rules | `(tactic| walk_at "sts") => `(tactic| (with_reducible repeat (first | refine vP ?_ | refine vz ?_ | refine vy ?_ | refine qe ?_ | refine qg ?_ | (refine' pN ?hz0 ?_; (case hz0 => with_unfolding_all rfl)) | refine Kf ?_ | refine vW ?_ | refine jm ?_ | refine jV ?_ | refine pO ?_ | refine vL ?_ | refine pI ?_ | refine jP ?_ | refine pK ?_ | refine jO ?_ | refine vM ?_ | refine jR ?_ | refine vX ?_ | refine vR ?_ | refine jW ?_ | refine vN ?_ | refine pL ?_ | refine vO ?_ | refine jT ?_ | refine jU ?_ | refine pM ?_ | refine pJ ?_ | refine jQ ?_ | refine vQ ?_ | refine oU ?_ | refine oR ?_ | refine vU ?_ | refine pP ?_ | refine vV ?_ | refine pQ ?_ | refine jX ?_ | refine jY ?_ | refine jZ ?_ | refine j0 ?_ | refine j4 ?_ | refine pR ?_ | refine Ko ?_ | refine iH ?_ | refine j9 ?_ | (refine' ig (SqT.of ?hz0) ?hz1 ?_; (case hz0 => first | assumption | exact ak); (case hz1 => rfl)) | refine iI ?_ | refine iK ?_ | refine kj ?_ | refine p7 ?_ | refine iJ ?_ | refine kh ?_ | refine km ?_ | refine kE ?_ | refine jx ?_ | refine jy ?_ | refine jz ?_ | refine jA ?_ | refine qd ?_ | refine gA ?_ | refine jt ?_ | refine ju ?_ | refine jw ?_ | refine pX ?_ | refine j6 ?_ | (refine' Kl ?hz0 ?_; (case hz0 => with_unfolding_all first | assumption | omega | (dsimp only <;> omega) | exact ⟨by omega, by omega⟩ | exact .inl ⟨by omega, by omega⟩ | exact .inr ⟨by omega, by omega⟩ | exact ⟨by decide, by decide, by decide⟩)) | (refine' j5 ?hz0 ?_; (case hz0 => with_unfolding_all first | assumption | omega | (dsimp only <;> omega) | exact ⟨by omega, by omega⟩ | exact .inl ⟨by omega, by omega⟩ | exact .inr ⟨by omega, by omega⟩ | exact ⟨by decide, by decide, by decide⟩)) | (refine' bz (SqL.of ?hz0) ?hz1 ?_; (case hz0 => first | assumption | exact ak); (case hz1 => with_unfolding_all rfl)) | (refine' pU (SqT.of ?hz0) ?hz1 ?_; (case hz0 => first | assumption | exact ak); (case hz1 => with_unfolding_all rfl)) | (refine' jn ?hz0 ?hz1 ?_; (case hz0 => first | assumption | exact ak); (case hz1 => with_unfolding_all rfl)) | refine kJ ?_ | refine FP ?_)))
local macro_rules | `(tactic| walk_at "stn") => `(tactic| (with_reducible repeat (first | refine vP ?_ | refine vz ?_ | refine vy ?_ | refine qe ?_ | refine qg ?_ | (refine' pN ?hz0 ?_; (case hz0 => with_unfolding_all rfl)) | refine Kf ?_ | refine vW ?_ | refine jm ?_ | refine jV ?_ | refine pO ?_ | refine pI ?_ | refine jP ?_ | refine pK ?_ | refine jO ?_ | refine vM ?_ | refine jR ?_ | refine vX ?_ | refine vR ?_ | refine jW ?_ | refine vN ?_ | refine pL ?_ | refine vO ?_ | refine jT ?_ | refine jU ?_ | refine pM ?_ | refine pJ ?_ | refine jQ ?_ | refine vQ ?_ | refine oU ?_ | refine oR ?_ | refine vU ?_ | refine pP ?_ | refine vV ?_ | refine pQ ?_ | refine jX ?_ | refine jY ?_ | refine jZ ?_ | refine j0 ?_ | refine j4 ?_ | refine pR ?_ | refine Ko ?_ | refine iH ?_ | refine j9 ?_ | (refine' ig (SqT.of ?hz0) ?hz1 ?_; (case hz0 => first | assumption | exact ak); (case hz1 => rfl)) | refine iI ?_ | refine iK ?_ | refine kj ?_ | refine p7 ?_ | refine iJ ?_ | refine kh ?_ | refine km ?_ | refine kE ?_ | refine jx ?_ | refine jy ?_ | refine jz ?_ | refine jA ?_ | refine qd ?_ | refine gA ?_ | refine jt ?_ | refine ju ?_ | refine jw ?_ | refine pX ?_ | refine j6 ?_ | (refine' Kl ?hz0 ?_; (case hz0 => with_unfolding_all first | assumption | omega | (dsimp only <;> omega) | exact ⟨by omega, by omega⟩ | exact .inl ⟨by omega, by omega⟩ | exact .inr ⟨by omega, by omega⟩ | exact ⟨by decide, by decide, by decide⟩)) | (refine' j5 ?hz0 ?_; (case hz0 => with_unfolding_all first | assumption | omega | (dsimp only <;> omega) | exact ⟨by omega, by omega⟩ | exact .inl ⟨by omega, by omega⟩ | exact .inr ⟨by omega, by omega⟩ | exact ⟨by decide, by decide, by decide⟩)) | (refine' bz (SqL.of ?hz0) ?hz1 ?_; (case hz0 => first | assumption | exact ak); (case hz1 => with_unfolding_all rfl)) | (refine' pU (SqT.of ?hz0) ?hz1 ?_; (case hz0 => first | assumption | exact ak); (case hz1 => with_unfolding_all rfl)) | (refine' jn ?hz0 ?hz1 ?_; (case hz0 => first | assumption | exact ak); (case hz1 => with_unfolding_all rfl)) | refine kJ ?_ | refine FP ?_)))
section
variable {P:Program} {w:World} {K:PySem.W.Frag} {mg:Str→Option Value} {base:Heap}
theorem wU:(["end","behind","line_end"]:List Str).Nodup:=by decide+kernel
theorem kz1q:bT cN "list":=by decide+kernel
theorem Sv:bT cN "reversed":=by decide+kernel
theorem Jp:cC cN "table":=by decide+kernel
theorem Pk:cC cN "turning":=by decide+kernel
theorem kz1u:Ce cN "line_end":=by decide+kernel
theorem kz1v:bT cN "range":=by decide+kernel
theorem Pn:cC cN "many":=by decide+kernel
theorem kz1x:Ce cN "behind":=by decide+kernel
theorem kz1y:bT cN "len":=by decide+kernel
theorem kz1z:bT cN "need_turning":=by decide+kernel
def o5 (t:List Nat) (b e:Nat):Nat:=(t.drop b).countP fun x=>decide (x < e)
def cB (t:List Nat) (b:Nat):List Int:=(List.range (t.length+1)).map fun e=>((o5 t b e:Nat):Int)
theorem iu (t:List Nat) (b:Nat):(cB t b).length=t.length+1:=by simp [cB]
theorem zF {t:List Nat} {b e:Nat} {j:Int} (hj:j=(e:Int)) (h:e≤t.length):tY ((cB t b).map V.int) j=some (.int ((o5 t b e:Nat):Int)):=by
 subst hj
 refine bZ ?_
 unfold cB
 rw [List.getElem?_map,List.getElem?_map,List.getElem?_range (by omega)];rfl
theorem wV {t:List Nat} {b x:Nat} (h:t[b]?=some x) (e:Nat):o5 t b e=o5 t (b+1) e+if x < e then 1 else 0:=by
 obtain ⟨hb,hx⟩:=List.getElem?_eq_some_iff.mp h
 unfold o5
 rw [List.drop_eq_getElem_cons hb,List.countP_cons,hx]
 by_cases c:x < e
 ·rw [if_pos (by simpa using c),if_pos c]
 ·rw [if_neg (by simpa using c),if_neg c]
theorem zG (t:List Nat) (e:Nat):o5 t t.length e=0:=by unfold o5;rw [List.drop_length];rfl
def CT (H:Hp) (rs:List V) (n:Nat) (f:Nat→List Int):Prop:=rs.length=n∧∀ k,k < n→∃ a,rs[k]?=some (.ref a)∧H a=some (.lst ((f k).map V.int))
theorem CT.same {H H':Hp} {rs:List V} {n:Nat} {f:Nat→List Int} (h:CT H rs n f) (s:Same H H'):CT H' rs n f:=⟨h.1,fun k hk=>by
 obtain ⟨a,e,ha⟩:=h.2 k hk
 exact ⟨a,e,s _ _ ha⟩⟩
theorem CT.push {H:Hp} {rs:List V} {n:Nat} {f:Nat→List Int} {a:Addr} (h:CT H rs n f) (ha:H a=some (.lst ((f n).map V.int))):CT H (rs ++ [.ref a]) (n+1) f:=⟨by rw [List.length_append,h.1];rfl,fun k hk=>by
 by_cases e:k=n
 ·subst e
  exact ⟨a,by rw [List.getElem?_append_right (by rw [h.1];exact Nat.le_refl _),h.1,Nat.sub_self];rfl,ha⟩
 ·obtain ⟨b,e1,hb⟩:=h.2 k (by omega)
  exact ⟨b,by rw [List.getElem?_append_left (by rw [h.1];omega)];exact e1,hb⟩⟩
theorem CT.rev {H:Hp} {rs:List V} {n:Nat} {f:Nat→List Int} (h:CT H rs n f):CT H rs.reverse n fun k=>f (n - 1 - k):=⟨by rw [List.length_reverse];exact h.1,fun k hk=>by
 obtain ⟨a,e,ha⟩:=h.2 (n - 1 - k) (by omega)
 exact ⟨a,by rw [List.getElem?_reverse (by rw [h.1];exact hk),h.1];exact e,ha⟩⟩
def Gj:Sp:=fun vs H Q _=>∃ (a:Addr) (t:List Nat),vs=[.ref a]∧Tn H a t∧Prm t∧∀ q rs H',H q=none→Same H H'→H' q=some (.lst rs)→CT H' rs (t.length+1) (cB t)→(∀ r,V.ref r∈rs→H r=none)→Q (.ref q) H'
theorem jg:aO ["turning","many","table","line_end","behind"] ["turning"] (aq cN):=⟨rfl,rfl,rfl,by decide+kernel,rfl,by decide+kernel,by decide+kernel⟩
theorem jh (T:Txt K mg):v9 P w K mg base 5 "counts" ["turning"] Gj:=by
 have cV:=cV (P:=P) (w:=w) (base:=base) T
 refine ww T.d_counts jg (fun _ _ _ _ _ _ us hl=>L2.mL (fun _=>rfl) us hl) ?_ fun f cdv A outer s H vs Q E hr h=>?_
 ·rintro vs H Q E ⟨a,t,rfl,_⟩;rfl
 obtain ⟨a,t,rfl,ha,hP,q⟩:=h
 have hu:=hr.units0
 have hu64:=hr.units
 refine ⟨_,(az (cZ (gn cV (hr.mono (by decide)) (aW kz1z) fV (aa (ao 0 Pk) aj) (by decide+kernel))) (az (aQ (i:=1) jg.nd rfl (Or.inl Pn) (aC (aF (K:=K) rfl) (aW kz1y) T.b_len bu (aa (ao 0 Pk) aj) (by decide+kernel) (by decide+kernel)) rfl) (az (aQ (i:=2) jg.nd rfl (Or.inl Jp) (bJ (aa (bf iB (bJ (aa aA aj)) (bf aP (ao 1 Pn) aA)) aj)) rfl) (az (Ew (eY PassesOwn.never rfl (Ja (K:=K) rfl (aW Sv) T.b_reversed (ao 0 Pk)) (bF (i:=3) jg.nd rfl (Or.inr kz1u) rfl) (az (aQ (i:=4) jg.nd rfl (Or.inr kz1x) (dw (K:=K) rfl (ao 2 Jp) (xO lX aA)) rfl) (au (cZ (iR (K:=K) rfl PySem.F.plainAttrs_list PySem.F.slot_list_append PySem.F.type_list_append dR (ao 2 Jp) (aa (gf (sub:=[none,some 4,some 3]) (bU (N:=["turning","many","table","line_end","behind"]) (sc:=aq cN) (N':=["end","behind","line_end"]) (by decide+kernel)) rfl rfl rfl (fH (aW kz1v) T.b_range (aa (bf aP (ao 1 Pn) aA) aj)) (fun C s₀ H₀ ex=>(j8 0 (by decide+kernel) wU)) (fun C s₀ H₀ ex=>eQ) (fun C s₀ H₀ ex=>(bf aP (dw (K:=K) rfl (fG 1 (by decide+kernel)) (cJ 0 (by decide+kernel))) (Rb (bh qT (fG 2 (by decide+kernel)) (cJ 0 (by decide+kernel)) (by first | exact aV _ | with_unfolding_all rfl)) aA aA)))) aj))))))) (au (aL (An (K:=K) rfl rfl (aW kz1q) T.b_list (aW Sv) T.b_reversed (ao 2 Jp)))))))),?_⟩
 walk_at "sts"
 have hsz:20000≤sizeLine:=by decide
 have hle:=hP.le
 refine ⟨_,true,rfl,zE ha hP,fun _ H1 S1=>?_,(fun h=>by cases h)⟩
 walk_at "sts"
 have hlen:∀ (n:Nat),n=t.length→n=t.length:=fun _ h=>h
 have step:∀ (R:V→Hp→Prop),R (.int (t.length:Int)) H1→DK K [.ref a] H1 R:=fun R hR=>by
  rcases ha.same S1 with h | h
  ·refine bB (SqL.of h) ?_
   rw [bx];exact hR
  ·refine uN (SqT.of h) ?_
   rw [bx];exact hR
 refine step _ ?_
 walk_at "sts"
 refine aR rfl fun p0 H2 _ S2 f2=>?_
 walk_at "sts"
 refine DY f2 (by omega) (by omega) (by simp;omega) fun p1 np1=>?_
 have S3:=(Same.refl H2).upd np1 (o:=.lst (List.replicate ((t.length:Int)+1).toNat [V.int 0]).flatten)
 have f3:=ak (H:=H2) (a:=p1) (o:=.lst (List.replicate ((t.length:Int)+1).toNat [V.int 0]).flatten)
 generalize upd H2 p1 (.lst (List.replicate ((t.length:Int)+1).toNat [V.int 0]).flatten)=H3 at S3 f3 ⊢
 have f3':H3 p1=some (.lst ((cB t (t.length - 0)).map V.int)):=by
  rw [f3,show ((t.length:Int)+1).toNat=t.length+1 by omega]
  congr 2
  unfold cB
  rw [List.map_map]
  have:∀ n,(List.replicate n [V.int 0]).flatten=(List.range n).map fun _=>V.int 0:=fun n=>by
   induction n with
   | zero=>rfl
   | succ n ih=>rw [List.replicate_succ',List.flatten_append,ih,List.range_succ,List.map_append];rfl
  rw [this]
  refine List.map_congr_left fun e _=>?_
  show V.int 0=V.int ((o5 t (t.length - 0) e:Nat):Int)
  rw [Nat.sub_zero,zG];rfl
 walk_at "sts"
 refine aR rfl fun tb H4 ntb S4 f4=>?_
 walk_at "sts"
 have U4:=S1.trans (S2.trans (S3.trans S4))
 have ntb0:H tb=none:=by
  have:=Same.back (S1.trans (S2.trans S3)) ntb
  exact this
 have C4:CT H4 [.ref p1] (0+1) fun k=>cB t (t.length - k):=⟨rfl,fun k hk=>by
  obtain rfl:k=0:=by omega
  exact ⟨p1,rfl,S4 _ _ f3'⟩⟩
 have N4:∀ r,V.ref r∈[V.ref p1]→H r=none:=fun r hr=>by
  simp only [List.mem_cons,List.mem_nil_iff,or_false] at hr
  cases hr
  exact Same.back (S1.trans S2) np1
 rcases ha with ha | ha
 ·refine .inl ⟨a,_,rfl,SqL.of (U4 _ _ ha),?_⟩
  refine Jb (xs:=(nI t).map V.int) (fun i σ G=>Same H G∧(∃ rs,G tb=some (.lst rs)∧(CT G rs (i+1) fun k=>cB t (t.length - k))∧∀ r,V.ref r∈rs→H r=none)∧∃ x3 x4,σ=[some (.ref a),some (.int (t.length:Int)),some (.ref tb),x3,x4])
   ⟨U4,⟨_,f4,C4,N4⟩,_,_,rfl⟩ (fun i σ G _ h=>SqL.of (h.1 _ _ ha)) ?_ ?_
  ·rintro i x σ G hi hx ⟨sG,⟨rs,htb,hC,hN⟩,x3,x4,rfl⟩
   rw [bx] at hi
   rw [bx] at hx
   obtain ⟨le,hle2,rfl⟩:=sr hx
   obtain ⟨pb,epb,hpb⟩:=hC.2 i (by omega)
   have hrl:rs.length=i+1:=hC.1
   walk_at "sts"
   refine bz (SqL.of htb) (Od (n:=i) hrl epb) ?_
   walk_at "sts"
   refine ⟨.inl ⟨rfl,_,SqL.of htb⟩,?_⟩
   walk_at "sts"
   refine ⟨_,rfl,by omega,by omega,?_⟩
   rw [show ((t.length:Int)+1).toNat=t.length+1 by omega]
   refine oV (n:=t.length+1) (fun e=>.int ((o5 t (t.length - (i+1)) e:Nat):Int)) (by omega) ?_ ?_
   ·intro e he
    have ec:=wV (t:=t) (b:=t.length - (i+1)) (x:=le) (by rw [show t.length - (i+1)=t.length - 1 - i by omega];exact hle2) e
    rw [show t.length - (i+1)+1=t.length - i by omega] at ec
    rw [Int.zero_add]
    walk_at "sts"
    refine ⟨KeepSt.set rfl,?_⟩
    walk_at "sts"
    refine bz (SqL.of hpb) (zF rfl (by omega)) ?_
    walk_at "sts"
    refine iy (fun h=>?_) (fun h=>?_)
    ·walk_at "sts"
     exact ⟨rfl,lK (by rw [ec,if_pos (by omega)];rfl)⟩
    ·walk_at "sts"
     exact ⟨rfl,lK (by rw [ec,if_neg (by omega)];rfl)⟩
   ·intro nw G2 nnw s2 hnw
    walk_at "sts"
    refine d9 (s2 _ _ htb) (by omega) ?_
    walk_at "sts"
    have hnw':G2 nw=some (.lst ((cB t (t.length - (i+1))).map V.int)):=by
     rw [hnw]
     unfold cB
     rw [List.map_map];rfl
    have hne:∀ {b:Addr} {xs:List V},G2 b=some (.lst xs)→True:=fun _=>trivial
    have C2:=(hC.same s2).push hnw'
    refine ⟨Same.put (sG.trans s2) ntb0,⟨_,ak,⟨C2.1,fun k hk=>?_⟩,fun r hr=>(List.mem_append.mp hr).elim (hN r) fun hr=>by
     simp only [List.mem_cons,List.mem_nil_iff,or_false] at hr
     cases hr
     exact Same.back sG nnw⟩,_,_,rfl⟩
    obtain ⟨b,e1,hb⟩:=C2.2 k hk
    refine ⟨b,e1,?_⟩
    rw [aB (fun z=>?_)]
    ·exact hb
    ·rw [z,s2 _ _ htb] at hb
     have e0:rs=(cB t (t.length - k)).map V.int:=by injection hb with hb;injection hb
     obtain ⟨a0,ea0,_⟩:=hC.2 0 (by omega)
     rw [e0,List.getElem?_map] at ea0
     cases hq:(cB t (t.length - k))[0]? with
     | none=>rw [hq] at ea0;cases ea0
     | some v=>rw [hq] at ea0;cases ea0
  ·rintro σ G ⟨sG,⟨rs,htb,hC,hN⟩,x3,x4,rfl⟩
   rw [bx] at hC
   walk_at "sts"
   refine ⟨_,rfl,tb,rs,rfl,SqL.of htb,fun qq nqq=>?_⟩
   have s5:=(Same.refl G).upd nqq (o:=.lst rs.reverse)
   refine q qq rs.reverse _ (Same.back sG nqq) (sG.trans s5) ak ?_ fun r hr=>hN r (List.mem_reverse.mp hr)
   have:=hC.rev.same s5
   refine ⟨this.1,fun k hk=>?_⟩
   obtain ⟨b,e1,hb⟩:=this.2 k hk
   refine ⟨b,e1,?_⟩
   rw [hb]
   show some (HO.lst (List.map V.int (cB t (t.length - (t.length+1 - 1 - k)))))=_
   rw [show t.length - (t.length+1 - 1 - k)=k by omega]
 ·refine .inr ⟨a,_,rfl,SqT.of (U4 _ _ ha),by rw [bx];omega,?_⟩
  refine Jc (xs:=(nI t).map V.int) (by rw [bx];omega) (fun i σ G=>Same H G∧(∃ rs,G tb=some (.lst rs)∧(CT G rs (i+1) fun k=>cB t (t.length - k))∧∀ r,V.ref r∈rs→H r=none)∧∃ x3 x4,σ=[some (.ref a),some (.int (t.length:Int)),some (.ref tb),x3,x4])
   ⟨U4,⟨_,f4,C4,N4⟩,_,_,rfl⟩ (fun i σ G _ h=>SqT.of (h.1 _ _ ha)) ?_ ?_
  ·rintro i x σ G hi hx ⟨sG,⟨rs,htb,hC,hN⟩,x3,x4,rfl⟩
   rw [bx] at hi
   rw [bx] at hx
   obtain ⟨le,hle2,rfl⟩:=sr hx
   obtain ⟨pb,epb,hpb⟩:=hC.2 i (by omega)
   have hrl:rs.length=i+1:=hC.1
   walk_at "sts"
   refine bz (SqL.of htb) (Od (n:=i) hrl epb) ?_
   walk_at "sts"
   refine ⟨.inl ⟨rfl,_,SqL.of htb⟩,?_⟩
   walk_at "sts"
   refine ⟨_,rfl,by omega,by omega,?_⟩
   rw [show ((t.length:Int)+1).toNat=t.length+1 by omega]
   refine oV (n:=t.length+1) (fun e=>.int ((o5 t (t.length - (i+1)) e:Nat):Int)) (by omega) ?_ ?_
   ·intro e he
    have ec:=wV (t:=t) (b:=t.length - (i+1)) (x:=le) (by rw [show t.length - (i+1)=t.length - 1 - i by omega];exact hle2) e
    rw [show t.length - (i+1)+1=t.length - i by omega] at ec
    rw [Int.zero_add]
    walk_at "sts"
    refine ⟨KeepSt.set rfl,?_⟩
    walk_at "sts"
    refine bz (SqL.of hpb) (zF rfl (by omega)) ?_
    walk_at "sts"
    refine iy (fun h=>?_) (fun h=>?_)
    ·walk_at "sts"
     exact ⟨rfl,lK (by rw [ec,if_pos (by omega)];rfl)⟩
    ·walk_at "sts"
     exact ⟨rfl,lK (by rw [ec,if_neg (by omega)];rfl)⟩
   ·intro nw G2 nnw s2 hnw
    walk_at "sts"
    refine d9 (s2 _ _ htb) (by omega) ?_
    walk_at "sts"
    have hnw':G2 nw=some (.lst ((cB t (t.length - (i+1))).map V.int)):=by
     rw [hnw]
     unfold cB
     rw [List.map_map];rfl
    have hne:∀ {b:Addr} {xs:List V},G2 b=some (.lst xs)→True:=fun _=>trivial
    have C2:=(hC.same s2).push hnw'
    refine ⟨Same.put (sG.trans s2) ntb0,⟨_,ak,⟨C2.1,fun k hk=>?_⟩,fun r hr=>(List.mem_append.mp hr).elim (hN r) fun hr=>by
     simp only [List.mem_cons,List.mem_nil_iff,or_false] at hr
     cases hr
     exact Same.back sG nnw⟩,_,_,rfl⟩
    obtain ⟨b,e1,hb⟩:=C2.2 k hk
    refine ⟨b,e1,?_⟩
    rw [aB (fun z=>?_)]
    ·exact hb
    ·rw [z,s2 _ _ htb] at hb
     have e0:rs=(cB t (t.length - k)).map V.int:=by injection hb with hb;injection hb
     obtain ⟨a0,ea0,_⟩:=hC.2 0 (by omega)
     rw [e0,List.getElem?_map] at ea0
     cases hq:(cB t (t.length - k))[0]? with
     | none=>rw [hq] at ea0;cases ea0
     | some v=>rw [hq] at ea0;cases ea0
  ·rintro σ G ⟨sG,⟨rs,htb,hC,hN⟩,x3,x4,rfl⟩
   rw [bx] at hC
   walk_at "sts"
   refine ⟨_,rfl,tb,rs,rfl,SqL.of htb,fun qq nqq=>?_⟩
   have s5:=(Same.refl G).upd nqq (o:=.lst rs.reverse)
   refine q qq rs.reverse _ (Same.back sG nqq) (sG.trans s5) ak ?_ fun r hr=>hN r (List.mem_reverse.mp hr)
   have:=hC.rev.same s5
   refine ⟨this.1,fun k hk=>?_⟩
   obtain ⟨b,e1,hb⟩:=this.2 k hk
   refine ⟨b,e1,?_⟩
   rw [hb]
   show some (HO.lst (List.map V.int (cB t (t.length - (t.length+1 - 1 - k)))))=_
   rw [show t.length - (t.length+1 - 1 - k)=k by omega]
end
local macro_rules | `(tactic| walk_at "sts") => `(tactic| (with_reducible repeat (first | refine vP ?_ | refine vz ?_ | refine vy ?_ | refine qe ?_ | refine qg ?_ | (refine' pN ?hz0 ?_; (case hz0 => with_unfolding_all rfl)) | refine Kf ?_ | refine vW ?_ | refine jm ?_ | refine jV ?_ | refine pO ?_ | refine vL ?_ | refine pI ?_ | refine jP ?_ | refine pK ?_ | refine jO ?_ | refine vM ?_ | refine jR ?_ | refine vX ?_ | refine vR ?_ | refine jW ?_ | refine vN ?_ | refine pL ?_ | refine vO ?_ | refine jT ?_ | refine jU ?_ | refine pM ?_ | refine pJ ?_ | refine jQ ?_ | refine vQ ?_ | refine oU ?_ | refine oR ?_ | refine vU ?_ | refine pP ?_ | refine vV ?_ | refine pQ ?_ | refine jX ?_ | refine jY ?_ | refine jZ ?_ | refine j0 ?_ | refine j4 ?_ | refine pR ?_ | refine Ko ?_ | refine iH ?_ | refine j9 ?_ | (refine' ig (SqT.of ?hz0) ?hz1 ?_; (case hz0 => first | assumption | exact ak); (case hz1 => rfl)) | refine iI ?_ | refine iK ?_ | refine kj ?_ | refine p7 ?_ | refine iJ ?_ | refine kh ?_ | refine km ?_ | refine kE ?_ | refine jx ?_ | refine jy ?_ | refine jz ?_ | refine jA ?_ | refine qd ?_ | refine gA ?_ | refine jt ?_ | refine ju ?_ | refine jw ?_ | refine pX ?_ | refine j6 ?_ | (refine' Kl ?hz0 ?_; (case hz0 => with_unfolding_all first | assumption | omega | (dsimp only <;> omega) | exact ⟨by omega, by omega⟩ | exact .inl ⟨by omega, by omega⟩ | exact .inr ⟨by omega, by omega⟩ | exact ⟨by decide, by decide, by decide⟩)) | (refine' j5 ?hz0 ?_; (case hz0 => with_unfolding_all first | assumption | omega | (dsimp only <;> omega) | exact ⟨by omega, by omega⟩ | exact .inl ⟨by omega, by omega⟩ | exact .inr ⟨by omega, by omega⟩ | exact ⟨by decide, by decide, by decide⟩)) | (refine' bz (SqL.of ?hz0) ?hz1 ?_; (case hz0 => first | assumption | exact ak); (case hz1 => with_unfolding_all rfl)) | (refine' pU (SqT.of ?hz0) ?hz1 ?_; (case hz0 => first | assumption | exact ak); (case hz1 => with_unfolding_all rfl)) | (refine' jn ?hz0 ?hz1 ?_; (case hz0 => first | assumption | exact ak); (case hz1 => with_unfolding_all rfl)) | refine lE ?_ | refine qK ?_ | refine kJ ?_ | refine lG ?_ | refine oO ?_)))
local macro_rules | `(tactic| walk_at "stn") => `(tactic| (with_reducible repeat (first | refine vP ?_ | refine vz ?_ | refine vy ?_ | refine qe ?_ | refine qg ?_ | (refine' pN ?hz0 ?_; (case hz0 => with_unfolding_all rfl)) | refine Kf ?_ | refine vW ?_ | refine jm ?_ | refine jV ?_ | refine pO ?_ | refine pI ?_ | refine jP ?_ | refine pK ?_ | refine jO ?_ | refine vM ?_ | refine jR ?_ | refine vX ?_ | refine vR ?_ | refine jW ?_ | refine vN ?_ | refine pL ?_ | refine vO ?_ | refine jT ?_ | refine jU ?_ | refine pM ?_ | refine pJ ?_ | refine jQ ?_ | refine vQ ?_ | refine oU ?_ | refine oR ?_ | refine vU ?_ | refine pP ?_ | refine vV ?_ | refine pQ ?_ | refine jX ?_ | refine jY ?_ | refine jZ ?_ | refine j0 ?_ | refine j4 ?_ | refine pR ?_ | refine Ko ?_ | refine iH ?_ | refine j9 ?_ | (refine' ig (SqT.of ?hz0) ?hz1 ?_; (case hz0 => first | assumption | exact ak); (case hz1 => rfl)) | refine iI ?_ | refine iK ?_ | refine kj ?_ | refine p7 ?_ | refine iJ ?_ | refine kh ?_ | refine km ?_ | refine kE ?_ | refine jx ?_ | refine jy ?_ | refine jz ?_ | refine jA ?_ | refine qd ?_ | refine gA ?_ | refine jt ?_ | refine ju ?_ | refine jw ?_ | refine pX ?_ | refine j6 ?_ | (refine' Kl ?hz0 ?_; (case hz0 => with_unfolding_all first | assumption | omega | (dsimp only <;> omega) | exact ⟨by omega, by omega⟩ | exact .inl ⟨by omega, by omega⟩ | exact .inr ⟨by omega, by omega⟩ | exact ⟨by decide, by decide, by decide⟩)) | (refine' j5 ?hz0 ?_; (case hz0 => with_unfolding_all first | assumption | omega | (dsimp only <;> omega) | exact ⟨by omega, by omega⟩ | exact .inl ⟨by omega, by omega⟩ | exact .inr ⟨by omega, by omega⟩ | exact ⟨by decide, by decide, by decide⟩)) | (refine' bz (SqL.of ?hz0) ?hz1 ?_; (case hz0 => first | assumption | exact ak); (case hz1 => with_unfolding_all rfl)) | (refine' pU (SqT.of ?hz0) ?hz1 ?_; (case hz0 => first | assumption | exact ak); (case hz1 => with_unfolding_all rfl)) | (refine' jn ?hz0 ?hz1 ?_; (case hz0 => first | assumption | exact ak); (case hz1 => with_unfolding_all rfl)) | refine lE ?_ | refine qK ?_ | refine kJ ?_ | refine lG ?_ | refine oO ?_)))
section
variable {P:Program} {w:World} {K:PySem.W.Frag} {mg:Str→Option Value} {base:Heap}
theorem sE:(["number"]:List Str).Nodup:=by decide+kernel
theorem mG:(["_law_number"]:List Str).Nodup:=by decide+kernel
theorem Jq:cC bW "thing":=by decide+kernel
theorem Jr:cC bW "row":=by decide+kernel
theorem kz22:bT bW "all":=by decide+kernel
theorem Pq:bT bW "len":=by decide+kernel
theorem Sw:bT bW "isinstance":=by decide+kernel
theorem Sy:bT bW "list":=by decide+kernel
theorem kz26:bT bW "MOST_LINES":=by decide+kernel
theorem Js:cC bH "_law_table":=by decide+kernel
theorem Gk:cC bH "_law_row":=by decide+kernel
theorem Gm:bT bH "len":=by decide+kernel
theorem SJ:bT bH "isinstance":=by decide+kernel
theorem SM:bT bH "list":=by decide+kernel
theorem Gn:∀ ns ms:List Int,PyData.eqv (.list (ns.map PyData.int)) (.list (ms.map PyData.int))=decide (ns=ms):=by
 have key:∀ ns ms:List Int,PyData.eqvAll (ns.map PyData.int) (ms.map PyData.int)=decide (ns=ms):=by
  intro ns
  induction ns with
  | nil=>intro ms;cases ms <;> simp [PyData.eqvAll]
  | cons n ns ih=>
   intro ms
   cases ms with
   | nil=>simp [PyData.eqvAll]
   | cons m ms=>
    rw [List.map_cons,List.map_cons,PyData.eqvAll,ih ms]
    by_cases h1:n=m
    ·by_cases h2:ns=ms
     ·simp [PyData.eqv,h1,h2]
     ·simp [PyData.eqv,h1,h2]
    ·simp [PyData.eqv,h1]
 intro ns ms
 rw [PyData.eqv]
 exact key ns ms
theorem oh {ns:List Int}:vg (ns.map V.int)=true↔ns.length≤96∧(∀ n∈ns,0≤n∧n < (ns.length:Int))∧ns.Nodup:=by
 unfold vg
 rw [Bool.and_eq_true,Bool.and_eq_true,decide_eq_true_iff,decide_eq_true_iff,List.all_eq_true,List.length_map]
 constructor
 ·rintro ⟨⟨h1,h2⟩,h3⟩
  refine ⟨h1,fun n hn=>?_,?_⟩
  ·have:=h2 (.int n) (List.mem_map.mpr ⟨n,hn,rfl⟩)
   unfold inB at this
   simp at this
   omega
  ·unfold List.Nodup at h3 ⊢
   rw [List.pairwise_map] at h3
   exact h3.imp fun h e=>h (by rw [e])
 ·rintro ⟨h1,h2,h3⟩
  refine ⟨⟨h1,fun u hu=>?_⟩,?_⟩
  ·obtain ⟨n,hn,rfl⟩:=List.mem_map.mp hu
   have:=h2 n hn
   unfold inB
   simp
   omega
  ·unfold List.Nodup at h3 ⊢
   rw [List.pairwise_map]
   exact h3.imp fun h e=>h (V.int.inj e)
theorem BK {ns ms:List Int} (h:ns.length≤96) (hp:ms.Perm ns) (hs:ms.Pairwise (· ≤ ·)):vg (ns.map V.int)=decide (ms=nI (List.range ns.length)):=by
 have hl:ms.length=ns.length:=hp.length_eq
 by_cases e:ms=nI (List.range ns.length)
 ·rw [decide_eq_true e]
  have hp2:ns.Perm (nI (List.range ns.length)):=by rw [← e];exact hp.symm
  refine oh.mpr ⟨h,fun n hn=>?_,hp2.nodup_iff.mpr ?_⟩
  ·obtain ⟨k,hk,rfl⟩:=List.mem_map.mp (hp2.mem_iff.mp hn)
   have:=List.mem_range.mp hk
   omega
  ·unfold nI List.Nodup
   rw [List.pairwise_map]
   exact List.nodup_range.imp fun h e=>h (by omega)
 ·rw [decide_eq_false e]
  cases hb:vg (ns.map V.int) with
  | false=>rfl
  | true=>
   exfalso
   apply e
   obtain ⟨_,h2,h3⟩:=oh.mp hb
   have hm:∀ n∈ms,0≤n∧n < (ns.length:Int):=fun n hn=>h2 n (hp.mem_iff.mp hn)
   have hnd:ms.Nodup:=hp.nodup_iff.mpr h3
   have eM:ms=nI (ms.map Int.toNat):=by
    unfold nI
    rw [List.map_map]
    refine (List.map_id ms).symm.trans (List.map_congr_left fun x hx=>?_)
    have:=hm x hx
    show x=((x.toNat:Nat):Int)
    omega
   have gd:∀ i,i < ms.length→((ms.map Int.toNat).getD i 0:Int)=ms.getD i 0:=fun i hi=>by
    rw [List.getD_eq_getElem?_getD,List.getElem?_map,List.getD_eq_getElem?_getD,List.getElem?_eq_getElem hi]
    have:=hm _ (List.getElem_mem hi)
    show ((ms[i].toNat:Nat):Int)=ms[i]
    omega
   rw [eM,u9 (B:=ms.map Int.toNat) (n:=ns.length) (by rw [List.length_map];exact hl) (fun i hi=>?_) fun i j hij hj=>?_]
   ·have e1:=gd i (by omega)
    have:=hm (ms.getD i 0) (by rw [List.getD_eq_getElem?_getD,List.getElem?_eq_getElem (show i < ms.length by omega)];exact List.getElem_mem _)
    omega
   ·have e1:=gd i (by omega)
    have e2:=gd j (by omega)
    have hle:ms.getD i 0≤ms.getD j 0:=by
     rw [List.getD_eq_getElem?_getD,List.getD_eq_getElem?_getD,List.getElem?_eq_getElem (show i < ms.length by omega),List.getElem?_eq_getElem (show j < ms.length by omega)]
     exact List.pairwise_iff_getElem.mp hs i j (by omega) (by omega) hij
    have hne:ms.getD i 0≠ms.getD j 0:=by
     rw [List.getD_eq_getElem?_getD,List.getD_eq_getElem?_getD,List.getElem?_eq_getElem (show i < ms.length by omega),List.getElem?_eq_getElem (show j < ms.length by omega)]
     exact List.pairwise_iff_getElem.mp hnd i j (by omega) (by omega) hij
    omega
theorem Jt {v:V} (h:jK v=true):∃ n:Int,v= .int n:=by
 cases v with
 | int n=>exact ⟨n,rfl⟩
 | _=>cases h
theorem sH:∀ {us:List V},(∀ u∈us,jK u=true)→∃ ns:List Int,us=ns.map V.int
 | [],_=>⟨[],rfl⟩
 | u :: us,h=>by
  obtain ⟨ns,rfl⟩:=sH fun x hx=>h x (List.mem_cons_of_mem _ hx)
  obtain ⟨n,rfl⟩:=Jt (h u List.mem_cons_self)
  exact ⟨n :: ns,rfl⟩
theorem Gp (us:List V):(us.filter jK).length≤us.length∧((us.filter jK).length=us.length→∀ u∈us,jK u=true):=
 ⟨List.length_filter_le _ _,fun h=>by rw [List.length_filter_eq_length_iff] at h;exact h⟩
def Fl (w:V):Prop:=dZ w=true∧∀ z,w= .str z→PyData.strOk z=true
def dF:V→PyData
 | .bl b=>.bool b
 | .int n=>.int n
 | .str z=>.str z
 | _=>.none
theorem Fl.dr {H:Hp} {w:V} (h:Fl w):DR H (dF w) w∧(dF w).canLay0=true∧(dF w).depth≤0:=by
 obtain ⟨h1,h2⟩:=h
 cases w with
 | non=>exact ⟨HR.mpr rfl,rfl,Nat.le_refl _⟩
 | bl b=>exact ⟨HQ.mpr rfl,rfl,Nat.le_refl _⟩
 | int n=>exact ⟨xT.mpr rfl,rfl,Nat.le_refl _⟩
 | str z=>exact ⟨Nt.mpr rfl,Ir (h2 z rfl)⟩
 | _=>cases h1
theorem Fl.kd {H:Hp} {w:V} (h:Fl w):Kd K H w:=by
 obtain ⟨h1,_⟩:=h
 cases w with
 | non=>exact .inr (.inr ⟨"NoneType",.non,rfl⟩)
 | bl b=>exact .inr (.inl ⟨_,rfl⟩)
 | int n=>exact .inl ⟨_,rfl⟩
 | str z=>exact .inr (.inr ⟨"str",.str _,rfl⟩)
 | _=>cases h1
theorem Fl.int (n:Int):Fl (.int n):=⟨rfl,fun z h=>by cases h⟩
theorem lg {H:Hp}:∀ {ws:List V},(∀ w∈ws,Fl w)→DRs H (ws.map dF) ws
 | [],_=>jr.mpr rfl
 | w :: ws,h=>jb.mpr ⟨w,ws,rfl,(h w List.mem_cons_self).dr.1,lg fun u hu=>h u (List.mem_cons_of_mem _ hu)⟩
def RowT (H:Hp) (u:V):Prop:=(∃ a ws,u= .ref a∧(H a=some (.lst ws)∨H a=some (.tup ws))∧ws.length≤200∧∀ w∈ws,Fl w)∨∃ n,u= .int n
theorem RowT.same {H H':Hp} {u:V} (h:RowT H u) (s:Same H H'):RowT H' u:=by
 rcases h with ⟨a,ws,e,ha,r⟩ | h
 ·exact .inl ⟨a,ws,e,ha.imp (s _ _) (s _ _),r⟩
 ·exact .inr h
theorem RowT.dr {H:Hp} {u:V} (h:RowT H u):∃ d,DR H d u∧d.canLay0=true∧d.depth≤1:=by
 rcases h with ⟨a,ws,rfl,ha,hl,hw⟩ | ⟨n,rfl⟩
 ·rcases ha with ha | ha
  ·exact ⟨.list (ws.map dF),jq.mpr ⟨a,ws,rfl,ha,lg hw⟩,kI (n:=0) fun d hd=>by
    obtain ⟨w,hw',rfl⟩:=List.mem_map.mp hd
    exact ((hw w hw').dr (H:=H)).2⟩
  ·exact ⟨.tuple (ws.map dF),Ec.mpr ⟨a,ws,rfl,ha,lg hw⟩,Bd (n:=0) fun d hd=>by
    obtain ⟨w,hw',rfl⟩:=List.mem_map.mp hd
    exact ((hw w hw').dr (H:=H)).2⟩
 ·exact ⟨.int n,xT.mpr rfl,rfl,by simp [PyData.depth]⟩
def TabT (H:Hp) (v:V):Prop:=(∃ q us,v= .ref q∧(H q=some (.lst us)∨H q=some (.tup us))∧us.length≤200∧∀ u∈us,RowT H u)∨(v= .non∨(∃ z,v= .str z)∨∃ n,v= .int n)∨∃ d,v= .ref d∧H d=some (.dK [])
theorem TabT.same {H H':Hp} {v:V} (h:TabT H v) (s:Same H H'):TabT H' v:=by
 rcases h with ⟨q,us,e,hq,hl,hu⟩ | h | ⟨d,e,hd⟩
 ·exact .inl ⟨q,us,e,hq.imp (s _ _) (s _ _),hl,fun u h=>(hu u h).same s⟩
 ·exact .inr (.inl h)
 ·exact .inr (.inr ⟨d,e,s _ _ hd⟩)
def Sq (H:Hp) (v:V) (n:Nat) (f:Nat→List Int):Prop:=∃ q us,v= .ref q∧H q=some (.lst us)∧CT H us n f∧1≤n∧n≤97∧∀ k,k < n→(f k).length=n
theorem Sq.same {H H':Hp} {v:V} {n:Nat} {f:Nat→List Int} (h:Sq H v n f) (s:Same H H'):Sq H' v n f:=by
 obtain ⟨q,us,e,hq,hC,r⟩:=h
 exact ⟨q,us,e,s _ _ hq,hC.same s,r⟩
theorem ql:∀ {a b:List Int},a.map V.int=b.map V.int→a=b
 | [],[],_=>rfl
 | [],_ :: _,h=>by cases h
 | _ :: _,[],h=>by cases h
 | x :: a,y :: b,h=>by
  rw [List.map_cons,List.map_cons] at h
  injection h with h1 h2
  injection h1 with h1
  rw [h1,ql h2]
theorem Sq.un {H:Hp} {v:V} {n n':Nat} {f f':Nat→List Int} (h:Sq H v n f) (h':Sq H v n' f'):n=n'∧∀ k,k < n→f k=f' k:=by
 obtain ⟨q,us,rfl,hq,hC,_⟩:=h
 obtain ⟨q',us',e,hq',hC',_⟩:=h'
 cases e
 rw [hq] at hq'
 obtain rfl:us=us':=by injection hq' with h;injection h
 have hn:n=n':=by rw [← hC.1,← hC'.1]
 refine ⟨hn,fun k hk=>?_⟩
 obtain ⟨a,e1,ha⟩:=hC.2 k hk
 obtain ⟨b,e2,hb⟩:=hC'.2 k (by omega)
 rw [e1] at e2
 cases e2
 rw [ha] at hb
 have:(f k).map V.int=(f' k).map V.int:=by injection hb with h;injection h
 exact ql this
def toI:V→Int
 | .int n=>n
 | _=>0
def SN (H:Hp) (u:V):List Int:=match u with
 | .ref a=>(match H a with
  | some (.lst ws)=>ws.map toI
  | _=>[])
 | _=>[]
def RowG (H:Hp) (n:Nat) (u:V):Prop:=∃ (a:Addr) (ns:List Int),u= .ref a∧H a=some (.lst (ns.map V.int))∧ns.length=n
theorem Gq (ns:List Int):(ns.map V.int).map toI=ns:=by
 rw [List.map_map]
 exact (List.map_congr_left fun _ _=>rfl).trans (List.map_id ns)
theorem RowG.rw {H:Hp} {n:Nat} {u:V} (h:RowG H n u):∃ a,u= .ref a∧H a=some (.lst ((SN H u).map V.int))∧(SN H u).length=n:=by
 obtain ⟨a,ns,rfl,ha,hl⟩:=h
 have e:SN H (.ref a)=ns:=by
  unfold SN
  simp only [ha]
  exact Gq ns
 rw [e]
 exact ⟨a,rfl,ha,hl⟩
theorem K1 {H:Hp} {q:Addr} {us:List V} (hq:H q=some (.lst us)) (h1:1≤us.length) (h2:us.length≤97) (h:∀ u∈us,RowG H us.length u):Sq H (.ref q) us.length fun k=>SN H (us.getD k .non):=by
 have at_:∀ k,k < us.length→us[k]?=some (us.getD k .non)∧us.getD k .non∈us:=fun k hk=>by
  have e:us[k]?=some (us.getD k .non):=by rw [List.getD_eq_getElem?_getD,List.getElem?_eq_getElem hk];rfl
  exact ⟨e,List.mem_of_getElem? e⟩
 refine ⟨q,us,rfl,hq,⟨rfl,fun k hk=>?_⟩,h1,h2,fun k hk=>?_⟩
 ·obtain ⟨e,m⟩:=at_ k hk
  obtain ⟨a,ea,ha,_⟩:=(h _ m).rw
  exact ⟨a,by rw [e,← ea],ha⟩
 ·obtain ⟨e,m⟩:=at_ k hk
  obtain ⟨a,ea,ha,hl⟩:=(h _ m).rw
  exact hl
theorem Sq.rows {H:Hp} {q:Addr} {us:List V} {n:Nat} {f:Nat→List Int} (h:Sq H (.ref q) n f) (hq:H q=some (.lst us)):1≤us.length∧us.length≤97∧∀ u∈us,RowG H us.length u:=by
 obtain ⟨q',us',e,hq',hC,h1,h2,hl⟩:=h
 cases e
 rw [hq] at hq'
 obtain rfl:us=us':=by injection hq' with h;injection h
 have hn:=hC.1
 refine ⟨by omega,by omega,fun u hu=>?_⟩
 obtain ⟨k,hk,e⟩:=List.mem_iff_getElem.mp hu
 obtain ⟨a,e1,ha⟩:=hC.2 k (by omega)
 rw [List.getElem?_eq_getElem hk,e] at e1
 exact ⟨a,f k,Option.some.inj e1,ha,by rw [hl k (by omega),hn]⟩
theorem RowT.look {H:Hp} {u:V} (h:RowT H u):(∃ a ws,u= .ref a∧H a=some (.lst ws)∧ws.length≤200∧∀ w∈ws,Fl w)∨∃ T,TyOf K H u (.type T)∧PySem.W.kitOne K (.type T) (.type "list")=some false:=by
 rcases h with ⟨a,ws,rfl,ha,hl,hw⟩ | ⟨n,rfl⟩
 ·rcases ha with ha | ha
  ·exact .inl ⟨a,ws,rfl,ha,hl,hw⟩
  ·exact .inr ⟨"tuple",.tup ha,rfl⟩
 ·exact .inr ⟨"int",.int _,rfl⟩
theorem SQ {H:Hp} {n:Nat} {u:V} {T:String} (ty:TyOf K H u (.type T)) (k:PySem.W.kitOne K (.type T) (.type "list")=some false):¬ RowG H n u:=by
 rintro ⟨a,ns,rfl,ha,_⟩
 generalize e:(Value.type T)=t at ty
 cases ty with
 | lst z=>cases e;cases k
 | frz z=>rw [ha] at z;cases z
 | tup z=>rw [ha] at z;cases z
 | dK z=>rw [ha] at z;cases z
 | dT z=>rw [ha] at z;cases z
 | ins=>cases e
theorem TabT.look {H:Hp} {v:V} (h:TabT H v):(∃ q us,v= .ref q∧H q=some (.lst us)∧us.length≤200∧∀ u∈us,RowT H u)∨(∃ T,TyOf K H v (.type T)∧PySem.W.kitOne K (.type T) (.type "list")=some false)∧∀ n f,¬ Sq H v n f:=by
 rcases h with ⟨q,us,rfl,hq,hl,hu⟩ | h | ⟨d,rfl,hd⟩
 ·rcases hq with hq | hq
  ·exact .inl ⟨q,us,rfl,hq,hl,hu⟩
  ·refine .inr ⟨⟨"tuple",.tup hq,rfl⟩,fun n f hs=>?_⟩
   obtain ⟨q',us',e,hq',_⟩:=hs
   cases e
   rw [hq] at hq';cases hq'
 ·have no:∀ n f,¬ Sq H v n f:=fun n f hs=>by
   obtain ⟨q',us',e,_⟩:=hs
   rcases h with rfl | ⟨z,rfl⟩ | ⟨m,rfl⟩ <;> cases e
  rcases h with rfl | ⟨z,rfl⟩ | ⟨m,rfl⟩
  ·exact .inr ⟨⟨"NoneType",.non,rfl⟩,no⟩
  ·exact .inr ⟨⟨"str",.str _,rfl⟩,no⟩
  ·exact .inr ⟨⟨"int",.int _,rfl⟩,no⟩
 ·refine .inr ⟨⟨"dict",.dK hd,rfl⟩,fun n f hs=>?_⟩
  obtain ⟨q',us',e,hq',_⟩:=hs
  cases e
  rw [hd] at hq';cases hq'
def Tc (K:PySem.W.Frag):Sp:=fun vs H Q _=>∃ v,vs=[v]∧TabT H v∧∀ b H',Same H H'→(b=true↔∃ n f,Sq H v n f)→Q (.bl b) H'
theorem lW {H:Hp} {q:Addr} {us:List V} (hq:H q=some (.lst us)) (h:¬ (1≤us.length∧us.length≤97∧∀ u∈us,RowG H us.length u)):(false=true↔∃ n f,Sq H (.ref q) n f):=⟨(fun h=>by cases h),fun ⟨n,f,hs⟩=>absurd (hs.rows hq) h⟩
theorem ou:aO ["thing","row"] ["thing"] (aq bW):=⟨rfl,rfl,rfl,by decide+kernel,rfl,by decide+kernel,by decide+kernel⟩
theorem lq (T:Txt K mg):qu P w K mg base 2 "is_square" ["thing"] (Tc K):=by
 have fJ:=fJ (P:=P) (w:=w) (base:=base) T
 refine iZ T.d_is_square ou (fun _ _ _ _ _ _ us hl=>L2.mL (fun _=>rfl) us hl) ?_ fun f cdv A outer s H vs Q E hr h=>?_
 ·rintro vs H Q E ⟨v,rfl,_⟩;rfl
 obtain ⟨v,rfl,hT,q⟩:=h
 have hu:=hr.units0
 have hu64:=hr.units
 refine ⟨_,(az (bj (ie (gJ (bO (bI (aC (bN (K:=K) rfl) (aW Sw) T.b_isinstance aK (aa (ao 0 Jq) (aa (j7 (aW Sy) T.b_list cF (by decide+kernel) (by decide+kernel)) aj)) (by decide+kernel) (by decide+kernel)))) (eV (bO (v6 tQ tQ aA (aC (aF (K:=K) rfl) (aW Pq) T.b_len bu (aa (ao 0 Jq) aj) (by decide+kernel) (by decide+kernel)) (bf aP (DW (aW kz26) T.c_MOST_LINES (by decide+kernel)) aA)))))) (au (aL gw)) bC) (az (eY PassesOwn.never rfl (dz (K:=K) rfl (ao 0 Jq)) (bF (i:=1) ou.nd rfl (Or.inl Jr) rfl) (az (bj (ie (gJ (bO (bI (aC (bN (K:=K) rfl) (aW Sw) T.b_isinstance aK (aa (ao 1 Jr) (aa (j7 (aW Sy) T.b_list cF (by decide+kernel) (by decide+kernel)) aj)) (by decide+kernel) (by decide+kernel)))) (eV (bh (il (K:=K) rfl hu64) (aC (aF (K:=K) rfl) (aW Pq) T.b_len bu (aa (ao 1 Jr) aj) (by decide+kernel) (by decide+kernel)) (aC (aF (K:=K) rfl) (aW Pq) T.b_len bu (aa (ao 0 Jq) aj) (by decide+kernel) (by decide+kernel)) (by first | exact aV _ | with_unfolding_all rfl))))) (au (aL gw)) bC) (au (bj (bO (bI (aC (Dv rfl) (aW kz22) T.b_all Nj (aa (gf (sub:=[none]) (bU (N:=["thing","row"]) (sc:=aq bW) (N':=["number"]) (by decide+kernel)) rfl rfl rfl (dz (K:=K) rfl (ao 1 Jr)) (fun C s₀ H₀ ex=>(j8 0 (by decide+kernel) sE)) (fun C s₀ H₀ ex=>eQ) (fun C s₀ H₀ ex=>(aU fJ (hr.mono (by decide)) (M9 (by decide+kernel)) (aa (cJ 0 (by decide+kernel)) aj) (by decide+kernel)))) aj) (by decide+kernel) (by decide+kernel)))) (au (aL gw)) bC)))) (au (aL gw)))),?_⟩
 walk_at "sts"
 have hs:20000≤sizeLine:=by decide
 rcases hT.look (K:=K) with ⟨tq,us,rfl,htq,hl,hu⟩ | ⟨⟨Tv,ty,k⟩,no⟩
 rotate_left
 ·refine cj ty k ?_
  walk_at "sts"
  exact q _ _ (Same.refl H) ⟨(fun h=>by cases h),fun ⟨n,f,hs⟩=>absurd hs (no n f)⟩
 refine cj (.lst htq) (b:=true) (by rfl) ?_
 walk_at "sts"
 refine bB (SqL.of htq) ?_
 walk_at "sts"
 by_cases h1:1≤us.length
 rotate_left
 ·rw [decide_eq_false (by omega)]
  walk_at "sts"
  exact q _ _ (Same.refl H) (lW htq fun h=>h1 h.1)
 rw [decide_eq_true (by omega)]
 walk_at "sts"
 by_cases h2:us.length≤97
 rotate_left
 ·rw [decide_eq_false (by omega)]
  walk_at "sts"
  exact q _ _ (Same.refl H) (lW htq fun h=>h2 h.2.1)
 rw [decide_eq_true (by omega)]
 walk_at "sts"
 refine .inl ⟨tq,rfl,⟨_,SqL.of htq⟩,?_⟩
 refine gW (xs:=us) (fun i σ G=>Same H G∧(∀ u∈us.take i,RowG H us.length u)∧∃ x1,σ=[some (.ref tq),x1]) ⟨Same.refl H,(fun u hu=>by simp at hu),_,rfl⟩ (fun i σ G _ h=>SqL.of (h.1 _ _ htq)) ?_ ?_
 ·rintro i u σ G hui ⟨sG,hG,x1,rfl⟩
  have hmem:=List.mem_of_getElem? hui
  have tk:us.take (i+1)=us.take i ++ [u]:=by rw [List.take_add_one,hui];rfl
  walk_at "sts"
  rcases (hu u hmem).look (K:=K) with ⟨a,ws,rfl,ha,hwl,hw⟩ | ⟨Tv,ty,k⟩
  rotate_left
  ·refine cj (ty.mono fun b o e _=>sG b o e) k ?_
   walk_at "sts"
   exact q _ _ sG (lW htq fun h=>SQ ty k (h.2.2 u hmem))
  have haG:=sG _ _ ha
  refine cj (.lst haG) (b:=true) (by rfl) ?_
  walk_at "sts"
  refine bB (SqL.of haG) ?_
  walk_at "sts"
  refine bB (SqL.of (sG _ _ htq)) ?_
  walk_at "sts"
  rw [jf]
  by_cases hwn:ws.length=us.length
  rotate_left
  ·rw [decide_eq_false (by omega)]
   walk_at "sts"
   refine q _ _ sG (lW htq fun h=>?_)
   obtain ⟨a',ns,e,ha',hn⟩:=h.2.2 _ hmem
   cases e
   rw [ha] at ha'
   have e:ws=ns.map V.int:=by injection ha' with h;injection h
   rw [e,List.length_map] at hwn
   exact hwn hn
  rw [decide_eq_true (by omega)]
  walk_at "sts"
  refine .inl ⟨a,rfl,⟨_,SqL.of haG⟩,?_⟩
  refine cT (xs:=ws) (fun j ys G'=>G'=G∧ys=((ws.take j).map jK).map V.bl) (by omega) ⟨rfl,rfl⟩ ?_ ?_ ?_ ?_
  ·rintro j ys G' ⟨_,rfl⟩
   simp;omega
  ·rintro j ys G' ⟨rfl,_⟩
   exact SqL.of haG
  ·rintro j ys G' w hw' ⟨rfl,rfl⟩
   have tk:ws.take (j+1)=ws.take j ++ [w]:=by rw [List.take_add_one,hw'];rfl
   walk_at "sts"
   refine ⟨KeepSt.set rfl,?_⟩
   walk_at "sts"
   refine ⟨w,rfl,(hw w (List.mem_of_getElem? hw')).kd,?_⟩
   walk_at "sts"
   exact ⟨rfl,by rw [tk,List.map_append,List.map_append];rfl⟩
  rintro ys G1 D G2 ⟨rfl,rfl⟩ nD s2 hD
  rw [List.take_length] at hD
  try walk_at "sts"
  refine ⟨D,_,rfl,hD,?_⟩
  walk_at "sts"
  by_cases hall:∀ w∈ws,jK w=true
  ·have e:(ws.map jK).all id=true:=by rw [List.all_map,List.all_eq_true];exact hall
   rw [e]
   walk_at "sts"
   obtain ⟨ns,rfl⟩:=sH hall
   refine ⟨sG.trans s2,fun u' hu'=>?_,_,rfl⟩
   rw [tk] at hu'
   rcases List.mem_append.mp hu' with h | h
   ·exact hG u' h
   ·rw [List.mem_singleton.mp h]
    exact ⟨a,ns,rfl,ha,by rw [List.length_map] at hwn;exact hwn⟩
  ·have e:(ws.map jK).all id=false:=by
    cases hb:(ws.map jK).all id with
    | false=>rfl
    | true=>rw [List.all_map,List.all_eq_true] at hb;exact absurd hb hall
   rw [e]
   walk_at "sts"
   refine q _ _ (sG.trans s2) (lW htq fun h=>hall fun w hw'=>?_)
   obtain ⟨a',ns,e,ha',hn⟩:=h.2.2 _ hmem
   cases e
   rw [ha] at ha'
   have e:ws=ns.map V.int:=by injection ha' with h;injection h
   rw [e] at hw'
   obtain ⟨z,_,rfl⟩:=List.mem_map.mp hw'
   rfl
 ·rintro σ G ⟨sG,hG,x1,rfl⟩
  rw [List.take_length] at hG
  walk_at "sts"
  exact q _ _ sG ⟨fun _=>⟨_,_,K1 htq h1 h2 hG⟩,fun _=>rfl⟩
theorem ji:aO ["_law_table","_law_row"] ["_law_table"] (aq bH):=⟨rfl,rfl,rfl,by decide+kernel,rfl,by decide+kernel,by decide+kernel⟩
theorem gG (T:Txt K mg):qu P w K mg base 2 "_law_is_square" ["_law_table"] (Tc K):=by
 have cO:=cO (P:=P) (w:=w) (base:=base) T
 refine iZ T.d_law_is_square ji (fun _ _ _ _ _ _ us hl=>L2.mL (fun _=>rfl) us hl) ?_ fun f cdv A outer s H vs Q E hr h=>?_
 ·rintro vs H Q E ⟨v,rfl,_⟩;rfl
 obtain ⟨v,rfl,hT,q⟩:=h
 have hu:=hr.units0
 have hu64:=hr.units
 refine ⟨_,(az (bj (ie (gJ (bO (bI (aC (bN (K:=K) rfl) (aW SJ) T.b_isinstance aK (aa (ao 0 Js) (aa (j7 (aW SM) T.b_list cF (by decide+kernel) (by decide+kernel)) aj)) (by decide+kernel) (by decide+kernel)))) (eV (bO (v6 tQ tQ aA (aC (aF (K:=K) rfl) (aW Gm) T.b_len bu (aa (ao 0 Js) aj) (by decide+kernel) (by decide+kernel)) aA))))) (au (aL gw)) bC) (az (eY PassesOwn.never rfl (dz (K:=K) rfl (ao 0 Js)) (bF (i:=1) ji.nd rfl (Or.inl Gk) rfl) (az (bj (ie (gJ (bO (bI (aC (bN (K:=K) rfl) (aW SJ) T.b_isinstance aK (aa (ao 1 Gk) (aa (j7 (aW SM) T.b_list cF (by decide+kernel) (by decide+kernel)) aj)) (by decide+kernel) (by decide+kernel)))) (eV (bh (il (K:=K) rfl hu64) (aC (aF (K:=K) rfl) (aW Gm) T.b_len bu (aa (ao 1 Gk) aj) (by decide+kernel) (by decide+kernel)) (aC (aF (K:=K) rfl) (aW Gm) T.b_len bu (aa (ao 0 Js) aj) (by decide+kernel) (by decide+kernel)) (by first | exact aV _ | with_unfolding_all rfl))))) (au (aL gw)) bC) (au (bj (bh qT (aC (aF (K:=K) rfl) (aW Gm) T.b_len bu (aa (gf (sub:=[none]) (bU (N:=["_law_table","_law_row"]) (sc:=aq bH) (N':=["_law_number"]) (by decide+kernel)) rfl rfl rfl (dz (K:=K) rfl (ao 1 Gk)) (fun C s₀ H₀ ex=>(j8 0 (by decide+kernel) mG)) (fun C s₀ H₀ ex=>(ni (bI (aU cO (hr.mono (by decide)) (M9 (by decide+kernel)) (aa (cJ 0 (by decide+kernel)) aj) (by decide+kernel))))) (fun C s₀ H₀ ex=>(cJ 0 (by decide+kernel)))) aj) (by decide+kernel) (by decide+kernel)) (aC (aF (K:=K) rfl) (aW Gm) T.b_len bu (aa (ao 1 Gk) aj) (by decide+kernel) (by decide+kernel)) (by first | exact aV _ | with_unfolding_all rfl)) (au (aL gw)) bC)))) (au (aL gw)))),?_⟩
 walk_at "sts"
 have hs:20000≤sizeLine:=by decide
 rcases hT.look (K:=K) with ⟨tq,us,rfl,htq,hl,hu⟩ | ⟨⟨Tv,ty,k⟩,no⟩
 rotate_left
 ·refine cj ty k ?_
  walk_at "sts"
  exact q _ _ (Same.refl H) ⟨(fun h=>by cases h),fun ⟨n,f,hs⟩=>absurd hs (no n f)⟩
 refine cj (.lst htq) (b:=true) (by rfl) ?_
 walk_at "sts"
 refine bB (SqL.of htq) ?_
 walk_at "sts"
 by_cases h1:1≤us.length
 rotate_left
 ·rw [decide_eq_false (by omega)]
  walk_at "sts"
  exact q _ _ (Same.refl H) (lW htq fun h=>h1 h.1)
 rw [decide_eq_true (by omega)]
 walk_at "sts"
 by_cases h2:us.length≤97
 rotate_left
 ·rw [decide_eq_false (by omega)]
  walk_at "sts"
  exact q _ _ (Same.refl H) (lW htq fun h=>h2 h.2.1)
 rw [decide_eq_true (by omega)]
 walk_at "sts"
 refine .inl ⟨tq,rfl,⟨_,SqL.of htq⟩,?_⟩
 refine gW (xs:=us) (fun i σ G=>Same H G∧(∀ u∈us.take i,RowG H us.length u)∧∃ x1,σ=[some (.ref tq),x1]) ⟨Same.refl H,(fun u hu=>by simp at hu),_,rfl⟩ (fun i σ G _ h=>SqL.of (h.1 _ _ htq)) ?_ ?_
 ·rintro i u σ G hui ⟨sG,hG,x1,rfl⟩
  have hmem:=List.mem_of_getElem? hui
  have tk:us.take (i+1)=us.take i ++ [u]:=by rw [List.take_add_one,hui];rfl
  walk_at "sts"
  rcases (hu u hmem).look (K:=K) with ⟨a,ws,rfl,ha,hwl,hw⟩ | ⟨Tv,ty,k⟩
  rotate_left
  ·refine cj (ty.mono fun b o e _=>sG b o e) k ?_
   walk_at "sts"
   exact q _ _ sG (lW htq fun h=>SQ ty k (h.2.2 u hmem))
  have haG:=sG _ _ ha
  refine cj (.lst haG) (b:=true) (by rfl) ?_
  walk_at "sts"
  refine bB (SqL.of haG) ?_
  walk_at "sts"
  refine bB (SqL.of (sG _ _ htq)) ?_
  walk_at "sts"
  rw [jf]
  by_cases hwn:ws.length=us.length
  rotate_left
  ·rw [decide_eq_false (by omega)]
   walk_at "sts"
   refine q _ _ sG (lW htq fun h=>?_)
   obtain ⟨a',ns,e,ha',hn⟩:=h.2.2 _ hmem
   cases e
   rw [ha] at ha'
   have e:ws=ns.map V.int:=by injection ha' with h;injection h
   rw [e,List.length_map] at hwn
   exact hwn hn
  rw [decide_eq_true (by omega)]
  walk_at "sts"
  refine .inl ⟨a,rfl,⟨_,SqL.of haG⟩,?_⟩
  refine cT (xs:=ws) (fun j ys G'=>G'=G∧ys=(ws.take j).filter jK) (by omega) ⟨rfl,rfl⟩ ?_ ?_ ?_ ?_
  ·rintro j ys G' ⟨_,rfl⟩
   exact Nat.le_trans (List.length_filter_le _ _) (by rw [List.length_take];omega)
  ·rintro j ys G' ⟨rfl,_⟩
   exact SqL.of haG
  ·rintro j ys G' w hw' ⟨rfl,rfl⟩
   have tk:ws.take (j+1)=ws.take j ++ [w]:=by rw [List.take_add_one,hw'];rfl
   walk_at "sts"
   refine ⟨KeepSt.set rfl,?_⟩
   walk_at "sts"
   refine ⟨w,rfl,(hw w (List.mem_of_getElem? hw')).kd,?_⟩
   refine ⟨_,rfl,Ov (fun hn=>?_) fun hn=>?_⟩
   ·walk_at "sts"
    exact ⟨rfl,by rw [tk,List.filter_append,List.filter_cons_of_pos hn];rfl⟩
   ·exact ⟨rfl,by rw [tk,List.filter_append,List.filter_cons_of_neg (by rw [hn];decide)];simp⟩
  rintro ys G1 D G2 ⟨rfl,rfl⟩ nD s2 hD
  rw [List.take_length] at hD
  try walk_at "sts"
  refine bB (SqL.of hD) ?_
  walk_at "sts"
  refine bB (SqL.of (s2 _ _ haG)) ?_
  walk_at "sts"
  obtain ⟨f1,f2⟩:=Gp ws
  by_cases hall:∀ w∈ws,jK w=true
  ·have e:(ws.filter jK).length=ws.length:=by rw [List.length_filter_eq_length_iff];exact hall
   rw [decide_eq_false (by omega)]
   walk_at "sts"
   obtain ⟨ns,rfl⟩:=sH hall
   refine ⟨sG.trans s2,fun u' hu'=>?_,_,rfl⟩
   rw [tk] at hu'
   rcases List.mem_append.mp hu' with h | h
   ·exact hG u' h
   ·rw [List.mem_singleton.mp h]
    exact ⟨a,ns,rfl,ha,by rw [List.length_map] at hwn;exact hwn⟩
  ·have e:(ws.filter jK).length≠ws.length:=fun e=>hall (f2 e)
   rw [decide_eq_true (by omega)]
   walk_at "sts"
   refine q _ _ (sG.trans s2) (lW htq fun h=>hall fun w hw'=>?_)
   obtain ⟨a',ns,e,ha',hn⟩:=h.2.2 _ hmem
   cases e
   rw [ha] at ha'
   have e:ws=ns.map V.int:=by injection ha' with h;injection h
   rw [e] at hw'
   obtain ⟨z,_,rfl⟩:=List.mem_map.mp hw'
   rfl
 ·rintro σ G ⟨sG,hG,x1,rfl⟩
  rw [List.take_length] at hG
  walk_at "sts"
  exact q _ _ sG ⟨fun _=>⟨_,_,K1 htq h1 h2 hG⟩,fun _=>rfl⟩
end
section
variable {P:Program} {w:World} {K:PySem.W.Frag} {mg:Str→Option Value} {base:Heap}
theorem jG:(["_law_place","_law_many_here","_law_turning_here","_law_at"]:List Str).Nodup:=by decide+kernel
theorem qy:(["_law_place"]:List Str).Nodup:=by decide+kernel
theorem Gr:cC bK "_law_found":=by decide+kernel
theorem Td:bT bK "range":=by decide+kernel
theorem Te:bT bK "len":=by decide+kernel
theorem Tf:Ce bK "_law_turning_here":=by decide+kernel
theorem kz2g:Ce bK "_law_at":=by decide+kernel
theorem kz2h:bT bK "enumerate":=by decide+kernel
theorem wW {t:List Nat} {b:Nat} (h:b < t.length) (e:Nat):o5 t b e=o5 t (b+1) e+if t.getD b 0 < e then 1 else 0:=by
 unfold o5
 rw [List.drop_eq_getElem_cons h,List.countP_cons]
 have:t.getD b 0=t[b]:=by rw [List.getD_eq_getElem?_getD,List.getElem?_eq_getElem h];rfl
 rw [this]
 simp
theorem qM {t:List Nat} {b e:Nat} (h:e≤t.length):(cB t b)[e]?=some ((o5 t b e:Nat):Int):=by
 unfold cB
 rw [List.getElem?_map,List.getElem?_range (by omega)];rfl
theorem CT.cons {H:Hp} {rs:List V} {n:Nat} {f g:Nat→List Int} {a:Addr} (h:CT H rs n f) (ha:H a=some (.lst ((g 0).map V.int))) (e:∀ k,k < n→g (k+1)=f k):CT H (.ref a :: rs) (n+1) g:=⟨by rw [List.length_cons,h.1],fun k hk=>by
 cases k with
 | zero=>exact ⟨a,rfl,ha⟩
 | succ k=>
  obtain ⟨b,e1,hb⟩:=h.2 k (by omega)
  exact ⟨b,e1,by rw [e k (by omega)];exact hb⟩⟩
theorem CT.congr {H:Hp} {rs:List V} {n:Nat} {f g:Nat→List Int} (h:CT H rs n f) (e:∀ k,k < n→f k=g k):CT H rs n g:=⟨h.1,fun k hk=>by rw [← e k hk];exact h.2 k hk⟩
def Tg (K:PySem.W.Frag):Sp:=fun vs H Q _=>∃ (a:Addr) (t:List Nat),vs=[.ref a]∧H a=some (.lst ((nI t).map V.int))∧t.length≤96∧∀ q rs H',H q=none→Same H H'→H' q=some (.lst rs)→CT H' rs (t.length+1) (cB t)→Q (.ref q) H'
theorem gr:aO ["_law_turning_here","_law_found","_law_at"] ["_law_turning_here"] (aq bK):=⟨rfl,rfl,rfl,by decide+kernel,rfl,by decide+kernel,by decide+kernel⟩
theorem cA (T:Txt K mg):qu P w K mg base 1 "_law_counts" ["_law_turning_here"] (Tg K):=by
 refine iZ T.d_law_counts gr (fun _ _ _ _ _ _ us hl=>L2.mL (fun _=>rfl) us hl) ?_ fun f cdv A outer s H vs Q E hr h=>?_
 ·rintro vs H Q E ⟨a,t,rfl,_⟩;rfl
 obtain ⟨a,t,rfl,ha,hle,q⟩:=h
 have hu:=hr.units0
 have hu64:=hr.units
 refine ⟨_,(az (aQ (i:=1) gr.nd rfl (Or.inl Gr) (bJ (aa (gf (sub:=[none]) (bU (N:=["_law_turning_here","_law_found","_law_at"]) (sc:=aq bK) (N':=["_law_place"]) (by decide+kernel)) rfl rfl rfl (fH (aW Td) T.b_range (aa (bf aP (aC (aF (K:=K) rfl) (aW Te) T.b_len bu (aa (fP 0 Tf) aj) (by decide+kernel) (by decide+kernel)) aA) aj)) (fun C s₀ H₀ ex=>(j8 0 (by decide+kernel) qy)) (fun C s₀ H₀ ex=>eQ) (fun C s₀ H₀ ex=>aA)) aj)) rfl) (az (eY PassesOwn.never rfl (ur (aW Td) T.b_range (aa (bf oF (aC (aF (K:=K) rfl) (aW Te) T.b_len bu (aa (fP 0 Tf) aj) (by decide+kernel) (by decide+kernel)) aA) (aa (xO lX aA) (aa (xO lX aA) aj)))) (bF (i:=2) gr.nd rfl (Or.inr kz2g) rfl) (au (aQ (i:=1) gr.nd rfl (Or.inl Gr) (bf aP (bJ (aa (gf (sub:=[none,none,some 0,some 2]) (bU (N:=["_law_turning_here","_law_found","_law_at"]) (sc:=aq bK) (N':=["_law_place","_law_many_here","_law_turning_here","_law_at"]) (by decide+kernel)) rfl rfl rfl (wC (K:=K) rfl rfl (aW kz2h) T.b_enumerate (aa (dw (K:=K) rfl (ao 1 Gr) aA) aj)) (fun C s₀ H₀ ex=>(xP (K:=K) (n:=2) rfl rfl (cL (j8 0 (by decide+kernel) jG) (cL (j8 1 (by decide+kernel) jG) nj)))) (fun C s₀ H₀ ex=>eQ) (fun C s₀ H₀ ex=>(bf aP (cJ 1 (by decide+kernel)) (d8 zY (M9 (by decide+kernel)) T.b_int xN (aa (um CK (cJ 0 (by decide+kernel)) (dw (K:=K) rfl (fG 2 (by decide+kernel)) (fG 3 (by decide+kernel))) (by first | exact aV _ | with_unfolding_all rfl)) aj) (by decide+kernel) (by decide+kernel))))) aj)) (ao 1 Gr)) rfl))) (au (aL (ao 1 Gr))))),?_⟩
 walk_at "sts"
 have hs:20000≤sizeLine:=by decide
 refine bB (SqL.of ha) ?_
 walk_at "sts"
 rw [bx]
 refine ⟨_,rfl,by omega,by omega,?_⟩
 rw [show ((t.length:Int)+1).toNat=t.length+1 by omega]
 refine oV (n:=t.length+1) (fun _=>.int 0) (by omega) ?_ ?_
 ·intro i hi
  walk_at "sts"
  refine ⟨KeepSt.set rfl,?_⟩
  walk_at "sts"
  exact ⟨rfl,lK rfl⟩
 intro r0 H1 nr0 S1 hr0
 replace hr0:H1 r0=some (.lst ((cB t t.length).map V.int)):=by
  rw [hr0]
  unfold cB
  rw [List.map_map]
  congr 2
  refine List.map_congr_left fun k _=>?_
  show V.int 0=V.int ((o5 t t.length k:Nat):Int)
  rw [zG];rfl
 walk_at "sts"
 refine aR rfl fun f0 H2 nf0 S2 hf0=>?_
 walk_at "sts"
 have U2:=S1.trans S2
 refine bB (SqL.of (U2 _ _ ha)) ?_
 walk_at "sts"
 rw [bx]
 refine ⟨(t.length:Int) - 1,-1,-1,t.length,rfl,by decide,PyProof.noPylong_small (by decide),small_down (by omega) (by omega),Bg,?_⟩
 refine wz (n:=t.length) (fun i σ G=>Same H G∧∃ f rs x2,H f=none∧G f=some (.lst rs)∧CT G rs (i+1) (fun k=>cB t (t.length - i+k))∧σ=[some (.ref a),some (.ref f),x2])
  ⟨U2,f0,_,_,Same.back S1 nf0,hf0,⟨rfl,fun k hk=>?_⟩,rfl⟩ ?_ ?_
 ·obtain rfl:k=0:=by omega
  exact ⟨r0,rfl,S2 _ _ hr0⟩
 ·rintro i σ G hi ⟨sG,f,rs,x2,nf,hf,hC,rfl⟩
  obtain ⟨k,ek⟩:∃ k:Nat,k=t.length - 1 - i:=⟨_,rfl⟩
  rw [show (t.length:Int) - 1+(i:Int)* -1=(k:Int) by omega]
  obtain ⟨ra,e0,hra⟩:=hC.2 0 (by omega)
  have e00:t.length - i+0=k+1:=by omega
  replace hra:G ra=some (.lst ((cB t (k+1)).map V.int)):=by rw [hra,← e00]
  have haG:=sG _ _ ha
  walk_at "sts"
  refine bz (SqL.of hf) (bZ (j:=0) e0) ?_
  walk_at "sts"
  refine .inr (.inl ⟨ra,_,rfl,SqL.of hra,?_⟩)
  refine ym (xs:=(cB t (k+1)).map V.int) (fun e ys G'=>Same G G'∧ys=((List.range e).map fun e=>((o5 t k e:Nat):Int)).map V.int) (by rw [List.length_map,iu];omega) ⟨Same.refl G,rfl⟩ ?_ ?_ ?_ ?_
  ·rintro e ys G' ⟨_,rfl⟩
   simp
  ·rintro e ys G' ⟨s,_⟩
   exact SqL.of (s _ _ hra)
  ·rintro e ys G' T0 x hx ⟨s,rfl⟩ nT
   have he:e≤t.length:=by
    have:=(List.getElem?_eq_some_iff.mp hx).1
    rw [List.length_map,iu] at this;omega
   rw [List.getElem?_map,qM he] at hx
   obtain rfl:V.int ((o5 t (k+1) e:Nat):Int)=x:=by injection hx
   have s2:=s.upd nT (o:=.tup [.int (e:Int),.int ((o5 t (k+1) e:Nat):Int)])
   have g2:=ak (H:=G') (a:=T0) (o:=.tup [.int (e:Int),.int ((o5 t (k+1) e:Nat):Int)])
   generalize upd G' T0 (.tup [.int (e:Int),.int ((o5 t (k+1) e:Nat):Int)])=G2 at s2 g2 ⊢
   refine ig (SqT.of g2) rfl ?_
   walk_at "sts"
   refine ⟨KeepSt.trans (KeepSt.set rfl) (KeepSt.set rfl),?_⟩
   walk_at "sts"
   refine bz (SqL.of (s2 _ _ haG)) (RL (k:=k) (by omega) rfl) ?_
   walk_at "sts"
   refine .inr ⟨_,rfl,?_⟩
   walk_at "sts"
   refine ⟨s2,?_⟩
   have ec:=wW (t:=t) (b:=k) (by omega) e
   rw [List.range_succ,List.map_append,List.map_append]
   congr 1
   show [V.int _]=[V.int _]
   congr 2
   show _=((o5 t k e:Nat):Int)
   rw [ec]
   by_cases hlt:t.getD k 0 < e
   ·rw [if_pos hlt,decide_eq_true (show ((t.getD k 0:Nat):Int) < (e:Int) by omega)];simp
   ·rw [if_neg hlt,decide_eq_false (show ¬ ((t.getD k 0:Nat):Int) < (e:Int) by omega)];simp
  rintro ys G1 nr G2 ⟨s1,rfl⟩ nnr s2 hnr
  rw [List.length_map,iu] at hnr
  replace hnr:G2 nr=some (.lst ((cB t k).map V.int)):=hnr
  try walk_at "sts"
  refine aR rfl fun nl G3 nnl s3 hnl=>?_
  walk_at "sts"
  have s03:=s1.trans (s2.trans s3)
  refine g8 hnl (s03 _ _ hf) (by have:=hC.1;simp;omega) fun ff nff=>?_
  walk_at "sts"
  have s4:=s03.upd nff (o:=.lst ([.ref nr] ++ rs))
  refine ⟨sG.trans s4,ff,_,_,Same.back (sG.trans s03) nff,ak,?_,rfl⟩
  refine (hC.same s4).cons (g:=fun j=>cB t (t.length - (i+1)+j)) ?_ fun j _=>?_
  ·show upd G3 ff _ nr=_
   rw [show t.length - (i+1)+0=k by omega]
   exact dU nff (s3 _ _ hnr)
  ·show cB t _=cB t _
   congr 1
   omega
 ·rintro σ G ⟨sG,f,rs,x2,nf,hf,hC,rfl⟩
  walk_at "sts"
  exact q f rs G nf sG hf (hC.congr fun k _=>by rw [Nat.sub_self,Nat.zero_add])
end
section
variable {P:Program} {w:World} {K:PySem.W.Frag} {mg:Str→Option Value} {base:Heap}
theorem vf:(["place","end"]:List Str).Nodup:=by decide+kernel
theorem o6:(["end","table","begin"]:List Str).Nodup:=by decide+kernel
theorem Pr:bT di "len":=by decide+kernel
theorem Th:cC di "begin":=by decide+kernel
theorem Ju:cC di "turning":=by decide+kernel
theorem Ti:bT di "need_place":=by decide+kernel
theorem kz2m:Ce di "end":=by decide+kernel
theorem kz2n:bT di "need_turning":=by decide+kernel
theorem Gs:cC aX "turning":=by decide+kernel
theorem kz2p:bT aX "counts":=by decide+kernel
theorem BL:Ce aX "table":=by decide+kernel
theorem kz2r:bT aX "is_turning":=by decide+kernel
theorem Tj:bT aX "NoCounts":=by decide+kernel
theorem Tp:bT aX "range":=by decide+kernel
theorem Pu:bT aX "len":=by decide+kernel
theorem kz2v:Ce aX "begin":=by decide+kernel
theorem Tq:cC aX "same":=by decide+kernel
theorem kz2x:bT aX "is_square":=by decide+kernel
theorem zH {H:Hp}:∀ (ds:List PyData) (vs:List V),ds.length=vs.length→(∀ (k:Nat) (d:PyData) (v:V),ds[k]?=some d→vs[k]?=some v→DR H d v)→DRs H ds vs
 | [],[],_,_=>jr.mpr rfl
 | [],_ :: _,h,_=>by simp at h
 | _ :: _,[],h,_=>by simp at h
 | d :: ds,v :: vs,h,g=>jb.mpr ⟨v,vs,rfl,g 0 d v rfl rfl,zH ds vs (by simpa using h) fun k d' v' e1 e2=>g (k+1) d' v' e1 e2⟩
def o7 (n:Nat) (f:Nat→List Int):PyData:=.list ((List.range n).map fun k=>.list ((f k).map PyData.int))
theorem CT.dr {H:Hp} {rs:List V} {n:Nat} {f:Nat→List Int} {q:Addr} (h:CT H rs n f) (hq:H q=some (.lst rs)):DR H (o7 n f) (.ref q):=by
 refine jq.mpr ⟨q,rs,rfl,hq,zH _ _ (by rw [List.length_map,List.length_range,h.1]) fun k d v e1 e2=>?_⟩
 have hk:k < n:=by
  have:=(List.getElem?_eq_some_iff.mp e1).1
  rw [List.length_map,List.length_range] at this;exact this
 rw [List.getElem?_map,List.getElem?_range hk] at e1
 obtain ⟨a,e,ha⟩:=h.2 k hk
 rw [e] at e2
 cases e1;cases e2
 exact jq.mpr ⟨a,_,rfl,ha,vZ _⟩
theorem gD (n:Nat) (f:Nat→List Int):PySem.SeqAt.shaped (o7 n f)=true:=by
 refine rH (n:=2) (kI (n:=1) fun d hd=>?_) (by omega)
 obtain ⟨k,_,rfl⟩:=List.mem_map.mp hd
 refine kI (n:=0) fun e he=>?_
 obtain ⟨i,_,rfl⟩:=List.mem_map.mp he
 exact Iu i
theorem zJ (f g:Nat→List Int):∀ l:List Nat,PyData.eqvAll (l.map fun k=>.list ((f k).map PyData.int)) (l.map fun k=>.list ((g k).map PyData.int))=true↔∀ k∈l,f k=g k
 | []=>by simp [PyData.eqvAll]
 | k :: l=>by
  rw [List.map_cons,List.map_cons,PyData.eqvAll,Bool.and_eq_true,zJ f g l,Gn,decide_eq_true_iff]
  simp
theorem qN {n:Nat} {f g:Nat→List Int}:PyData.eqv (o7 n f) (o7 n g)=true↔∀ k,k < n→f k=g k:=by
 unfold o7
 rw [PyData.eqv,zJ]
 exact ⟨fun h k hk=>h k (List.mem_range.mpr hk),fun h k hk=>h k (List.mem_range.mp hk)⟩
theorem yq:∀ (n:Nat) (l:List Nat),l.Nodup→(∀ x∈l,x < n)→l.length≤n
 | 0,l,_,h=>by
  cases l with
  | nil=>exact Nat.le_refl _
  | cons x l=>exact absurd (h x List.mem_cons_self) (Nat.not_lt_zero _)
 | n+1,l,hn,h=>by
  by_cases hm:n∈l
  ·have e:=List.length_erase_of_mem hm
   have:=yq n (l.erase n) (hn.erase n) fun x hx=>by
    obtain ⟨h1,h2⟩:=(List.Nodup.mem_erase_iff hn).mp hx
    have:=h x h2
    omega
   omega
  ·have:=yq n l hn fun x hx=>by
    have:=h x hx
    have:x≠n:=fun e=>hm (e ▸ hx)
    omega
   omega
theorem uy:∀ (n:Nat) (l:List Nat),l.Nodup→(∀ x∈l,x < n)→l.length=n→l.Perm (List.range n)
 | 0,l,_,_,e=>by rw [List.length_eq_zero_iff.mp e];exact List.Perm.refl _
 | n+1,l,hn,h,e=>by
  have hm:n∈l:=Classical.byContradiction fun hm=>by
   have:=yq n l hn fun x hx=>by
    have:=h x hx
    have:x≠n:=fun e=>hm (e ▸ hx)
    omega
   omega
  have h2:=uy n (l.erase n) (hn.erase n) (fun x hx=>by
   obtain ⟨h1,h2⟩:=(List.Nodup.mem_erase_iff hn).mp hx
   have:=h x h2
   omega) (by rw [List.length_erase_of_mem hm];omega)
  refine (List.perm_cons_erase hm).trans ((h2.cons n).trans ?_)
  rw [List.range_succ]
  exact List.perm_append_comm (l₁:=[n])
theorem yr {ns:List Int} (h:vg (ns.map V.int)=true):Prm (ns.map Int.toNat)∧ns=nI (ns.map Int.toNat):=by
 obtain ⟨h1,h2,h3⟩:=oh.mp h
 have e:ns=nI (ns.map Int.toNat):=by
  unfold nI
  rw [List.map_map]
  refine (List.map_id ns).symm.trans (List.map_congr_left fun x hx=>?_)
  have:=h2 x hx
  show x=((x.toNat:Nat):Int)
  omega
 refine ⟨⟨by rw [List.length_map];exact h1,?_⟩,e⟩
 refine uy _ _ ?_ (fun x hx=>?_) rfl
 ·unfold List.Nodup
  rw [List.pairwise_map]
  refine h3.imp_of_mem fun {a b} ha hb hab e=>hab ?_
  have:=h2 a ha
  have:=h2 b hb
  omega
 ·obtain ⟨y,hy,rfl⟩:=List.mem_map.mp hx
  have:=h2 y hy
  rw [List.length_map]
  omega
def Tr (K:PySem.W.Frag) (mg:Str→Option Value):Sp:=fun vs H Q E=>∃ v x y,vs=[v,x,y]∧Kd K H x∧Kd K H y∧((RP K H v false∧RfE mg H v E)∨∃ a t,v= .ref a∧Tn H a t∧Prm t∧
 ((inB x 0 (t.length:Int)=false∧NpE mg H x E)∨(inB x 0 (t.length:Int)=true∧inB y 0 (t.length:Int)=false∧NpE mg H y E)∨∃ b e:Nat,x= .int (b:Int)∧y= .int (e:Int)∧b≤t.length∧e≤t.length∧∀ H',Same H H'→Q (.int ((o5 t b e:Nat):Int)) H'))
theorem yt {H:Hp} {a:Addr} {t:List Nat} {Q:VK} (h:Tn H a t) (q:Q (.int t.length) H):DK K [.ref a] H Q:=by
 rcases h with h | h
 ·exact bB (SqL.of h) (by rw [bx];exact q)
 ·exact uN (SqT.of h) (by rw [bx];exact q)
theorem yu {p n:Nat} (h:p≤n):inB (.int (p:Int)) 0 (n:Int)=true:=by unfold inB;simp;omega
theorem zK (t:List Nat) (b:Nat):((nI t).map V.int).drop b=(nI (t.drop b)).map V.int:=by unfold nI;rw [List.map_drop,List.map_drop]
theorem yw:aO ["turning","begin","end"] ["turning","begin","end"] (aq di):=⟨rfl,rfl,rfl,by decide+kernel,rfl,by decide+kernel,by decide+kernel⟩
theorem gR (T:Txt K mg):v9 P w K mg base 5 "counted" ["turning","begin","end"] (Tr K mg):=by
 have cV:=cV (P:=P) (w:=w) (base:=base) T
 have gP:=gP (P:=P) (w:=w) (base:=base) T
 refine ww T.d_counted yw (fun _ _ _ _ _ _ us hl=>L2.K4 (fun _ _ _=>rfl) us hl) ?_ fun f cdv A outer s H vs Q E hr h=>?_
 ·rintro vs H Q E ⟨v,x,y,rfl,_⟩;rfl
 obtain ⟨v,x,y,rfl,kx,ky,h⟩:=h
 have hu:=hr.units0
 have hu64:=hr.units
 refine ⟨_,(az (cZ (gn cV (hr.mono (by decide)) (aW kz2n) fV (aa (ao 0 Ju) aj) (by decide+kernel))) (az (cZ (gn gP (hr.mono (by decide)) (aW Ti) fV (aa (ao 1 Th) (aa aA (aa (aC (aF (K:=K) rfl) (aW Pr) T.b_len bu (aa (ao 0 Ju) aj) (by decide+kernel) (by decide+kernel)) aj))) (by decide+kernel))) (az (cZ (gn gP (hr.mono (by decide)) (aW Ti) fV (aa (fP 2 kz2m) (aa aA (aa (aC (aF (K:=K) rfl) (aW Pr) T.b_len bu (aa (ao 0 Ju) aj) (by decide+kernel) (by decide+kernel)) aj))) (by decide+kernel))) (au (aL (aC (aF (K:=K) rfl) (aW Pr) T.b_len bu (aa (gf (sub:=[none,some 2]) (bU (N:=["turning","begin","end"]) (sc:=aq di) (N':=["place","end"]) (by decide+kernel)) rfl rfl rfl (dz (K:=K) rfl (gK (gO (K:=K) rfl) (ao 0 Ju) (iG (ao 1 Th)) gm)) (fun C s₀ H₀ ex=>(j8 0 (by decide+kernel) vf)) (fun C s₀ H₀ ex=>(ni (bh qT (cJ 0 (by decide+kernel)) (fG 1 (by decide+kernel)) (by first | exact aV _ | with_unfolding_all rfl)))) (fun C s₀ H₀ ex=>(cJ 0 (by decide+kernel)))) aj) (by decide+kernel) (by decide+kernel))))))),?_⟩
 walk_at "sts"
 have hs:20000≤sizeLine:=by decide
 rcases h with ⟨hk,q⟩ | ⟨a,t,rfl,ha,hP,h⟩
 ·exact ⟨_,false,rfl,hk,(fun h=>by cases h),fun _=>q⟩
 have hle:=hP.le
 refine ⟨_,true,rfl,zE ha hP,fun _ H1 S1=>?_,(fun h=>by cases h)⟩
 walk_at "sts"
 refine yt (ha.same S1) ?_
 walk_at "sts"
 rcases h with ⟨hx,q⟩ | ⟨hx,hy,q⟩ | ⟨b,e,rfl,rfl,hb,he,q⟩
 ·exact ⟨x,_,_,rfl,kx.same S1,(fun h=>by rw [hx] at h;cases h),fun _ e H2 S2 X2=>q e H2 (S1.trans S2) X2⟩
 ·refine ⟨x,_,_,rfl,kx.same S1,fun _=>?_,(fun h=>by rw [hx] at h;cases h)⟩
  walk_at "sts"
  refine yt (ha.same S1) ?_
  walk_at "sts"
  exact ⟨y,_,_,rfl,ky.same S1,(fun h=>by rw [hy] at h;cases h),fun _ e H2 S2 X2=>q e H2 (S1.trans S2) X2⟩
 refine ⟨_,_,_,rfl,.inl ⟨_,rfl⟩,fun _=>?_,(fun h=>by rw [yu hb] at h;cases h)⟩
 walk_at "sts"
 refine yt (ha.same S1) ?_
 walk_at "sts"
 refine ⟨_,_,_,rfl,.inl ⟨_,rfl⟩,fun _=>?_,(fun h=>by rw [yu he] at h;cases h)⟩
 walk_at "sts"
 have step:∀ (i:Nat) (k:Nat) (ys:List V),(t.drop b)[i]?=some k→ys.length=((t.drop b).take i).countP (fun z=>decide (z < e))→(k < e→(ys ++ [V.int (k:Int)]).length=((t.drop b).take (i+1)).countP (fun z=>decide (z < e)))∧(¬ k < e→ys.length=((t.drop b).take (i+1)).countP (fun z=>decide (z < e))):=fun i k ys hk hy=>by
  rw [List.take_add_one,hk,List.countP_append,Option.toList_some,List.countP_singleton]
  refine ⟨fun h=>?_,fun h=>?_⟩
  ·rw [List.length_append,hy,if_pos (decide_eq_true h)];rfl
  ·rw [hy,if_neg (by simpa using h)];rfl
 have cle:∀ i,((t.drop b).take i).countP (fun z=>decide (z < e))≤i:=fun i=>Nat.le_trans List.countP_le_length (by rw [List.length_take];omega)
 have dl:(t.drop b).length≤96:=by rw [List.length_drop];omega
 rcases ha.same S1 with ha1 | ha1
 ·skip
  refine jE ha1 fun sl H2 nsl S2 hsl=>?_
  walk_at "sts"
  rw [rZ,zK] at hsl
  refine .inl ⟨sl,rfl,⟨_,SqL.of hsl⟩,?_⟩
  refine cT (xs:=(nI (t.drop b)).map V.int) (fun i ys G=>G=H2∧ys.length=((t.drop b).take i).countP fun z=>decide (z < e)) (by rw [bx];omega) ⟨rfl,by simp⟩ ?_ ?_ ?_ ?_
  ·rintro i ys G ⟨_,h⟩
   rw [h];exact cle i
  ·rintro i ys G ⟨rfl,_⟩
   exact SqL.of hsl
  ·rintro i ys G w hw ⟨rfl,hy⟩
   obtain ⟨k,hk,rfl⟩:=sr hw
   walk_at "sts"
   refine ⟨KeepSt.set rfl,?_⟩
   walk_at "sts"
   refine iy (fun h=>?_) (fun h=>?_)
   ·walk_at "sts"
    exact ⟨rfl,(step i k ys hk hy).1 (by omega)⟩
   ·exact ⟨rfl,(step i k ys hk hy).2 (by omega)⟩
  rintro ys G D H3 ⟨rfl,hy⟩ nD S3 hD
  rw [bx,List.take_length] at hy
  try walk_at "sts"
  refine bB (SqL.of hD) ?_
  walk_at "sts"
  rw [hy]
  exact q _ (S1.trans (S2.trans S3))
 ·skip
  refine O3 ha1 fun sl H2 S2 hsl=>?_
  walk_at "sts"
  rw [rZ,zK] at hsl
  refine .inr (.inl ⟨sl,rfl,⟨_,SqT.of hsl⟩,?_⟩)
  refine Bm (xs:=(nI (t.drop b)).map V.int) (fun i ys G=>G=H2∧ys.length=((t.drop b).take i).countP fun z=>decide (z < e)) (by rw [bx];omega) ⟨rfl,by simp⟩ ?_ ?_ ?_ ?_
  ·rintro i ys G ⟨_,h⟩
   rw [h];exact cle i
  ·rintro i ys G ⟨rfl,_⟩
   exact SqT.of hsl
  ·rintro i ys G w hw ⟨rfl,hy⟩
   obtain ⟨k,hk,rfl⟩:=sr hw
   walk_at "sts"
   refine ⟨KeepSt.set rfl,?_⟩
   walk_at "sts"
   refine iy (fun h=>?_) (fun h=>?_)
   ·walk_at "sts"
    exact ⟨rfl,(step i k ys hk hy).1 (by omega)⟩
   ·exact ⟨rfl,(step i k ys hk hy).2 (by omega)⟩
  rintro ys G D H3 ⟨rfl,hy⟩ nD S3 hD
  rw [bx,List.take_length] at hy
  try walk_at "sts"
  refine bB (SqL.of hD) ?_
  walk_at "sts"
  rw [hy]
  exact q _ (S1.trans (S2.trans S3))
def Cg (f:Nat→List Int) (n b:Nat):Int:=(((List.range n).countP fun e=>decide ((f b).getD e 0=(f (b+1)).getD e 0):Nat):Int) - 1
def tI (f:Nat→List Int) (n:Nat):List Int:=(List.range (n - 1)).map (Cg f n)
def GP (f:Nat→List Int) (n:Nat):Prop:=vg ((tI f n).map V.int)=true∧∀ k,k < n→cB ((tI f n).map Int.toNat) k=f k
theorem sI (f:Nat→List Int) (n:Nat):(tI f n).length=n - 1:=by simp [tI]
theorem zL (f:Nat→List Int) (n i:Nat):((List.range i).map (Cg f n)).map V.int ++ [V.int (Cg f n i)]=((List.range (i+1)).map (Cg f n)).map V.int:=by rw [List.range_succ,List.map_append,List.map_append];rfl
theorem wX {P:Nat→Bool} {i:Nat} (l:Nat) (h:l=(List.range i).countP P):(P i=true→l+1=(List.range (i+1)).countP P)∧(P i=false→l=(List.range (i+1)).countP P):=by
 rw [List.range_succ,List.countP_append,List.countP_singleton]
 refine ⟨fun e=>?_,fun e=>?_⟩
 ·rw [e,if_pos rfl];omega
 ·rw [e,if_neg (by decide)];omega
theorem sO {l:List Int} {k:Nat} (h:k < l.length):tY (l.map V.int) (k:Int)=some (.int (l.getD k 0)):=bZ (by rw [List.getElem?_map,List.getD_eq_getElem?_getD,List.getElem?_eq_getElem h];rfl)
def Px (K:PySem.W.Frag) (mg:Str→Option Value):Sp:=fun vs H Q E=>∃ v,vs=[v]∧TabT H v∧(∀ n f,Sq H v n f→GP f n→∀ q H',H q=none→Same H H'→H' q=some (.lst ((tI f n).map V.int))→Q (.ref q) H')∧((∀ n f,Sq H v n f→¬ GP f n)→NcE mg H v E)
theorem fZ:aO ["table","turning","begin","same"] ["table"] (aq aX):=⟨rfl,rfl,rfl,by decide+kernel,rfl,by decide+kernel,by decide+kernel⟩
theorem dj (T:Txt K mg):v9 P w K mg base 6 "from_counts" ["table"] (Px K mg):=by
 have lq:=lq (P:=P) (w:=w) (base:=base) T
 have dW:=dW (P:=P) (w:=w) (base:=base) T
 have jh:=jh (P:=P) (w:=w) (base:=base) T
 refine ww T.d_from_counts fZ (fun _ _ _ _ _ _ us hl=>L2.mL (fun _=>rfl) us hl) ?_ fun f cdv A outer s H vs Q E hr h=>?_
 ·rintro vs H Q E ⟨v,rfl,_⟩;rfl
 obtain ⟨v,rfl,hT,q1,q2⟩:=h
 have hu:=hr.units0
 have hu64:=hr.units
 refine ⟨_,(az (bj (bO (bI (aU lq (hr.mono (by decide)) (aW kz2x) (aa (fP 0 BL) aj) (by decide+kernel)))) (au (nG (qj (P:=P) (w:=w) (base:=base) T) (hr.mono (by decide)) rfl (aW Tj) fV (aa (fP 0 BL) aj) (by decide+kernel))) bC) (az (aQ (i:=1) fZ.nd rfl (Or.inl Gs) (bJ aj) rfl) (az (Ew (eY PassesOwn.never rfl (fH (aW Tp) T.b_range (aa (bf oF (aC (aF (K:=K) rfl) (aW Pu) T.b_len bu (aa (fP 0 BL) aj) (by decide+kernel) (by decide+kernel)) aA) aj)) (bF (i:=2) fZ.nd rfl (Or.inr kz2v) rfl) (az (qD (i:=3) fZ.nd rfl (Or.inl Tq) (sub:=[none,some 0,some 2]) (bU (N:=["table","turning","begin","same"]) (sc:=aq aX) (N':=["end","table","begin"]) (by decide+kernel)) rfl rfl rfl (fH (aW Tp) T.b_range (aa (aC (aF (K:=K) rfl) (aW Pu) T.b_len bu (aa (fP 0 BL) aj) (by decide+kernel) (by decide+kernel)) aj)) (fun C s₀ H₀ ex=>(j8 0 (by decide+kernel) o6)) (fun C s₀ H₀ ex=>(ni (bh (uU (K:=K) rfl hu64) (dw (K:=K) rfl (dw (K:=K) rfl (fG 1 (by decide+kernel)) (fG 2 (by decide+kernel))) (cJ 0 (by decide+kernel))) (dw (K:=K) rfl (dw (K:=K) rfl (fG 1 (by decide+kernel)) (bf aP (fG 2 (by decide+kernel)) aA)) (cJ 0 (by decide+kernel))) (by first | exact aV _ | with_unfolding_all rfl)))) (fun C s₀ H₀ ex=>(cJ 0 (by decide+kernel))) rfl) (au (cZ (iR (K:=K) rfl PySem.F.plainAttrs_list PySem.F.slot_list_append PySem.F.type_list_append dR (ao 1 Gs) (aa (bf oF (aC (aF (K:=K) rfl) (aW Pu) T.b_len bu (aa (ao 3 Tq) aj) (by decide+kernel) (by decide+kernel)) aA) aj))))))) (az (bj (ie (gJ (bO (bI (aU dW (hr.mono (by decide)) (aW kz2r) (aa (ao 1 Gs) aj) (by decide+kernel)))) (eV (bh (il (K:=K) rfl hu64) (gn jh (hr.mono (by decide)) (aW kz2p) fV (aa (ao 1 Gs) aj) (by decide+kernel)) (fP 0 BL) (by first | exact aV _ | with_unfolding_all rfl))))) (au (nG (qj (P:=P) (w:=w) (base:=base) T) (hr.mono (by decide)) rfl (aW Tj) fV (aa (fP 0 BL) aj) (by decide+kernel))) bC) (au (aL (ao 1 Gs))))))),?_⟩
 walk_at "sts"
 have hs:20000≤sizeLine:=by decide
 refine ⟨v,rfl,hT,fun b H1 S1 hb=>?_⟩
 walk_at "sts"
 cases b with
 | false=>
  walk_at "sts"
  exact ⟨rfl,(show 1≤sizeLine by decide),fun x H2 S2 X2=>q2 (fun n f hq=>absurd (hb.mpr ⟨n,f,hq⟩) (by decide)) x H2 (S1.trans S2) X2⟩
 | true=>
  obtain ⟨n,f,hq⟩:=hb.mp rfl
  obtain ⟨tq,us,rfl,htq,hC,h1,h97,hlen⟩:=id hq
  have hul:us.length=n:=hC.1
  walk_at "sts"
  refine aR rfl fun tr H2 ntr S2 htr=>?_
  walk_at "sts"
  have U2:=S1.trans S2
  have ntr0:=Same.back S1 ntr
  refine bB (SqL.of (U2 _ _ htq)) ?_
  walk_at "sts"
  rw [hul]
  refine ⟨_,rfl,by omega,by omega,?_⟩
  rw [show ((n:Int) - 1).toNat=n - 1 by omega]
  refine oE (n:=n - 1) (fun i σ G=>Same H G∧G tr=some (.lst (((List.range i).map (Cg f n)).map V.int))∧∃ x2 x3,σ=[some (.ref tq),some (.ref tr),x2,x3]) ⟨U2,htr,_,_,rfl⟩ ?_ ?_
  ·rintro i σ G hi ⟨sG,hG,x2,x3,rfl⟩
   rw [Int.zero_add]
   obtain ⟨a0,e0,ha0⟩:=hC.2 i (by omega)
   obtain ⟨a1,e1,ha1⟩:=hC.2 (i+1) (by omega)
   walk_at "sts"
   refine bB (SqL.of (sG _ _ htq)) ?_
   walk_at "sts"
   rw [hul]
   refine ⟨_,rfl,by omega,by omega,?_⟩
   rw [show ((n:Int)).toNat=n by omega]
   refine lJ (n:=n) (fun j ys G'=>G'=G∧ys.length=(List.range j).countP fun e=>decide ((f i).getD e 0=(f (i+1)).getD e 0)) (by omega) ⟨rfl,by simp⟩ ?_ ?_ ?_
   ·rintro j ys G' ⟨_,h⟩
    rw [h];exact Nat.le_trans List.countP_le_length (by simp)
   ·rintro j ys G' hj ⟨rfl,hy⟩
    rw [Int.zero_add]
    have cs:=wX (P:=fun e=>decide ((f i).getD e 0=(f (i+1)).getD e 0)) (i:=j) ys.length hy
    walk_at "sts"
    refine ⟨KeepSt.set rfl,?_⟩
    walk_at "sts"
    refine bz (SqL.of (sG _ _ htq)) (bZ e0) ?_
    walk_at "sts"
    refine bz (SqL.of (sG _ _ ha0)) (sO (by rw [hlen i (by omega)];exact hj)) ?_
    walk_at "sts"
    refine bz (SqL.of (sG _ _ htq)) (v:=.ref a1) (by rw [show ((i:Int)+1)=((i+1:Nat):Int) by omega];exact bZ e1) ?_
    walk_at "sts"
    refine bz (SqL.of (sG _ _ ha1)) (sO (by rw [hlen (i+1) (by omega)];exact hj)) ?_
    walk_at "sts"
    rw [jf]
    refine Ov (fun h=>?_) fun h=>?_
    ·walk_at "sts"
     exact ⟨rfl,by rw [List.length_append,← cs.1 h];rfl⟩
    ·exact ⟨rfl,cs.2 h⟩
   rintro ys G1 D G2 ⟨rfl,hy⟩ nD s2 hD
   try walk_at "sts"
   refine ⟨.inl ⟨rfl,_,SqL.of (s2 _ _ hG)⟩,?_⟩
   walk_at "sts"
   refine bB (SqL.of hD) ?_
   walk_at "sts"
   rw [hy]
   refine d9 (s2 _ _ hG) (by simp;omega) ?_
   walk_at "sts"
   exact ⟨Same.put (sG.trans s2) ntr0,by rw [ak];exact congrArg (fun z=>some (HO.lst z)) (zL f n i),_,_,rfl⟩
  rintro σ H3 ⟨S3,htr3,x2,x3,rfl⟩
  replace htr3:H3 tr=some (.lst ((tI f n).map V.int)):=htr3
  walk_at "sts"
  refine ⟨.ref tr,_,rfl,.inl ⟨tr,_,rfl,.inl htr3,by rw [List.length_map,sI];omega,fun u hu=>by obtain ⟨z,_,rfl⟩:=List.mem_map.mp hu;exact .inl ⟨z,rfl⟩,rfl⟩,fun H4 S4=>?_⟩
  walk_at "sts"
  have U4:=S3.trans S4
  cases hb:vg ((tI f n).map V.int) with
  | false=>
   walk_at "sts"
   refine ⟨rfl,(show 1≤sizeLine by decide),fun x H5 S5 X5=>q2 (fun n' f' hq' ho=>?_) x H5 (U4.trans S5) X5⟩
   obtain ⟨rfl,hf⟩:=hq.un hq'
   have e:tI f' n=tI f n:=by
    unfold tI
    refine List.map_congr_left fun i hi=>?_
    have hi:=List.mem_range.mp hi
    unfold Cg
    rw [hf i (by omega),hf (i+1) (by omega)]
   rw [GP,e,hb] at ho
   cases ho.1
  | true=>
   obtain ⟨hP,eN⟩:=yr hb
   have tl:((tI f n).map Int.toNat).length+1=n:=by rw [List.length_map,sI];omega
   have htr4:=S4 _ _ htr3
   walk_at "sts"
   refine ⟨tr,(tI f n).map Int.toNat,rfl,.inl (by rw [← eN];exact htr4),hP,fun cq rs H5 _ S5 hcq hR _=>?_⟩
   walk_at "sts"
   rw [tl] at hR
   have U5:=U4.trans S5
   refine .inl (.inl (v5 (hR.dr hcq) ((hC.same U5).dr (U5 _ _ htq)) (gD _ _) (gD _ _) ?_))
   cases he:PyData.eqv (o7 n (cB ((tI f n).map Int.toNat))) (o7 n f) with
   | true=>
    walk_at "sts"
    exact q1 n f hq ⟨hb,qN.mp he⟩ tr H5 ntr0 U5 (S5 _ _ htr4)
   | false=>
    walk_at "sts"
    refine ⟨rfl,(show 1≤sizeLine by decide),fun x H6 S6 X6=>q2 (fun n' f' hq' ho=>?_) x H6 (U5.trans S6) X6⟩
    obtain ⟨rfl,hf⟩:=hq.un hq'
    have e:tI f' n=tI f n:=by
     unfold tI
     refine List.map_congr_left fun i hi=>?_
     have hi:=List.mem_range.mp hi
     unfold Cg
     rw [hf i (by omega),hf (i+1) (by omega)]
    have:PyData.eqv (o7 n (cB ((tI f n).map Int.toNat))) (o7 n f)=true:=qN.mpr fun k hk=>by
     rw [hf k hk,← ho.2 k hk,e]
    rw [he] at this;cases this
end
local macro_rules | `(tactic| walk_at "sts") => `(tactic| (with_reducible repeat (first | refine vP ?_ | refine vz ?_ | refine vy ?_ | refine qe ?_ | refine qg ?_ | (refine' pN ?hz0 ?_; (case hz0 => with_unfolding_all rfl)) | refine Kf ?_ | refine vW ?_ | refine jm ?_ | refine jV ?_ | refine pO ?_ | refine vL ?_ | refine pI ?_ | refine jP ?_ | refine pK ?_ | refine jO ?_ | refine vM ?_ | refine jR ?_ | refine vX ?_ | refine vR ?_ | refine jW ?_ | refine vN ?_ | refine pL ?_ | refine vO ?_ | refine jT ?_ | refine jU ?_ | refine pM ?_ | refine pJ ?_ | refine jQ ?_ | refine vQ ?_ | refine oU ?_ | refine oR ?_ | refine vU ?_ | refine pP ?_ | refine vV ?_ | refine pQ ?_ | refine jX ?_ | refine jY ?_ | refine jZ ?_ | refine j0 ?_ | refine j4 ?_ | refine pR ?_ | refine Ko ?_ | refine iH ?_ | refine j9 ?_ | (refine' ig (SqT.of ?hz0) ?hz1 ?_; (case hz0 => first | assumption | exact ak); (case hz1 => rfl)) | refine iI ?_ | refine iK ?_ | refine kj ?_ | refine p7 ?_ | refine iJ ?_ | refine kh ?_ | refine km ?_ | refine kE ?_ | refine jx ?_ | refine jy ?_ | refine jz ?_ | refine jA ?_ | refine qd ?_ | refine gA ?_ | refine jt ?_ | refine ju ?_ | refine jw ?_ | refine pX ?_ | refine j6 ?_ | (refine' Kl ?hz0 ?_; (case hz0 => with_unfolding_all first | assumption | omega | (dsimp only <;> omega) | exact ⟨by omega, by omega⟩ | exact .inl ⟨by omega, by omega⟩ | exact .inr ⟨by omega, by omega⟩ | exact ⟨by decide, by decide, by decide⟩)) | (refine' j5 ?hz0 ?_; (case hz0 => with_unfolding_all first | assumption | omega | (dsimp only <;> omega) | exact ⟨by omega, by omega⟩ | exact .inl ⟨by omega, by omega⟩ | exact .inr ⟨by omega, by omega⟩ | exact ⟨by decide, by decide, by decide⟩)) | (refine' bz (SqL.of ?hz0) ?hz1 ?_; (case hz0 => first | assumption | exact ak); (case hz1 => with_unfolding_all rfl)) | (refine' pU (SqT.of ?hz0) ?hz1 ?_; (case hz0 => first | assumption | exact ak); (case hz1 => with_unfolding_all rfl)) | (refine' jn ?hz0 ?hz1 ?_; (case hz0 => first | assumption | exact ak); (case hz1 => with_unfolding_all rfl)) | refine FT ?_ | refine FW ?_ | refine lE ?_ | refine qK ?_ | refine kJ ?_ | refine lG ?_ | refine oO ?_)))
local macro_rules | `(tactic| walk_at "stn") => `(tactic| (with_reducible repeat (first | refine vP ?_ | refine vz ?_ | refine vy ?_ | refine qe ?_ | refine qg ?_ | (refine' pN ?hz0 ?_; (case hz0 => with_unfolding_all rfl)) | refine Kf ?_ | refine vW ?_ | refine jm ?_ | refine jV ?_ | refine pO ?_ | refine pI ?_ | refine jP ?_ | refine pK ?_ | refine jO ?_ | refine vM ?_ | refine jR ?_ | refine vX ?_ | refine vR ?_ | refine jW ?_ | refine vN ?_ | refine pL ?_ | refine vO ?_ | refine jT ?_ | refine jU ?_ | refine pM ?_ | refine pJ ?_ | refine jQ ?_ | refine vQ ?_ | refine oU ?_ | refine oR ?_ | refine vU ?_ | refine pP ?_ | refine vV ?_ | refine pQ ?_ | refine jX ?_ | refine jY ?_ | refine jZ ?_ | refine j0 ?_ | refine j4 ?_ | refine pR ?_ | refine Ko ?_ | refine iH ?_ | refine j9 ?_ | (refine' ig (SqT.of ?hz0) ?hz1 ?_; (case hz0 => first | assumption | exact ak); (case hz1 => rfl)) | refine iI ?_ | refine iK ?_ | refine kj ?_ | refine p7 ?_ | refine iJ ?_ | refine kh ?_ | refine km ?_ | refine kE ?_ | refine jx ?_ | refine jy ?_ | refine jz ?_ | refine jA ?_ | refine qd ?_ | refine gA ?_ | refine jt ?_ | refine ju ?_ | refine jw ?_ | refine pX ?_ | refine j6 ?_ | (refine' Kl ?hz0 ?_; (case hz0 => with_unfolding_all first | assumption | omega | (dsimp only <;> omega) | exact ⟨by omega, by omega⟩ | exact .inl ⟨by omega, by omega⟩ | exact .inr ⟨by omega, by omega⟩ | exact ⟨by decide, by decide, by decide⟩)) | (refine' j5 ?hz0 ?_; (case hz0 => with_unfolding_all first | assumption | omega | (dsimp only <;> omega) | exact ⟨by omega, by omega⟩ | exact .inl ⟨by omega, by omega⟩ | exact .inr ⟨by omega, by omega⟩ | exact ⟨by decide, by decide, by decide⟩)) | (refine' bz (SqL.of ?hz0) ?hz1 ?_; (case hz0 => first | assumption | exact ak); (case hz1 => with_unfolding_all rfl)) | (refine' pU (SqT.of ?hz0) ?hz1 ?_; (case hz0 => first | assumption | exact ak); (case hz1 => with_unfolding_all rfl)) | (refine' jn ?hz0 ?hz1 ?_; (case hz0 => first | assumption | exact ak); (case hz1 => with_unfolding_all rfl)) | refine FT ?_ | refine FW ?_ | refine lE ?_ | refine qK ?_ | refine kJ ?_ | refine lG ?_ | refine oO ?_)))
section
variable {P:Program} {w:World} {K:PySem.W.Frag} {mg:Str→Option Value} {base:Heap}
theorem tH:(["_law_place","_law_table","_law_at"]:List Str).Nodup:=by decide+kernel
theorem tK:(["_law_row"]:List Str).Nodup:=by decide+kernel
theorem BP:cC bQ "_law_turning_here":=by decide+kernel
theorem kz2z:bT bQ "_law_counts":=by decide+kernel
theorem Jv:Ce bQ "_law_table":=by decide+kernel
theorem kz31:bT bQ "sorted":=by decide+kernel
theorem kz32:bT bQ "list":=by decide+kernel
theorem Py:bT bQ "range":=by decide+kernel
theorem Jw:bT bQ "len":=by decide+kernel
theorem kz35:Ce bQ "_law_at":=by decide+kernel
theorem kz36:bT bQ "_law_is_square":=by decide+kernel
theorem Pz:cC fc "_law_table":=by decide+kernel
theorem kz38:bT fc "isinstance":=by decide+kernel
theorem kz39:bT fc "list":=by decide+kernel
theorem BR:cC aZ "_law_told":=by decide+kernel
theorem yx:cC aZ "_law_table":=by decide+kernel
theorem PB:bT aZ "isinstance":=by decide+kernel
theorem kz3d:bT aZ "list":=by decide+kernel
theorem kz3e:bT aZ "NoPlace":=by decide+kernel
theorem kz3f:bT aZ "NoTurning":=by decide+kernel
theorem kz3g:bT aZ "NoCounts":=by decide+kernel
theorem PJ:cC aZ "_law_due":=by decide+kernel
theorem kz3i:bT aZ "_law_list":=by decide+kernel
theorem PK:cC aZ "_law_found":=by decide+kernel
theorem Tt:cC aZ "_law_kept":=by decide+kernel
theorem kz3l:bT aZ "PaneError":=by decide+kernel
theorem Tu:cC aZ "e":=by decide+kernel
theorem kz3n:bT aZ "from_counts":=by decide+kernel
theorem kz3o:bT aZ "_law_copy":=by decide+kernel
theorem kz3p:bT aZ "_law_from":=by decide+kernel
def Jx (K:PySem.W.Frag):Sp:=fun vs H Q _=>∃ v,vs=[v]∧TabT H v∧(∀ n f,Sq H v n f→GP f n→∀ q H',H q=none→Same H H'→H' q=some (.lst ((tI f n).map V.int))→Q (.ref q) H')∧((∀ n f,Sq H v n f→¬ GP f n)→∀ H',Same H H'→Q .non H')
theorem lr {f f':Nat→List Int} {n:Nat} (hf:∀ k,k < n→f k=f' k):tI f' n=tI f n:=by
 unfold tI
 refine List.map_congr_left fun i hi=>?_
 have hi:=List.mem_range.mp hi
 unfold Cg
 rw [hf i (by omega),hf (i+1) (by omega)]
theorem lu:aO ["_law_table","_law_turning_here","_law_at"] ["_law_table"] (aq bQ):=⟨rfl,rfl,rfl,by decide+kernel,rfl,by decide+kernel,by decide+kernel⟩
theorem mH (T:Txt K mg):qu P w K mg base 3 "_law_from" ["_law_table"] (Jx K):=by
 have gG:=gG (P:=P) (w:=w) (base:=base) T
 have cA:=cA (P:=P) (w:=w) (base:=base) T
 refine iZ T.d_law_from lu (fun _ _ _ _ _ _ us hl=>L2.mL (fun _=>rfl) us hl) ?_ fun f cdv A outer s H vs Q E hr h=>?_
 ·rintro vs H Q E ⟨v,rfl,_⟩;rfl
 obtain ⟨v,rfl,hT,q1,q2⟩:=h
 have hu:=hr.units0
 have hu64:=hr.units
 refine ⟨_,(az (bj (bO (bI (aU gG (hr.mono (by decide)) (aW kz36) (aa (fP 0 Jv) aj) (by decide+kernel)))) (au (aL lR)) bC) (az (aQ (i:=1) lu.nd rfl (Or.inl BP) (bJ aj) rfl) (az (eY PassesOwn.never rfl (fH (aW Py) T.b_range (aa (bf oF (aC (aF (K:=K) rfl) (aW Jw) T.b_len bu (aa (fP 0 Jv) aj) (by decide+kernel) (by decide+kernel)) aA) aj)) (bF (i:=2) lu.nd rfl (Or.inr kz35) rfl) (au (cZ (iR (K:=K) rfl PySem.F.plainAttrs_list PySem.F.slot_list_append PySem.F.type_list_append dR (ao 1 BP) (aa (bf oF (aC (aF (K:=K) rfl) (aW Jw) T.b_len bu (aa (gf (sub:=[none,some 0,some 2]) (bU (N:=["_law_table","_law_turning_here","_law_at"]) (sc:=aq bQ) (N':=["_law_place","_law_table","_law_at"]) (by decide+kernel)) rfl rfl rfl (fH (aW Py) T.b_range (aa (aC (aF (K:=K) rfl) (aW Jw) T.b_len bu (aa (fP 0 Jv) aj) (by decide+kernel) (by decide+kernel)) aj)) (fun C s₀ H₀ ex=>(j8 0 (by decide+kernel) tH)) (fun C s₀ H₀ ex=>(ni (bh (d7 (K:=K) rfl hu64) (dw (K:=K) rfl (dw (K:=K) rfl (fG 1 (by decide+kernel)) (fG 2 (by decide+kernel))) (cJ 0 (by decide+kernel))) (dw (K:=K) rfl (dw (K:=K) rfl (fG 1 (by decide+kernel)) (bf aP (fG 2 (by decide+kernel)) aA)) (cJ 0 (by decide+kernel))) (by first | exact aV _ | with_unfolding_all rfl)))) (fun C s₀ H₀ ex=>(cJ 0 (by decide+kernel)))) aj) (by decide+kernel) (by decide+kernel)) aA) aj))))) (az (bj (ie (gJ (bh (il (K:=K) rfl hu64) (aC uW (aW kz31) T.b_sorted Aj (aa (ao 1 BP) aj) (by decide+kernel) (by decide+kernel)) (rK rfl (aW kz32) T.b_list (aW Py) T.b_range (aa (aC (aF (K:=K) rfl) (aW Jw) T.b_len bu (aa (ao 1 BP) aj) (by decide+kernel) (by decide+kernel)) aj)) (by first | exact aV _ | with_unfolding_all rfl)) (eV (bh (il (K:=K) rfl hu64) (aU cA (hr.mono (by decide)) (aW kz2z) (aa (ao 1 BP) aj) (by decide+kernel)) (fP 0 Jv) (by first | exact aV _ | with_unfolding_all rfl))))) (au (aL lR)) bC) (au (aL (ao 1 BP))))))),?_⟩
 walk_at "sts"
 have hs:20000≤sizeLine:=by decide
 refine ⟨v,rfl,hT,fun b H1 S1 hb=>?_⟩
 walk_at "sts"
 cases b with
 | false=>
  walk_at "sts"
  exact q2 (fun n f hq=>absurd (hb.mpr ⟨n,f,hq⟩) (by decide)) _ S1
 | true=>
  obtain ⟨n,f,hq⟩:=hb.mp rfl
  obtain ⟨tq,us,rfl,htq,hC,h1,h97,hlen⟩:=id hq
  have hul:us.length=n:=hC.1
  walk_at "sts"
  refine aR rfl fun tr H2 ntr S2 htr=>?_
  walk_at "sts"
  have U2:=S1.trans S2
  have ntr0:=Same.back S1 ntr
  refine bB (SqL.of (U2 _ _ htq)) ?_
  walk_at "sts"
  rw [hul]
  refine ⟨_,rfl,by omega,by omega,?_⟩
  rw [show ((n:Int) - 1).toNat=n - 1 by omega]
  refine oE (n:=n - 1) (fun i σ G=>Same H G∧G tr=some (.lst (((List.range i).map (Cg f n)).map V.int))∧∃ x2,σ=[some (.ref tq),some (.ref tr),x2]) ⟨U2,htr,_,rfl⟩ ?_ ?_
  ·rintro i σ G hi ⟨sG,hG,x2,rfl⟩
   rw [Int.zero_add]
   obtain ⟨a0,e0,ha0⟩:=hC.2 i (by omega)
   obtain ⟨a1,e1,ha1⟩:=hC.2 (i+1) (by omega)
   walk_at "sts"
   refine ⟨.inl ⟨rfl,_,SqL.of hG⟩,?_⟩
   walk_at "sts"
   refine bB (SqL.of (sG _ _ htq)) ?_
   walk_at "sts"
   rw [hul]
   refine ⟨_,rfl,by omega,by omega,?_⟩
   rw [show ((n:Int)).toNat=n by omega]
   refine lJ (n:=n) (fun j ys G'=>G'=G∧ys.length=(List.range j).countP fun e=>decide ((f i).getD e 0=(f (i+1)).getD e 0)) (by omega) ⟨rfl,by simp⟩ ?_ ?_ ?_
   ·rintro j ys G' ⟨_,h⟩
    rw [h];exact Nat.le_trans List.countP_le_length (by simp)
   ·rintro j ys G' hj ⟨rfl,hy⟩
    rw [Int.zero_add]
    have cs:=wX (P:=fun e=>decide ((f i).getD e 0=(f (i+1)).getD e 0)) (i:=j) ys.length hy
    walk_at "sts"
    refine ⟨KeepSt.set rfl,?_⟩
    walk_at "sts"
    refine bz (SqL.of (sG _ _ htq)) (bZ e0) ?_
    walk_at "sts"
    refine bz (SqL.of (sG _ _ ha0)) (sO (by rw [hlen i (by omega)];exact hj)) ?_
    walk_at "sts"
    refine bz (SqL.of (sG _ _ htq)) (v:=.ref a1) (by rw [show ((i:Int)+1)=((i+1:Nat):Int) by omega];exact bZ e1) ?_
    walk_at "sts"
    refine bz (SqL.of (sG _ _ ha1)) (sO (by rw [hlen (i+1) (by omega)];exact hj)) ?_
    walk_at "sts"
    rw [jf]
    refine Ov (fun h=>?_) fun h=>?_
    ·walk_at "sts"
     exact ⟨rfl,by rw [List.length_append,← cs.1 h];rfl⟩
    ·exact ⟨rfl,cs.2 h⟩
   rintro ys G1 D G2 ⟨rfl,hy⟩ nD s2 hD
   try walk_at "sts"
   refine bB (SqL.of hD) ?_
   walk_at "sts"
   rw [hy]
   refine d9 (s2 _ _ hG) (by simp;omega) ?_
   walk_at "sts"
   exact ⟨Same.put (sG.trans s2) ntr0,by rw [ak];exact congrArg (fun z=>some (HO.lst z)) (zL f n i),_,rfl⟩
  rintro σ H3 ⟨S3,htr3,x2,rfl⟩
  replace htr3:H3 tr=some (.lst ((tI f n).map V.int)):=htr3
  have tl0:=sI f n
  walk_at "sts"
  refine Jd (.inl htr3) (by omega) fun so ms H4 _ S4 hso hp hs'=>?_
  walk_at "sts"
  refine bB (SqL.of (S4 _ _ htr3)) ?_
  walk_at "sts"
  rw [List.length_map]
  refine zp (n:=(tI f n).length) (by omega) ?_
  walk_at "sts"
  intro rg nrg
  rw [Gg]
  have S5:=S4.upd nrg (o:=.lst ((nI (List.range (tI f n).length)).map V.int))
  have hso5:=dU nrg hso (o:=.lst ((nI (List.range (tI f n).length)).map V.int))
  have hrg:=ak (H:=H4) (a:=rg) (o:=.lst ((nI (List.range (tI f n).length)).map V.int))
  generalize upd H4 rg (.lst ((nI (List.range (tI f n).length)).map V.int))=H5 at S5 hso5 hrg ⊢
  walk_at "sts"
  refine .inl (.inl (.inl (.inr ⟨so,rg,ms,_,rfl,rfl,SqL.of hso5,SqL.of hrg,?_⟩)))
  rw [← BK (by omega) hp hs']
  have U5:=S3.trans S5
  cases hb:vg ((tI f n).map V.int) with
  | false=>
   walk_at "sts"
   refine q2 (fun n' f' hq' ho=>?_) _ U5
   obtain ⟨rfl,hf⟩:=hq.un hq'
   rw [GP,lr hf,hb] at ho
   cases ho.1
  | true=>
   obtain ⟨hP,eN⟩:=yr hb
   have tl:((tI f n).map Int.toNat).length+1=n:=by rw [List.length_map,sI];omega
   have htr5:=S5 _ _ htr3
   walk_at "sts"
   refine ⟨tr,(tI f n).map Int.toNat,rfl,by rw [← eN];exact htr5,hP.le,fun cq rs H6 _ S6 hcq hR=>?_⟩
   walk_at "sts"
   rw [tl] at hR
   have U6:=U5.trans S6
   refine .inl (.inl (v5 (hR.dr hcq) ((hC.same U6).dr (U6 _ _ htq)) (gD _ _) (gD _ _) ?_))
   cases he:PyData.eqv (o7 n (cB ((tI f n).map Int.toNat))) (o7 n f) with
   | true=>
    walk_at "sts"
    exact q1 n f hq ⟨hb,qN.mp he⟩ tr H6 ntr0 U6 (S6 _ _ htr5)
   | false=>
    walk_at "sts"
    refine q2 (fun n' f' hq' ho=>?_) _ U6
    obtain ⟨rfl,hf⟩:=hq.un hq'
    have:PyData.eqv (o7 n (cB ((tI f n).map Int.toNat))) (o7 n f)=true:=qN.mpr fun k hk=>by
     rw [hf k hk,← ho.2 k hk,lr hf]
    rw [he] at this;cases this
def Cpy (K:PySem.W.Frag) (H:Hp) (v v':V):Prop:=∀ H',Same H H'→∀ Q:VK,Q (.bl false) H'→Ot K v v' H' Q
theorem lw {H:Hp} {d:PyData} {v:V} (h:DR H d v):∀ {ds:List PyData} {vs:List V},DRs H ds vs→DRs H (ds ++ [d]) (vs ++ [v])
 | [],_,h'=>by rw [jr.mp h'];exact jb.mpr ⟨v,[],rfl,h,jr.mpr rfl⟩
 | e :: ds,_,h'=>by
  obtain ⟨u,us,rfl,h1,h2⟩:=jb.mp h'
  exact jb.mpr ⟨u,_,rfl,h1,lw h h2⟩
def Tz (K:PySem.W.Frag):Sp:=fun vs H Q _=>∃ v,vs=[v]∧TabT H v∧∀ v' H',Same H H'→Cpy K H' v v'→Q v' H'
theorem wY:aO ["_law_table"] ["_law_table"] (aq fc):=⟨rfl,rfl,rfl,by decide+kernel,rfl,by decide+kernel,by decide+kernel⟩
theorem mJ (T:Txt K mg):qu P w K mg base 1 "_law_copy" ["_law_table"] (Tz K):=by
 refine iZ T.d_law_copy wY (fun _ _ _ _ _ _ us hl=>L2.mL (fun _=>rfl) us hl) ?_ fun f cdv A outer s H vs Q E hr h=>?_
 ·rintro vs H Q E ⟨v,rfl,_⟩;rfl
 obtain ⟨v,rfl,hT,q⟩:=h
 have hu:=hr.units0
 have hu64:=hr.units
 refine ⟨_,(az (bj (bO (bI (aC (bN (K:=K) rfl) (aW kz38) T.b_isinstance aK (aa (ao 0 Pz) (aa (j7 (aW kz39) T.b_list cF (by decide+kernel) (by decide+kernel)) aj)) (by decide+kernel) (by decide+kernel)))) (au (aL (ao 0 Pz))) bC) (au (aL (gf (sub:=[none]) (bU (N:=["_law_table"]) (sc:=aq fc) (N':=["_law_row"]) (by decide+kernel)) rfl rfl rfl (dz (K:=K) rfl (ao 0 Pz)) (fun C s₀ H₀ ex=>(j8 0 (by decide+kernel) tK)) (fun C s₀ H₀ ex=>eQ) (fun C s₀ H₀ ex=>(Rb (bI (aC (bN (K:=K) rfl) (M9 (by decide+kernel)) T.b_isinstance aK (aa (cJ 0 (by decide+kernel)) (aa (j7 (M9 (by decide+kernel)) T.b_list cF (by decide+kernel) (by decide+kernel)) aj)) (by decide+kernel) (by decide+kernel))) (gK (gO (K:=K) rfl) (cJ 0 (by decide+kernel)) gm gm) (cJ 0 (by decide+kernel)))))))),?_⟩
 walk_at "sts"
 have hs:20000≤sizeLine:=by decide
 rcases hT.look (K:=K) with ⟨tq,us,rfl,htq,hl,hu⟩ | ⟨⟨Tv,ty,k⟩,no⟩
 rotate_left
 ·refine cj ty k ?_
  walk_at "sts"
  refine q v H (Same.refl H) fun H' s Q hQ=>?_
  rcases hT with ⟨tq,us,rfl,htq,hl,hu⟩ | h | ⟨d,rfl,hd⟩
  ·rcases htq with h | h
   ·exfalso
    generalize e:(Value.type Tv)=t at ty
    cases ty with
    | lst z=>cases e;cases k
    | frz z=>rw [h] at z;cases z
    | tup z=>rw [h] at z;cases z
    | dK z=>rw [h] at z;cases z
    | dT z=>rw [h] at z;cases z
    | ins=>cases e
   ·refine .inr ⟨tq,tq,us,rfl,rfl,SqT.of (s _ _ h),SqT.of (s _ _ h),fun u h'=>?_,hQ⟩
    rcases hu u h' with ⟨a,ws,rfl,_⟩ | ⟨n,rfl⟩
    ·exact .inr ⟨_,rfl⟩
    ·exact .inl rfl
  ·refine .inl (.inl (.inl (.inl ⟨?_,by rw [decide_eq_true rfl];exact hQ⟩)))
   rcases h with rfl | ⟨z,rfl⟩ | ⟨m,rfl⟩ <;> rfl
  ·exact .inl (.inr ⟨d,[],rfl,rfl,s _ _ hd,by simp,hQ⟩)
 refine cj (.lst htq) (b:=true) (by rfl) ?_
 walk_at "sts"
 refine .inl ⟨tq,rfl,⟨_,SqL.of htq⟩,?_⟩
 refine cT (xs:=us) (fun i ys G=>Same H G∧ys.length=i∧∃ ds,DRs G ds (us.take i)∧DRs G ds ys∧∀ d∈ds,d.canLay0=true∧d.depth≤1) (by omega) ⟨Same.refl H,rfl,[],jr.mpr rfl,jr.mpr rfl,fun d hd=>nomatch hd⟩ ?_ ?_ ?_ ?_
 ·rintro i ys G ⟨_,h,_⟩
  omega
 ·rintro i ys G ⟨s,_⟩
  exact SqL.of (s _ _ htq)
 ·rintro i ys G u hui ⟨sG,hy,ds,h1,h2,h3⟩
  have hmem:=List.mem_of_getElem? hui
  have tk:us.take (i+1)=us.take i ++ [u]:=by rw [List.take_add_one,hui];rfl
  rw [tk]
  have hRG:=(hu u hmem).same sG
  walk_at "sts"
  refine ⟨KeepSt.set rfl,?_⟩
  walk_at "sts"
  rcases hRG.look (K:=K) with ⟨a,ws,rfl,ha,hwl,hw⟩ | ⟨Tv,ty,k⟩
  ·skip
   refine cj (.lst ha) (b:=true) (by rfl) ?_
   walk_at "sts"
   refine jE ha fun sl G2 nsl s2 hsl=>?_
   walk_at "sts"
   rw [By] at hsl
   have dl:(PyData.list (ws.map dF)).canLay0=true∧(PyData.list (ws.map dF)).depth≤1:=kI (n:=0) fun d hd=>by
    obtain ⟨w,hw',rfl⟩:=List.mem_map.mp hd
    exact ((hw w hw').dr (H:=H)).2
   refine ⟨sG.trans s2,by simp;omega,ds ++ [.list (ws.map dF)],lw (jq.mpr ⟨a,ws,rfl,s2 _ _ ha,lg hw⟩) (DRs.same s2 _ _ h1),lw (jq.mpr ⟨sl,ws,rfl,hsl,lg hw⟩) (DRs.same s2 _ _ h2),fun d hd=>?_⟩
   rcases List.mem_append.mp hd with h | h
   ·exact h3 d h
   ·rw [List.mem_singleton.mp h];exact dl
  ·skip
   refine cj ty k ?_
   walk_at "sts"
   obtain ⟨d,hd,hl'⟩:=hRG.dr
   refine ⟨sG,by simp;omega,ds ++ [d],lw hd h1,lw hd h2,fun d' hd'=>?_⟩
   rcases List.mem_append.mp hd' with h | h
   ·exact h3 d' h
   ·rw [List.mem_singleton.mp h];exact hl'
 rintro ys G D G2 ⟨sG,hy,ds,h1,h2,h3⟩ nD s2 hD
 rw [List.take_length] at h1
 try walk_at "sts"
 refine q _ G2 (sG.trans s2) fun H' s Q hQ=>?_
 have s3:=s2.trans s
 exact .inl (.inl (v4 (d:=.list ds) (jq.mpr ⟨tq,us,rfl,s _ _ (s2 _ _ (sG _ _ htq)),DRs.same s3 _ _ h1⟩) (jq.mpr ⟨D,ys,rfl,s _ _ hD,DRs.same s3 _ _ h2⟩) (rH (n:=2) (kI (n:=1) h3) (by omega)) hQ))
def PL (K:PySem.W.Frag):Sp:=fun vs H Q _=>∃ (v:V) (H0:Hp),vs=[v]∧Same H0 H∧TabT H v∧(∀ q us,v= .ref q→H q=some (.lst us)→H0 q=none)∧∀ H',Same H0 H'→Q (.bl true) H'
theorem cY:aO ["_law_table","_law_due","_law_kept","_law_found","_law_told","e"] ["_law_table"] (aq aZ):=⟨rfl,rfl,rfl,by decide+kernel,rfl,by decide+kernel,by decide+kernel⟩
theorem fu (T:Txt K mg):qu P w K mg base 7 "_law_read" ["_law_table"] (PL K):=by
 have mH:=mH (P:=P) (w:=w) (base:=base) T
 have mJ:=mJ (P:=P) (w:=w) (base:=base) T
 have dj:=dj (P:=P) (w:=w) (base:=base) T
 have fj:=fj (P:=P) (w:=w) (base:=base) T
 refine iZ T.d_law_read cY (fun _ _ _ _ _ _ us hl=>L2.mL (fun _=>rfl) us hl) ?_ fun f cdv A outer s H vs Q E hr h=>?_
 ·rintro vs H Q E ⟨v,H0,rfl,_⟩;rfl
 obtain ⟨v,H0,rfl,S0,hT,hN,q⟩:=h
 have hu:=hr.units0
 have hu64:=hr.units
 refine ⟨_,(az (aQ (i:=1) cY.nd rfl (Or.inl PJ) (aU mH (hr.mono (by decide)) (aW kz3p) (aa (ao 0 yx) aj) (by decide+kernel)) rfl) (az (aQ (i:=2) cY.nd rfl (Or.inl Tt) (aU mJ (hr.mono (by decide)) (aW kz3o) (aa (ao 0 yx) aj) (by decide+kernel)) rfl) (az (aQ (i:=3) cY.nd rfl (Or.inl PK) lR rfl) (az (aQ (i:=4) cY.nd rfl (Or.inl BR) lR rfl) (az (EY rfl rfl (fun pins R=>(au (aQ (i:=3) cY.nd rfl (Or.inl PK) (gn dj (hr.mono (by decide)) (aW kz3n) wj (aa (ao 0 yx) aj) (by decide+kernel)) rfl))) (Ez (K:=K) (i:=5) rfl T.x_PaneError (aW kz3l) (by decide+kernel) cY.nd rfl Tu (fun x=>(au (aQ (i:=4) cY.nd rfl (Or.inl BR) (ao 5 Tu) rfl))) Ey)) (az (bj (bh (il (K:=K) rfl hu64) (ao 0 yx) (ao 2 Tt) (by first | exact aV _ | with_unfolding_all rfl)) (au (aL gw)) bC) (az (bj (bh Bc (ao 1 PJ) lR (by first | exact aV _ | with_unfolding_all rfl)) (au (aL (pW (um Oc (ao 4 BR) lR (by first | exact aV _ | with_unfolding_all rfl)) (uo (aU fj (hr.mono (by decide)) (aW kz3i) (aa (ao 3 PK) (aa (ao 1 PJ) aj)) (by decide+kernel)))))) bC) (az (bj (ie (gJ (bO (bI (aC (oN (K:=K) rfl) (aW PB) T.b_isinstance aK (aa (ao 4 BR) (aa (Ex (aW kz3g) T.x_NoCounts.c.at_ (by decide+kernel)) aj)) (by decide+kernel) (by decide+kernel)))) (eV (bI (aC (oN (K:=K) rfl) (aW PB) T.b_isinstance aK (aa (ao 4 BR) (aa (m9 (aa (Ex (aW kz3f) T.x_NoTurning.c.at_ (by decide+kernel)) (aa (Ex (aW kz3e) T.x_NoPlace.c.at_ (by decide+kernel)) aj))) aj)) (by decide+kernel) (by decide+kernel)))))) (au (aL gw)) bC) (az (bj (bI (aC (bN (K:=K) rfl) (aW PB) T.b_isinstance aK (aa (ao 0 yx) (aa (j7 (aW kz3d) T.b_list cF (by decide+kernel) (by decide+kernel)) aj)) (by decide+kernel) (by decide+kernel))) (au (cZ (iR (K:=K) rfl PySem.F.plainAttrs_list PySem.F.slot_list_append PySem.F.type_list_append dR (ao 0 yx) (aa aA aj)))) bC) (au (aL (um (d7 (K:=K) rfl hu64) (xW (K:=K) rfl (ao 4 BR)) (ao 0 yx) (by first | exact aV _ | with_unfolding_all rfl))))))))))))),?_⟩
 walk_at "sts"
 have hs:20000≤sizeLine:=by decide
 by_cases hok:∃ n f,Sq H v n f∧GP f n
 ·obtain ⟨n,f,hq,ho⟩:=hok
  have eqs:∀ n' f',Sq H v n' f'→tI f' n'=tI f n:=fun n' f' h'=>by
   obtain ⟨rfl,hf⟩:=hq.un h'
   exact lr hf
  refine ⟨v,rfl,hT,fun n' f' hq' _ dq H1 _ S1 hdq=>?_,(fun h=>absurd ho (h n f hq))⟩
  walk_at "sts"
  rw [eqs n' f' hq'] at hdq
  refine ⟨v,rfl,hT.same S1,fun v' H2 S2 hc=>?_⟩
  walk_at "sts"
  have U2:=S1.trans S2
  refine ⟨v,rfl,hT.same U2,fun n2 f2 hq2 _ fq H3 _ S3 hfq=>?_,(fun h=>absurd ho (h n f (hq.same U2)))⟩
  walk_at "sts"
  obtain ⟨rfl,hf2⟩:=(hq.same U2).un hq2
  rw [lr hf2] at hfq
  have U3:=U2.trans S3
  refine hc H3 S3 _ ?_
  walk_at "sts"
  rw [decide_eq_false (fun h=>by cases h)]
  walk_at "sts"
  rw [decide_eq_true rfl]
  walk_at "sts"
  obtain ⟨hP,eN⟩:=yr ho.1
  have hl:=sI f n
  obtain ⟨_,_,_,_,_,_,h97,_⟩:=id hq
  refine ⟨fq,dq,(tI f n).map Int.toNat,rfl,by rw [← eN];exact hfq,by rw [← eN];exact S3 _ _ (S2 _ _ hdq),by rw [List.length_map];omega,fun H4 S4=>?_⟩
  walk_at "sts"
  exact q _ (S0.trans (U3.trans S4))
 ·have hno:∀ n f,Sq H v n f→¬ GP f n:=fun n f h1 h2=>hok ⟨n,f,h1,h2⟩
  refine ⟨v,rfl,hT,(fun n f h1 h2=>absurd h2 (hno n f h1)),fun _ H1 S1=>?_⟩
  walk_at "sts"
  refine ⟨v,rfl,hT.same S1,fun v' H2 S2 hc=>?_⟩
  walk_at "sts"
  have U2:=S1.trans S2
  have hno2:∀ n f,Sq H2 v n f→¬ GP f n:=fun n f h1 h2=>by
   obtain ⟨tq,us,e,htq,hC,h1',h97,hlen⟩:=h1
   subst e
   rcases hT with ⟨tq',us',e,htq',_,hu⟩ | h | ⟨d,e,hd⟩
   ·cases e
    rcases htq' with h' | h'
    ·have:us'=us:=by
      have:=U2 _ _ h'
      rw [htq] at this
      injection this with z;injection z with z;exact z.symm
     subst this
     refine hno n f ⟨tq,us',rfl,h',⟨hC.1,fun k hk=>?_⟩,h1',h97,hlen⟩ h2
     obtain ⟨a,e1,ha⟩:=hC.2 k hk
     refine ⟨a,e1,?_⟩
     rcases hu _ (List.mem_of_getElem? e1) with ⟨a',ws,e,ha',_⟩ | ⟨m,e⟩
     ·cases e
      rcases ha' with z | z
      ·rw [z];rw [U2 _ _ z] at ha;exact ha
      ·rw [U2 _ _ z] at ha;cases ha
     ·cases e
    ·rw [U2 _ _ h'] at htq;cases htq
   ·rcases h with h | ⟨z,h⟩ | ⟨m,h⟩ <;> cases h
   ·cases e
    rw [U2 _ _ hd] at htq;cases htq
  refine ⟨v,rfl,hT.same U2,(fun n f h1 h2=>absurd h2 (hno2 n f h1)),fun _ e H3 S3 X3=>⟨_,e,rfl,rfl,?_⟩⟩
  walk_at "sts"
  refine zg T.x_NoCounts.c.cl.cls T.u_NoCounts_PaneError.mro ?_
  walk_at "sts"
  refine hc H3 S3 _ ?_
  walk_at "sts"
  rw [decide_eq_true rfl]
  walk_at "sts"
  refine N8 X3 T.x_NoCounts.c.cl rfl T.u_NoCounts_NoCounts.one ?_
  walk_at "sts"
  refine aR rfl fun p H4 np S4 hp=>?_
  walk_at "sts"
  have X4:=X3.same S4
  refine Ik X4 T.x_NoCounts.c.cl hp rfl (b:=false) (by simp only [PySem.W.kitAny,T.u_NoCounts_NoTurning.one,T.u_NoCounts_NoPlace.one]) ?_
  walk_at "sts"
  have U4:=U2.trans (S3.trans S4)
  rcases hT with ⟨tq,us,rfl,htq,hl,hu⟩ | h | ⟨d,rfl,hd⟩
  ·have fr:∀ u∈us,dZ u=true∨∃ r,u=V.ref r:=fun u h'=>by
    rcases hu u h' with ⟨a,ws,rfl,_⟩ | ⟨n,rfl⟩
    ·exact .inr ⟨_,rfl⟩
    ·exact .inl rfl
   rcases htq with htq | htq
   ·have ha:=U4 _ _ htq
    refine cj (.lst ha) (b:=true) (by rfl) ?_
    walk_at "sts"
    refine ⟨.inl ⟨rfl,_,SqL.of ha⟩,?_⟩
    walk_at "sts"
    refine d9 ha (by omega) ?_
    walk_at "sts"
    have X5:IsX (upd H4 tq (.lst (us ++ [.int 7]))) e (dB mg "NoCounts") [("found",.ref tq)]:=by
     obtain ⟨d,h1,h2⟩:=X4
     exact ⟨d,by rw [aB (fun z=>by rw [z,ha] at h1;cases h1)];exact h1,by rw [aB (fun z=>by rw [z,ha] at h2;cases h2)];exact h2⟩
    refine ⟨e,_,_,_,rfl,X5,T.x_NoCounts.c.cl.cls,T.x_NoCounts.na _ (by simp),rfl,?_⟩
    walk_at "sts"
    refine OD ak ak (fun u h=>?_) ?_
    ·rcases List.mem_append.mp h with h | h
     ·exact fr u h
     ·rw [List.mem_singleton.mp h];exact .inl rfl
    exact q _ (Same.put (S0.trans U4) (hN tq us rfl htq))
   ·have ha:=U4 _ _ htq
    refine cj (.tup ha) (b:=false) (by rfl) ?_
    walk_at "sts"
    refine ⟨e,_,_,_,rfl,X4,T.x_NoCounts.c.cl.cls,T.x_NoCounts.na _ (by simp),rfl,?_⟩
    walk_at "sts"
    refine uX ha ha fr ?_
    exact q _ (S0.trans U4)
  ·have fl:dZ v=true:=by rcases h with rfl | ⟨z,rfl⟩ | ⟨n,rfl⟩ <;> rfl
   obtain ⟨T1,k1,k2⟩:∃ T1,TyOf K H4 v (.type T1)∧PySem.W.kitOne K (.type T1) (.type "list")=some false:=by
    rcases h with rfl | ⟨z,rfl⟩ | ⟨n,rfl⟩
    ·exact ⟨"NoneType",.non,rfl⟩
    ·exact ⟨"str",.str _,rfl⟩
    ·exact ⟨"int",.int _,rfl⟩
   refine cj k1 k2 ?_
   walk_at "sts"
   refine ⟨e,_,_,_,rfl,X4,T.x_NoCounts.c.cl.cls,T.x_NoCounts.na _ (by simp),rfl,?_⟩
   walk_at "sts"
   refine Oz fl ?_
   exact q _ (S0.trans U4)
  ·replace hd:=U4 _ _ hd
   refine cj (.dK hd) (b:=false) (by rfl) ?_
   walk_at "sts"
   refine ⟨e,_,_,_,rfl,X4,T.x_NoCounts.c.cl.cls,T.x_NoCounts.na _ (by simp),rfl,?_⟩
   walk_at "sts"
   refine OJ hd ?_
   exact q _ (S0.trans U4)
end
section
variable {P:Program} {w:World} {K:PySem.W.Frag} {mg:Str→Option Value} {base:Heap}
theorem TF:bT aY "isinstance":=by decide+kernel
theorem TJ:bT aY "bool":=by decide+kernel
theorem Gu:cC aY "_law_told":=by decide+kernel
theorem TQ:cC aY "_law_due":=by decide+kernel
theorem kz3u:bT aY "NoPlace":=by decide+kernel
theorem Jy:cC aY "e":=by decide+kernel
theorem kz3w:bT aY "NoTurning":=by decide+kernel
theorem kz3x:bT aY "counted":=by decide+kernel
theorem kz3y:cC aY "_law_end":=by decide+kernel
theorem kz3z:cC aY "_law_begin":=by decide+kernel
theorem kz40:cC aY "_law_turning_here":=by decide+kernel
theorem Jz:bT bM "_law_refused":=by decide+kernel
theorem PN:cC bM "_law_odd":=by decide+kernel
theorem Gv:cC bM "_law_other":=by decide+kernel
theorem BV:cC bM "_law_one":=by decide+kernel
theorem Gw:cC bM "_law_turning_here":=by decide+kernel
theorem Gx:cC bM "_law_many_here":=by decide+kernel
theorem PP:cC bM "_law_bads":=by decide+kernel
theorem TV:cC bM "_law_cell_here":=by decide+kernel
theorem kz49:bT bM "len":=by decide+kernel
def Wt (K:PySem.W.Frag) (H:Hp) (w:V):Prop:=(dZ w=true∨∃ r,w= .ref r)∧∃ T b,TyOf K H w (.type T)∧PySem.W.kitOne K (.type T) (.type "bool")=some b
theorem Wt.same {H H':Hp} {w:V} (h:Wt K H w) (s:Same H H'):Wt K H' w:=by
 obtain ⟨h1,T,b,ty,k⟩:=h
 exact ⟨h1,T,b,ty.mono fun b o e _=>s b o e,k⟩
def Rsn (K:PySem.W.Frag) (H:Hp) (v x y:V) (kd:Str) (w:V):Prop:=(RP K H v false∧kd=Str.ofString "turning"∧w=v)∨∃ a t,v= .ref a∧Tn H a t∧Prm t∧kd=Str.ofString "place"∧((inB x 0 (t.length:Int)=false∧w=x)∨(inB x 0 (t.length:Int)=true∧inB y 0 (t.length:Int)=false∧w=y))
def TX (K:PySem.W.Frag):Sp:=fun vs H Q _=>∃ (v x y w:V) (dq:Addr) (kd:Str),vs=[v,x,y,.ref dq]∧H dq=some (.tup [.str kd,w])∧Kd K H x∧Kd K H y∧Rsn K H v x y kd w∧Wt K H w∧∀ H',Same H H'→Q (.bl true) H'
theorem cW:aO ["_law_turning_here","_law_begin","_law_end","_law_due","_law_told","e"] ["_law_turning_here","_law_begin","_law_end","_law_due"] (aq aY):=⟨rfl,rfl,rfl,by decide+kernel,rfl,by decide+kernel,by decide+kernel⟩
theorem dm (T:Txt K mg):qu P w K mg base 6 "_law_refused" ["_law_turning_here","_law_begin","_law_end","_law_due"] (TX K):=by
 have gR:=gR (P:=P) (w:=w) (base:=base) T
 refine iZ T.d_law_refused cW (fun _ _ _ _ _ _ us hl=>L2.usN4 (fun _ _ _ _=>rfl) us hl) ?_ fun f cdv A outer s H vs Q E hr h=>?_
 ·rintro vs H Q E ⟨v,x,y,w,dq,kd,rfl,_⟩;rfl
 obtain ⟨v,x,y,w,dq,kd,rfl,hdq,kx,ky,hR,hw,q⟩:=h
 have hu:=hr.units0
 have hu64:=hr.units
 refine ⟨_,(az (aQ (i:=4) cW.nd rfl (Or.inl Gu) lR rfl) (az (EY rfl rfl (fun pins R=>(au (cZ (gn gR (hr.mono (by decide)) (aW kz3x) wj (aa (ao 0 kz40) (aa (ao 1 kz3z) (aa (ao 2 kz3y) aj))) (by decide+kernel))))) (Ez (K:=K) (i:=5) rfl T.x_NoTurning.c (aW kz3w) (by decide+kernel) cW.nd rfl Jy (fun x=>(au (aQ (i:=4) cW.nd rfl (Or.inl Gu) (m9 (aa m8 (aa (xW (K:=K) rfl (ao 5 Jy)) aj))) rfl))) (Ez (K:=K) (i:=5) rfl T.x_NoPlace.c (aW kz3u) (by decide+kernel) cW.nd rfl Jy (fun x=>(au (aQ (i:=4) cW.nd rfl (Or.inl Gu) (m9 (aa m8 (aa (xW (K:=K) rfl (ao 5 Jy)) aj))) rfl))) Ey))) (au (aL (pW (um (d7 (K:=K) rfl hu64) (ao 4 Gu) (ao 3 TQ) (by first | exact aV _ | with_unfolding_all rfl)) (uo (um (d7 (K:=K) rfl hu64) (aC (bN (K:=K) rfl) (aW TF) T.b_isinstance aK (aa (dw (K:=K) rfl (ao 4 Gu) aA) (aa (j7 (aW TJ) T.b_bool qC (by decide+kernel) (by decide+kernel)) aj)) (by decide+kernel) (by decide+kernel)) (aC (bN (K:=K) rfl) (aW TF) T.b_isinstance aK (aa (dw (K:=K) rfl (ao 3 TQ) aA) (aa (j7 (aW TJ) T.b_bool qC (by decide+kernel) (by decide+kernel)) aj)) (by decide+kernel) (by decide+kernel)) (by first | exact aV _ | with_unfolding_all rfl)))))))),?_⟩
 walk_at "sts"
 have hs:20000≤sizeLine:=by decide
 have eqf:∀ u∈([.str kd,w]:List V),dZ u=true∨∃ r,u=V.ref r:=fun u hu=>by
  simp only [List.mem_cons,List.mem_nil_iff,or_false] at hu
  rcases hu with rfl | rfl
  ·exact .inl rfl
  ·exact hw.1
 rcases hR with ⟨hk,rfl,rfl⟩ | ⟨a,t,rfl,ha,hP,rfl,h⟩
 ·refine ⟨w,x,y,rfl,kx,ky,.inl ⟨hk,fun e H1 S1 X1=>⟨_,e,rfl,rfl,?_⟩⟩⟩
  refine zg T.x_NoTurning.c.cl.cls T.u_NoTurning_NoTurning.mro ?_
  walk_at "sts"
  refine ⟨e,_,_,w,rfl,X1,T.x_NoTurning.c.cl.cls,T.x_NoTurning.na _ (by simp),rfl,?_⟩
  walk_at "sts"
  refine aR rfl fun p H2 np S2 hp=>?_
  walk_at "sts"
  have U2:=S1.trans S2
  have hdq2:=U2 _ _ hdq
  obtain ⟨_,Tw,bw,ty,kb⟩:=hw.same U2
  refine uX hp hdq2 eqf ?_
  walk_at "sts"
  refine cj ty kb ?_
  walk_at "sts"
  refine cj ty kb ?_
  walk_at "sts"
  rw [decide_eq_true rfl]
  exact q _ U2
 ·refine ⟨_,x,y,rfl,kx,ky,.inr ⟨a,t,rfl,ha,hP,?_⟩⟩
  rcases h with ⟨hx,rfl⟩ | ⟨hx,hy,rfl⟩
  ·refine .inl ⟨hx,fun e H1 S1 X1=>⟨_,e,rfl,rfl,?_⟩⟩
   refine Ks T.x_NoPlace.c.cl.cls T.u_NoPlace_NoTurning.mro ?_
   refine zg T.x_NoPlace.c.cl.cls T.u_NoPlace_NoPlace.mro ?_
   walk_at "sts"
   refine ⟨e,_,_,w,rfl,X1,T.x_NoPlace.c.cl.cls,T.x_NoPlace.na _ (by simp),rfl,?_⟩
   walk_at "sts"
   refine aR rfl fun p H2 np S2 hp=>?_
   walk_at "sts"
   have U2:=S1.trans S2
   have hdq2:=U2 _ _ hdq
   obtain ⟨_,Tw,bw,ty,kb⟩:=hw.same U2
   refine uX hp hdq2 eqf ?_
   walk_at "sts"
   refine cj ty kb ?_
   walk_at "sts"
   refine cj ty kb ?_
   walk_at "sts"
   rw [decide_eq_true rfl]
   exact q _ U2
  ·refine .inr (.inl ⟨hx,hy,fun e H1 S1 X1=>⟨_,e,rfl,rfl,?_⟩⟩)
   refine Ks T.x_NoPlace.c.cl.cls T.u_NoPlace_NoTurning.mro ?_
   refine zg T.x_NoPlace.c.cl.cls T.u_NoPlace_NoPlace.mro ?_
   walk_at "sts"
   refine ⟨e,_,_,w,rfl,X1,T.x_NoPlace.c.cl.cls,T.x_NoPlace.na _ (by simp),rfl,?_⟩
   walk_at "sts"
   refine aR rfl fun p H2 np S2 hp=>?_
   walk_at "sts"
   have U2:=S1.trans S2
   have hdq2:=U2 _ _ hdq
   obtain ⟨_,Tw,bw,ty,kb⟩:=hw.same U2
   refine uX hp hdq2 eqf ?_
   walk_at "sts"
   refine cj ty kb ?_
   walk_at "sts"
   refine cj ty kb ?_
   walk_at "sts"
   rw [decide_eq_true rfl]
   exact q _ U2
def PQ (K:PySem.W.Frag):Sp:=fun vs H Q _=>∃ (a:Addr) (t:List Nat) (c:Int),vs=[.ref a,.int c]∧H a=some (.lst ((nI t).map V.int))∧Prm t∧∀ H',Same H H'→Q (.bl true) H'
theorem dY:aO ["_law_turning_here","_law_cell_here","_law_many_here","_law_bads","_law_one","_law_other","_law_odd"] ["_law_turning_here","_law_cell_here"] (aq bM):=⟨rfl,rfl,rfl,by decide+kernel,rfl,by decide+kernel,by decide+kernel⟩
theorem lz (T:Txt K mg):qu P w K mg base 7 "_law_doors" ["_law_turning_here","_law_cell_here"] (PQ K):=by
 have dm:=dm (P:=P) (w:=w) (base:=base) T
 refine iZ T.d_law_doors dY (fun _ _ _ _ _ _ us hl=>L2.qP (fun _ _=>rfl) us hl) ?_ fun f cdv A outer s H vs Q E hr h=>?_
 ·rintro vs H Q E ⟨a,t,c,rfl,_⟩;rfl
 obtain ⟨a,t,c,rfl,ha,hP,q⟩:=h
 have hu:=hr.units0
 have hu64:=hr.units
 refine ⟨_,(az (aQ (i:=2) dY.nd rfl (Or.inl Gx) (aC (aF (K:=K) rfl) (aW kz49) T.b_len bu (aa (ao 0 Gw) aj) (by decide+kernel) (by decide+kernel)) rfl) (az (aQ (i:=3) dY.nd rfl (Or.inl PP) (bJ (aa (bf aP (ao 2 Gx) aA) (aa (xO lX aA) (aa lR (aa gw (aa m8 (aa (bJ (aa aA aj)) (aa (bf aP (bf aP (ao 2 Gx) aA) (bf xj aA aA)) aj)))))))) rfl) (az (aQ (i:=4) dY.nd rfl (Or.inl BV) (dw (K:=K) rfl (ao 3 PP) (bf eU (ao 1 TV) aA)) rfl) (az (aQ (i:=5) dY.nd rfl (Or.inl Gv) (dw (K:=K) rfl (ao 3 PP) (bf eU (bf rM (ao 1 TV) aA) aA)) rfl) (az (bj (ie (gJ (bO (bI (aU dm (hr.mono (by decide)) (aW Jz) (aa (ao 0 Gw) (aa (ao 4 BV) (aa (ao 5 Gv) (aa (m9 (aa m8 (aa (ao 4 BV) aj))) aj)))) (by decide+kernel)))) (eV (bO (bI (aU dm (hr.mono (by decide)) (aW Jz) (aa (ao 0 Gw) (aa (ao 2 Gx) (aa (ao 4 BV) (aa (m9 (aa m8 (aa (ao 4 BV) aj))) aj)))) (by decide+kernel))))))) (au (aL gw)) bC) (az (bj (bO (bI (aU dm (hr.mono (by decide)) (aW Jz) (aa (ao 0 Gw) (aa (ao 5 Gv) (aa aA (aa (m9 (aa m8 (aa (ao 5 Gv) aj))) aj)))) (by decide+kernel)))) (au (aL gw)) bC) (az (aQ (i:=6) dY.nd rfl (Or.inl PN) (bf aP (ao 0 Gw) (bJ (aa (bf aP (ao 2 Gx) aA) aj))) rfl) (au (aL (aU dm (hr.mono (by decide)) (aW Jz) (aa (ao 6 PN) (aa (ao 4 BV) (aa (ao 5 Gv) (aa (m9 (aa m8 (aa (ao 6 PN) aj))) aj)))) (by decide+kernel))))))))))),?_⟩
 walk_at "sts"
 have hs:20000≤sizeLine:=by decide
 have hle:=hP.le
 refine bB (SqL.of ha) ?_
 walk_at "sts"
 rw [bx]
 walk_at "sts"
 refine aR rfl fun p0 H1 n0 S1 hp0=>?_
 walk_at "sts"
 refine aR rfl fun B H2 nB S2 hB=>?_
 walk_at "sts"
 have hp2:=S2 _ _ hp0
 have U2:=S1.trans S2
 have pick:∀ (d:Int),0≤d→d < 7→∃ v,tY [V.int ((t.length:Int)+1),.int (-1),.non,.bl true,.str (Str.ofString "0"),.ref p0,.int ((t.length:Int)+1+10 ^ (29:Int).toNat)] d=some v∧inB v 0 (t.length:Int)=false∧Kd K H2 v∧Wt K H2 v:=fun d h0 h1=>by
  obtain ⟨v,hv,ev⟩:=yU (vs:=[V.int ((t.length:Int)+1),.int (-1),.non,.bl true,.str (Str.ofString "0"),.ref p0,.int ((t.length:Int)+1+10 ^ (29:Int).toNat)]) (d:=d) h0 (by show d < 7;exact h1)
  refine ⟨v,ev,?_⟩
  simp only [List.mem_cons,List.mem_nil_iff,or_false] at hv
  rcases hv with rfl | rfl | rfl | rfl | rfl | rfl | rfl
  ·exact ⟨by unfold inB;simp;omega,.inl ⟨_,rfl⟩,.inl rfl,"int",false,.int _,rfl⟩
  ·exact ⟨by unfold inB;simp,.inl ⟨_,rfl⟩,.inl rfl,"int",false,.int _,rfl⟩
  ·exact ⟨rfl,.inr (.inr ⟨"NoneType",.non,rfl⟩),.inl rfl,"NoneType",false,.non,rfl⟩
  ·exact ⟨rfl,.inr (.inl ⟨_,rfl⟩),.inl rfl,"bool",true,.bl _,rfl⟩
  ·exact ⟨rfl,.inr (.inr ⟨"str",.str _,rfl⟩),.inl rfl,"str",false,.str _,rfl⟩
  ·exact ⟨rfl,.inr (.inr ⟨"list",.lst hp2,rfl⟩),.inr ⟨_,rfl⟩,"list",false,.lst hp2,rfl⟩
  ·refine ⟨?_,.inl ⟨_,rfl⟩,.inl rfl,"int",false,.int _,rfl⟩
   have hpos:(0:Int) < 10 ^ (29:Int).toNat:=by decide
   generalize (10:Int) ^ (29:Int).toNat=z at hpos ⊢
   unfold inB
   simp
   omega
 obtain ⟨o1,e1,i1,k1,w1⟩:=pick (c % 7) (by omega) (by omega)
 obtain ⟨o2,e2,i2,k2,w2⟩:=pick (c / 7 % 7) (by omega) (by omega)
 clear pick
 refine bz (SqL.of hB) e1 ?_
 walk_at "sts"
 refine bz (SqL.of hB) e2 ?_
 walk_at "sts"
 have ha2:=U2 _ _ ha
 refine aR rfl fun d1 H3 _ S3 hd1=>?_
 walk_at "sts"
 refine ⟨_,o1,o2,o1,d1,_,rfl,hd1,k1.same S3,k2.same S3,.inr ⟨a,t,rfl,.inl (S3 _ _ ha2),hP,rfl,.inl ⟨i1,rfl⟩⟩,w1.same S3,fun H4 S4=>?_⟩
 walk_at "sts"
 refine aR rfl fun d2 H5 _ S5 hd2=>?_
 walk_at "sts"
 have S25:=S3.trans (S4.trans S5)
 refine ⟨_,.int (t.length:Int),o1,o1,d2,_,rfl,hd2,.inl ⟨_,rfl⟩,k1.same S25,.inr ⟨a,t,rfl,.inl (S25 _ _ ha2),hP,rfl,.inr ⟨yu (Nat.le_refl _),i1,rfl⟩⟩,w1.same S25,fun H6 S6=>?_⟩
 walk_at "sts"
 refine aR rfl fun d3 H7 _ S7 hd3=>?_
 walk_at "sts"
 have S27:=S25.trans (S6.trans S7)
 refine ⟨_,o2,.int 0,o2,d3,_,rfl,hd3,k2.same S27,.inl ⟨_,rfl⟩,.inr ⟨a,t,rfl,.inl (S27 _ _ ha2),hP,rfl,.inl ⟨i2,rfl⟩⟩,w2.same S27,fun H8 S8=>?_⟩
 walk_at "sts"
 refine aR rfl fun l1 H9 _ S9 hl1=>?_
 walk_at "sts"
 have S29:=S27.trans (S8.trans S9)
 refine g8 (S29 _ _ ha2) hl1 (by rw [bx];simp;omega) fun od nod=>?_
 walk_at "sts"
 have SA:=S29.upd nod (o:=.lst ((nI t).map V.int ++ [.int ((t.length:Int)+1)]))
 have hod:=ak (H:=H9) (a:=od) (o:=.lst ((nI t).map V.int ++ [.int ((t.length:Int)+1)]))
 generalize upd H9 od (.lst ((nI t).map V.int ++ [.int ((t.length:Int)+1)]))=HA at SA hod ⊢
 walk_at "sts"
 refine aR rfl fun d4 HB _ SB hd4=>?_
 walk_at "sts"
 have SB2:=SA.trans SB
 have hodB:=SB _ _ hod
 have hno:vg ((nI t).map V.int ++ [.int ((t.length:Int)+1)])=false:=by
  refine yp (u:=.int ((t.length:Int)+1)) (by simp) ?_
  rw [List.length_append,bx]
  unfold inB
  simp
  omega
 refine ⟨.ref od,o1,o2,.ref od,d4,_,rfl,hd4,k1.same SB2,k2.same SB2,.inl ⟨.inl ⟨od,_,rfl,.inl hodB,by rw [List.length_append,bx];simp;omega,fun u hu=>?_,hno.symm⟩,rfl,rfl⟩,⟨.inr ⟨_,rfl⟩,"list",false,.lst hodB,rfl⟩,fun HC SC=>?_⟩
 walk_at "sts"
 ·rcases List.mem_append.mp hu with h | h
  ·obtain ⟨z,_,rfl⟩:=List.mem_map.mp h
   exact .inl ⟨z,rfl⟩
  ·rw [List.mem_singleton.mp h];exact .inl ⟨_,rfl⟩
 exact q _ (U2.trans (SB2.trans SC))
end
section
variable {P:Program} {w:World} {K:PySem.W.Frag} {mg:Str→Option Value} {base:Heap}
theorem o8:(["_law_column","_law_table"]:List Str).Nodup:=by decide+kernel
theorem o9:(["_law_row","_law_column"]:List Str).Nodup:=by decide+kernel
theorem ph:(["_law_row"]:List Str).Nodup:=by decide+kernel
theorem pA:(["_law_row","_law_place"]:List Str).Nodup:=by decide+kernel
theorem pB:(["_law_row"]:List Str).Nodup:=by decide+kernel
theorem gb:cC aH "_law_found":=by decide+kernel
theorem mK:cC aH "_law_way":=by decide+kernel
theorem jF:cC aH "_law_at":=by decide+kernel
theorem tL:Ce aH "_law_place":=by decide+kernel
theorem PX:cC aH "_law_more":=by decide+kernel
theorem P0:bT aH "list":=by decide+kernel
theorem BW:Ce aH "_law_table":=by decide+kernel
theorem kz4h:bT aH "range":=by decide+kernel
theorem JC:bT aH "len":=by decide+kernel
theorem TY:bT aH "tuple":=by decide+kernel
theorem kz4k:bT aH "_law_takes":=by decide+kernel
theorem kz4l:cC aH "_law_cell_here":=by decide+kernel
theorem CT.rowT {H:Hp} {rs:List V} {n:Nat} {f:Nat→List Int} (h:CT H rs n f) (hl:∀ k,k < n→(f k).length≤200):∀ u∈rs,RowT H u:=fun u hu=>by
 obtain ⟨k,hk,e⟩:=List.mem_iff_getElem.mp hu
 obtain ⟨a,e1,ha⟩:=h.2 k (by rw [← h.1];exact hk)
 rw [List.getElem?_eq_getElem hk,e] at e1
 refine .inl ⟨a,_,Option.some.inj e1,.inl ha,by rw [List.length_map];exact hl k (by rw [← h.1];exact hk),fun w hw=>?_⟩
 obtain ⟨z,_,rfl⟩:=List.mem_map.mp hw
 exact Fl.int z
theorem RowT.set {H:Hp} {u:V} {g:Addr} {us ws:List V} (h:RowT H u) (hg:H g=some (.lst us)) (hl:ws.length≤200) (hw:∀ w∈ws,Fl w):RowT (upd H g (.lst ws)) u:=by
 rcases h with ⟨a,xs,e,ha,r⟩ | h
 ·by_cases z:a=g
  ·subst z
   exact .inl ⟨a,ws,e,.inl ak,hl,hw⟩
  ·exact .inl ⟨a,xs,e,by rw [aB z];exact ha,r⟩
 ·exact .inr h
theorem RowT.put {H:Hp} {u:V} {g:Addr} {us:List V} {o:HO} (h:RowT H u) (hg:H g=some (.lst us)) (hne:∀ a,u= .ref a→a≠g):RowT (upd H g o) u:=by
 rcases h with ⟨a,xs,e,ha,r⟩ | h
 ·exact .inl ⟨a,xs,e,by rw [aB (hne a e)];exact ha,r⟩
 ·exact .inr h
theorem Fl.cut {ws:List V} {lo hi:Option Int} (h:∀ w∈ws,Fl w):∀ w∈fO ws lo hi,Fl w:=fun w hw=>by
 unfold fO at hw
 exact h w (List.mem_of_mem_drop (List.mem_of_mem_take hw))
theorem qO {xs:List V} {lo hi:Option Int} {u:V} (h:u∈fO xs lo hi):u∈xs:=by
 unfold fO at h
 exact List.mem_of_mem_drop (List.mem_of_mem_take h)
theorem Fl.app {ws us:List V} (h:∀ w∈ws,Fl w) (h':∀ w∈us,Fl w):∀ w∈ws ++ us,Fl w:=fun w hw=>(List.mem_append.mp hw).elim (h w) (h' w)
theorem Fl.set {ws:List V} {k:Nat} {x:V} (h:∀ w∈ws,Fl w) (hx:Fl x):∀ w∈ws.set k x,Fl w:=fun w hw=>by
 rcases List.mem_or_eq_of_mem_set hw with h' | rfl
 ·exact h w h'
 ·exact hx
def T3 (K:PySem.W.Frag):Sp:=fun vs H Q _=>∃ (tq:Addr) (rs:List V) (n:Nat) (f:Nat→List Int) (c:Int),vs=[.ref tq,.int c]∧H tq=some (.lst rs)∧CT H rs n f∧1≤n∧n≤97∧(∀ k,k < n→(f k).length=n)∧∀ v H',Same H H'→TabT H' v→(∀ q us,v= .ref q→H' q=some (.lst us)→H q=none)→Q v H'
theorem uz {n k:Nat} (h:k < n):Cd n (k:Int)=some k:=by
 unfold Cd
 rw [if_pos (by omega),if_pos (by omega)];rfl
theorem aN:aO ["_law_table","_law_cell_here","_law_way","_law_at","_law_place","_law_more","_law_found"] ["_law_table","_law_cell_here"] (aq aH):=⟨rfl,rfl,rfl,by decide+kernel,rfl,by decide+kernel,by decide+kernel⟩
theorem iW (T:Txt K mg):qu P w K mg base 3 "_law_spoiled" ["_law_table","_law_cell_here"] (T3 K):=by
 have cQ:=cQ (P:=P) (w:=w) (base:=base) T
 refine iZ T.d_law_spoiled aN (fun _ _ _ _ _ _ us hl=>L2.qP (fun _ _=>rfl) us hl) ?_ fun f cdv A outer s H vs Q E hr h=>?_
 ·rintro vs H Q E ⟨tq,rs,n,f',c,rfl,_⟩;rfl
 obtain ⟨tq,rs,n,f',c,rfl,htq,hC,h1,h97,hlen,q⟩:=h
 have hu:=hr.units0
 have hu64:=hr.units
 refine ⟨_,(az (yW (aU cQ (hr.mono (by decide)) (aW kz4k) (aa (ao 1 kz4l) (aa (bJ (aa aA (aa aA (aa aA (aa aA aj))))) aj)) (by decide+kernel)) (yV (K:=K) rfl rfl (cL (bF (i:=2) aN.nd rfl (Or.inl mK) rfl) (cL (bF (i:=3) aN.nd rfl (Or.inl jF) rfl) (cL (bF (i:=4) aN.nd rfl (Or.inr tL) rfl) (cL (bF (i:=5) aN.nd rfl (Or.inl PX) rfl) nj)))))) (az (aQ (i:=3) aN.nd rfl (Or.inl jF) (bf eU (ao 3 jF) (aC (aF (K:=K) rfl) (aW JC) T.b_len bu (aa (fP 0 BW) aj) (by decide+kernel) (by decide+kernel))) rfl) (az (aQ (i:=4) aN.nd rfl (Or.inr tL) (bf eU (fP 4 tL) (aC (aF (K:=K) rfl) (aW JC) T.b_len bu (aa (fP 0 BW) aj) (by decide+kernel) (by decide+kernel))) rfl) (az (qD (i:=6) aN.nd rfl (Or.inl gb) (sub:=[none]) (bU (N:=["_law_table","_law_cell_here","_law_way","_law_at","_law_place","_law_more","_law_found"]) (sc:=aq aH) (N':=["_law_row"]) (by decide+kernel)) rfl rfl rfl (dz (K:=K) rfl (fP 0 BW)) (fun C s₀ H₀ ex=>(j8 0 (by decide+kernel) pB)) (fun C s₀ H₀ ex=>eQ) (fun C s₀ H₀ ex=>(d8 (gZ (K:=K) rfl rfl) (M9 (by decide+kernel)) T.b_list cF (aa (cJ 0 (by decide+kernel)) aj) (by decide+kernel) (by decide+kernel))) rfl) (az (bj (bh qT (ao 2 mK) aA (by first | exact aV _ | with_unfolding_all rfl)) (au (jo (ts:=nH) (bf aP (dw (K:=K) rfl (dw (K:=K) rfl (ao 6 gb) (ao 3 jF)) (fP 4 tL)) (dw (K:=K) rfl (bJ (aa aA (aa (xO lX aA) (aa (bf xj aA aA) aj)))) (ao 2 mK))) (lZ (dw (K:=K) rfl (ao 6 gb) (ao 3 jF)) (fP 4 tL) (jB hu64)))) (au (bj (bh (d7 (K:=K) rfl hu64) (ao 2 mK) aA (by first | exact aV _ | with_unfolding_all rfl)) (au (jo (ts:=nH) (dw (K:=K) rfl (bJ (aa gw (aa lR (aa m8 aj)))) (ao 5 PX)) (lZ (dw (K:=K) rfl (ao 6 gb) (ao 3 jF)) (fP 4 tL) (jB hu64)))) (au (bj (bh (d7 (K:=K) rfl hu64) (ao 2 mK) aA (by first | exact aV _ | with_unfolding_all rfl)) (az (jo (ts:=nH) (d8 (gZ (K:=K) rfl rfl) (aW P0) T.b_list cF (aa (dw (K:=K) rfl (fP 0 BW) (fP 4 tL)) aj) (by decide+kernel) (by decide+kernel)) (lZ (ao 6 gb) (ao 3 jF) (jB hu64))) (au (jo (ts:=nH) (d8 (gZ (K:=K) rfl rfl) (aW P0) T.b_list cF (aa (dw (K:=K) rfl (fP 0 BW) (ao 3 jF)) aj) (by decide+kernel) (by decide+kernel)) (lZ (ao 6 gb) (fP 4 tL) (jB hu64))))) (au (bj (bh (d7 (K:=K) rfl hu64) (ao 2 mK) aA (by first | exact aV _ | with_unfolding_all rfl)) (au (aQ (i:=6) aN.nd rfl (Or.inl gb) (bf aP (gK (gO (K:=K) rfl) (ao 6 gb) gm (iG (ao 3 jF))) (gK (gO (K:=K) rfl) (ao 6 gb) (iG (bf aP (ao 3 jF) aA)) gm)) rfl)) (au (bj (bh (d7 (K:=K) rfl hu64) (ao 2 mK) aA (by first | exact aV _ | with_unfolding_all rfl)) (au (aQ (i:=6) aN.nd rfl (Or.inl gb) (bf aP (bf aP (gK (gO (K:=K) rfl) (ao 6 gb) gm (iG (ao 3 jF))) (bJ (aa (d8 (gZ (K:=K) rfl rfl) (aW P0) T.b_list cF (aa (dw (K:=K) rfl (ao 6 gb) (ao 3 jF)) aj) (by decide+kernel) (by decide+kernel)) aj))) (gK (gO (K:=K) rfl) (ao 6 gb) (iG (ao 3 jF)) gm)) rfl)) (au (bj (bh (d7 (K:=K) rfl hu64) (ao 2 mK) aA (by first | exact aV _ | with_unfolding_all rfl)) (au (qD (i:=6) aN.nd rfl (Or.inl gb) (sub:=[none,some 0]) (bU (N:=["_law_table","_law_cell_here","_law_way","_law_at","_law_place","_law_more","_law_found"]) (sc:=aq aH) (N':=["_law_column","_law_table"]) (by decide+kernel)) rfl rfl rfl (fH (aW kz4h) T.b_range (aa (aC (aF (K:=K) rfl) (aW JC) T.b_len bu (aa (fP 0 BW) aj) (by decide+kernel) (by decide+kernel)) aj)) (fun C s₀ H₀ ex=>(RB 0 (by decide+kernel) o8)) (fun C s₀ H₀ ex=>eQ) (fun C s₀ H₀ ex=>(gf (sub:=[none,some 0]) (O1 (bU (N:=["_law_column","_law_table"]) (N':=["_law_row","_law_column"]) (by decide+kernel))) rfl rfl rfl (dz (K:=K) rfl (fG 1 (by decide+kernel))) (fun C s₀ H₀ ex=>(j8 0 (by decide+kernel) o9)) (fun C s₀ H₀ ex=>eQ) (fun C s₀ H₀ ex=>(dw (K:=K) rfl (cJ 0 (by decide+kernel)) (fG 1 (by decide+kernel)))))) rfl)) (au (bj (bh (d7 (K:=K) rfl hu64) (ao 2 mK) aA (by first | exact aV _ | with_unfolding_all rfl)) (au (jo (ts:=nH) (d8 (iC (K:=K) rfl rfl) (aW TY) T.b_tuple jN (aa (dw (K:=K) rfl (ao 6 gb) (ao 3 jF)) aj) (by decide+kernel) (by decide+kernel)) (lZ (ao 6 gb) (ao 3 jF) (jB hu64)))) (au (bj (bh (d7 (K:=K) rfl hu64) (ao 2 mK) aA (by first | exact aV _ | with_unfolding_all rfl)) (au (aQ (i:=6) aN.nd rfl (Or.inl gb) (d8 (iC (K:=K) rfl rfl) (aW TY) T.b_tuple jN (aa (ao 6 gb) aj) (by decide+kernel) (by decide+kernel)) rfl)) (au (bj (bh (d7 (K:=K) rfl hu64) (ao 2 mK) aA (by first | exact aV _ | with_unfolding_all rfl)) (au (aQ (i:=6) aN.nd rfl (Or.inl gb) (dw (K:=K) rfl (bJ (aa (bJ aj) (aa lR (aa aA (aa m8 (aa zj (aa (bJ (aa (bJ aj) aj)) (aa (bJ (aa aA aj)) (aa (m9 (aa (bJ (aa aA aj)) aj)) aj))))))))) (bf eU (bf aP (ao 3 jF) (fP 4 tL)) aA)) rfl)) (au (bj (bh (d7 (K:=K) rfl hu64) (ao 2 mK) aA (by first | exact aV _ | with_unfolding_all rfl)) (au (jo (ts:=nH) (gK (gO (K:=K) rfl) (dw (K:=K) rfl (ao 6 gb) (ao 3 jF)) gm (iG (fP 4 tL))) (lZ (ao 6 gb) (ao 3 jF) (jB hu64)))) (au (bj (bh (d7 (K:=K) rfl hu64) (ao 2 mK) aA (by first | exact aV _ | with_unfolding_all rfl)) (au (aQ (i:=6) aN.nd rfl (Or.inl gb) (bf aP (gf (sub:=[none]) (bU (N:=["_law_table","_law_cell_here","_law_way","_law_at","_law_place","_law_more","_law_found"]) (sc:=aq aH) (N':=["_law_row"]) (by decide+kernel)) rfl rfl rfl (dz (K:=K) rfl (ao 6 gb)) (fun C s₀ H₀ ex=>(j8 0 (by decide+kernel) ph)) (fun C s₀ H₀ ex=>eQ) (fun C s₀ H₀ ex=>(bf aP (cJ 0 (by decide+kernel)) (bJ (aa (dw (K:=K) rfl (cJ 0 (by decide+kernel)) (xO lX aA)) aj))))) (bJ (aa (bf iB (bJ (aa aA aj)) (bf aP (aC (aF (K:=K) rfl) (aW JC) T.b_len bu (aa (ao 6 gb) aj) (by decide+kernel) (by decide+kernel)) aA)) aj))) rfl)) (au (bj (bh (d7 (K:=K) rfl hu64) (ao 2 mK) aA (by first | exact aV _ | with_unfolding_all rfl)) (au (qD (i:=6) aN.nd rfl (Or.inl gb) (sub:=[none,some 4]) (bU (N:=["_law_table","_law_cell_here","_law_way","_law_at","_law_place","_law_more","_law_found"]) (sc:=aq aH) (N':=["_law_row","_law_place"]) (by decide+kernel)) rfl rfl rfl (dz (K:=K) rfl (ao 6 gb)) (fun C s₀ H₀ ex=>(j8 0 (by decide+kernel) pA)) (fun C s₀ H₀ ex=>eQ) (fun C s₀ H₀ ex=>(bf aP (bf aP (gK (gO (K:=K) rfl) (cJ 0 (by decide+kernel)) gm (iG (fG 1 (by decide+kernel)))) (bJ (aa (bf aP (dw (K:=K) rfl (cJ 0 (by decide+kernel)) (fG 1 (by decide+kernel))) aA) aj))) (gK (gO (K:=K) rfl) (cJ 0 (by decide+kernel)) (iG (bf aP (fG 1 (by decide+kernel)) aA)) gm))) rfl)) (au (bj (bh (d7 (K:=K) rfl hu64) (ao 2 mK) aA (by first | exact aV _ | with_unfolding_all rfl)) (au (cZ (iR (K:=K) rfl PySem.F.plainAttrs_list PySem.F.slot_list_append PySem.F.type_list_append dR (dw (K:=K) rfl (ao 6 gb) (ao 3 jF)) (aa (ao 5 PX) aj)))) bC))))))))))))))))))))))))) (au (aL (ao 6 gb)))))))),?_⟩
 walk_at "sts"
 have hs:20000≤sizeLine:=by decide
 have hrl:rs.length=n:=hC.1
 refine aR rfl fun p0 H0 n0 S0 hp0=>?_
 walk_at "sts"
 replace hp0:H0 p0=some (.lst (([16,97,97,3]:List Int).map V.int)):=hp0
 refine ⟨c,p0,[16,97,97,3],rfl,hp0,by simp,(fun x hx=>by simp at hx;rcases hx with rfl | rfl | rfl | rfl <;> decide),fun fq ms H1 nf S1 hf hF=>?_⟩
 walk_at "sts"
 obtain ⟨wy,hwy,hwy1⟩:=fX hF 0 16 rfl
 obtain ⟨at0,ha0,ha01⟩:=fX hF 1 97 rfl
 obtain ⟨pl0,hb0,hb01⟩:=fX hF 2 97 rfl
 obtain ⟨mo,hm0,hm01⟩:=fX hF 3 3 rfl
 have hl:ms.length=4:=hF.1
 have em:ms=[(wy:Int),at0,pl0,mo]:=by
  refine List.ext_getElem? fun i=>?_
  match i with
  | 0=>exact hwy
  | 1=>exact ha0
  | 2=>exact hb0
  | 3=>exact hm0
  | i+4=>rw [List.getElem?_eq_none (by omega),List.getElem?_eq_none (by simp)]
 subst em
 replace hf:H1 fq=some (.lst [.int (wy:Int),.int (at0:Int),.int (pl0:Int),.int (mo:Int)]):=hf
 have S01:=S0.trans S1
 clear hF hl hwy ha0 hb0 hm0 S1 nf S0 hp0 n0
 have htq1:=S01 _ _ htq
 refine ⟨fq,_,rfl,.inr (SqL.of hf),rfl,?_⟩
 walk_at "sts"
 refine bB (SqL.of htq1) ?_
 walk_at "sts"
 rw [hrl]
 obtain ⟨ka,eka,hka⟩:∃ k:Nat,(at0:Int) % (n:Int)=(k:Int)∧k < n:=⟨((at0:Int) % (n:Int)).toNat,by have:=Int.emod_nonneg (at0:Int) (show (n:Int)≠0 by omega);omega,by have:=Int.emod_lt_of_pos (at0:Int) (show 0 < (n:Int) by omega);omega⟩
 obtain ⟨kp,ekp,hkp⟩:∃ k:Nat,(pl0:Int) % (n:Int)=(k:Int)∧k < n:=⟨((pl0:Int) % (n:Int)).toNat,by have:=Int.emod_nonneg (pl0:Int) (show (n:Int)≠0 by omega);omega,by have:=Int.emod_lt_of_pos (pl0:Int) (show 0 < (n:Int) by omega);omega⟩
 rw [eka]
 refine bB (SqL.of htq1) ?_
 walk_at "sts"
 rw [hrl,ekp]
 refine .inl ⟨tq,rfl,⟨_,SqL.of htq1⟩,?_⟩
 refine cT (xs:=rs) (fun i ys G=>Same H1 G∧CT G ys i f'∧∀ r,V.ref r∈ys→H1 r=none) (by omega) ⟨Same.refl H1,⟨rfl,fun k hk=>by omega⟩,fun r hr=>nomatch hr⟩ ?_ ?_ ?_ ?_
 ·rintro i ys G ⟨_,h,_⟩
  exact Nat.le_of_eq h.1
 ·rintro i ys G ⟨s,_⟩
  exact SqL.of (s _ _ htq1)
 ·rintro i ys G u hu ⟨s,hY,hN⟩
  have hi:i < n:=by have:=(List.getElem?_eq_some_iff.mp hu).1;omega
  obtain ⟨a,e,ha⟩:=hC.2 i hi
  rw [e] at hu;cases hu
  walk_at "sts"
  refine ⟨KeepSt.set rfl,?_⟩
  walk_at "sts"
  refine .inl ⟨a,_,rfl,.inl (SqL.of (s _ _ (S01 _ _ ha))),fun cp ncp=>?_⟩
  have s2:=(Same.refl G).upd ncp (o:=.lst ((f' i).map V.int))
  refine ⟨s.trans s2,(hY.same s2).push ak,fun r hr=>?_⟩
  rcases List.mem_append.mp hr with h | h
  ·exact hN r h
  ·simp only [List.mem_cons,List.mem_nil_iff,or_false] at h
   cases h
   exact Same.back s ncp
 rintro ys G fd H2 ⟨s1,hY,hN⟩ nfd s2 hfd
 rw [hrl] at hY
 have S02:=S01.trans (s1.trans s2)
 replace hY:=hY.same s2
 have nfd0:=Same.back (S01.trans s1) nfd
 have hN0:∀ r,V.ref r∈ys→H r=none:=fun r hr=>Same.back S01 (hN r hr)
 have hyl:ys.length=n:=hY.1
 have hnf:∀ r,V.ref r∈ys→r≠fd:=fun r hr z=>by
  obtain ⟨k,hk,e⟩:=List.mem_iff_getElem.mp hr
  obtain ⟨a,e1,ha⟩:=hY.2 k (by omega)
  rw [List.getElem?_eq_getElem hk,e] at e1
  cases e1
  rw [z,hfd] at ha
  have e0:ys=(f' k).map V.int:=by injection ha with ha;injection ha
  rw [e0] at hr
  obtain ⟨i,_,hi⟩:=List.mem_map.mp hr
  cases hi
 have hRT:∀ u∈ys,RowT H2 u:=hY.rowT fun k hk=>by rw [hlen k hk];omega
 clear s1 s2 hN htq1 nfd
 have htq2:=S02 _ _ htq
 have hC2:=hC.same S02
 clear S01 hf
 obtain ⟨ra,era,hra⟩:=hY.2 ka hka
 obtain ⟨rp,erp,hrp⟩:=hY.2 kp hkp
 have ral:=hlen ka hka
 have fin:∀ (H':Hp) (us:List V),Same H H'→H' fd=some (.lst us)→us.length≤200→(∀ u∈us,RowT H' u)→Q (.ref fd) H':=fun H' us s h1 h2 h3=>q _ _ s (.inl ⟨fd,us,rfl,.inl h1,h2,h3⟩) fun q' us' e _=>by cases e;exact nfd0
 have new:∀ (H':Hp) (p:Addr) (us:List V),Same H H'→H p=none→H' p=some (.lst us)→us.length≤200→(∀ u∈us,RowT H' u)→Q (.ref p) H':=fun H' p us s np h1 h2 h3=>q _ _ s (.inl ⟨p,us,rfl,.inl h1,h2,h3⟩) fun q' us' e _=>by cases e;exact np
 have mra:V.ref ra∈ys:=List.mem_of_getElem? era
 have nra:fd≠ra:=fun z=>hnf ra mra z.symm
 have flI:∀ {l:List Int},∀ w∈l.map V.int,Fl w:=fun {l} w hw=>by
  obtain ⟨z,_,rfl⟩:=List.mem_map.mp hw
  exact Fl.int z
 have setF:∀ (H':Hp) (ws:List V),Same H2 H'→ws.length≤200→(∀ w∈ws,Fl w)→Q (.ref fd) (upd H' ra (.lst ws)):=fun H' ws s hl hw=>
  fin _ ys (Same.put (S02.trans s) (hN0 ra mra)) (by rw [aB nra];exact s _ _ hfd) (by omega) fun u hu=>((hRT u hu).same s).set (s _ _ hra) hl hw
 try walk_at "sts"
 refine iy (fun h=>?_) (fun h=>?_)
 ·walk_at "sts"
  refine bz (SqL.of hfd) (bZ era) ?_
  walk_at "sts"
  refine bz (SqL.of hra) (sO (by omega)) ?_
  walk_at "sts"
  refine aR rfl fun p3 H3 _ S3 hp3=>?_
  walk_at "sts"
  obtain ⟨z,ez⟩:∃ z:Int,tY [V.int 1,V.int (-1),V.int (10 ^ (20:Int).toNat)] (wy:Int)=some (.int z):=by
   obtain ⟨v,hv,ev⟩:=yU (vs:=[V.int 1,V.int (-1),V.int (10 ^ (20:Int).toNat)]) (d:=(wy:Int)) (by omega) (by show (wy:Int) < 3;omega)
   simp only [List.mem_cons,List.mem_nil_iff,or_false] at hv
   rcases hv with rfl | rfl | rfl <;> exact ⟨_,ev⟩
  refine bz (SqL.of hp3) ez ?_
  walk_at "sts"
  refine bz (SqL.of (S3 _ _ hfd)) (bZ era) ?_
  walk_at "sts"
  refine lF (S3 _ _ hra) (n:=kp) (uz (by rw [List.length_map];omega)) ?_
  walk_at "sts"
  exact setF _ _ S3 (by rw [List.length_set,List.length_map];omega) (Fl.set flI (Fl.int _))
 walk_at "sts"
 refine iy (fun h3=>?_) (fun h3=>?_)
 ·walk_at "sts"
  refine aR rfl fun p3 H3 _ S3 hp3=>?_
  walk_at "sts"
  obtain ⟨v,hv,ev⟩:=yU (vs:=[V.bl true,.non,.str (Str.ofString "1")]) (d:=(mo:Int)) (by omega) (by show (mo:Int) < 3;omega)
  have flv:Fl v:=by
   simp only [List.mem_cons,List.mem_nil_iff,or_false] at hv
   rcases hv with rfl | rfl | rfl
   ·exact ⟨rfl,fun z h=>by cases h⟩
   ·exact ⟨rfl,fun z h=>by cases h⟩
   ·exact ⟨rfl,fun z h=>by cases h;decide+kernel⟩
  refine bz (SqL.of hp3) ev ?_
  walk_at "sts"
  refine bz (SqL.of (S3 _ _ hfd)) (bZ era) ?_
  walk_at "sts"
  refine lF (S3 _ _ hra) (n:=kp) (uz (by rw [List.length_map];omega)) ?_
  walk_at "sts"
  exact setF _ _ S3 (by rw [List.length_set,List.length_map];omega) (Fl.set flI flv)
 walk_at "sts"
 refine iy (fun h4=>?_) (fun h4=>?_)
 ·obtain ⟨ta,eta,hta⟩:=hC2.2 ka hka
  obtain ⟨tp,etp,htp⟩:=hC2.2 kp hkp
  walk_at "sts"
  refine bz (SqL.of htq2) (bZ etp) ?_
  walk_at "sts"
  refine .inl ⟨tp,_,rfl,.inl (SqL.of htp),fun la nla=>?_⟩
  have S3:=(Same.refl H2).upd nla (o:=.lst ((f' kp).map V.int))
  have hla:=ak (H:=H2) (a:=la) (o:=.lst ((f' kp).map V.int))
  have laf:la≠fd:=fun z=>by rw [z,hfd] at nla;cases nla
  generalize upd H2 la (.lst ((f' kp).map V.int))=H3 at S3 hla ⊢
  walk_at "sts"
  refine lF (S3 _ _ hfd) (n:=ka) (uz (by omega)) ?_
  walk_at "sts"
  have S4:=Same.put (o:=.lst (ys.set ka (.ref la))) (S02.trans S3) nfd0
  have hfd4:=ak (H:=H3) (a:=fd) (o:=.lst (ys.set ka (.ref la)))
  have rt4:∀ u∈ys.set ka (.ref la),RowT (upd H3 fd (.lst (ys.set ka (.ref la)))) u:=fun u hu=>by
   rcases List.mem_or_eq_of_mem_set hu with h | rfl
   ·exact ((hRT u h).same S3).put (S3 _ _ hfd) fun a e=>hnf a (e ▸ h)
   ·exact .inl ⟨la,_,rfl,.inl (by rw [aB laf];exact hla),by rw [List.length_map,hlen kp hkp];omega,flI⟩
  have nf4:∀ r,V.ref r∈ys.set ka (.ref la)→r≠fd:=fun r hr=>by
   rcases List.mem_or_eq_of_mem_set hr with h | h
   ·exact hnf r h
   ·cases h;exact laf
  generalize upd H3 fd (.lst (ys.set ka (.ref la)))=H4 at S4 hfd4 rt4 ⊢
  walk_at "sts"
  obtain ⟨ta',eta',hta'⟩:=hC.2 ka hka
  refine bz (SqL.of (S4 _ _ htq)) (bZ eta') ?_
  walk_at "sts"
  refine .inl ⟨ta',_,rfl,.inl (SqL.of (S4 _ _ hta')),fun lb nlb=>?_⟩
  have S5:=(Same.refl H4).upd nlb (o:=.lst ((f' ka).map V.int))
  have hlb:=ak (H:=H4) (a:=lb) (o:=.lst ((f' ka).map V.int))
  have lbf:lb≠fd:=fun z=>by rw [z,hfd4] at nlb;cases nlb
  generalize upd H4 lb (.lst ((f' ka).map V.int))=H5 at S5 hlb ⊢
  walk_at "sts"
  refine lF (S5 _ _ hfd4) (n:=kp) (uz (by rw [List.length_set];omega)) ?_
  walk_at "sts"
  refine fin _ _ (Same.put (S4.trans S5) nfd0) ak (by rw [List.length_set,List.length_set];omega) fun u hu=>?_
  rcases List.mem_or_eq_of_mem_set hu with h | rfl
  ·exact ((rt4 u h).same S5).put (S5 _ _ hfd4) fun a e=>nf4 a (e ▸ h)
  ·exact .inl ⟨lb,_,rfl,.inl (by rw [aB lbf];exact hlb),by rw [List.length_map];omega,flI⟩
 walk_at "sts"
 refine iy (fun h5=>?_) (fun h5=>?_)
 ·walk_at "sts"
  refine jE hfd fun s1 H3 _ S3 hs1=>?_
  walk_at "sts"
  refine jE (S3 _ _ hfd) fun s2 H4 _ S4 hs2=>?_
  walk_at "sts"
  have c1:=cH ys none (some (ka:Int))
  have c2:=cH ys (some ((ka:Int)+1)) none
  refine g8 (S4 _ _ hs1) hs2 (by omega) fun p5 n5=>?_
  walk_at "sts"
  have S24:=S3.trans S4
  have S5:=S24.upd n5 (o:=.lst (fO ys none (some (ka:Int)) ++ fO ys (some ((ka:Int)+1)) none))
  refine new _ p5 _ (S02.trans S5) (Same.back (S02.trans S24) n5) ak (by simp;omega) fun u hu=>?_
  rcases List.mem_append.mp hu with h | h
  ·exact (hRT u (qO h)).same S5
  ·exact (hRT u (qO h)).same S5
 walk_at "sts"
 refine iy (fun h6=>?_) (fun h6=>?_)
 ·walk_at "sts"
  refine jE hfd fun s1 H3 _ S3 hs1=>?_
  walk_at "sts"
  refine bz (SqL.of (S3 _ _ hfd)) (bZ era) ?_
  walk_at "sts"
  refine .inl ⟨ra,_,rfl,.inl (SqL.of (S3 _ _ hra)),fun cp ncp=>?_⟩
  have S4:=(Same.refl H3).upd ncp (o:=.lst ((f' ka).map V.int))
  have hcp:=ak (H:=H3) (a:=cp) (o:=.lst ((f' ka).map V.int))
  generalize upd H3 cp (.lst ((f' ka).map V.int))=H4 at S4 hcp ⊢
  walk_at "sts"
  refine aR rfl fun l1 H5 _ S5 hl1=>?_
  walk_at "sts"
  have c1:=cH ys none (some (ka:Int))
  have c2:=cH ys (some (ka:Int)) none
  refine g8 (S5 _ _ (S4 _ _ hs1)) hl1 (by simp;omega) fun p5 n5=>?_
  walk_at "sts"
  have S6:=(Same.refl H5).upd n5 (o:=.lst (fO ys none (some (ka:Int)) ++ [.ref cp]))
  have hp5:=ak (H:=H5) (a:=p5) (o:=.lst (fO ys none (some (ka:Int)) ++ [.ref cp]))
  generalize upd H5 p5 (.lst (fO ys none (some (ka:Int)) ++ [.ref cp]))=H6 at S6 hp5 ⊢
  have S26:=S3.trans (S4.trans (S5.trans S6))
  refine jE (S26 _ _ hfd) fun s2 H7 _ S7 hs2=>?_
  walk_at "sts"
  refine g8 (S7 _ _ hp5) hs2 (by simp;omega) fun p8 n8=>?_
  walk_at "sts"
  have S27:=S26.trans S7
  have S8:=S27.upd n8 (o:=.lst (fO ys none (some (ka:Int)) ++ [.ref cp] ++ fO ys (some (ka:Int)) none))
  refine new _ p8 _ (S02.trans S8) (Same.back (S02.trans S27) n8) ak (by simp;omega) fun u hu=>?_
  rcases List.mem_append.mp hu with h | h
  ·rcases List.mem_append.mp h with h | h
   ·exact (hRT u (qO h)).same S8
   ·rw [List.mem_singleton.mp h]
    exact .inl ⟨cp,_,rfl,.inl (dU n8 (S7 _ _ (S6 _ _ (S5 _ _ hcp)))),by rw [List.length_map];omega,flI⟩
  ·exact (hRT u (qO h)).same S8
 walk_at "sts"
 refine iy (fun h7=>?_) (fun h7=>?_)
 ·walk_at "sts"
  refine bB (SqL.of htq2) ?_
  walk_at "sts"
  rw [hrl]
  refine ⟨_,rfl,by omega,by omega,?_⟩
  rw [show ((n:Int)).toNat=n by omega]
  refine lJ (n:=n) (fun i zs G=>Same H2 G∧zs.length=i∧∀ u∈zs,RowT G u) (by omega) ⟨Same.refl H2,rfl,fun u hu=>nomatch hu⟩ ?_ ?_ ?_
  ·rintro i zs G ⟨_,h,_⟩
   omega
  ·rintro i zs G hi ⟨s,hz,hZ⟩
   rw [Int.zero_add]
   walk_at "sts"
   refine ⟨KeepSt.set rfl,?_⟩
   walk_at "sts"
   refine .inl ⟨tq,rfl,⟨_,SqL.of (s _ _ htq2)⟩,?_⟩
   refine yf (xs:=rs) (fun r=>.int ((f' r).getD i 0)) (by omega) (SqL.of (s _ _ htq2)) ?_ ?_
   ·intro r v hv
    have hr:r < n:=by have:=(List.getElem?_eq_some_iff.mp hv).1;omega
    obtain ⟨rb,eb,hrb⟩:=hC2.2 r hr
    rw [eb] at hv;cases hv
    walk_at "sts"
    refine ⟨KeepSt.set rfl,?_⟩
    walk_at "sts"
    refine bz (SqL.of (s _ _ hrb)) (sO (by rw [hlen r hr];exact hi)) ?_
    walk_at "sts"
    exact ⟨rfl,lK rfl⟩
   ·intro D G2 nD s2 hD
    refine ⟨s.trans s2,by simp;omega,fun u hu=>?_⟩
    rcases List.mem_append.mp hu with h | h
    ·exact (hZ u h).same s2
    ·rw [List.mem_singleton.mp h]
     refine .inl ⟨D,_,rfl,.inl hD,by simp;omega,fun w hw=>?_⟩
     obtain ⟨z,_,rfl⟩:=List.mem_map.mp hw
     exact Fl.int _
  rintro zs G D G2 ⟨s,hz,hZ⟩ nD s2 hD
  try walk_at "sts"
  exact new _ D _ (S02.trans (s.trans s2)) (Same.back (S02.trans s) nD) hD (by omega) fun u hu=>(hZ u hu).same s2
 walk_at "sts"
 refine iy (fun h8=>?_) (fun h8=>?_)
 ·walk_at "sts"
  refine bz (SqL.of hfd) (bZ era) ?_
  walk_at "sts"
  refine .inl ⟨ra,_,rfl,.inl ⟨SqL.of hra,fun tp ntp=>?_⟩⟩
  have S3:=(Same.refl H2).upd ntp (o:=.tup ((f' ka).map V.int))
  have htp:=ak (H:=H2) (a:=tp) (o:=.tup ((f' ka).map V.int))
  have tpf:tp≠fd:=fun z=>by rw [z,hfd] at ntp;cases ntp
  generalize upd H2 tp (.tup ((f' ka).map V.int))=H3 at S3 htp ⊢
  walk_at "sts"
  refine lF (S3 _ _ hfd) (n:=ka) (uz (by omega)) ?_
  walk_at "sts"
  refine fin _ _ (Same.put (S02.trans S3) nfd0) ak (by rw [List.length_set];omega) fun u hu=>?_
  rcases List.mem_or_eq_of_mem_set hu with h | rfl
  ·exact ((hRT u h).same S3).put (S3 _ _ hfd) fun a e=>hnf a (e ▸ h)
  ·exact .inl ⟨tp,_,rfl,.inr (by rw [aB tpf];exact htp),by rw [List.length_map];omega,flI⟩
 walk_at "sts"
 refine iy (fun h9=>?_) (fun h9=>?_)
 ·walk_at "sts"
  refine .inl ⟨fd,_,rfl,.inl ⟨SqL.of hfd,fun tp ntp=>?_⟩⟩
  have S3:=(Same.refl H2).upd ntp (o:=.tup ys)
  have htp:=ak (H:=H2) (a:=tp) (o:=.tup ys)
  generalize upd H2 tp (.tup ys)=H3 at S3 htp ⊢
  walk_at "sts"
  exact q _ _ (S02.trans S3) (.inl ⟨tp,ys,rfl,.inr htp,by omega,fun u hu=>(hRT u hu).same S3⟩) fun q' us' e h=>by cases e;rw [htp] at h;cases h
 walk_at "sts"
 refine iy (fun hA=>?_) (fun hA=>?_)
 ·walk_at "sts"
  refine aR rfl fun b0 G0 m0 t0 g0=>?_
  walk_at "sts"
  intro d nd
  have t1:=(Same.refl G0).upd nd (o:=.dK [])
  have g1:=ak (H:=G0) (a:=d) (o:=.dK [])
  generalize upd G0 d (.dK [])=G1 at t1 g1 ⊢
  walk_at "sts"
  refine aR rfl fun b2 G2 m2 t2 g2=>?_
  walk_at "sts"
  refine aR rfl fun b3 G3 m3 t3 g3=>?_
  walk_at "sts"
  refine aR rfl fun b4 G4 m4 t4 g4=>?_
  walk_at "sts"
  refine aR rfl fun b5 G5 m5 t5 g5=>?_
  walk_at "sts"
  refine aR rfl fun b6 G6 m6 t6 g6=>?_
  walk_at "sts"
  refine aR rfl fun b7 G7 m7 t7 g7=>?_
  walk_at "sts"
  have T01:=S02.trans (t0.trans t1)
  have T02:=T01.trans t2
  have T03:=T02.trans t3
  have T04:=T03.trans t4
  have T07:=T04.trans (t5.trans (t6.trans t7))
  have k0:=t7 _ _ (t6 _ _ (t5 _ _ (t4 _ _ (t3 _ _ (t2 _ _ (t1 _ _ g0))))))
  have k1:=t7 _ _ (t6 _ _ (t5 _ _ (t4 _ _ (t3 _ _ (t2 _ _ g1)))))
  have k2:=t7 _ _ (t6 _ _ (t5 _ _ (t4 _ _ (t3 _ _ g2))))
  have k3:=t7 _ _ (t6 _ _ (t5 _ _ (t4 _ _ g3)))
  have k4:=t7 _ _ (t6 _ _ (t5 _ _ g4))
  have k5:=t7 _ _ (t6 _ _ g5)
  have k6:=t7 _ _ g6
  obtain ⟨v,hv,ev⟩:=yU (vs:=[V.ref b0,.non,.int 0,.str (Str.ofString "0"),.ref d,.ref b3,.ref b4,.ref b6]) (d:=((ka:Int)+(kp:Int)) % 8) (by omega) (by show ((ka:Int)+(kp:Int)) % 8 < 8;omega)
  refine bz (SqL.of g7) ev ?_
  walk_at "sts"
  simp only [List.mem_cons,List.mem_nil_iff,or_false] at hv
  rcases hv with rfl | rfl | rfl | rfl | rfl | rfl | rfl | rfl
  ·exact new _ b0 [] T07 (Same.back S02 m0) k0 (by simp) fun u hu=>nomatch hu
  ·exact q _ _ T07 (.inr (.inl (.inl rfl))) fun q' us' e _=>by cases e
  ·exact q _ _ T07 (.inr (.inl (.inr (.inr ⟨_,rfl⟩)))) fun q' us' e _=>by cases e
  ·exact q _ _ T07 (.inr (.inl (.inr (.inl ⟨_,rfl⟩)))) fun q' us' e _=>by cases e
  ·exact q _ _ T07 (.inr (.inr ⟨d,rfl,k1⟩)) fun q' us' e h=>by cases e;rw [k1] at h;cases h
  ·refine new _ b3 _ T07 (Same.back T02 m3) k3 (by simp) fun u hu=>?_
   rw [List.mem_singleton.mp hu]
   exact .inl ⟨b2,[],rfl,.inl k2,by simp,fun w hw=>nomatch hw⟩
  ·refine new _ b4 _ T07 (Same.back T03 m4) k4 (by simp) fun u hu=>?_
   rw [List.mem_singleton.mp hu]
   exact .inr ⟨0,rfl⟩
  ·refine q _ _ T07 (.inl ⟨b6,_,rfl,.inr k6,by simp,fun u hu=>?_⟩) fun q' us' e h=>by cases e;rw [k6] at h;cases h
   rw [List.mem_singleton.mp hu]
   exact .inl ⟨b5,_,rfl,.inl k5,by simp,fun w hw=>by rw [List.mem_singleton.mp hw];exact Fl.int 0⟩
 walk_at "sts"
 refine iy (fun hB=>?_) (fun hB=>?_)
 ·walk_at "sts"
  refine bz (SqL.of hfd) (bZ era) ?_
  walk_at "sts"
  refine jE hra fun sl H3 nsl S3 hsl=>?_
  walk_at "sts"
  have slf:sl≠fd:=fun z=>by rw [z,hfd] at nsl;cases nsl
  refine lF (S3 _ _ hfd) (n:=ka) (uz (by omega)) ?_
  walk_at "sts"
  have cl:=cH ((f' ka).map V.int) none (some (kp:Int))
  rw [List.length_map] at cl
  refine fin _ _ (Same.put (S02.trans S3) nfd0) ak (by rw [List.length_set];omega) fun u hu=>?_
  rcases List.mem_or_eq_of_mem_set hu with h | rfl
  ·exact ((hRT u h).same S3).put (S3 _ _ hfd) fun a e=>hnf a (e ▸ h)
  ·exact .inl ⟨sl,_,rfl,.inl (by rw [aB slf];exact hsl),by omega,Fl.cut flI⟩
 walk_at "sts"
 refine iy (fun hD=>?_) (fun hD=>?_)
 ·walk_at "sts"
  refine .inl ⟨fd,rfl,⟨_,SqL.of hfd⟩,?_⟩
  refine cT (xs:=ys) (fun i zs G=>Same H2 G∧zs.length=i∧∀ u∈zs,RowT G u) (by omega) ⟨Same.refl H2,rfl,fun u hu=>nomatch hu⟩ ?_ ?_ ?_ ?_
  ·rintro i zs G ⟨_,h,_⟩
   omega
  ·rintro i zs G ⟨s,_⟩
   exact SqL.of (s _ _ hfd)
  ·rintro i zs G v hv ⟨s,hz,hZ⟩
   have hi:i < n:=by have:=(List.getElem?_eq_some_iff.mp hv).1;omega
   obtain ⟨rb,eb,hrb⟩:=hY.2 i hi
   rw [eb] at hv;cases hv
   have hli:=hlen i hi
   walk_at "sts"
   refine ⟨KeepSt.set rfl,?_⟩
   walk_at "sts"
   refine bz (SqL.of (s _ _ hrb)) (v:=.int ((f' i).getD (n - 1) 0)) (Od (n:=n - 1) (by rw [List.length_map];omega) (by rw [List.getElem?_map,List.getD_eq_getElem?_getD,List.getElem?_eq_getElem (show n - 1 < (f' i).length by omega)];rfl)) ?_
   walk_at "sts"
   refine aR rfl fun l1 G2 _ s2 hl1=>?_
   walk_at "sts"
   refine g8 (s2 _ _ (s _ _ hrb)) hl1 (by rw [List.length_map];simp;omega) fun p3 n3=>?_
   walk_at "sts"
   have s3:=s2.upd n3 (o:=.lst ((f' i).map V.int ++ [.int ((f' i).getD (n - 1) 0)]))
   refine ⟨s.trans s3,by simp;omega,fun u hu=>?_⟩
   rcases List.mem_append.mp hu with h | h
   ·exact (hZ u h).same s3
   ·rw [List.mem_singleton.mp h]
    exact .inl ⟨p3,_,rfl,.inl ak,by rw [List.length_append,List.length_map];simp;omega,Fl.app flI fun w hw=>by rw [List.mem_singleton.mp hw];exact Fl.int _⟩
  rintro zs G D G2 ⟨s,hz,hZ⟩ nD s2 hD'
  try walk_at "sts"
  have sB:=s.trans s2
  refine aR rfl fun l1 G3 _ s3 hl1=>?_
  walk_at "sts"
  refine bB (SqL.of (s3 _ _ (sB _ _ hfd))) ?_
  walk_at "sts"
  rw [hyl]
  refine DY hl1 (by omega) (by omega) (by simp;omega) fun m1 nm1=>?_
  rw [show (List.replicate ((n:Int)+1).toNat [V.int 0]).flatten=List.replicate (n+1) (V.int 0) by
   rw [show ((n:Int)+1).toNat=n+1 by omega]
   generalize n+1=k
   induction k with
   | zero=>rfl
   | succ k ih=>rw [List.replicate_succ,List.flatten_cons,ih,List.replicate_succ];rfl]
  have s4:=s3.upd nm1 (o:=.lst (List.replicate (n+1) (V.int 0)))
  have hm1:=ak (H:=G3) (a:=m1) (o:=.lst (List.replicate (n+1) (V.int 0)))
  generalize upd G3 m1 (.lst (List.replicate (n+1) (V.int 0)))=G4 at s4 hm1 ⊢
  walk_at "sts"
  refine aR rfl fun l2 G5 _ s5 hl2=>?_
  walk_at "sts"
  refine g8 (s5 _ _ (s4 _ _ hD')) hl2 (by simp;omega) fun p6 n6=>?_
  walk_at "sts"
  have s25:=s4.trans s5
  have s6:=s25.upd n6 (o:=.lst (zs ++ [.ref m1]))
  refine new _ p6 _ (S02.trans (sB.trans s6)) (Same.back (S02.trans (sB.trans s25)) n6) ak (by simp;omega) fun u hu=>?_
  rcases List.mem_append.mp hu with h | h
  ·exact ((hZ u h).same s2).same s6
  ·rw [List.mem_singleton.mp h]
   exact .inl ⟨m1,_,rfl,.inl (dU n6 (s5 _ _ hm1)),by simp;omega,fun w hw=>by rw [List.eq_of_mem_replicate hw];exact Fl.int 0⟩
 walk_at "sts"
 refine iy (fun hE=>?_) (fun hE=>?_)
 ·walk_at "sts"
  refine .inl ⟨fd,rfl,⟨_,SqL.of hfd⟩,?_⟩
  refine cT (xs:=ys) (fun i zs G=>Same H2 G∧zs.length=i∧∀ u∈zs,RowT G u) (by omega) ⟨Same.refl H2,rfl,fun u hu=>nomatch hu⟩ ?_ ?_ ?_ ?_
  ·rintro i zs G ⟨_,h,_⟩
   omega
  ·rintro i zs G ⟨s,_⟩
   exact SqL.of (s _ _ hfd)
  ·rintro i zs G v hv ⟨s,hz,hZ⟩
   have hi:i < n:=by have:=(List.getElem?_eq_some_iff.mp hv).1;omega
   obtain ⟨rb,eb,hrb⟩:=hY.2 i hi
   rw [eb] at hv;cases hv
   have hli:=hlen i hi
   have hrbG:=s _ _ hrb
   walk_at "sts"
   refine ⟨KeepSt.set rfl,?_⟩
   walk_at "sts"
   refine jE hrbG fun s1 G2 _ t2 hs1=>?_
   walk_at "sts"
   refine bz (SqL.of (t2 _ _ hrbG)) (sO (by omega)) ?_
   walk_at "sts"
   refine aR rfl fun l1 G3 _ t3 hl1=>?_
   walk_at "sts"
   have c1:=cH ((f' i).map V.int) none (some (kp:Int))
   have c2:=cH ((f' i).map V.int) (some ((kp:Int)+1)) none
   rw [List.length_map] at c1 c2
   refine g8 (t3 _ _ hs1) hl1 (by simp;omega) fun p4 n4=>?_
   walk_at "sts"
   have t4:=(Same.refl G3).upd n4 (o:=.lst (fO ((f' i).map V.int) none (some (kp:Int)) ++ [.int ((f' i).getD kp 0+1)]))
   have hp4:=ak (H:=G3) (a:=p4) (o:=.lst (fO ((f' i).map V.int) none (some (kp:Int)) ++ [.int ((f' i).getD kp 0+1)]))
   generalize upd G3 p4 (.lst (fO ((f' i).map V.int) none (some (kp:Int)) ++ [.int ((f' i).getD kp 0+1)]))=G4 at t4 hp4 ⊢
   have t24:=t2.trans (t3.trans t4)
   refine jE (t24 _ _ hrbG) fun s5 G5 _ t5 hs5=>?_
   walk_at "sts"
   refine g8 (t5 _ _ hp4) hs5 (by simp;omega) fun p6 n6=>?_
   walk_at "sts"
   have t6:=(t24.trans t5).upd n6 (o:=.lst (fO ((f' i).map V.int) none (some (kp:Int)) ++ [.int ((f' i).getD kp 0+1)] ++ fO ((f' i).map V.int) (some ((kp:Int)+1)) none))
   refine ⟨s.trans t6,by simp;omega,fun u hu=>?_⟩
   rcases List.mem_append.mp hu with h | h
   ·exact (hZ u h).same t6
   ·rw [List.mem_singleton.mp h]
    exact .inl ⟨p6,_,rfl,.inl ak,by simp;omega,Fl.app (Fl.app (Fl.cut flI) fun w hw=>by rw [List.mem_singleton.mp hw];exact Fl.int _) (Fl.cut flI)⟩
  rintro zs G D G2 ⟨s,hz,hZ⟩ nD s2 hD'
  try walk_at "sts"
  exact new _ D _ (S02.trans (s.trans s2)) (Same.back (S02.trans s) nD) hD' (by omega) fun u hu=>(hZ u hu).same s2
 walk_at "sts"
 refine iy (fun hG=>?_) (fun hG=>?_)
 ·walk_at "sts"
  refine bz (SqL.of hfd) (bZ era) ?_
  walk_at "sts"
  refine ⟨.inl ⟨rfl,_,SqL.of hra⟩,?_⟩
  walk_at "sts"
  refine d9 hra (by rw [List.length_map];omega) ?_
  walk_at "sts"
  exact setF _ _ (Same.refl H2) (by rw [List.length_append,List.length_map];simp;omega) (Fl.app flI fun w hw=>by rw [List.mem_singleton.mp hw];exact Fl.int _)
 ·walk_at "sts"
  exact fin _ ys S02 hfd (by omega) hRT
end
section
variable {P:Program} {w:World} {K:PySem.W.Frag} {mg:Str→Option Value} {base:Heap}
theorem sS:(["_law_cell_here","_law_many_here"]:List Str).Nodup:=by decide+kernel
theorem sU:(["_law_cell_here","_law_many_here"]:List Str).Nodup:=by decide+kernel
theorem kz4m:bT aD "range":=by decide+kernel
theorem T4:cC aD "_law_turn":=by decide+kernel
theorem wZ:cC aD "_law_table":=by decide+kernel
theorem JD:cC aD "_law_row":=by decide+kernel
theorem JF:cC aD "_law_due":=by decide+kernel
theorem T5:bT aD "_law_list":=by decide+kernel
theorem yz:cC aD "_law_turning_here":=by decide+kernel
theorem kz4t:bT aD "from_counts":=by decide+kernel
theorem kz4u:bT aD "zip":=by decide+kernel
theorem T6:cC aD "_law_like":=by decide+kernel
theorem T7:bT aD "len":=by decide+kernel
theorem JK:Ce aD "_law_many_here":=by decide+kernel
theorem kz4y:bT aD "isinstance":=by decide+kernel
theorem kz4z:bT aD "list":=by decide+kernel
theorem kz50:bT aD "counts":=by decide+kernel
theorem T8:bT aD "tuple":=by decide+kernel
theorem T9:cC aD "_law_cells":=by decide+kernel
theorem JL:cC aD "_law_begin":=by decide+kernel
theorem JM:cC aD "_law_end":=by decide+kernel
theorem Qa:cC aD "_law_found":=by decide+kernel
theorem kz56:bT aD "_law_whole":=by decide+kernel
theorem kz57:bT aD "counted":=by decide+kernel
theorem kz58:bT aD "_law_counts":=by decide+kernel
theorem Qc {n m:Nat} (h:m < n):(List.range n).countP (fun e=>decide (e≤m))=m+1:=by
 have key:∀ n,(List.range n).countP (fun e=>decide (e≤m))=min n (m+1):=by
  intro n
  induction n with
  | zero=>simp
  | succ n ih=>
   rw [List.range_succ,List.countP_append,ih,List.countP_singleton]
   by_cases hn:n≤m
   ·rw [if_pos (decide_eq_true hn)];omega
   ·rw [if_neg (by simpa using hn)];omega
 rw [key];omega
theorem JN {t:List Nat} (hP:Prm t) {b:Nat} (hb:b < t.length):Cg (cB t) (t.length+1) b=((t.getD b 0:Nat):Int):=by
 have hlt:t.getD b 0 < t.length:=hP.lt (by rw [List.getD_eq_getElem?_getD,List.getElem?_eq_getElem hb];exact List.getElem_mem _)
 unfold Cg
 have e:(List.range (t.length+1)).countP (fun e=>decide ((cB t b).getD e 0=(cB t (b+1)).getD e 0))=(List.range (t.length+1)).countP (fun e=>decide (e≤t.getD b 0)):=by
  refine List.countP_congr fun e he=>?_
  have he:=List.mem_range.mp he
  rw [List.getD_eq_getElem?_getD,List.getD_eq_getElem?_getD,qM (by omega),qM (by omega)]
  have:=wW hb e
  simp only [Option.getD_some,decide_eq_true_eq]
  by_cases h:t.getD b 0 < e
  ·rw [if_pos h] at this
   constructor <;> intro h' <;> omega
  ·rw [if_neg h] at this
   constructor <;> intro h' <;> omega
 rw [e,Qc (by omega)]
 omega
theorem yC {t:List Nat} (hP:Prm t):tI (cB t) (t.length+1)=nI t:=by
 unfold tI nI
 rw [Nat.add_sub_cancel]
 refine List.ext_getElem? fun i=>?_
 by_cases hi:i < t.length
 ·rw [List.getElem?_map,List.getElem?_range hi,List.getElem?_map,List.getElem?_eq_getElem hi]
  show some (Cg (cB t) (t.length+1) i)=some ((t[i]:Nat):Int)
  rw [JN hP hi,List.getD_eq_getElem?_getD,List.getElem?_eq_getElem hi];rfl
 ·rw [List.getElem?_eq_none (by simp;omega),List.getElem?_eq_none (by simp;omega)]
theorem Qd (t:List Nat):(nI t).map Int.toNat=t:=by
 unfold nI
 rw [List.map_map]
 refine (List.map_congr_left fun x _=>?_).trans (List.map_id t)
 show ((x:Int)).toNat=x
 omega
theorem Qe {t:List Nat} (hP:Prm t):GP (cB t) (t.length+1):=by
 refine ⟨?_,fun k _=>by rw [yC hP,Qd]⟩
 rw [yC hP]
 refine oh.mpr ⟨by unfold nI;rw [List.length_map];exact hP.le,fun n hn=>?_,?_⟩
 ·unfold nI at hn ⊢
  obtain ⟨y,hy,rfl⟩:=List.mem_map.mp hn
  have:=hP.lt hy
  rw [List.length_map]
  omega
 ·unfold nI List.Nodup
  rw [List.pairwise_map]
  exact hP.nd.imp fun h e=>h (by omega)
theorem zM (t:List Nat) (b:Nat):cB t b=nI ((List.range (t.length+1)).map (o5 t b)):=by
 unfold cB nI
 rw [List.map_map];rfl
theorem Gy (s t:List Nat):nI (s ++ t)=nI s ++ nI t:=by unfold nI;rw [List.map_append]
def Ua (K:PySem.W.Frag):Sp:=fun vs H Q _=>∃ (a cq:Addr) (t:List Nat) (cs:List Int),vs=[.ref a,.ref cq]∧H a=some (.lst ((nI t).map V.int))∧Prm t∧H cq=some (.lst (cs.map V.int))∧cs.length≤60∧∀ H',Same H H'→Q (.bl true) H'
theorem bL:aO ["_law_turning_here","_law_cells","_law_due","_law_many_here","_law_begin","_law_end","_law_found","_law_turn","_law_table","_law_row","_law_like"] ["_law_turning_here","_law_cells"] (aq aD):=⟨rfl,rfl,rfl,by decide+kernel,rfl,by decide+kernel,by decide+kernel⟩
theorem lA (T:Txt K mg):qu P w K mg base 7 "_law_right" ["_law_turning_here","_law_cells"] (Ua K):=by
 have cA:=cA (P:=P) (w:=w) (base:=base) T
 have gR:=gR (P:=P) (w:=w) (base:=base) T
 have cO:=cO (P:=P) (w:=w) (base:=base) T
 have jh:=jh (P:=P) (w:=w) (base:=base) T
 have fj:=fj (P:=P) (w:=w) (base:=base) T
 have dj:=dj (P:=P) (w:=w) (base:=base) T
 refine iZ T.d_law_right bL (fun _ _ _ _ _ _ us hl=>L2.qP (fun _ _=>rfl) us hl) ?_ fun f cdv A outer s H vs Q E hr h=>?_
 ·rintro vs H Q E ⟨a,cq,t,cs,rfl,_⟩;rfl
 obtain ⟨a,cq,t,cs,rfl,ha,hP,hcq,hcl,q⟩:=h
 have hu:=hr.units0
 have hu64:=hr.units
 refine ⟨_,(az (aQ (i:=2) bL.nd rfl (Or.inl JF) (aU cA (hr.mono (by decide)) (aW kz58) (aa (ao 0 yz) aj) (by decide+kernel)) rfl) (az (aQ (i:=3) bL.nd rfl (Or.inr JK) (aC (aF (K:=K) rfl) (aW T7) T.b_len bu (aa (ao 0 yz) aj) (by decide+kernel) (by decide+kernel)) rfl) (az (eY PassesOwn.never rfl (dz (K:=K) rfl (bf aP (bJ (aa aA (aa (fP 3 JK) aj))) (gf (sub:=[none,some 3]) (bU (N:=["_law_turning_here","_law_cells","_law_due","_law_many_here","_law_begin","_law_end","_law_found","_law_turn","_law_table","_law_row","_law_like"]) (sc:=aq aD) (N':=["_law_cell_here","_law_many_here"]) (by decide+kernel)) rfl rfl rfl (dz (K:=K) rfl (ao 1 T9)) (fun C s₀ H₀ ex=>(j8 0 (by decide+kernel) sS)) (fun C s₀ H₀ ex=>eQ) (fun C s₀ H₀ ex=>(bf eU (cJ 0 (by decide+kernel)) (bf aP (fG 1 (by decide+kernel)) aA)))))) (bF (i:=4) bL.nd rfl (Or.inl JL) rfl) (au (eY PassesOwn.never rfl (dz (K:=K) rfl (bf aP (bJ (aa (fP 3 JK) (aa aA aj))) (gf (sub:=[none,some 3]) (bU (N:=["_law_turning_here","_law_cells","_law_due","_law_many_here","_law_begin","_law_end","_law_found","_law_turn","_law_table","_law_row","_law_like"]) (sc:=aq aD) (N':=["_law_cell_here","_law_many_here"]) (by decide+kernel)) rfl rfl rfl (dz (K:=K) rfl (ao 1 T9)) (fun C s₀ H₀ ex=>(j8 0 (by decide+kernel) sU)) (fun C s₀ H₀ ex=>eQ) (fun C s₀ H₀ ex=>(bf eU (bf rM (cJ 0 (by decide+kernel)) aA) (bf aP (fG 1 (by decide+kernel)) aA)))))) (bF (i:=5) bL.nd rfl (Or.inl JM) rfl) (az (aQ (i:=6) bL.nd rfl (Or.inl Qa) (gn gR (hr.mono (by decide)) (aW kz57) (Eo fun _ _=>rfl) (aa (dw (K:=K) rfl (bJ (aa (ao 0 yz) (aa (d8 (iC (K:=K) rfl rfl) (aW T8) T.b_tuple jN (aa (ao 0 yz) aj) (by decide+kernel) (by decide+kernel)) aj))) (bf eU (bf aP (ao 4 JL) (ao 5 JM)) aA)) (aa (ao 4 JL) (aa (ao 5 JM) aj))) (by decide+kernel)) rfl) (au (bj (ie (gJ (bO (bI (aU cO (hr.mono (by decide)) (aW kz56) (aa (ao 6 Qa) aj) (by decide+kernel)))) (eV (bh (il (K:=K) rfl hu64) (ao 6 Qa) (dw (K:=K) rfl (dw (K:=K) rfl (ao 2 JF) (ao 4 JL)) (ao 5 JM)) (by first | exact aV _ | with_unfolding_all rfl))))) (au (aL gw)) bC)))))) (az (eY PassesOwn.never rfl (fH (aW kz4m) T.b_range (aa aA aj)) (bF (i:=7) bL.nd rfl (Or.inl T4) rfl) (az (aQ (i:=8) bL.nd rfl (Or.inl wZ) (gn jh (hr.mono (by decide)) (aW kz50) (Eo fun _ _=>rfl) (aa (dw (K:=K) rfl (bJ (aa (ao 0 yz) (aa (d8 (iC (K:=K) rfl rfl) (aW T8) T.b_tuple jN (aa (ao 0 yz) aj) (by decide+kernel) (by decide+kernel)) aj))) (ao 7 T4)) aj) (by decide+kernel)) rfl) (az (bj (ie (gJ (bO (bI (aC (bN (K:=K) rfl) (aW kz4y) T.b_isinstance aK (aa (ao 8 wZ) (aa (j7 (aW kz4z) T.b_list cF (by decide+kernel) (by decide+kernel)) aj)) (by decide+kernel) (by decide+kernel)))) (eV (bh (il (K:=K) rfl hu64) (aC (aF (K:=K) rfl) (aW T7) T.b_len bu (aa (ao 8 wZ) aj) (by decide+kernel) (by decide+kernel)) (bf aP (fP 3 JK) aA) (by first | exact aV _ | with_unfolding_all rfl))))) (au (aL gw)) bC) (az (eY PassesOwn.never rfl (Nq (K:=K) rfl (aW kz4u) T.b_zip (aa (ao 8 wZ) (aa (ao 2 JF) aj))) (xP (K:=K) rfl rfl (cL (bF (i:=9) bL.nd rfl (Or.inl JD) rfl) (cL (bF (i:=10) bL.nd rfl (Or.inl T6) rfl) nj))) (au (bj (bO (bI (aU fj (hr.mono (by decide)) (aW T5) (aa (ao 9 JD) (aa (ao 10 T6) aj)) (by decide+kernel)))) (au (aL gw)) bC))) (az (bj (ie (gJ (bO (bI (aU fj (hr.mono (by decide)) (aW T5) (aa (gn dj (hr.mono (by decide)) (aW kz4t) (Eo fun _ _=>rfl) (aa (ao 8 wZ) aj) (by decide+kernel)) (aa (ao 0 yz) aj)) (by decide+kernel)))) (eV (bh (il (K:=K) rfl hu64) (ao 8 wZ) (ao 2 JF) (by first | exact aV _ | with_unfolding_all rfl))))) (au (aL gw)) bC) (az (eY PassesOwn.never rfl (dz (K:=K) rfl (ao 8 wZ)) (bF (i:=9) bL.nd rfl (Or.inl JD) rfl) (au (cZ (iR (K:=K) rfl PySem.F.plainAttrs_list PySem.F.slot_list_append PySem.F.type_list_append dR (ao 9 JD) (aa aA aj))))) (au (cZ (HN (K:=K) rfl PySem.F.plainAttrs_list PySem.F.slot_list_clear PySem.F.type_list_clear Dj (ao 8 wZ)))))))))) (au (aL gw)))))),?_⟩
 walk_at "sts"
 have hs:20000≤sizeLine:=by decide
 have hle:=hP.le
 refine ⟨a,t,rfl,ha,hle,fun du ds H1 _ S1 hdu hD=>?_⟩
 walk_at "sts"
 have ha1:=S1 _ _ ha
 refine bB (SqL.of ha1) ?_
 walk_at "sts"
 rw [bx]
 walk_at "sts"
 refine aR rfl fun p0 H2 n0 S2 hp0=>?_
 walk_at "sts"
 replace hp0:H2 p0=some (.lst ((nI [0,t.length]).map V.int)):=hp0
 have cqv:∀ (c:Int),∃ k:Nat,c % ((t.length:Int)+1)=(k:Int)∧k≤t.length:=fun c=>⟨(c % ((t.length:Int)+1)).toNat,by have:=Int.emod_nonneg c (show (t.length:Int)+1≠0 by omega);omega,by have:=Int.emod_lt_of_pos c (show 0 < (t.length:Int)+1 by omega);omega⟩
 have hcq2:=S2 _ _ (S1 _ _ hcq)
 refine .inl ⟨cq,rfl,⟨_,SqL.of hcq2⟩,?_⟩
 refine cT (xs:=cs.map V.int) (fun i ys G=>G=H2∧∃ ps:List Nat,ys=(nI ps).map V.int∧ps.length=i∧∀ k∈ps,k≤t.length) (by rw [List.length_map];omega) ⟨rfl,[],rfl,rfl,fun k hk=>nomatch hk⟩ ?_ ?_ ?_ ?_
 ·rintro i ys G ⟨_,ps,rfl,h,_⟩
  rw [bx];omega
 ·rintro i ys G ⟨rfl,_⟩
  exact SqL.of hcq2
 ·rintro i ys G v hv ⟨rfl,ps,rfl,hl,hps⟩
  obtain ⟨c,_,rfl⟩:=List.mem_map.mp (List.mem_of_getElem? hv)
  walk_at "sts"
  refine ⟨KeepSt.set rfl,?_⟩
  walk_at "sts"
  obtain ⟨k,ek,hk⟩:=cqv c
  rw [ek]
  refine ⟨rfl,ps ++ [k],u6 _ _,by simp;omega,fun j hj=>?_⟩
  rcases List.mem_append.mp hj with h | h
  ·exact hps j h
  ·rw [List.mem_singleton.mp h];exact hk
 rintro ys G D H3 ⟨rfl,ps,rfl,hpl,hps⟩ nD S3 hD3
 rw [List.length_map] at hpl
 try walk_at "sts"
 refine g8 (S3 _ _ hp0) hD3 (by rw [bx,bx];simp;omega) fun p3 n3=>?_
 rw [show (nI [0,t.length]).map V.int ++ (nI ps).map V.int=(nI ([0,t.length] ++ ps)).map V.int by rw [Gy,List.map_append]]
 have S4:=(S2.trans S3).upd n3 (o:=.lst ((nI ([0,t.length] ++ ps)).map V.int))
 have hp3:=ak (H:=H3) (a:=p3) (o:=.lst ((nI ([0,t.length] ++ ps)).map V.int))
 generalize upd H3 p3 (.lst ((nI ([0,t.length] ++ ps)).map V.int))=H4 at S4 hp3 ⊢
 have hP3:∀ k∈[0,t.length] ++ ps,k≤t.length:=fun k hk=>by
  rcases List.mem_append.mp hk with h | h
  ·simp at h;omega
  ·exact hps k h
 have pl3:([0,t.length] ++ ps).length≤62:=by simp;omega
 generalize [0,t.length] ++ ps=qs at hp3 hP3 pl3
 have ha4:=S4 _ _ ha1
 have hcq4:=S4 _ _ (S1 _ _ hcq)
 have hdu4:=S4 _ _ hdu
 have hD4:=hD.same S4
 clear S2 S3 hp0 hD3 hps hcq2 n0 nD n3
 walk_at "sts"
 refine .inl ⟨p3,rfl,⟨_,SqL.of hp3⟩,?_⟩
 refine gW (xs:=(nI qs).map V.int) (fun i σ G=>Same H4 G∧∃ x4 x5 x6,σ=[some (.ref a),some (.ref cq),some (.ref du),some (.int (t.length:Int)),x4,x5,x6,none,none,none,none]) ⟨Same.refl H4,_,_,_,rfl⟩ (fun i σ G _ h=>SqL.of (h.1 _ _ hp3)) ?_ ?_
 ·rintro i v σ G hv ⟨sG,x4,x5,x6,rfl⟩
  obtain ⟨b,hb,rfl⟩:=sr hv
  have hbn:=hP3 b (List.mem_of_getElem? hb)
  walk_at "sts"
  refine aR rfl fun p5 G1 _ s1 hp5=>?_
  walk_at "sts"
  replace hp5:G1 p5=some (.lst ((nI [t.length,0]).map V.int)):=hp5
  have hcqG:=s1 _ _ (sG _ _ hcq4)
  refine .inl ⟨cq,rfl,⟨_,SqL.of hcqG⟩,?_⟩
  refine cT (xs:=cs.map V.int) (fun i ys G=>G=G1∧∃ ps:List Nat,ys=(nI ps).map V.int∧ps.length=i∧∀ k∈ps,k≤t.length) (by rw [List.length_map];omega) ⟨rfl,[],rfl,rfl,fun k hk=>nomatch hk⟩ ?_ ?_ ?_ ?_
  ·rintro i ys G ⟨_,ps,rfl,h,_⟩
   rw [bx];omega
  ·rintro i ys G ⟨rfl,_⟩
   exact SqL.of hcqG
  ·rintro i ys G v hv ⟨rfl,ps,rfl,hl,hps⟩
   obtain ⟨c,_,rfl⟩:=List.mem_map.mp (List.mem_of_getElem? hv)
   walk_at "sts"
   refine ⟨KeepSt.set rfl,?_⟩
   walk_at "sts"
   obtain ⟨k,ek,hk⟩:=cqv (c / 97)
   rw [ek]
   refine ⟨rfl,ps ++ [k],u6 _ _,by simp;omega,fun j hj=>?_⟩
   rcases List.mem_append.mp hj with h | h
   ·exact hps j h
   ·rw [List.mem_singleton.mp h];exact hk
  rintro ys G' D G2 ⟨rfl,ps,rfl,hpl,hps⟩ nD s2 hD2
  rw [List.length_map] at hpl
  try walk_at "sts"
  refine g8 (s2 _ _ hp5) hD2 (by rw [bx,bx];simp;omega) fun p6 n6=>?_
  rw [show (nI [t.length,0]).map V.int ++ (nI ps).map V.int=(nI ([t.length,0] ++ ps)).map V.int by rw [Gy,List.map_append]]
  have s3:=(sG.trans (s1.trans s2)).upd n6 (o:=.lst ((nI ([t.length,0] ++ ps)).map V.int))
  have hp6:=ak (H:=G2) (a:=p6) (o:=.lst ((nI ([t.length,0] ++ ps)).map V.int))
  generalize upd G2 p6 (.lst ((nI ([t.length,0] ++ ps)).map V.int))=G3 at s3 hp6 ⊢
  have hP6:∀ k∈[t.length,0] ++ ps,k≤t.length:=fun k hk=>by
   rcases List.mem_append.mp hk with h | h
   ·simp at h;omega
   ·exact hps k h
  generalize [t.length,0] ++ ps=rs at hp6 hP6
  walk_at "sts"
  refine .inl ⟨p6,rfl,⟨_,SqL.of hp6⟩,?_⟩
  refine gW (xs:=(nI rs).map V.int) (fun i σ G=>Same G3 G∧∃ x5 x6,σ=[some (.ref a),some (.ref cq),some (.ref du),some (.int (t.length:Int)),some (.int (b:Int)),x5,x6,none,none,none,none]) ⟨Same.refl G3,_,_,rfl⟩ (fun i σ G _ h=>SqL.of (h.1 _ _ hp6)) ?_ ?_
  ·rintro i v σ G4 hv ⟨s4,y5,y6,rfl⟩
   obtain ⟨e,he,rfl⟩:=sr hv
   have hen:=hP6 e (List.mem_of_getElem? he)
   have U:=s3.trans s4
   have haU:=U _ _ ha4
   walk_at "sts"
   refine .inl ⟨a,_,rfl,.inl ⟨SqL.of haU,fun t1 nt1=>?_⟩⟩
   have s5:=(Same.refl G4).upd nt1 (o:=.tup ((nI t).map V.int))
   have ht1:=ak (H:=G4) (a:=t1) (o:=.tup ((nI t).map V.int))
   generalize upd G4 t1 (.tup ((nI t).map V.int))=G5 at s5 ht1 ⊢
   walk_at "sts"
   refine aR rfl fun l1 G6 nl1 s6 hl1=>?_
   walk_at "sts"
   obtain ⟨v1,e1,hv1⟩:∃ v1,tY [V.ref a,V.ref t1] (((b:Int)+(e:Int)) % 2)=some (.ref v1)∧Tn G6 v1 t:=by
    obtain h | h:((b:Int)+(e:Int)) % 2=0∨((b:Int)+(e:Int)) % 2=1:=by omega
    ·rw [h];exact ⟨a,rfl,.inl (s6 _ _ (s5 _ _ haU))⟩
    ·rw [h];exact ⟨t1,rfl,.inr (s6 _ _ ht1)⟩
   refine bz (SqL.of hl1) e1 ?_
   walk_at "sts"
   refine ⟨.ref v1,.int (b:Int),.int (e:Int),rfl,.inl ⟨_,rfl⟩,.inl ⟨_,rfl⟩,.inr ⟨v1,t,rfl,hv1,hP,.inr (.inr ⟨b,e,rfl,rfl,hbn,hen,fun G7 s7=>?_⟩)⟩⟩
   walk_at "sts"
   refine ⟨.int ((o5 t b e:Nat):Int),rfl,.inl ⟨_,rfl⟩,?_⟩
   walk_at "sts"
   rw [show jK (V.int ((o5 t b e:Nat):Int))=true from rfl]
   have U7:=U.trans (s5.trans (s6.trans s7))
   obtain ⟨rb,erb,hrb⟩:=hD4.2 b (by omega)
   walk_at "sts"
   refine bz (SqL.of (U7 _ _ hdu4)) (bZ erb) ?_
   walk_at "sts"
   refine bz (SqL.of (U7 _ _ hrb)) (v:=.int ((o5 t b e:Nat):Int)) (bZ (by rw [List.getElem?_map,qM hen];rfl)) ?_
   walk_at "sts"
   rw [decide_eq_true rfl]
   walk_at "sts"
   exact ⟨s4.trans (s5.trans (s6.trans s7)),_,_,rfl⟩
  ·rintro σ G4 ⟨s4,y5,y6,rfl⟩
   exact ⟨s3.trans s4,_,_,_,rfl⟩
 rintro σ H5 ⟨S5,x4,x5,x6,rfl⟩
 walk_at "sts"
 refine ⟨_,rfl,by omega,by omega,?_⟩
 rw [show ((2:Int)).toNat=2 from rfl]
 have ha5:=S5 _ _ ha4
 have hdu5:=S5 _ _ hdu4
 have hD5:=hD4.same S5
 refine oE (n:=2) (fun i σ G=>Same H5 G∧∃ x7 x8 x9 x10,σ=[some (.ref a),some (.ref cq),some (.ref du),some (.int (t.length:Int)),x4,x5,x6,x7,x8,x9,x10]) ⟨Same.refl H5,_,_,_,_,rfl⟩ ?_ ?_
 ·rintro i σ G hi ⟨sG,x7,x8,x9,x10,rfl⟩
  rw [Int.zero_add]
  have haG:=sG _ _ ha5
  walk_at "sts"
  refine .inl ⟨a,_,rfl,.inl ⟨SqL.of haG,fun t1 nt1=>?_⟩⟩
  have s1:=(Same.refl G).upd nt1 (o:=.tup ((nI t).map V.int))
  have ht1:=ak (H:=G) (a:=t1) (o:=.tup ((nI t).map V.int))
  generalize upd G t1 (.tup ((nI t).map V.int))=G1 at s1 ht1 ⊢
  walk_at "sts"
  refine aR rfl fun l1 G2 nl1 s2 hl1=>?_
  walk_at "sts"
  obtain ⟨v1,e1,hv1⟩:∃ v1,tY [V.ref a,V.ref t1] (i:Int)=some (.ref v1)∧Tn G2 v1 t:=by
   obtain rfl | rfl:i=0∨i=1:=by omega
   ·exact ⟨a,rfl,.inl (s2 _ _ (s1 _ _ haG))⟩
   ·exact ⟨t1,rfl,.inr (s2 _ _ ht1)⟩
  refine bz (SqL.of hl1) e1 ?_
  walk_at "sts"
  refine ⟨v1,t,rfl,hv1,hP,fun tb rs G3 ntb s3 htb hT hN=>?_⟩
  walk_at "sts"
  have hrl:rs.length=t.length+1:=hT.1
  have s03:=s1.trans (s2.trans s3)
  have fr:∀ r,V.ref r∈rs→G r=none:=fun r hr=>Same.back (s1.trans s2) (hN r hr)
  refine cj (.lst htb) (b:=true) (by rfl) ?_
  walk_at "sts"
  refine bB (SqL.of htb) ?_
  walk_at "sts"
  rw [hrl,jf,decide_eq_true (by omega)]
  walk_at "sts"
  have hduG:=s03 _ _ (sG _ _ hdu5)
  have hDG:=hD5.same (sG.trans s03)
  refine ⟨tb,du,_,_,rfl,SqL.of htb,SqL.of hduG,?_⟩
  refine HW (xs:=rs) (ys:=ds) (fun k σ J=>Same G3 J∧∃ x9 x10,σ=[some (.ref a),some (.ref cq),some (.ref du),some (.int (t.length:Int)),x4,x5,x6,some (.int (i:Int)),some (.ref tb),x9,x10]) (by rw [hrl,hDG.1]) ⟨Same.refl G3,_,_,rfl⟩ (fun k σ J _ h=>⟨SqL.of (h.1 _ _ htb),SqL.of (h.1 _ _ hduG)⟩) ?_ ?_
  ·rintro k σ J T0 x y hx hy ⟨sJ,y9,y10,rfl⟩ nT
   have hk:k < t.length+1:=by have:=(List.getElem?_eq_some_iff.mp hx).1;omega
   obtain ⟨u,eu,hu⟩:=hT.2 k hk
   obtain ⟨w',ew,hw⟩:=hDG.2 k hk
   rw [eu] at hx;cases hx
   rw [ew] at hy;cases hy
   have sT:=sJ.upd nT (o:=.tup [.ref u,.ref w'])
   have gT:=ak (H:=J) (a:=T0) (o:=.tup [.ref u,.ref w'])
   generalize upd J T0 (.tup [.ref u,.ref w'])=J2 at sT gT ⊢
   refine ig (SqT.of gT) rfl ?_
   walk_at "sts"
   refine ⟨u,w',(List.range (t.length+1)).map (o5 t k),rfl,by rw [← zM];exact sT _ _ hu,by rw [← zM];exact sT _ _ hw,by simp;omega,fun J3 s3'=>?_⟩
   walk_at "sts"
   exact ⟨sT.trans s3',_,_,rfl⟩
  rintro σ J ⟨sJ,y9,y10,rfl⟩
  have htbJ:=sJ _ _ htb
  have hTJ:=hT.same sJ
  have hsq:Sq J (.ref tb) (t.length+1) (cB t):=⟨tb,rs,rfl,htbJ,hTJ,by omega,by omega,fun k _=>iu t k⟩
  have htt:TabT J (.ref tb):=.inl ⟨tb,rs,rfl,.inl htbJ,by omega,hTJ.rowT fun k _=>by rw [iu];omega⟩
  walk_at "sts"
  refine ⟨.ref tb,rfl,htt,fun n' f2 hq' _ fq J1 nfq t1' hfq=>?_,(fun h=>absurd (Qe hP) (h _ _ hsq))⟩
  walk_at "sts"
  obtain ⟨rfl,hf2⟩:=hsq.un hq'
  rw [lr hf2,yC hP] at hfq
  have aJ:=t1' _ _ (sJ _ _ (s03 _ _ haG))
  refine ⟨fq,a,t,rfl,hfq,aJ,by omega,fun J2 t2'=>?_⟩
  walk_at "sts"
  have sJ2:=sJ.trans (t1'.trans t2')
  refine .inl (.inl (v4 ((hT.same sJ2).dr (sJ2 _ _ htb)) ((hDG.same sJ2).dr (sJ2 _ _ hduG)) (gD _ _) ?_))
  walk_at "sts"
  refine .inl ⟨tb,rfl,⟨_,SqL.of (sJ2 _ _ htb)⟩,?_⟩
  have s0J:=s03.trans sJ2
  have ntb0:=Same.back (s1.trans s2) ntb
  have hTJ2:=hT.same sJ2
  refine gW (xs:=rs) (fun k σ L=>Same G L∧L tb=some (.lst rs)∧(∀ v∈rs,∃ (p:Addr) (ms:List V),v= .ref p∧L p=some (.lst ms)∧ms.length≤98+k)∧∃ x9 x10,σ=[some (.ref a),some (.ref cq),some (.ref du),some (.int (t.length:Int)),x4,x5,x6,some (.int (i:Int)),some (.ref tb),x9,x10])
   ⟨s0J,sJ2 _ _ htb,fun v hv=>?_,_,_,rfl⟩ (fun k σ L _ h=>SqL.of h.2.1) ?_ ?_
  ·obtain ⟨k,hk,e⟩:=List.mem_iff_getElem.mp hv
   obtain ⟨p,e1,hp⟩:=hTJ2.2 k (by omega)
   rw [List.getElem?_eq_getElem hk,e] at e1
   exact ⟨p,_,Option.some.inj e1,hp,by rw [List.length_map,iu];omega⟩
  ·rintro k v σ L hv ⟨sL,htL,hR,z9,z10,rfl⟩
   have hm:=List.mem_of_getElem? hv
   have hkr:k < rs.length:=(List.getElem?_eq_some_iff.mp hv).1
   obtain ⟨p,ms,rfl,hp,hml⟩:=hR v hm
   have pf:p≠tb:=fun z=>by
    obtain ⟨k',hk',e⟩:=List.mem_iff_getElem.mp hm
    obtain ⟨p',e1,hp'⟩:=hT.2 k' (by omega)
    rw [List.getElem?_eq_getElem hk',e] at e1
    cases e1
    rw [z,htb] at hp'
    have e0:rs=(cB t k').map V.int:=by injection hp' with h;injection h
    rw [e0] at hm
    obtain ⟨i',_,hi'⟩:=List.mem_map.mp hm
    cases hi'
   walk_at "sts"
   refine ⟨.inl ⟨rfl,_,SqL.of hp⟩,?_⟩
   walk_at "sts"
   refine d9 hp (by omega) ?_
   walk_at "sts"
   refine ⟨Same.put sL (fr p hm),by rw [aB (Ne.symm pf)];exact htL,fun w' hw'=>?_,_,_,rfl⟩
   obtain ⟨p2,ms2,rfl,hp2,hml2⟩:=hR w' hw'
   by_cases e:p2=p
   ·subst e
    exact ⟨p2,_,rfl,ak,by simp;rw [hp] at hp2;have e0:ms=ms2:=by injection hp2 with h;injection h
                          rw [e0];omega⟩
   ·exact ⟨p2,ms2,rfl,by rw [aB e];exact hp2,by omega⟩
  ·rintro σ L ⟨sL,htL,hR,z9,z10,rfl⟩
   walk_at "sts"
   refine ⟨.inl ⟨rfl,_,SqL.of htL⟩,?_⟩
   walk_at "sts"
   refine ⟨tb,_,rfl,rfl,htL,?_⟩
   walk_at "sts"
   exact ⟨sG.trans (Same.put sL ntb0),_,_,_,_,rfl⟩
 ·rintro σ G ⟨sG,x7,x8,x9,x10,rfl⟩
  walk_at "sts"
  exact q _ (S1.trans (S4.trans (S5.trans sG)))
end
section
variable {P:Program} {w:World} {K:PySem.W.Frag} {mg:Str→Option Value} {base:Heap}
theorem Gz:bT cX "_law_read":=by decide+kernel
theorem kz5a:bT cX "range":=by decide+kernel
theorem kz5b:bT cX "max":=by decide+kernel
theorem kz5c:bT cX "min":=by decide+kernel
theorem kz5d:bT cX "len":=by decide+kernel
theorem GC:cC cX "_law_script":=by decide+kernel
theorem BX:cC cX "_law_k":=by decide+kernel
theorem kz5g:bT cX "_law_spoiled":=by decide+kernel
theorem JP:bT cX "_law_cell":=by decide+kernel
theorem kz5i:bT cX "_law_counts":=by decide+kernel
theorem BZ:cC cX "_law_turning_here":=by decide+kernel
theorem Ub:cC cX "_law_kept":=by decide+kernel
theorem kz5l:bT cX "_law_doors":=by decide+kernel
theorem Qf:bT cX "_law_mix":=by decide+kernel
theorem JQ:cC cX "_law_cell_here":=by decide+kernel
theorem kz5o:bT cX "_law_right":=by decide+kernel
theorem Uc:cC cX "_law_cells":=by decide+kernel
theorem kz5q:bT cX "list":=by decide+kernel
theorem kz5r:bT cX "_law_turning":=by decide+kernel
theorem JR:cC cX "_law_many_here":=by decide+kernel
theorem kz5t:bT cX "_law_many":=by decide+kernel
theorem mm40 (n:Nat):∃ j:Nat,(if (if (n:Int) < 40 then (n:Int) else 40) > 8 then (if (n:Int) < 40 then (n:Int) else 40) else 8)=(j:Int)∧j≤40:=by
 by_cases h:(n:Int) < 40
 ·rw [if_pos h]
  by_cases h2:(n:Int) > 8
  ·rw [if_pos h2];exact ⟨n,rfl,by omega⟩
  ·rw [if_neg h2];exact ⟨8,rfl,by omega⟩
 ·rw [if_neg h,if_pos (by decide)];exact ⟨40,rfl,by omega⟩
def K3 (K:PySem.W.Frag):Sp:=fun vs H Q _=>∃ (a:Addr) (ns:List Int),vs=[.ref a]∧SqL K H a (ns.map V.int)∧ns.length≤63∧∀ H',Q (.bl true) H'
theorem lB:aO ["_law_script","_law_k","_law_many_here","_law_turning_here","_law_kept","_law_cell_here","_law_cells"] ["_law_script"] (aq cX):=⟨rfl,rfl,rfl,by decide+kernel,rfl,by decide+kernel,by decide+kernel⟩
theorem Qg (T:Txt K mg) {f0:Addr} {fd0:FuncData} (F0:Fun K "law" "law" cX f0 fd0):oH P w K mg base xG 8 f0 fd0 ["_law_script"] (K3 K):=by
 have mF:=mF (P:=P) (w:=w) (base:=base) T
 have iV:=iV (P:=P) (w:=w) (base:=base) T
 have gk:=gk (P:=P) (w:=w) (base:=base) T
 have fM:=fM (P:=P) (w:=w) (base:=base) T
 have fu:=fu (P:=P) (w:=w) (base:=base) T
 have lA:=lA (P:=P) (w:=w) (base:=base) T
 have lz:=lz (P:=P) (w:=w) (base:=base) T
 have iW:=iW (P:=P) (w:=w) (base:=base) T
 have cA:=cA (P:=P) (w:=w) (base:=base) T
 refine okJ F0 lB ?_ fun f cdv A outer s H vs Q E hr h=>?_
 ·rintro vs H Q E ⟨a,ns,rfl,_⟩;rfl
 obtain ⟨a,ns,rfl,hS,hlen,q⟩:=h
 have hu:=hr.units0
 have hu64:=hr.units
 refine ⟨_,(az (eY PassesOwn.never rfl (ur (aW kz5a) T.b_range (aa aA (aa (aC (Bf rfl) (aW kz5b) T.b_max Nh (aa aA (aa (aC (Bx rfl) (aW kz5c) T.b_min Ni (aa aA (aa (aC (aF (K:=K) rfl) (aW kz5d) T.b_len bu (aa (ao 0 GC) aj) (by decide+kernel) (by decide+kernel)) aj)) (by decide+kernel) (by decide+kernel)) aj)) (by decide+kernel) (by decide+kernel)) (aa aA aj)))) (bF (i:=1) lB.nd rfl (Or.inl BX) rfl) (az (aQ (i:=2) lB.nd rfl (Or.inl JR) (aU mF (hr.mono (by decide)) (aW kz5t) (aa (aU gk (hr.mono (by decide)) (aW JP) (aa (ao 0 GC) (aa (ao 1 BX) aj)) (by decide+kernel)) aj) (by decide+kernel)) rfl) (az (bj (bh CK (ao 1 BX) aA (by first | exact aV _ | with_unfolding_all rfl)) (au (aQ (i:=2) lB.nd rfl (Or.inl JR) (bf eU (ao 2 JR) aA) rfl)) bC) (az (aQ (i:=3) lB.nd rfl (Or.inl BZ) (aU iV (hr.mono (by decide)) (aW kz5r) (aa (aU gk (hr.mono (by decide)) (aW JP) (aa (ao 0 GC) (aa (bf aP (ao 1 BX) aA) aj)) (by decide+kernel)) (aa (ao 2 JR) aj)) (by decide+kernel)) rfl) (az (aQ (i:=4) lB.nd rfl (Or.inl Ub) (d8 (gZ (K:=K) rfl rfl) (aW kz5q) T.b_list cF (aa (ao 3 BZ) aj) (by decide+kernel) (by decide+kernel)) rfl) (az (aQ (i:=5) lB.nd rfl (Or.inl JQ) (aU gk (hr.mono (by decide)) (aW JP) (aa (ao 0 GC) (aa (bf aP (ao 1 BX) aA) aj)) (by decide+kernel)) rfl) (az (aQ (i:=6) lB.nd rfl (Or.inl Uc) (bJ (aa (aU fM (hr.mono (by decide)) (aW Qf) (aa (ao 5 JQ) (aa aA aj)) (by decide+kernel)) (aa (aU fM (hr.mono (by decide)) (aW Qf) (aa (ao 5 JQ) (aa aA aj)) (by decide+kernel)) aj))) rfl) (az (bj (ie (gJ (bO (bI (aU lA (hr.mono (by decide)) (aW kz5o) (aa (ao 3 BZ) (aa (ao 6 Uc) aj)) (by decide+kernel)))) (gJ (bO (bI (aU lz (hr.mono (by decide)) (aW kz5l) (aa (ao 3 BZ) (aa (aU fM (hr.mono (by decide)) (aW Qf) (aa (ao 5 JQ) (aa aA aj)) (by decide+kernel)) aj)) (by decide+kernel)))) (eV (bh (il (K:=K) rfl hu64) (ao 3 BZ) (ao 4 Ub) (by first | exact aV _ | with_unfolding_all rfl)))))) (au (aL gw)) bC) (au (bj (bO (bI (aU fu (hr.mono (by decide)) (aW Gz) (aa (aU iW (hr.mono (by decide)) (aW kz5g) (aa (aU cA (hr.mono (by decide)) (aW kz5i) (aa (ao 3 BZ) aj) (by decide+kernel)) (aa (aU gk (hr.mono (by decide)) (aW JP) (aa (ao 0 GC) (aa (bf aP (ao 1 BX) aA) aj)) (by decide+kernel)) aj)) (by decide+kernel)) aj) (by decide+kernel)))) (au (aL gw)) bC)))))))))) (au (aL (pW (aU fu (hr.mono (by decide)) (aW Gz) (aa (bJ aj) aj) (by decide+kernel)) (pW (aU fu (hr.mono (by decide)) (aW Gz) (aa (bJ (aa (bJ (aa aA aj)) aj)) aj) (by decide+kernel)) (pW (aU fu (hr.mono (by decide)) (aW Gz) (aa (bJ (aa (bJ (aa aA aj)) aj)) aj) (by decide+kernel)) (uo (aU fu (hr.mono (by decide)) (aW Gz) (aa (bJ (aa (bJ (aa aA (aa aA aj))) (aa (bJ (aa aA (aa aA aj))) aj))) aj) (by decide+kernel))))))))),?_⟩
 walk_at "sts"
 have hs:20000≤sizeLine:=by decide
 refine bB hS ?_
 walk_at "sts"
 rw [List.length_map]
 obtain ⟨j,ej,hj⟩:=mm40 ns.length
 rw [ej]
 refine ⟨0,(j:Int),4,(j+3) / 4,rfl,by decide,PyProof.noPylong_small (by decide),ye (by omega) (by omega),Bl,?_⟩
 refine wz (fun i σ H'=>∃ (x1 x2 x3 x4 x5 x6:Option V),σ=[some (.ref a),x1,x2,x3,x4,x5,x6]∧Same H H') ⟨_,_,_,_,_,_,rfl,Same.refl _⟩ ?_ ?_
 ·rintro i σ H1 hi ⟨x1,x2,x3,x4,x5,x6,rfl,s⟩
  rw [show (0+(i:Int)*4)=((4*i:Nat):Int) by omega]
  generalize ek:((4*i:Nat):Int)=k
  have hk:0≤k:=by omega
  clear ek
  walk_at "stn"
  with_reducible refine vL ?_
  walk_at "stn"
  refine ⟨a,ns,k,rfl,qL hS s,hk,fun c0=>?_⟩
  walk_at "stn"
  refine ⟨c0,rfl,fun m0 H2 hm0 S2=>?_⟩
  walk_at "stn"
  have s2:=s.trans S2
  with_reducible refine Rv (fun σ H'=>H'=H2∧∃ m:Nat,m≤96∧σ=[some (.ref a),some (.int k),some (.int m),x3,x4,x5,x6]) ?_ ?_
  rotate_left
  ·intro N hN
   walk_at "stn"
   refine iy (fun h=>?_) (fun h=>?_)
   ·walk_at "stn"
    obtain ⟨m1,e1⟩:∃ m1:Nat,(m0:Int) % 25=m1:=⟨_,(Int.toNat_of_nonneg (by omega)).symm⟩
    rw [e1]
    exact hN _ _ ⟨rfl,m1,by omega,rfl⟩
   ·walk_at "stn"
    exact hN _ _ ⟨rfl,m0,hm0,rfl⟩
  rintro σ H' ⟨rfl,m,hm,rfl⟩
  walk_at "sts"
  refine ⟨a,ns,k+1,rfl,qL hS s2,by omega,fun c1=>?_⟩
  walk_at "sts"
  refine ⟨c1,m,rfl,hm,fun tr t H3 ntr S3 htr hP hl=>?_⟩
  walk_at "sts"
  have s3:=s2.trans S3
  refine .inl ⟨tr,_,rfl,.inl (SqL.of htr),fun kp nkp=>?_⟩
  have S4:=(Same.refl H3).upd nkp (o:=.lst ((nI t).map V.int))
  have hkp:=ak (H:=H3) (a:=kp) (o:=.lst ((nI t).map V.int))
  generalize upd H3 kp (.lst ((nI t).map V.int))=H4 at S4 hkp ⊢
  have s4:=s3.trans S4
  walk_at "sts"
  refine ⟨a,ns,k+2,rfl,qL hS s4,by omega,fun c2=>?_⟩
  walk_at "sts"
  refine ⟨c2,1,rfl,fun r1 _ _=>?_⟩
  walk_at "sts"
  refine ⟨c2,2,rfl,fun r2 _ _=>?_⟩
  walk_at "sts"
  refine aR rfl fun cq H5 _ S5 hcq=>?_
  walk_at "sts"
  replace hcq:H5 cq=some (.lst (([r1,r2]:List Int).map V.int)):=hcq
  have htr5:=S5 _ _ (S4 _ _ htr)
  refine ⟨tr,cq,t,[r1,r2],rfl,htr5,hP,hcq,by simp,fun H6 S6=>?_⟩
  walk_at "sts"
  refine ⟨c2,3,rfl,fun r3 _ _=>?_⟩
  walk_at "sts"
  refine ⟨tr,t,r3,rfl,S6 _ _ htr5,hP,fun H7 S7=>?_⟩
  walk_at "sts"
  have S57:=S6.trans S7
  have htr7:=S57 _ _ htr5
  refine .inl (.inl (.inl (.inr ⟨tr,kp,nI t,nI t,rfl,rfl,SqL.of htr7,SqL.of (S57 _ _ (S5 _ _ hkp)),?_⟩)))
  rw [decide_eq_true rfl]
  have s7:=s4.trans (S5.trans S57)
  walk_at "sts"
  refine ⟨tr,t,rfl,htr7,hP.le,fun cq' rs H8 _ S8 hcq' hC=>?_⟩
  walk_at "sts"
  have s8:=s7.trans S8
  refine ⟨a,ns,k+3,rfl,qL hS s8,by omega,fun c3=>?_⟩
  walk_at "sts"
  have hle:=hP.le
  refine ⟨cq',rs,t.length+1,cB t,c3,rfl,hcq',hC,by omega,by omega,fun k _=>iu t k,fun v H9 S9 hT hN=>?_⟩
  walk_at "sts"
  refine ⟨v,H8,rfl,S9,hT,hN,fun HA SA=>?_⟩
  walk_at "sts"
  exact ⟨_,_,_,_,_,_,rfl,s8.trans SA⟩
 ·rintro σ H1 ⟨x1,x2,x3,x4,x5,x6,rfl,s⟩
  walk_at "sts"
  refine aR rfl fun b0 H2 m0 S2 g0=>?_
  walk_at "sts"
  refine ⟨.ref b0,H1,rfl,S2,.inl ⟨b0,[],rfl,.inl g0,by simp,fun u hu=>nomatch hu⟩,(fun q' us e _=>by cases e;exact m0),fun H3 S3=>?_⟩
  walk_at "sts"
  refine aR rfl fun b1 H4 m1 S4 g1=>?_
  walk_at "sts"
  refine aR rfl fun b2 H5 m2 S5 g2=>?_
  walk_at "sts"
  have row1:∀ {G:Hp} {b:Addr} {l:List Int},G b=some (.lst (l.map V.int))→l.length≤200→RowT G (.ref b):=fun {G b l} h hl=>.inl ⟨b,_,rfl,.inl h,by rw [List.length_map];exact hl,fun w hw=>by
   obtain ⟨z,_,rfl⟩:=List.mem_map.mp hw
   exact Fl.int z⟩
  refine ⟨.ref b2,H4,rfl,S5,.inl ⟨b2,_,rfl,.inl g2,by simp,fun u hu=>by rw [List.mem_singleton.mp hu];exact row1 (l:=[0]) (S5 _ _ g1) (by simp)⟩,(fun q' us e _=>by cases e;exact m2),fun H6 S6=>?_⟩
  walk_at "sts"
  refine aR rfl fun b3 H7 m3 S7 g3=>?_
  walk_at "sts"
  refine aR rfl fun b4 H8 m4 S8 g4=>?_
  walk_at "sts"
  refine ⟨.ref b4,H7,rfl,S8,.inl ⟨b4,_,rfl,.inl g4,by simp,fun u hu=>by rw [List.mem_singleton.mp hu];exact row1 (l:=[1]) (S8 _ _ g3) (by simp)⟩,(fun q' us e _=>by cases e;exact m4),fun H9 S9=>?_⟩
  walk_at "sts"
  refine aR rfl fun b5 HA m5 SA g5=>?_
  walk_at "sts"
  refine aR rfl fun b6 HB m6 SB g6=>?_
  walk_at "sts"
  refine aR rfl fun b7 HC m7 SC g7=>?_
  walk_at "sts"
  refine ⟨.ref b7,HB,rfl,SC,.inl ⟨b7,_,rfl,.inl g7,by simp,fun u hu=>?_⟩,(fun q' us e _=>by cases e;exact m7),fun HD SD=>?_⟩
  walk_at "sts"
  ·simp only [List.mem_cons,List.mem_nil_iff,or_false] at hu
   rcases hu with rfl | rfl
   ·exact row1 (l:=[0,1]) (SC _ _ (SB _ _ g5)) (by simp)
   ·exact row1 (l:=[0,0]) (SC _ _ g6) (by simp)
  exact q _
end
end My
def PySem.W.Fast.tw9050537144781551580:Nat:=0
def PySem.W.Fast.tw6051988058290503336:Nat:=0
def PySem.W.Fast.tw11164296711725385506:Nat:=0
def PySem.W.Fast.tw2378004771364577161:Nat:=0
def PySem.W.Fast.tw7500432260233898870:Nat:=0
def PySem.W.Fast.tw12854728186925716370:Nat:=0
def PySem.W.Fast.tw16395006176434067238:Nat:=0
def PySem.W.Fast.tw13696251709366938523:Nat:=0
def PySem.W.Fast.tw12292567033517340322:Nat:=0
def PySem.W.Fast.tw15382824218017629354:Nat:=0
def PySem.W.Fast.tw8548965021976940587:Nat:=0
def PySem.W.Fast.tw6539233701533855843:Nat:=0
def PySem.W.Fast.tw13396036052690653648:Nat:=0
def PySem.W.Fast.tw3533626564220233352:Nat:=0
def PySem.W.Fast.tw2134753128335755203:Nat:=0
def PySem.W.Fast.tw8579251147031996282:Nat:=0
def PySem.W.Fast.tw16437554549481660568:Nat:=0
def PySem.W.Fast.tw4271769996697133863:Nat:=0
def PySem.W.Fast.tw14209193803190177610:Nat:=0
def PySem.W.Fast.tw6994058184569462276:Nat:=0
def PySem.W.Fast.tw1002404228280760828:Nat:=0
def PySem.W.Fast.tw16412505965243497258:Nat:=0
def PySem.W.Fast.tw14329851992698644118:Nat:=0
def PySem.W.Fast.tw7348209482252536471:Nat:=0
def PySem.W.Fast.tw7234043932828483778:Nat:=0
def PySem.W.Fast.tw14279229808955564413:Nat:=0
def PySem.W.Fast.tw10936121755183247029:Nat:=0
def PySem.W.Fast.tw9497258649796841579:Nat:=0
def PySem.W.Fast.tw14949189919016089206:Nat:=0
def PySem.W.Fast.tw7401179278757797874:Nat:=0
def PySem.W.Fast.tw10908643688174864875:Nat:=0
def PySem.W.Fast.tw8732108094851274893:Nat:=0
def PySem.W.Fast.tw1958425392013888811:Nat:=0
def PySem.W.Fast.tw472779623819500746:Nat:=0
def PySem.W.Fast.tw17661670509247500110:Nat:=0
def PySem.W.Fast.tw5803703064066071786:Nat:=0
def PySem.W.Fast.tw14441771457087469451:Nat:=0
def PySem.W.Fast.tw2799777081487367916:Nat:=0
def PySem.W.Fast.tw10519600881622566467:Nat:=0
def PySem.W.Fast.tw15616311058785649623:Nat:=0
def PySem.W.Fast.tw14336553226928949478:Nat:=0
def PySem.W.Fast.tw1266138611887798506:Nat:=0
def PySem.W.Fast.tw9010980364387510075:Nat:=0
def PySem.W.Fast.tw6642388898298701958:Nat:=0
def PySem.W.Fast.tw17949808366496019246:Nat:=0
def PySem.W.Fast.tw11283632881502683964:Nat:=0
def PySem.W.Fast.tw1501421133161971471:Nat:=0
def PySem.W.Fast.tw16012629504608847606:Nat:=0
def PySem.W.Fast.tw6205877727576852946:Nat:=0
def PySem.W.Fast.tw10177917733687515321:Nat:=0
def PySem.W.Fast.tw8611958869794701431:Nat:=0
def PySem.W.Fast.tw13408090424214527820:Nat:=0
def PySem.W.Fast.tw16868898160722004226:Nat:=0
def PySem.W.Fast.tw12806173949160377225:Nat:=0
def PySem.W.Fast.tw12422552292094629817:Nat:=0
def PySem.W.Fast.tw975057985778629048:Nat:=0
def PySem.W.Fast.tw10539378588360640999:Nat:=0
def PySem.W.Fast.tw3950764736873527101:Nat:=0
def PySem.W.Fast.tw7774356155783090262:Nat:=0
def PySem.W.Fast.tw3061007867086399384:Nat:=0
def PySem.W.Fast.tw14967295911690648552:Nat:=0
def PySem.W.Fast.tw398439982070560413:Nat:=0
def PySem.W.Fast.tw6376732278598398586:Nat:=0
def PySem.W.Fast.tw1692213394268499785:Nat:=0
def PySem.W.Fast.tw7584541398353587645:Nat:=0
def PySem.W.Fast.tw7998877925656424966:Nat:=0
def PySem.W.Fast.tw1770458583790052095:Nat:=0
def PySem.W.Fast.tw795205104510305745:Nat:=0
def PySem.W.Fast.tw7690911242698591963:Nat:=0
def PySem.W.Fast.tw12299527634902474483:Nat:=0
def PySem.W.Fast.tw3457567875245180908:Nat:=0
def PySem.W.Fast.tw7162028002250351024:Nat:=0
def PySem.W.Fast.tw3122945418325979000:Nat:=0
def PySem.W.Fast.tw17475837040216611905:Nat:=0
def PySem.W.Fast.tw18419619701818138531:Nat:=0
def PySem.W.Fast.tw12021862211637397873:Nat:=0
def PySem.W.Fast.tw7172072826273467157:Nat:=0
def PySem.W.Fast.tw13650876550717049338:Nat:=0
def PySem.W.Fast.tw12773080995477723930:Nat:=0
def PySem.W.Fast.tw18219732196346097748:Nat:=0
def PySem.W.Fast.tw961204811678924541:Nat:=0
def PySem.W.Fast.tw1826319071698431499:Nat:=0
def PySem.W.Fast.tw16522771693997869993:Nat:=0
def PySem.W.Fast.tw13957405592938576025:Nat:=0
def PySem.W.Fast.tw7240189817204030253:Nat:=0
def PySem.W.Fast.tw18348167404055426355:Nat:=0
def PySem.W.Fast.tw8760005900887822371:Nat:=0
def PySem.W.Fast.tw10217286678563340596:Nat:=0
def PySem.W.Fast.tw6798921088994230337:Nat:=0
def PySem.W.Fast.tw14966126678945400179:Nat:=0
def PySem.W.Fast.tw13550614855634705299:Nat:=0
def PySem.W.Fast.tw9372055606910699246:Nat:=0
def PySem.W.Fast.tw16406822553572692119:Nat:=0
def PySem.W.Fast.tw9160328826286378575:Nat:=0
def PySem.W.Fast.tw11381225207895241539:Nat:=0
def PySem.W.Fast.tw14818389668758090524:Nat:=0
def PySem.W.Fast.tw5648199253656085178:Nat:=0
def PySem.W.Fast.tw17696295601624387897:Nat:=0
def PySem.W.Fast.tw9844333153826913904:Nat:=0
def PySem.W.Fast.tw15312853471117704964:Nat:=0
def PySem.W.Fast.tw11526361537248690420:Nat:=0
def PySem.W.Fast.tw1704133543351867747:Nat:=0
def PySem.W.Fast.tw466940155426754616:Nat:=0
def PySem.W.Fast.tw2839748642826995373:Nat:=0
def PySem.W.Fast.tw18306145708597852112:Nat:=0
def PySem.W.Fast.tw16295640601756694557:Nat:=0
def PySem.W.Fast.tw1170909747111563995:Nat:=0
def PySem.W.Fast.tw392633819150868809:Nat:=0
def PySem.W.Fast.tw9648704522101435053:Nat:=0
def PySem.W.Fast.tw7902636850712741227:Nat:=0
def PySem.W.Fast.tw12998446042771187044:Nat:=0
def PySem.W.Fast.tw16721165838490595979:Nat:=0
def PySem.W.Fast.tw621026967749776473:Nat:=0
def PySem.W.Fast.tw17792911714094869186:Nat:=0
def PySem.W.Fast.tw8111275020753463408:Nat:=0
def PySem.W.Fast.tw9183091785444868619:Nat:=0
def PySem.W.Fast.tw15999213615690856085:Nat:=0
def PySem.W.Fast.tw236393535893191616:Nat:=0
def PySem.W.Fast.tw17217766202470821051:Nat:=0
def PySem.W.Fast.tw213206059377781047:Nat:=0
def PySem.W.Fast.tw10592056035128586157:Nat:=0
def PySem.W.Fast.tw408936374352118310:Nat:=0
def PySem.W.Fast.tw1317239719828316141:Nat:=0
def PySem.W.Fast.tw14805926695714158514:Nat:=0
def PySem.W.Fast.tw2728150307032828882:Nat:=0
def PySem.W.Fast.tw11879689888040893393:Nat:=0
def PySem.W.Fast.tw7834253234350416772:Nat:=0
def PySem.W.Fast.tw14364132951835127061:Nat:=0
def PySem.W.Fast.tw16977276375708381566:Nat:=0
def PySem.W.Fast.tw3940119287808336957:Nat:=0
def PySem.W.Fast.tw16313849094577011985:Nat:=0
def PySem.W.Fast.tw5972908506542038422:Nat:=0
def PySem.W.Fast.tw3183120254102719209:Nat:=0
def PySem.W.Fast.tw18174284789899299709:Nat:=0
def PySem.W.Fast.tw9950731197784943771:Nat:=0
def PySem.W.Fast.tw4796642419157930103:Nat:=0
def PySem.W.Fast.tw11418130793989525176:Nat:=0
def PySem.W.Fast.tw2496239016949438860:Nat:=0
def PySem.W.Fast.tw9455204597342004577:Nat:=0
def PySem.W.Fast.tw14349256902519981389:Nat:=0
def PySem.W.Fast.tw11444421236700533285:Nat:=0
def PySem.W.Fast.tw13265098948589911286:Nat:=0
def PySem.W.Fast.tw5332770105730953060:Nat:=0
def PySem.W.Fast.tw5801152557613757470:Nat:=0
def PySem.W.Fast.tw90220525894643800:Nat:=0
def PySem.W.Fast.tw9452730268168448325:Nat:=0
def PySem.W.Fast.tw5849274632939872272:Nat:=0
def PySem.W.Fast.tw1311048303470027941:Nat:=0
def PySem.W.Fast.tw13990202743787588792:Nat:=0
def PySem.W.Fast.tw15166812884128171455:Nat:=0
def PySem.W.Fast.tw632257734577866471:Nat:=0
def PySem.W.Fast.tw17363821281336956870:Nat:=0
def PySem.W.Fast.tw13910545128845089893:Nat:=0
def PySem.W.Fast.tw2389781846694482359:Nat:=0
def PySem.W.Fast.tw7591274447629646662:Nat:=0
def PySem.W.Fast.tw7058860186128115145:Nat:=0
def PySem.W.Fast.tw10210230859837281379:Nat:=0
def PySem.W.Fast.tw16936981566472980570:Nat:=0
def PySem.W.Fast.tw11606389136737854123:Nat:=0
def PySem.W.Fast.tw13433816959417006318:Nat:=0
def PySem.W.Fast.tw2770819940201816862:Nat:=0
def PySem.W.Fast.tw375128845195781262:Nat:=0
def PySem.W.Fast.tw12229390260310674457:Nat:=0
def PySem.W.Fast.tw9816798905565945276:Nat:=0
def PySem.W.Fast.tw13578270291501577918:Nat:=0
def PySem.W.Fast.tw9416787877838012762:Nat:=0
def PySem.W.Fast.tw9559911663081004775:Nat:=0
def PySem.W.Fast.tw459801852280206964:Nat:=0
def PySem.W.Fast.tw11236600342666474961:Nat:=0
def PySem.W.Fast.tw16858770634987599886:Nat:=0
def PySem.W.Fast.tw2788734516190616813:Nat:=0
def PySem.W.Fast.tw5385528486835686597:Nat:=0
def PySem.W.Fast.tw15276244779340158520:Nat:=0
def PySem.W.Fast.tw13466063449223853675:Nat:=0
def PySem.W.Fast.tw9353542154070380088:Nat:=0
def PySem.W.Fast.tw15101346543098470537:Nat:=0
def PySem.W.Fast.tw2475375187487095181:Nat:=0
def PySem.W.Fast.tw10519930442150981029:Nat:=0
def PySem.W.Fast.tw12058520644353350718:Nat:=0
def PySem.W.Fast.tw13230143677479699386:Nat:=0
def PySem.W.Fast.tw15590235292378017974:Nat:=0
def PySem.W.Fast.tw12464192810023539042:Nat:=0
def PySem.W.Fast.tw17722778714477612963:Nat:=0
def PySem.W.Fast.tw2582186762117484668:Nat:=0
def PySem.W.Fast.tw1933222212835455362:Nat:=0
def PySem.W.Fast.tw3178775982780010456:Nat:=0
def PySem.W.Fast.tw16381369266294318224:Nat:=0
def PySem.W.Fast.tw16329697979288119974:Nat:=0
def PySem.W.Fast.tw3110548132035732983:Nat:=0
def PySem.W.Fast.tw3728598834258576684:Nat:=0
def PySem.W.Fast.tw8691210663001047325:Nat:=0
def PySem.W.Fast.tw4735481176189912317:Nat:=0
def PySem.W.Fast.tw5619822418467917995:Nat:=0
def PySem.W.Fast.tw9254727643510457129:Nat:=0
def PySem.W.Fast.tw14650506634313997431:Nat:=0
def PySem.W.Fast.tw3897920621139409611:Nat:=0
def PySem.W.Fast.tw17994953045381084870:Nat:=0
def PySem.W.Fast.tw5856256296082977360:Nat:=0
def PySem.W.Fast.tw7610502587382587703:Nat:=0
def PySem.W.Fast.tw11879977336305512558:Nat:=0
def PySem.W.Fast.tw12979702778769558867:Nat:=0
def PySem.W.Fast.tw18392757434841612036:Nat:=0
def PySem.W.Fast.tw16766684009520144074:Nat:=0
def PySem.W.Fast.tw10281990516017313825:Nat:=0
def PySem.W.Fast.tw15952142137734560794:Nat:=0
def PySem.W.Fast.tw11165556287299287312:Nat:=0
def PySem.W.Fast.tw17770927291768862200:Nat:=0
def PySem.W.Fast.tw530752687638352015:Nat:=0
def PySem.W.Fast.tw8703018302745099552:Nat:=0
def PySem.W.Fast.tw6421527739507525267:Nat:=0
def PySem.W.Fast.tw10869619098803957946:Nat:=0
def PySem.W.Fast.tw5589642025586503581:Nat:=0
def PySem.W.Fast.tw15429913581769513220:Nat:=0
def PySem.W.Fast.tw4332535544695843188:Nat:=0
def PySem.W.Fast.tw9334072900854796592:Nat:=0
def PySem.W.Fast.tw6073590860361166123:Nat:=0
def PySem.W.Fast.tw9565689708141520622:Nat:=0
def PySem.W.Fast.tw6142157906008256788:Nat:=0
def PySem.W.Fast.tw13531016354693458192:Nat:=0
def PySem.W.Fast.tw8716025476944133720:Nat:=0
def PySem.W.Fast.tw12112086131739918338:Nat:=0
def PySem.W.Fast.tw18120194689850080584:Nat:=0
def PySem.W.Fast.tw17522938996403037974:Nat:=0
def PySem.W.Fast.tw15319690514072947724:Nat:=0
def PySem.W.Fast.tw12714298805535648668:Nat:=0
def PySem.W.Fast.tw12128603607968340682:Nat:=0
def PySem.W.Fast.tw14340738394256317353:Nat:=0
def PySem.W.Fast.tw4211030720310442888:Nat:=0
def PySem.W.Fast.tw12026386403575848575:Nat:=0
open PySem PySem.W PyProof.Rows
set_option maxRecDepth 100000 in
set_option maxHeartbeats 0 in
theorem PySem.Challenge.cw_panethread_k22_counts_holds : PySem.Challenge.rw_panethread_k22_counts.Holds := by
 w_on;o_law;k_head;(case hw=>w_witness2)
 k_fill
 refine L2.Rc (l:=PySem.Challenge.rw_panethread_k22_counts) (st:=My.cX) (k:=8) (x:="_law_script") (sp:=My.K3) rfl rfl rfl ⟨rfl,by decide,by decide,rfl⟩ (fun w h Y=>PySem.W.kIn_of Y) (fun _ _ _ _ _ _ us hl=>L2.mL (fun _=>rfl) us hl) ?F (fun K H a ns hl hS=>⟨a,ns,rfl,hS,hl,fun _=>rfl⟩)
 case F=>
  intro w mg h KX G
  have b_all:mg "all"=none:=by
   refine' PySem.W.mg_none_of KX G ?a
   (case a=>k_is)
  have b_bool:mg "bool"=none:=by
   refine' PySem.W.mg_none_of KX G ?a
   (case a=>k_is)
  have b_enumerate:mg "enumerate"=none:=by
   refine' PySem.W.mg_none_of KX G ?a
   (case a=>k_is)
  have b_int:mg "int"=none:=by
   refine' PySem.W.mg_none_of KX G ?a
   (case a=>k_is)
  have b_isinstance:mg "isinstance"=none:=by
   refine' PySem.W.mg_none_of KX G ?a
   (case a=>k_is)
  have b_len:mg "len"=none:=by
   refine' PySem.W.mg_none_of KX G ?a
   (case a=>k_is)
  have b_list:mg "list"=none:=by
   refine' PySem.W.mg_none_of KX G ?a
   (case a=>k_is)
  have b_max:mg "max"=none:=by
   refine' PySem.W.mg_none_of KX G ?a
   (case a=>k_is)
  have b_min:mg "min"=none:=by
   refine' PySem.W.mg_none_of KX G ?a
   (case a=>k_is)
  have b_range:mg "range"=none:=by
   refine' PySem.W.mg_none_of KX G ?a
   (case a=>k_is)
  have b_reversed:mg "reversed"=none:=by
   refine' PySem.W.mg_none_of KX G ?a
   (case a=>k_is)
  have b_sorted:mg "sorted"=none:=by
   refine' PySem.W.mg_none_of KX G ?a
   (case a=>k_is)
  have b_tuple:mg "tuple"=none:=by
   refine' PySem.W.mg_none_of KX G ?a
   (case a=>k_is)
  have b_zip:mg "zip"=none:=by
   refine' PySem.W.mg_none_of KX G ?a
   (case a=>k_is)
  have c_MOST_LINES:∃ t,mg "MOST_LINES"=some (.int 96 t):=by
   refine' L2.DX KX G ?a ?h
   (case a=>k_is);(case h=>exact ⟨_,by with_unfolding_all rfl⟩)
  have d_is_number:L2.f9 (L2.KOf KX) mg "is_number" My.dM:=by
   dsimp only [L2.KOf]
   refine' L2.bV KX G ?a ?l ?c ?k
   (case a=>k_is);(case l=>k_is);(case c=>k_is);(case k=>k_is)
  have d_is_within:L2.f9 (L2.KOf KX) mg "is_within" My.dN:=by
   dsimp only [L2.KOf]
   refine' L2.bV KX G ?a ?l ?c ?k
   (case a=>k_is);(case l=>k_is);(case c=>k_is);(case k=>k_is)
  have d_need_place:L2.f9 (L2.KOf KX) mg "need_place" My.cM:=by
   dsimp only [L2.KOf]
   refine' L2.bV KX G ?a ?l ?c ?k
   (case a=>k_is);(case l=>k_is);(case c=>k_is);(case k=>k_is)
  have d_is_turning:L2.f9 (L2.KOf KX) mg "is_turning" My.bG:=by
   dsimp only [L2.KOf]
   refine' L2.bV KX G ?a ?l ?c ?k
   (case a=>k_is);(case l=>k_is);(case c=>k_is);(case k=>k_is)
  have d_need_turning:L2.f9 (L2.KOf KX) mg "need_turning" My.cU:=by
   dsimp only [L2.KOf]
   refine' L2.bV KX G ?a ?l ?c ?k
   (case a=>k_is);(case l=>k_is);(case c=>k_is);(case k=>k_is)
  have d_counted:L2.f9 (L2.KOf KX) mg "counted" My.di:=by
   dsimp only [L2.KOf]
   refine' L2.bV KX G ?a ?l ?c ?k
   (case a=>k_is);(case l=>k_is);(case c=>k_is);(case k=>k_is)
  have d_counts:L2.f9 (L2.KOf KX) mg "counts" My.cN:=by
   dsimp only [L2.KOf]
   refine' L2.bV KX G ?a ?l ?c ?k
   (case a=>k_is);(case l=>k_is);(case c=>k_is);(case k=>k_is)
  have d_is_square:L2.f9 (L2.KOf KX) mg "is_square" My.bW:=by
   dsimp only [L2.KOf]
   refine' L2.bV KX G ?a ?l ?c ?k
   (case a=>k_is);(case l=>k_is);(case c=>k_is);(case k=>k_is)
  have d_from_counts:L2.f9 (L2.KOf KX) mg "from_counts" My.aX:=by
   dsimp only [L2.KOf]
   refine' L2.bV KX G ?a ?l ?c ?k
   (case a=>k_is);(case l=>k_is);(case c=>k_is);(case k=>k_is)
  have d_law_cell:L2.f9 (L2.KOf KX) mg "_law_cell" My.gj:=by
   dsimp only [L2.KOf]
   refine' L2.bV KX G ?a ?l ?c ?k
   (case a=>k_is);(case l=>k_is);(case c=>k_is);(case k=>k_is)
  have d_law_mix:L2.f9 (L2.KOf KX) mg "_law_mix" My.gQ:=by
   dsimp only [L2.KOf]
   refine' L2.bV KX G ?a ?l ?c ?k
   (case a=>k_is);(case l=>k_is);(case c=>k_is);(case k=>k_is)
  have d_law_takes:L2.f9 (L2.KOf KX) mg "_law_takes" My.bY:=by
   dsimp only [L2.KOf]
   refine' L2.bV KX G ?a ?l ?c ?k
   (case a=>k_is);(case l=>k_is);(case c=>k_is);(case k=>k_is)
  have d_law_many:L2.f9 (L2.KOf KX) mg "_law_many" My.c7:=by
   dsimp only [L2.KOf]
   refine' L2.bV KX G ?a ?l ?c ?k
   (case a=>k_is);(case l=>k_is);(case c=>k_is);(case k=>k_is)
  have d_law_turning:L2.f9 (L2.KOf KX) mg "_law_turning" My.bD:=by
   dsimp only [L2.KOf]
   refine' L2.bV KX G ?a ?l ?c ?k
   (case a=>k_is);(case l=>k_is);(case c=>k_is);(case k=>k_is)
  have d_law_whole:L2.f9 (L2.KOf KX) mg "_law_whole" My.dO:=by
   dsimp only [L2.KOf]
   refine' L2.bV KX G ?a ?l ?c ?k
   (case a=>k_is);(case l=>k_is);(case c=>k_is);(case k=>k_is)
  have d_law_list:L2.f9 (L2.KOf KX) mg "_law_list" My.dg:=by
   dsimp only [L2.KOf]
   refine' L2.bV KX G ?a ?l ?c ?k
   (case a=>k_is);(case l=>k_is);(case c=>k_is);(case k=>k_is)
  have d_law_counts:L2.f9 (L2.KOf KX) mg "_law_counts" My.bK:=by
   dsimp only [L2.KOf]
   refine' L2.bV KX G ?a ?l ?c ?k
   (case a=>k_is);(case l=>k_is);(case c=>k_is);(case k=>k_is)
  have d_law_spoiled:L2.f9 (L2.KOf KX) mg "_law_spoiled" My.aH:=by
   dsimp only [L2.KOf]
   refine' L2.bV KX G ?a ?l ?c ?k
   (case a=>k_is);(case l=>k_is);(case c=>k_is);(case k=>k_is)
  have d_law_is_square:L2.f9 (L2.KOf KX) mg "_law_is_square" My.bH:=by
   dsimp only [L2.KOf]
   refine' L2.bV KX G ?a ?l ?c ?k
   (case a=>k_is);(case l=>k_is);(case c=>k_is);(case k=>k_is)
  have d_law_from:L2.f9 (L2.KOf KX) mg "_law_from" My.bQ:=by
   dsimp only [L2.KOf]
   refine' L2.bV KX G ?a ?l ?c ?k
   (case a=>k_is);(case l=>k_is);(case c=>k_is);(case k=>k_is)
  have d_law_copy:L2.f9 (L2.KOf KX) mg "_law_copy" My.fc:=by
   dsimp only [L2.KOf]
   refine' L2.bV KX G ?a ?l ?c ?k
   (case a=>k_is);(case l=>k_is);(case c=>k_is);(case k=>k_is)
  have d_law_read:L2.f9 (L2.KOf KX) mg "_law_read" My.aZ:=by
   dsimp only [L2.KOf]
   refine' L2.bV KX G ?a ?l ?c ?k
   (case a=>k_is);(case l=>k_is);(case c=>k_is);(case k=>k_is)
  have d_law_refused:L2.f9 (L2.KOf KX) mg "_law_refused" My.aY:=by
   dsimp only [L2.KOf]
   refine' L2.bV KX G ?a ?l ?c ?k
   (case a=>k_is);(case l=>k_is);(case c=>k_is);(case k=>k_is)
  have d_law_doors:L2.f9 (L2.KOf KX) mg "_law_doors" My.bM:=by
   dsimp only [L2.KOf]
   refine' L2.bV KX G ?a ?l ?c ?k
   (case a=>k_is);(case l=>k_is);(case c=>k_is);(case k=>k_is)
  have d_law_right:L2.f9 (L2.KOf KX) mg "_law_right" My.aD:=by
   dsimp only [L2.KOf]
   refine' L2.bV KX G ?a ?l ?c ?k
   (case a=>k_is);(case l=>k_is);(case c=>k_is);(case k=>k_is)
  have d_law:L2.f9 (L2.KOf KX) mg "law" My.cX:=by
   dsimp only [L2.KOf]
   refine' L2.bV KX G ?a ?l ?c ?k
   (case a=>k_is);(case l=>k_is);(case c=>k_is);(case k=>k_is)
  have x_PaneError:L2.Ax (L2.KOf KX) mg "PaneError":=by
   dsimp only [L2.KOf]
   refine' L2.Kq KX G ?a ?b
   (case a=>k_is);(case b=>kernel_rfl)
  have x_NoPlace:L2.wu (L2.KOf KX) mg "NoPlace" ["found"] "NoPlace.__init__" My.je:=by
   dsimp only [L2.KOf]
   refine' L2.Eu KX G ?a ?b ?kp ?na ?i ?t ?l ?c ?k
   (case a=>k_is);(case b=>kernel_rfl);(case kp=>k_is);(case na=>kernel_rfl);(case i=>k_is);(case t=>k_is);(case l=>k_is);(case c=>k_is);(case k=>k_is)
  have x_NoTurning:L2.wu (L2.KOf KX) mg "NoTurning" ["found"] "NoTurning.__init__" My.gB:=by
   dsimp only [L2.KOf]
   refine' L2.Eu KX G ?a ?b ?kp ?na ?i ?t ?l ?c ?k
   (case a=>k_is);(case b=>kernel_rfl);(case kp=>k_is);(case na=>kernel_rfl);(case i=>k_is);(case t=>k_is);(case l=>k_is);(case c=>k_is);(case k=>k_is)
  have x_NoCounts:L2.wu (L2.KOf KX) mg "NoCounts" ["found"] "NoCounts.__init__" My.ir:=by
   dsimp only [L2.KOf]
   refine' L2.Eu KX G ?a ?b ?kp ?na ?i ?t ?l ?c ?k
   (case a=>k_is);(case b=>kernel_rfl);(case kp=>k_is);(case na=>kernel_rfl);(case i=>k_is);(case t=>k_is);(case l=>k_is);(case c=>k_is);(case k=>k_is)
  have u_NoPlace_PaneError:L2.Sub (L2.KOf KX) mg "NoPlace" "PaneError" true:=by
   dsimp only [L2.KOf]
   refine' L2.gF KX G ?a ?b ?m ?o
   (case a=>k_is);(case b=>k_is);(case m=>k_is);(case o=>kernel_rfl)
  have u_NoPlace_NoPlace:L2.Sub (L2.KOf KX) mg "NoPlace" "NoPlace" true:=by
   dsimp only [L2.KOf]
   refine' L2.gF KX G ?a ?b ?m ?o
   (case a=>k_is);(case b=>k_is);(case m=>k_is);(case o=>kernel_rfl)
  have u_NoPlace_NoTurning:L2.Sub (L2.KOf KX) mg "NoPlace" "NoTurning" false:=by
   dsimp only [L2.KOf]
   refine' L2.gF KX G ?a ?b ?m ?o
   (case a=>k_is);(case b=>k_is);(case m=>k_is);(case o=>kernel_rfl)
  have u_NoPlace_NoCounts:L2.Sub (L2.KOf KX) mg "NoPlace" "NoCounts" false:=by
   dsimp only [L2.KOf]
   refine' L2.gF KX G ?a ?b ?m ?o
   (case a=>k_is);(case b=>k_is);(case m=>k_is);(case o=>kernel_rfl)
  have u_NoTurning_PaneError:L2.Sub (L2.KOf KX) mg "NoTurning" "PaneError" true:=by
   dsimp only [L2.KOf]
   refine' L2.gF KX G ?a ?b ?m ?o
   (case a=>k_is);(case b=>k_is);(case m=>k_is);(case o=>kernel_rfl)
  have u_NoTurning_NoPlace:L2.Sub (L2.KOf KX) mg "NoTurning" "NoPlace" false:=by
   dsimp only [L2.KOf]
   refine' L2.gF KX G ?a ?b ?m ?o
   (case a=>k_is);(case b=>k_is);(case m=>k_is);(case o=>kernel_rfl)
  have u_NoTurning_NoTurning:L2.Sub (L2.KOf KX) mg "NoTurning" "NoTurning" true:=by
   dsimp only [L2.KOf]
   refine' L2.gF KX G ?a ?b ?m ?o
   (case a=>k_is);(case b=>k_is);(case m=>k_is);(case o=>kernel_rfl)
  have u_NoTurning_NoCounts:L2.Sub (L2.KOf KX) mg "NoTurning" "NoCounts" false:=by
   dsimp only [L2.KOf]
   refine' L2.gF KX G ?a ?b ?m ?o
   (case a=>k_is);(case b=>k_is);(case m=>k_is);(case o=>kernel_rfl)
  have u_NoCounts_PaneError:L2.Sub (L2.KOf KX) mg "NoCounts" "PaneError" true:=by
   dsimp only [L2.KOf]
   refine' L2.gF KX G ?a ?b ?m ?o
   (case a=>k_is);(case b=>k_is);(case m=>k_is);(case o=>kernel_rfl)
  have u_NoCounts_NoPlace:L2.Sub (L2.KOf KX) mg "NoCounts" "NoPlace" false:=by
   dsimp only [L2.KOf]
   refine' L2.gF KX G ?a ?b ?m ?o
   (case a=>k_is);(case b=>k_is);(case m=>k_is);(case o=>kernel_rfl)
  have u_NoCounts_NoTurning:L2.Sub (L2.KOf KX) mg "NoCounts" "NoTurning" false:=by
   dsimp only [L2.KOf]
   refine' L2.gF KX G ?a ?b ?m ?o
   (case a=>k_is);(case b=>k_is);(case m=>k_is);(case o=>kernel_rfl)
  have u_NoCounts_NoCounts:L2.Sub (L2.KOf KX) mg "NoCounts" "NoCounts" true:=by
   dsimp only [L2.KOf]
   refine' L2.gF KX G ?a ?b ?m ?o
   (case a=>k_is);(case b=>k_is);(case m=>k_is);(case o=>kernel_rfl)
  exact ⟨d_law,fun base f fd F=>My.Qg ⟨b_all,b_bool,b_enumerate,b_int,b_isinstance,b_len,b_list,b_max,b_min,b_range,b_reversed,b_sorted,b_tuple,b_zip,c_MOST_LINES,d_is_number,d_is_within,d_need_place,d_is_turning,d_need_turning,d_counted,d_counts,d_is_square,d_from_counts,d_law_cell,d_law_mix,d_law_takes,d_law_many,d_law_turning,d_law_whole,d_law_list,d_law_counts,d_law_spoiled,d_law_is_square,d_law_from,d_law_copy,d_law_read,d_law_refused,d_law_doors,d_law_right,d_law,x_PaneError,x_NoPlace,x_NoTurning,x_NoCounts,u_NoPlace_PaneError,u_NoPlace_NoPlace,u_NoPlace_NoTurning,u_NoPlace_NoCounts,u_NoTurning_PaneError,u_NoTurning_NoPlace,u_NoTurning_NoTurning,u_NoTurning_NoCounts,u_NoCounts_PaneError,u_NoCounts_NoPlace,u_NoCounts_NoTurning,u_NoCounts_NoCounts⟩ F⟩
