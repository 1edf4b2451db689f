import PyProof.Rows.All
import Wide.All
import OpenK.AllK
import Wide.FinOn
import Lean
import PyProof.EqAt
import PyProof.EqKinds
import PyProof.TupleCall
import PyProof.ReprRoads
import KE.KSortTup
import KE.KDictList
import KE.KMinKey
import KE.KIntText
import PySem.Challenge.RW_panethread_k83_written_and_read
noncomputable section
local macro_rules | `(tactic| trivial) => `(tactic| decide +kernel)
set_option compiler.extract_closed false
set_option Elab.async false
set_option linter.all false
set_option maxRecDepth 100000
namespace L2
@[elab_as_elim] theorem dq {p:List PySem.Value->Prop} (h:∀ a0:PySem.Value,p [a0]) (us:List PySem.Value) (hl:us.length=1):p us:=by
 rcases us with _ | ⟨a0,us0⟩
 ·cases hl
 rcases us0 with _ | ⟨b,us⟩
 ·exact h a0
 ·cases hl
@[elab_as_elim] theorem sr {p:List PySem.Value->Prop} (h:∀ a0 a1:PySem.Value,p [a0,a1]) (us:List PySem.Value) (hl:us.length=2):p us:=by
 rcases us with _ | ⟨a0,us0⟩
 ·cases hl
 rcases us0 with _ | ⟨a1,us1⟩
 ·cases hl
 rcases us1 with _ | ⟨b,us⟩
 ·exact h a0 a1
 ·cases hl
@[elab_as_elim] theorem Dk {p:List PySem.Value->Prop} (h:∀ a0 a1 a2:PySem.Value,p [a0,a1,a2]) (us:List PySem.Value) (hl:us.length=3):p us:=by
 rcases us with _ | ⟨a0,us0⟩
 ·cases hl
 rcases us0 with _ | ⟨a1,us1⟩
 ·cases hl
 rcases us1 with _ | ⟨a2,us2⟩
 ·cases hl
 rcases us2 with _ | ⟨b,us⟩
 ·exact h a0 a1 a2
 ·cases hl
theorem auto1 (h:True:=by first | exact .inl rfl | exact .inr rfl | assumption):True:=h
theorem auto2 (h:True:=by decide):True:=h
theorem auto3 (h:True:=by intro _;rfl):True:=h
theorem auto4 (h:True:=by rfl):True:=h
theorem auto5 (h:True:=by with_unfolding_all rfl):True:=h
theorem auto6 (h:True:=by trivial):True:=h
open PySem PySem.Spec PyProof.Rows
abbrev Key:=Sum Int Str
def qg:Key->Value->Bool
 | .inl k,v=>Value.isInt k v
 | .inr x,v=>Value.isStrOf x v
def keyH (w:World):Key->Int
 | .inl k=>hashInt k
 | .inr x=>hashStr w x
theorem b7:∀ {k:Key} {v:Value},qg k v=true->(∃ i t,k=Sum.inl i/\v=Value.int i t)\/(∃ x t,k=Sum.inr x/\v=Value.str x t)
 | .inl i,v,h=>by
  obtain ⟨t,e⟩:=Value.isInt_shape (k:=i) (v:=v) h
  exact .inl ⟨i,t,rfl,e⟩
 | .inr x,v,h=>by
  obtain ⟨t,e⟩:=Value.isStrOf_shape (x:=x) (v:=v) h
  exact .inr ⟨x,t,rfl,e⟩
theorem vZ (i:Int) (t:Tok):qg (.inl i) (.int i t)=true:=by simp [qg,Value.isInt]
theorem qi (x:Str) (t:Tok):qg (.inr x) (.str x t)=true:=by simp [qg,Value.isStrOf]
theorem Dl (a b:Int):decide ((Sum.inl a:Key)=Sum.inl b)=(a == b):=by
 by_cases e:a=b
 ·subst e;simp
 ·have h:¬ (Sum.inl a:Key)=Sum.inl b:=fun q=>e (Sum.inl.inj q)
  rw [decide_eq_false h]
  exact (beq_eq_false_iff_ne.mpr e).symm
theorem Dm (a b:Str):decide ((Sum.inr a:Key)=Sum.inr b)=decide (a=b):=by
 by_cases e:a=b
 ·subst e;simp
 ·have h:¬ (Sum.inr a:Key)=Sum.inr b:=fun q=>e (Sum.inr.inj q)
  rw [decide_eq_false h,decide_eq_false e]
theorem Dn (a:Int) (b:Str):decide ((Sum.inl a:Key)=Sum.inr b)=false:=decide_eq_false (fun q=>nomatch q)
theorem Do (a:Str) (b:Int):decide ((Sum.inr a:Key)=Sum.inl b)=false:=decide_eq_false (fun q=>nomatch q)
def bz (prog:Program) (w:World):PySem.KeyKind prog w Key where
 is:=qg
 hash:=keyH w
 inj:=fun v a b ha hb=>by
  rcases b7 ha with ⟨i,t,rfl,rfl⟩ | ⟨x,t,rfl,rfl⟩
  ·rcases b7 hb with ⟨j,u,rfl,e⟩ | ⟨y,u,rfl,e⟩
   ·injection e with e1 _;rw [e1]
   ·exact nomatch e
  ·rcases b7 hb with ⟨j,u,rfl,e⟩ | ⟨y,u,rfl,e⟩
   ·exact nomatch e
   ·injection e with e1 _;rw [e1]
 byValue:=fun k v h=>by
  rcases b7 h with ⟨i,t,rfl,rfl⟩ | ⟨x,t,rfl,rfl⟩ <;> rfl
 pyHash:=fun hv h=>by
  rcases b7 hv with ⟨i,t,rfl,rfl⟩ | ⟨x,t,rfl,rfl⟩
  ·exact wpAny_pyHash_int h
  ·exact wpAny_pyHash_str h
 eqBool:=fun hu hv h=>by
  rcases b7 hu with ⟨i,t,rfl,rfl⟩ | ⟨x,t,rfl,rfl⟩
  ·rcases b7 hv with ⟨j,u,rfl,rfl⟩ | ⟨y,u,rfl,rfl⟩
   ·rw [Dl] at h;exact wpAny_eqBool_int h
   ·rw [Dn] at h;exact SeqAt.EqAt.int_str i t y u _ _ _ _ h
  ·rcases b7 hv with ⟨j,u,rfl,rfl⟩ | ⟨y,u,rfl,rfl⟩
   ·rw [Do] at h;exact SeqAt.EqAt.str_int x t j u _ _ _ _ h
   ·rw [Dm] at h;exact wpAny_eqBool_str h
 «strs»:=fun k x t v h=>by
  rcases b7 h with ⟨i,u,rfl,e⟩ | ⟨y,u,rfl,e⟩
  ·exact nomatch e
  ·injection e with e1 _
   subst e1
   cases v <;> rfl
theorem su (prog:Program) (w:World) (i:Int) (t:Tok):(bz prog w).is (.inl i) (.int i t)=true:=vZ i t
theorem sy (prog:Program) (w:World) (x:Str) (t:Tok):(bz prog w).is (.inr x) (.str x t)=true:=qi x t
end L2
namespace L2
open PySem PySem.Spec PyProof.Rows
inductive V where
 | non | bl (b:Bool) | int (i:Int) | str (x:Str) | byt (b:Array UInt8) | flt (b:UInt64) | ref (a:Addr) | ty (n:String)
 deriving DecidableEq
def RelV:V->Value->Prop
 | .non,u=>u=Value.none
 | .bl b,u=>u=Value.bool b
 | .int i,u=>∃ t,u=Value.int i t
 | .str x,u=>∃ t,u=Value.str x t
 | .byt b,u=>∃ t,u=Value.bytes b t
 | .flt b,u=>∃ t,u=Value.float b t
 | .ref a,u=>u=Value.ref a
 | .ty n,u=>u=Value.type n
abbrev Vals:List V->List Value->Prop:=Paired RelV
theorem Vals.length {xs:List V} {us:List Value} (r:Vals xs us):xs.length=us.length:=Paired.length r
theorem Vals.get:∀ {xs:List V} {us:List Value} {i:Nat} {x:V},Vals xs us->xs[i]?=some x->∃ u,us[i]?=some u/\RelV x u
 | _,_,_,_,.nil,e=>by simp at e
 | _,_,0,_,.cons r _,e=>by simp at e;subst e;exact ⟨_,rfl,r⟩
 | _,_,i+1,x,.cons _ t,e=>by
  obtain ⟨u,h1,h2⟩:=Vals.get (i:=i) (x:=x) t (by simpa using e)
  exact ⟨u,by simpa using h1,h2⟩
theorem Vals.append:∀ {xs ys:List V} {us ws:List Value},Vals xs us->Vals ys ws->Vals (xs ++ ys) (us ++ ws)
 | _,_,_,_,.nil,s=>s
 | _,_,_,_,.cons r t,s=>.cons r (Vals.append t s)
theorem Vals.take:∀ {xs:List V} {us:List Value} (n:Nat),Vals xs us->Vals (xs.take n) (us.take n)
 | _,_,0,_=>.nil
 | _,_,_+1,.nil=>.nil
 | _,_,n+1,.cons r t=>.cons r (Vals.take n t)
theorem Vals.drop:∀ {xs:List V} {us:List Value} (n:Nat),Vals xs us->Vals (xs.drop n) (us.drop n)
 | _,_,0,r=>r
 | _,_,_+1,.nil=>.nil
 | _,_,n+1,.cons _ t=>Vals.drop n t
def RelO:Option V->Option Value->Prop
 | some v,some u=>RelV v u
 | none,none=>True
 | _,_=>False
def KV {κ:Type}:List (κ×V)->List (κ×Value)->Prop:=Paired fun (p:κ×V) (q:κ×Value)=>p.1=q.1/\RelV p.2 q.2
def kV:Key->V
 | .inl i=>.int i
 | .inr x=>.str x
inductive HO where
 /-- a list -/
 | lst (xs:List V)
 /-- a tuple (never changes) -/
 | tup (xs:List V)
 /-- a dict whose keys are ints and texts;one whose keys are tuples of ints and texts (the empty one is both) -/
 | dK (kvs:List (Key×V)) | dT (kvs:List (List Key×V))
 /-- a set of ints:its members,its size -/
 | set (S:Int->Bool) (n:Nat)
 /-- an instance of the class at C,its dict at dx,its attributes -/
 | ins (C dx:Addr) (fs:List (Str×V))
 /-- the dict of the instance at x -/
 | own (x:Addr)
 /-- the dict of an exception -/
 | xd (fs:List (Str×V))
 /-- a bound method,f of x -/
 | met (f x:Addr)
 /-- a range object lo,lo+1,.. below hi -/
 | rng (lo hi:Int)
 /-- a thing that is known to the object (the script;a dict while a loop walks it):read,never written while it is so -/
 | frz (o:Obj) (u:HO)
 /-- a code object's table -/
 | tbl (ps:Array Value)
 /-- any other thing,by what is true of its one object (a def of one's own:SetO a S n:=HO.ext fun h=>..) -/
 | ext (φ:Heap->Prop)
abbrev Hp:=Addr->Option HO
def upd (H:Hp) (a:Addr) (o:HO):Hp:=fun b=>if b=a then some o else H b
theorem aq {H:Hp} {a:Addr} {o:HO}:upd H a o a=some o:=by unfold upd;rw [if_pos rfl]
theorem aK {H:Hp} {a b:Addr} {o:HO} (h:b≠a):upd H a o b=H b:=by unfold upd;rw [if_neg h]
theorem gJ {H:Hp} {a b:Addr} {o:HO} (h:H a=some o) (h':H b=none):a≠b:=by
 intro e;subst e;rw [h] at h';cases h'
section
variable (P:Program) (w:World)
def ObjOk (H:Hp) (h:Heap) (a:Addr):HO->Prop
 | .lst xs=>xs.length<=sizeLine/\∃ (its:List Value) (n:Nat),Vals xs its/\h.get? a=some {cls:=.type "list",data:=.seq its.toArray n}
 | .tup xs=>xs.length<=sizeLine/\∃ its:List Value,Vals xs its/\IsTup h a its.toArray
 | .dK kvs=>kvs.length<=sizeLine/\(a == sysModules)=false/\∃ vs,KV kvs vs/\h.DictOf (bz P w) a vs
 | .dT kvs=>kvs.length<=sizeLine/\(a == sysModules)=false/\∃ xs:List (List Key×Addr×Value),
   Paired (fun (p:List Key×V) (q:List Key×Addr×Value)=>p.1=q.1/\H q.2.1=some (.tup (p.1.map kV))/\RelV p.2 q.2.2) kvs xs/\
   ∃ o es ep,h.get? a=some o/\o.ExactDict/\o.data= .dict es ep/\es.toList=xs.map (entryOfKey (tupleKind (bz P w)))/\(xs.map (·.1)).Nodup
 | .set S n=>h.SetOf (intKind P w) a S n
 | .ins C dx fs=>H dx=some (.own a)/\fs.length<=1000/\dx≠a/\h.get? a=some (PySem.W.instObj C dx)/\
   ∃ mA,h.Ns1 dx mA/\(∀ f,RelO (fs.lookup f) (mA f))/\PySem.Within mA (fs.map (·.1))
 | .own _=>∃ o,h.get? a=some o
 | .xd fs=>∃ mA,h.Ns1 a mA/\∀ f,RelO (fs.lookup f) (mA f)
 | .rng lo hi=>∃ t u v,h.get? a=some {cls:=.type "range",data:=.fields #[.int lo t,.int hi u,.int 1 v]}
 | .frz o u=>h.get? a=some o/\ObjOk H h a u
 | .tbl ps=>h.get? a=some {cls:=.none,data:=.fields ps}
 | .met f x=>h.get? a=some (PySem.W.methodObj (.ref f) (.ref x))
 | .ext φ=>φ h/\(∃ o,h.get? a=some o)/\∀ h1 h2:Heap,φ h1->(∀ o,h1.get? a=some o->h2.get? a=some o)->φ h2
def HOk (H:Hp) (h:Heap):Prop:=∀ a o,H a=some o->ObjOk P w H h a o
end
section
variable {P:Program} {w:World} {H H':Hp} {h h':Heap} {a:Addr} {o:HO}
theorem ObjOk.lt (x:ObjOk P w H h a o):a < h.objs.size:=by
 cases o with
 | lst xs=>obtain ⟨_,_,_,_,e⟩:=x;exact Heap.lt_size e
 | tup xs=>obtain ⟨_,_,_,p⟩:=x;exact p.lt
 | dK kvs=>obtain ⟨_,_,_,_,o,_,_,e,_⟩:=x;exact Heap.lt_size e
 | dT kvs=>obtain ⟨_,_,_,_,o,_,_,e,_⟩:=x;exact Heap.lt_size e
 | set S n=>obtain ⟨o,_,_,_,e,_⟩:=x;exact Heap.lt_size e
 | ins C dx fs=>obtain ⟨_,_,_,e,_⟩:=x;exact Heap.lt_size e
 | own y=>obtain ⟨_,e⟩:=x;exact Heap.lt_size e
 | xd fs=>obtain ⟨_,⟨_,_,_,e,_⟩,_⟩:=x;exact Heap.lt_size e
 | rng lo hi=>obtain ⟨_,_,_,e⟩:=x;exact Heap.lt_size e
 | frz ob u=>obtain ⟨e,_⟩:=x;exact Heap.lt_size e
 | tbl ps=>exact Heap.lt_size (show h.get? a=some _ from x)
 | met f y=>exact Heap.lt_size (show h.get? a=some _ from x)
 | ext φ=>obtain ⟨_,⟨_,e⟩,_⟩:=x;exact Heap.lt_size e
theorem Paired.mapP {α β:Type} {F G:α->β->Prop}:∀ {l₁:List α} {l₂:List β},Paired F l₁ l₂->(∀ a b,F a b->G a b)->Paired G l₁ l₂
 | _,_,.nil,_=>.nil
 | _,_,.cons r t,f=>.cons (f _ _ r) (Paired.mapP t f)
theorem ObjOk.stay (x:ObjOk P w H h a o) (k:∀ b u,(b=a\/H b=some (.own a))->h.get? b=some u->h'.get? b=some u)
  (ho:∀ b,H b=some (.own a)->H' b=some (.own a)) (ht:∀ b xs,H b=some (.tup xs)->H' b=some (.tup xs)):ObjOk P w H' h' a o:=by
 induction o with
 | lst xs=>obtain ⟨z,its,n,r,e⟩:=x;exact ⟨z,its,n,r,k _ _ (.inl rfl) e⟩
 | tup xs=>obtain ⟨z,its,r,ob,e,c⟩:=x;exact ⟨z,its,r,ob,k _ _ (.inl rfl) e,c⟩
 | dK kvs=>obtain ⟨z,y,vs,r,ob,es,ep,e,c⟩:=x;exact ⟨z,y,vs,r,ob,es,ep,k _ _ (.inl rfl) e,c⟩
 | dT kvs=>
  obtain ⟨z,y,xs,r,ob,es,ep,e,c⟩:=x
  exact ⟨z,y,xs,Paired.mapP r fun p q z=>⟨z.1,ht _ _ z.2.1,z.2.2⟩,ob,es,ep,k _ _ (.inl rfl) e,c⟩
 | set S n=>obtain ⟨ob,es,ep,t,e,c⟩:=x;exact ⟨ob,es,ep,t,k _ _ (.inl rfl) e,c⟩
 | ins C dx fs=>
  obtain ⟨d,z,ne,e,mA,⟨od,es,ep,e2,c⟩,r⟩:=x
  exact ⟨ho _ d,z,ne,k _ _ (.inl rfl) e,mA,⟨od,es,ep,k _ _ (.inr d) e2,c⟩,r⟩
 | own y=>obtain ⟨ob,e⟩:=x;exact ⟨ob,k _ _ (.inl rfl) e⟩
 | xd fs=>obtain ⟨mA,⟨od,es,ep,e,c⟩,r⟩:=x;exact ⟨mA,⟨od,es,ep,k _ _ (.inl rfl) e,c⟩,r⟩
 | rng lo hi=>obtain ⟨t,u,v,e⟩:=x;exact ⟨t,u,v,k _ _ (.inl rfl) e⟩
 | frz ob u ih=>obtain ⟨e,q⟩:=x;exact ⟨k _ _ (.inl rfl) e,ih q⟩
 | tbl ps=>
  have e:h.get? a=some {cls:=.none,data:=.fields ps}:=x
  show h'.get? a=some {cls:=.none,data:=.fields ps}
  exact k a _ (.inl rfl) e
 | met f y=>
  have e:h.get? a=some (PySem.W.methodObj (.ref f) (.ref y)):=x
  show h'.get? a=some (PySem.W.methodObj (.ref f) (.ref y))
  exact k a _ (.inl rfl) e
 | ext φ=>obtain ⟨p,⟨o,e⟩,st⟩:=x;exact ⟨st _ _ p fun o q=>k _ _ (.inl rfl) q,⟨o,k _ _ (.inl rfl) e⟩,st⟩
theorem HOk.lt (x:HOk P w H h) (e:H a=some o):a < h.objs.size:=(x a o e).lt
theorem HOk.fresh (x:HOk P w H h) (e:h.objs.size<=a):H a=none:=by
 cases q:H a with
 | none=>rfl
 | some u=>exact absurd (Nat.lt_of_lt_of_le (x.lt q) e) (Nat.lt_irrefl _)
theorem HOk.kept (x:HOk P w H h) (k:∀ b u,h.get? b=some u->h'.get? b=some u):HOk P w H h':=fun a o e=>
 (x a o e).stay (fun b u _ q=>k b u q) (fun _ q=>q) fun _ _ q=>q
theorem HOk.laid (x:HOk P w H h) (k:∀ b u,h.get? b=some u->h'.get? b=some u) (hp:h.objs.size<=a) (new:ObjOk P w (upd H a o) h' a o):HOk P w (upd H a o) h':=fun b u e=>by
 have hn:=x.fresh hp
 by_cases hb:b=a
 ·subst hb;rw [aq] at e;cases e;exact new
 ·rw [aK hb] at e
  exact (x b u e).stay (fun c v _ q=>k c v q) (fun c q=>by rw [aK (gJ q hn)];exact q) fun c xs q=>by rw [aK (gJ q hn)];exact q
end
def Rd (H:Hp) (a:Addr) (u:HO):Prop:=H a=some u\/∃ o,H a=some (.frz o u)
theorem Rd.ok {P:Program} {w:World} {H:Hp} {h:Heap} {a:Addr} {u:HO} (r:Rd H a u) (x:HOk P w H h):ObjOk P w H h a u:=by
 rcases r with r | ⟨o,r⟩
 ·exact x a u r
 ·obtain ⟨_,q⟩:=x a _ r
  exact q
def HB:Option HO->Prop
 | some (.lst _)=>True
 | some (.dK _)=>True
 | some (.dT _)=>True
 | some (.set _ _)=>True
 | some (.ins _ _ _)=>True
 | some (.ext _)=>True
 | _=>False
section
variable {P:Program} {w:World} {H:Hp} {h h':Heap} {x e:Addr} {o':HO}
theorem HOk.write (ok:HOk P w H h) (mu:HB (H x)) (he:e=x\/H e=some (.own x)) (k:∀ b u,b≠e->h.get? b=some u->h'.get? b=some u) (heo:∃ u,h'.get? e=some u)
  (new:ObjOk P w (upd H x o') h' x o'):HOk P w (upd H x o') h':=fun b u q=>by
 have nown:∀ c y,H c=some (.own y)->c≠x:=fun c y r z=>by subst z;rw [r] at mu;exact mu
 have ntup:∀ c xs,H c=some (.tup xs)->c≠x:=fun c xs r z=>by subst z;rw [r] at mu;exact mu
 by_cases hb:b=x
 ·subst hb;rw [aq] at q;cases q;exact new
 ·rw [aK hb] at q
  by_cases hbe:b=e
  ·have q':H b=some (.own x):=by
    rcases he with z | z
    ·exact absurd (hbe.trans z) hb
    ·rw [hbe];exact z
   rw [q] at q';cases q'
   obtain ⟨v,hv⟩:=heo
   exact ⟨v,by rw [hbe];exact hv⟩
  ·refine (ok b u q).stay (fun c v hc r=>k c v ?_ r) (fun c r=>by rw [aK (nown c b r)];exact r) fun c xs r=>by rw [aK (ntup c xs r)];exact r
   rcases hc with rfl | hc
   ·exact hbe
   ·rintro rfl
    rcases he with z | z
    ·exact nown c b hc z
    ·rw [hc] at z;cases z;exact hb rfl
end
structure Un (fs ex:List Addr) (H H':Hp) (h h':Heap):Prop where
 keep:∀ b o,h.get? b=some o->H b=none->b ∉ fs->b ∉ ex->h'.get? b=some o
 slot:∀ b o,h.get? b=some o->H b=none->b∈fs->b ∉ ex->∃ sl,h'.get? b=some {o with slots:=sl}
 free:∀ b o,h.get? b=some o->H b=none->b ∉ ex->H' b=none
 there:∀ b o,h.get? b=some o->b ∉ ex->∃ o',h'.get? b=some o'
 tups:∀ b xs,H b=some (.tup xs)->H' b=some (.tup xs)
 frzs:∀ b o u,H b=some (.frz o u)->H' b=some (.frz o u)
 tbls:∀ b ps,H b=some (.tbl ps)->∃ more,H' b=some (.tbl (ps ++ more))
section
variable {fs fs' ex ex':List Addr} {H H1 H2:Hp} {h h1 h2 h':Heap} {a x e:Addr} {o:HO}
theorem Un.any (u:Un fs ex H H1 h h1) {b:Addr} {ob:Obj} (q:h.get? b=some ob) (n:H b=none) (hx:b ∉ ex):∃ sl,h1.get? b=some {ob with slots:=sl}:=by
 by_cases hb:b∈fs
 ·exact u.slot b ob q n hb hx
 ·exact ⟨ob.slots,u.keep b ob q n hb hx⟩
theorem Un.kept (k:∀ b u,h.get? b=some u->h'.get? b=some u):Un fs ex H H h h':=
 ⟨fun b ob q _ _ _=>k b ob q,fun b ob q _ _ _=>⟨ob.slots,k b ob q⟩,fun _ _ _ n _=>n,fun b ob q _=>⟨ob,k b ob q⟩,fun _ _ q=>q,fun _ _ _ q=>q,fun _ ps q=>⟨#[],by rw [q];simp⟩⟩
theorem Un.refl:Un fs ex H H h h:=Un.kept fun _ _ q=>q
theorem Un.laid (k:∀ b u,h.get? b=some u->h'.get? b=some u) (hp:h.objs.size<=a) (hn:H a=none):Un fs ex H (upd H a o) h h' where
 keep:=fun b u q _ _ _=>k b u q
 slot:=fun b u q _ _ _=>⟨u.slots,k b u q⟩
 free:=fun b u q n _=>by rw [aK (Nat.ne_of_lt (Nat.lt_of_lt_of_le (Heap.lt_size q) hp))];exact n
 there:=fun b u q _=>⟨u,k b u q⟩
 tups:=fun b xs q=>by rw [aK (gJ q hn)];exact q
 frzs:=fun b u xs q=>by rw [aK (gJ q hn)];exact q
 tbls:=fun b ps q=>⟨#[],by rw [aK (gJ q hn),q];simp⟩
theorem Un.write (mu:HB (H x)) (he:e=x\/H e=some (.own x)) (k:∀ b u,b≠e->h.get? b=some u->h'.get? b=some u) (heo:∃ u,h'.get? e=some u):Un fs ex H (upd H x o) h h':=by
 have hx:∀ b,H b=none->b≠x:=fun b n z=>by subst z;rw [n] at mu;exact mu
 have hb:∀ b,H b=none->b≠e:=fun b n z=>by
  subst z
  rcases he with r | r
  ·exact hx b n r
  ·rw [n] at r;cases r
 have hm:∀ b u,H b=some u->¬ HB (some u)->b≠x:=fun b u q nm z=>by subst z;rw [q] at mu;exact nm mu
 refine ⟨fun b u q n _ _=>k b u (hb b n) q,fun b u q n _ _=>⟨u.slots,k b u (hb b n) q⟩,fun b u q n _=>by rw [aK (hx b n)];exact n,fun b u q _=>?_,
  fun b xs q=>by rw [aK (hm b _ q fun z=>z)];exact q,fun b u xs q=>by rw [aK (hm b _ q fun z=>z)];exact q,fun b ps q=>⟨#[],by rw [aK (hm b _ q fun z=>z),q];simp⟩⟩
 by_cases hbe:b=e
 ·subst hbe;exact heo
 ·exact ⟨u,k b u hbe q⟩
end
def zM (h:Heap) (H:Hp):List Addr:=(List.range h.objs.size).filter fun a=>(H a).isSome
def qQ (h:Heap) (H:Hp):Heap:=PySem.W.hideAll h (zM h H)
theorem v4 (h:Heap) (H:Hp):(qQ h H).objs.size=h.objs.size:=PySem.W.hideAll_size _ _
theorem xF {h:Heap} {H:Hp} {b:Addr} {o:Obj} (e:h.get? b=some o) (n:H b=none):(qQ h H).get? b=some o:=
 PySem.W.hideAll_get _ e fun hm=>by
  have q:(H b).isSome=true:=(List.mem_filter.mp hm).2
  rw [n] at q;simp at q
theorem zO {h:Heap} {H:Hp} {b:Addr} {o:Obj} (e:(qQ h H).get? b=some o):h.get? b=some o/\H b=none:=by
 have e':h.get? b=some o:=PySem.W.of_hideAll (zM h H) e
 refine ⟨e',?_⟩
 cases q:H b with
 | none=>rfl
 | some x=>
  have hm:b∈zM h H:=List.mem_filter.mpr ⟨List.mem_range.mpr (Heap.lt_size e'),by simp [q]⟩
  have z:(qQ h H).get? b=none:=PySem.W.hideAll_none (zM h H) hm
  rw [z] at e;cases e
structure Mod (K:W.Frag) (mg:Str->Option Value) (base:Heap):Prop where
 kin:K.In base
 glob:base.Ns mainGlobals mg
 blt:∃ mb,base.Ns builtinsNs mb/\∀ x:Str,x≠"__name__"->mb x=bootBuiltins x
 nolimit:base.NoLimit
 sysm:∃ mm,base.Ns sysModules mm
structure Cx where
 prog:Program
 w:World
 K:W.Frag
 mg:Str->Option Value
 base:Heap
 A:Around
 N:List Str
 s₀:Shared
 H₀:Hp
 env:Env
 outer:List Env
 stack:List Env
 ex:List Addr
 fn:Str->Bool
 calm:Bool
 pn:List (Addr×Obj)
 xe:Value->Shared->Prop
def frs (l:List Env):List Addr:=l.filterMap (·.frame)
abbrev Cx.fs (X:Cx):List Addr:=frs X.outer
def Vis (sc:Scope) (x:Str):Prop:=sc.names.lookup x=some .local\/sc.names.lookup x=some .cell\/sc.names.lookup x=some .free
def Loc (sc:Scope) (x:Str):Prop:=sc.names.lookup x=some .local\/sc.names.lookup x=some .cell
def Look (env:Env) (h:Heap) (m:Str->Option Value) (x:Str) (u:Value):Prop:=
 (env.kindOf x=some .local/\m x=some u)\/((env.kindOf x=some .cell\/env.kindOf x=some .free)/\∃ c,env.cells.lookup x=some c/\h.IsCell c (some u))
structure Cx.Ok (X:Cx):Prop where
 mod:Mod X.K X.mg X.base
 kind:X.env.scope.kind= .function
 glob:X.env.globals=mainGlobals
 blt:X.env.builtins=builtinsNs
 above:X.s₀.heap.objs.size<=X.env.locals
 inj:∀ x y c,X.env.cells.lookup x=some c->X.env.cells.lookup y=some c->x=y
 has:∀ x,(X.env.kindOf x=some .cell\/X.env.kindOf x=some .free)->∃ c,X.env.cells.lookup x=some c
 cab:∀ x c,X.fn x=true->X.env.cells.lookup x=some c->X.s₀.heap.objs.size<=c
 hd:X.calm=true->X.A.handled=none
 frames:X.A.frames=some X.stack
 stk:X.stack=X.outer\/(X.stack=X.env :: X.outer/\X.env.frame=some X.env.locals)
 exf:∀ b∈X.ex,b≠X.env.locals/\∀ x c,X.env.cells.lookup x=some c->c≠b
 bs:∀ b o,X.base.get? b=some o->X.s₀.heap.get? b=some o/\X.H₀ b=none
 bsz:X.base.objs.size<=X.s₀.heap.objs.size
 noex:∀ b o,X.base.get? b=some o->b ∉ X.ex
 exfs:∀ b∈X.ex,b ∉ X.fs
 funs:X.s₀.heap.FunFrames X.base X.outer
 frf:∀ b∈X.fs,X.H₀ b=none
structure Inv (X:Cx) (pins:List (Addr×Obj)) (U:List (Option V)) (H:Hp) (s:Shared):Prop where
 ok:X.Ok
 os:s.os=X.s₀.os
 bare:AllBare s.gens
 base:Un X.fs X.ex X.H₀ H X.s₀.heap s.heap
 loc:∃ m,s.heap.Ns X.env.locals m/\∀ (i:Nat) (x:Str) (v:V),X.N[i]?=some x->U[i]?=some (some v)->Vis X.env.scope x->∃ u,RelV v u/\Look X.env s.heap m x u
 cell:∀ x c,X.env.cells.lookup x=some c->∃ v,s.heap.IsCell c v
 free:H X.env.locals=none
 freeC:∀ x c,X.env.cells.lookup x=some c->H c=none
 pin:∀ p∈X.pn ++ pins,s.heap.get? p.1=some p.2/\H p.1=none/\p.1≠X.env.locals/\p.1 ∉ X.fs/\∀ v,p.2.data≠.cell v
 hok:HOk X.prog X.w H s.heap
 len:U.length=X.N.length
section
variable {X:Cx} {pins:List (Addr×Obj)} {U:List (Option V)} {H H':Hp} {s:Shared} {h':Heap}
theorem Cx.Ok.nofr (ok:X.Ok) {b:Addr} {o:Obj} (e:X.base.get? b=some o):b ∉ X.fs:=fun hb=>by
 have:=(ok.funs.mem hb).1
 rw [e] at this;cases this
theorem Inv.bs (I:Inv X pins U H s):∀ b o,X.base.get? b=some o->s.heap.get? b=some o/\H b=none:=fun b o e=>
 ⟨I.base.keep b o (I.ok.bs b o e).1 (I.ok.bs b o e).2 (I.ok.nofr e) (I.ok.noex b o e),I.base.free b o (I.ok.bs b o e).1 (I.ok.bs b o e).2 (I.ok.noex b o e)⟩
theorem Inv.bk (I:Inv X pins U H s):∀ b o,X.base.get? b=some o->s.heap.get? b=some o:=fun b o e=>(I.bs b o e).1
theorem Inv.mod (I:Inv X pins U H s):Mod X.K X.mg X.base:=I.ok.mod
theorem Inv.kIn (I:Inv X pins U H s):X.K.In s.heap:=I.ok.mod.kin.keeps I.bk
theorem Inv.lt (I:Inv X pins U H s):X.env.locals < s.heap.objs.size:=let ⟨_,hn,_⟩:=I.loc;hn.lt
theorem Inv.sz (I:Inv X pins U H s):X.s₀.heap.objs.size<=s.heap.objs.size:=Nat.le_trans I.ok.above (Nat.le_of_lt I.lt)
theorem Inv.nofs (I:Inv X pins U H s) {a:Addr} (h:s.heap.objs.size<=a):a ∉ X.fs:=fun hb=>by
 obtain ⟨_,o,ho,_⟩:=I.ok.funs.mem hb
 exact absurd (Nat.lt_of_lt_of_le (Heap.lt_size ho) (Nat.le_trans I.sz h)) (Nat.lt_irrefl _)
theorem Inv.cne (I:Inv X pins U H s):∀ x c,X.env.cells.lookup x=some c->c≠X.env.locals:=fun x c e z=>by
 obtain ⟨v,o,ho,hd⟩:=I.cell x c e
 obtain ⟨m,⟨o',es,ep,ho',hd',_⟩,_⟩:=I.loc
 rw [z,ho'] at ho;cases ho;rw [hd'] at hd;cases hd
theorem Inv.funs (I:Inv X pins U H s):s.heap.FunFrames X.base X.outer:=by
 have all:∀ (l:List Env),(∀ b∈frs l,b∈X.fs)->X.s₀.heap.FunFrames X.base l->s.heap.FunFrames X.base l:=by
  intro l
  induction l with
  | nil=>intro _ _;trivial
  | cons env r ih=>
   intro hs hl
   obtain ⟨hk,⟨L,o,hf,hn,ho,hd⟩,hr⟩:=hl
   have hL:L∈X.fs:=hs L (by unfold frs;rw [List.filterMap_cons,hf];exact List.mem_cons_self)
   obtain ⟨sl,e⟩:=I.base.slot L o ho (I.ok.frf L hL) hL fun z=>I.ok.exfs L z hL
   exact ⟨hk,⟨L,_,hf,hn,e,hd⟩,ih (fun b hb=>hs b (by unfold frs;rw [List.filterMap_cons,hf];exact List.mem_cons_of_mem _ hb)) hr⟩
 exact all X.outer (fun _ hb=>hb) I.ok.funs
theorem Inv.stack (I:Inv X pins U H s):s.heap.FunFrames X.base X.stack:=by
 rcases I.ok.stk with e | ⟨e,hf⟩
 ·rw [e];exact I.funs
 ·rw [e]
  obtain ⟨m,hn,_⟩:=I.loc
  refine .cons (by rw [I.ok.kind];decide) hf hn ?_ I.funs
  exact Heap.get?_none_of_le (Nat.le_trans I.ok.bsz I.ok.above)
theorem Inv.stkSub (I:Inv X pins U H s):∀ b∈frs X.stack,b∈X.env.locals :: X.fs:=fun b hb=>by
 rcases I.ok.stk with e | ⟨e,hf⟩
 ·rw [e] at hb;exact List.mem_cons_of_mem _ hb
 ·rw [e] at hb
  unfold frs at hb
  rw [List.filterMap_cons,hf] at hb
  exact hb
theorem Inv.stkFree (I:Inv X pins U H s):∀ b∈frs X.stack,H b=none:=fun b hb=>by
 rcases List.mem_cons.mp (I.stkSub b hb) with e | hb
 ·rw [e];exact I.free
 ·obtain ⟨_,o,ho,_⟩:=I.ok.funs.mem hb
  exact I.base.free b o ho (I.ok.frf b hb) fun z=>I.ok.exfs b z hb
theorem Inv.step {g':Array GenState} {t':Nat} {d':Drawn} {ch:List Addr} (I:Inv X pins U H s)
  (hch:∀ b∈ch,(b∈X.ex\/X.s₀.heap.objs.size<=b)/\b≠X.env.locals/\(∀ x c,X.env.cells.lookup x=some c->c≠b)/\∀ p∈X.pn ++ pins,p.1≠b)
  (keep:∀ b o,b≠X.env.locals->b ∉ X.fs->b ∉ ch->s.heap.get? b=some o->H b=none->h'.get? b=some o)
  (slot:∀ b o,b≠X.env.locals->b∈X.fs->b ∉ ch->s.heap.get? b=some o->H b=none->∃ sl,h'.get? b=some {o with slots:=sl}) (free:∀ b o,b ∉ ch->s.heap.get? b=some o->H b=none->H' b=none)
  (there:∀ b o,b ∉ ch->s.heap.get? b=some o->∃ o',h'.get? b=some o')
  (tups:∀ b xs,H b=some (.tup xs)->H' b=some (.tup xs)) (frzs:∀ b o u,H b=some (.frz o u)->H' b=some (.frz o u)) (tbls:∀ b ps,H b=some (.tbl ps)->∃ more,H' b=some (.tbl (ps ++ more)))
  (ns:∀ m,s.heap.Ns X.env.locals m->h'.Ns X.env.locals m) (hok:HOk X.prog X.w H' h') (hg:AllBare g'):
  Inv X pins U H' {s with heap:=h',gens:=g',drawn:=d',toks:=t'}:=by
 have neL:∀ b o,X.s₀.heap.get? b=some o->b≠X.env.locals:=fun b o e=>Nat.ne_of_lt (Nat.lt_of_lt_of_le (Heap.lt_size e) I.ok.above)
 have neC:∀ b o,X.s₀.heap.get? b=some o->b ∉ X.ex->b ∉ ch:=fun b o e hx hb=>by
  rcases (hch b hb).1 with z | z
  ·exact hx z
  ·exact absurd (Nat.lt_of_lt_of_le (Heap.lt_size e) z) (Nat.lt_irrefl _)
 have cellK:∀ x c,X.env.cells.lookup x=some c->∀ v,s.heap.IsCell c v->h'.IsCell c v:=fun x c e v ⟨o,ho,hd⟩=>by
  have nch:c ∉ ch:=fun z=>(hch c z).2.2.1 x c e rfl
  by_cases hc:c∈X.fs
  ·obtain ⟨sl,q⟩:=slot c o (I.cne x c e) hc nch ho (I.freeC x c e)
   exact ⟨_,q,hd⟩
  ·exact ⟨o,keep c o (I.cne x c e) hc nch ho (I.freeC x c e),hd⟩
 refine ⟨I.ok,I.os,hg,⟨fun b o e n hb hx=>?_,fun b o e n hb hx=>?_,fun b o e n hx=>?_,fun b o e hx=>?_,fun b xs e=>tups b xs (I.base.tups b xs e),fun b o xs e=>frzs b o xs (I.base.frzs b o xs e),fun b ps e=>?_⟩,?_,fun x c e=>?_,?_,fun x c e=>?_,fun p hp=>?_,hok,I.len⟩
 ·exact keep b o (neL b o e) hb (neC b o e hx) (I.base.keep b o e n hb hx) (I.base.free b o e n hx)
 ·obtain ⟨sl,e1⟩:=I.base.slot b o e n hb hx
  obtain ⟨sl',e2⟩:=slot b _ (neL b o e) hb (neC b o e hx) e1 (I.base.free b o e n hx)
  exact ⟨sl',e2⟩
 ·obtain ⟨o',e1⟩:=I.base.there b o e hx
  exact free b o' (neC b o e hx) e1 (I.base.free b o e n hx)
 ·obtain ⟨o',e1⟩:=I.base.there b o e hx
  exact there b o' (neC b o e hx) e1
 ·obtain ⟨m1,e1⟩:=I.base.tbls b ps e
  obtain ⟨m2,e2⟩:=tbls b _ e1
  exact ⟨m1 ++ m2,by rw [e2,Array.append_assoc]⟩
 ·obtain ⟨m,hn,hl⟩:=I.loc
  refine ⟨m,ns m hn,fun i x v e1 e2 e3=>?_⟩
  obtain ⟨u,r,l⟩:=hl i x v e1 e2 e3
  refine ⟨u,r,?_⟩
  rcases l with l | ⟨k,c,e,z⟩
  ·exact .inl l
  ·exact .inr ⟨k,c,e,cellK x c e _ z⟩
 ·obtain ⟨v,z⟩:=I.cell x c e
  exact ⟨v,cellK x c e v z⟩
 ·obtain ⟨m,⟨o,_,_,ho,_⟩,_⟩:=I.loc
  exact free _ o (fun z=>(hch _ z).2.1 rfl) ho I.free
 ·obtain ⟨v,o,ho,hd⟩:=I.cell x c e
  exact free c o (fun z=>(hch c z).2.2.1 x c e rfl) ho (I.freeC x c e)
 ·obtain ⟨e,n,ne,nf,d⟩:=I.pin p hp
  have nch:p.1 ∉ ch:=fun z=>(hch p.1 z).2.2.2 p hp rfl
  exact ⟨keep p.1 p.2 ne nf nch e n,free p.1 p.2 nch e n,ne,nf,d⟩
theorem Inv.un {t':Nat} (I:Inv X pins U H s) (u:Un X.fs [] H H' s.heap h') (hok:HOk X.prog X.w H' h'):Inv X pins U H' {s with heap:=h',toks:=t'}:=by
 obtain ⟨m,⟨o,es,ep,ho,r⟩,_⟩:=id I.loc
 obtain ⟨sl,hL⟩:=u.any ho I.free (by simp)
 exact I.step (g':=s.gens) (d':=s.drawn) (ch:=[]) (fun _ z=>nomatch z) (fun b o _ hb _ e n=>u.keep b o e n hb (by simp)) (fun b o _ hb _ e n=>u.slot b o e n hb (by simp)) (fun b o _ e n=>u.free b o e n (by simp)) (fun b o _ e=>u.there b o e (by simp)) u.tups u.frzs u.tbls (fun m' hm=>by
  obtain ⟨o',es',ep',ho',r'⟩:=hm
  rw [ho] at ho';cases ho'
  exact ⟨_,es',ep',hL,r'⟩) hok I.bare
theorem Inv.call {g':Array GenState} {t':Nat} {d':Drawn} {ch:List Addr} (I:Inv X pins U H s) (u:Un (frs X.stack) ch H H' s.heap h') (hok:HOk X.prog X.w H' h') (hg:AllBare g')
  (hch:∀ b∈ch,(b∈X.ex\/X.s₀.heap.objs.size<=b)/\b≠X.env.locals/\(∀ x c,X.env.cells.lookup x=some c->c≠b)/\∀ p∈X.pn ++ pins,p.1≠b):
  Inv X pins U H' {s with heap:=h',gens:=g',drawn:=d',toks:=t'}:=by
 obtain ⟨m,⟨o,es,ep,ho,r⟩,_⟩:=id I.loc
 obtain ⟨sl,hL⟩:=u.any ho I.free fun z=>(hch _ z).2.1 rfl
 exact I.step (ch:=ch) hch (fun b o hL hb hc e n=>u.keep b o e n (fun z=>(List.mem_cons.mp (I.stkSub b z)).elim hL hb) hc) (fun b o _ _ hc e n=>u.any e n hc) (fun b o hc e n=>u.free b o e n hc) (fun b o hc e=>u.there b o e hc) u.tups u.frzs u.tbls (fun m' hm=>by
  obtain ⟨o',es',ep',ho',r'⟩:=hm
  rw [ho] at ho';cases ho'
  exact ⟨_,es',ep',hL,r'⟩) hok hg
theorem Inv.turned {t':Nat} {it:Addr} (I:Inv X pins U H s) (k:∀ b o,b≠it->s.heap.get? b=some o->h'.get? b=some o) (hn:H it=none) (hL:it≠X.env.locals)
  (h1:it∈X.ex\/X.s₀.heap.objs.size<=it) (h2:∀ x c,X.env.cells.lookup x=some c->c≠it) (h3:∀ p∈X.pn ++ pins,p.1≠it):Inv X pins U H {s with heap:=h',toks:=t'}:=by
 have nit:∀ b u,H b=some u->b≠it:=fun b u e z=>by rw [z,hn] at e;cases e
 refine I.step (g':=s.gens) (d':=s.drawn) (ch:=[it]) (fun b hb=>?_) (fun b o _ _ hc e _=>k b o (fun z=>hc (by simp [z])) e) (fun b o _ _ hc e _=>⟨o.slots,k b o (fun z=>hc (by simp [z])) e⟩) (fun _ _ _ _ n=>n)
  (fun b o hc e=>⟨o,k b o (fun z=>hc (by simp [z])) e⟩) (fun _ _ e=>e) (fun _ _ _ e=>e) (fun b ps e=>⟨#[],by rw [e];simp⟩) (fun m hm=>?_) (fun b u e=>?_) I.bare
 ·have e:b=it:=by simpa using hb
  subst e
  exact ⟨h1,hL,h2,h3⟩
 ·obtain ⟨o,es,ep,ho,r⟩:=hm
  exact ⟨o,es,ep,k _ o (Ne.symm hL) ho,r⟩
 ·refine (I.hok b u e).stay (fun c v hc q=>k c v ?_ q) (fun _ q=>q) fun _ _ q=>q
  rcases hc with z | z
  ·rw [z];exact nit b u e
  ·exact nit c _ z
theorem Inv.tok (I:Inv X pins U H s) (t:Nat):Inv X pins U H {s with toks:=t}:=I.un (h':=s.heap) (t':=t) Un.refl I.hok
theorem Inv.kept {t':Nat} (I:Inv X pins U H s) (k:∀ b u,s.heap.get? b=some u->h'.get? b=some u):Inv X pins U H {s with heap:=h',toks:=t'}:=I.un (Un.kept k) (I.hok.kept k)
theorem Inv.laid {a:Addr} {o:HO} {t':Nat} (I:Inv X pins U H s) (k:∀ b u,s.heap.get? b=some u->h'.get? b=some u) (hp:s.heap.objs.size<=a) (new:ObjOk X.prog X.w (upd H a o) h' a o):
  Inv X pins U (upd H a o) {s with heap:=h',toks:=t'}:=I.un (Un.laid k hp (I.hok.fresh hp)) (I.hok.laid k hp new)
theorem Inv.write {x e:Addr} {o:HO} {t':Nat} (I:Inv X pins U H s) (mu:HB (H x)) (he:e=x\/H e=some (.own x)) (k:∀ b u,b≠e->s.heap.get? b=some u->h'.get? b=some u) (heo:∃ u,h'.get? e=some u)
  (new:ObjOk X.prog X.w (upd H x o) h' x o):Inv X pins U (upd H x o) {s with heap:=h',toks:=t'}:=I.un (Un.write mu he k heo) (I.hok.write mu he k heo new)
theorem Inv.weak {U':List (Option V)} (I:Inv X pins U H s) (hl:U'.length=U.length) (w:∀ (i:Nat) v,U'[i]?=some (some v)->U[i]?=some (some v)):Inv X pins U' H s:=
 ⟨I.ok,I.os,I.bare,I.base,let ⟨m,hn,hl'⟩:=I.loc;⟨m,hn,fun i x v e1 e2 e3=>hl' i x v e1 (w i v e2) e3⟩,I.cell,I.free,I.freeC,I.pin,I.hok,hl.trans I.len⟩
theorem Inv.pins_of {pins':List (Addr×Obj)} (I:Inv X pins U H s) (h:∀ p∈pins',s.heap.get? p.1=some p.2/\H p.1=none/\p.1≠X.env.locals/\p.1 ∉ X.fs/\∀ v,p.2.data≠.cell v):Inv X pins' U H s:=
 ⟨I.ok,I.os,I.bare,I.base,I.loc,I.cell,I.free,I.freeC,fun p hp=>(List.mem_append.mp hp).elim (fun z=>I.pin p (List.mem_append_left _ z)) (h p),I.hok,I.len⟩
theorem sE {N:List Str} (hN:N.Nodup) {i j:Nat} {x:Str} (a:N[i]?=some x) (b:N[j]?=some x):i=j:=by
 obtain ⟨h1,e1⟩:=List.getElem?_eq_some_iff.mp a
 obtain ⟨h2,e2⟩:=List.getElem?_eq_some_iff.mp b
 exact (List.getElem_inj hN).mp (e1.trans e2.symm)
theorem qj {M:Model} {A:Around} {E:Value->Shared->Prop} {i:Nat} {x:Str} {v:V} {u:Value} {Q:Unit->Shared->Prop} (I:Inv X pins U H s) (hN:X.N.Nodup) (hi:X.N[i]?=some x) (hx:Loc X.env.scope x) (r:RelV v u)
  (h:∀ s',Inv X pins (U.set i (some v)) H s'->(∃ a,Heap.SameBut a s.heap s'.heap/\(a=X.env.locals\/X.env.cells.lookup x=some a))->Q () s') (hf:autoParam (X.fn x=true\/X.env.scope.names.lookup x=some .local) L2.auto1._auto_1):wpAny M A (storeName X.env x u) Q E s:=by
 obtain ⟨m,hn,hl⟩:=id I.loc
 have hcls:(X.env.scope.kind == .class || (X.env.scope.kind == .module && X.env.locals != X.env.globals))=false:=by rw [I.ok.kind];rfl
 have hiU:i < U.length:=by rw [I.len];exact (List.getElem?_eq_some_iff.mp hi).1
 have cne:=I.cne
 have tracked:∀ {a:Addr} {h':Heap},(∃ o,s.heap.get? a=some o/\H a=none)->Heap.SameBut a s.heap h'->HOk X.prog X.w H h':=fun {a h'} ha hs b ob e=>by
  obtain ⟨_,_,hfree⟩:=ha
  refine (I.hok b ob e).stay (fun c w' hc q=>(hs.2 c ?_).trans q) (fun _ q=>q) fun _ _ q=>q
  rintro rfl
  rcases hc with rfl | hc
  ·rw [hfree] at e;cases e
  ·rw [hfree] at hc;cases hc
 rcases hx with hk | hk
 ·refine wpAny_storeName_local hk hn (fun h' hn' hs=>?_) hcls
  obtain ⟨oL,_,_,hoL,_⟩:=id hn
  refine h _ ⟨I.ok,I.os,I.bare,⟨fun b o e n hb hx=>?_,fun b o e n hb hx=>?_,I.base.free,fun b o e hx=>?_,I.base.tups,I.base.frzs,I.base.tbls⟩,⟨_,hn',fun j y v' e1 e2 e3=>?_⟩,fun y c e=>?_,I.free,I.freeC,fun p hp=>?_,tracked ⟨oL,hoL,I.free⟩ hs,by simpa using I.len⟩ ⟨_,hs,.inl rfl⟩
  ·exact (hs.2 b (Nat.ne_of_lt (Nat.lt_of_lt_of_le (Heap.lt_size e) I.ok.above))).trans (I.base.keep b o e n hb hx)
  ·obtain ⟨sl,e1⟩:=I.base.slot b o e n hb hx
   exact ⟨sl,(hs.2 b (Nat.ne_of_lt (Nat.lt_of_lt_of_le (Heap.lt_size e) I.ok.above))).trans e1⟩
  ·obtain ⟨o',e1⟩:=I.base.there b o e hx
   exact ⟨o',(hs.2 b (Nat.ne_of_lt (Nat.lt_of_lt_of_le (Heap.lt_size e) I.ok.above))).trans e1⟩
  ·by_cases hj:j=i
   ·subst hj
    rw [hi] at e1;cases e1
    rw [List.getElem?_set_self hiU] at e2
    cases e2
    exact ⟨u,r,.inl ⟨hk,by simp⟩⟩
   ·rw [List.getElem?_set_ne (Ne.symm hj)] at e2
    obtain ⟨u',r',q⟩:=hl j y v' e1 e2 e3
    refine ⟨u',r',?_⟩
    rcases q with ⟨k,e⟩ | ⟨k,c,e,z⟩
    ·refine .inl ⟨k,?_⟩
     have:y≠x:=fun e=>hj (sE hN e1 (e ▸ hi))
     simp [this,e]
    ·exact .inr ⟨k,c,e,z.sameBut hs (cne y c e)⟩
  ·obtain ⟨w',z⟩:=I.cell y c e
   exact ⟨w',z.sameBut hs (cne y c e)⟩
  ·obtain ⟨e,n,ne,nf,d⟩:=I.pin p hp
   exact ⟨(hs.2 p.1 ne).trans e,n,ne,nf,d⟩
 ·have hfn:X.fn x=true:=by
   rcases hf with z | z
   ·exact z
   ·rw [z] at hk;cases hk
  obtain ⟨c,hc⟩:=I.ok.has x (.inl hk)
  obtain ⟨w',z⟩:=I.cell x c hc
  refine wpAny_storeName_cell I.ok.kind hk hc z (fun h' hc' hs=>?_)
  obtain ⟨oc,hoc,hocd⟩:=id z
  refine h {s with heap:=h'} ⟨I.ok,I.os,I.bare,⟨fun b o e n hb hx=>?_,fun b o e n hb hx=>?_,I.base.free,fun b o e hx=>?_,I.base.tups,I.base.frzs,I.base.tbls⟩,⟨m,hn.sameBut hs (Ne.symm (cne x c hc)),fun j y v' e1 e2 e3=>?_⟩,fun y c' e=>?_,I.free,I.freeC,fun p hp=>?_,tracked ⟨oc,hoc,I.freeC x c hc⟩ hs,by simpa using I.len⟩ ⟨c,hs,.inr hc⟩
  ·exact (hs.2 b (Nat.ne_of_lt (Nat.lt_of_lt_of_le (Heap.lt_size e) (I.ok.cab x c hfn hc)))).trans (I.base.keep b o e n hb hx)
  ·obtain ⟨sl,e1⟩:=I.base.slot b o e n hb hx
   exact ⟨sl,(hs.2 b (Nat.ne_of_lt (Nat.lt_of_lt_of_le (Heap.lt_size e) (I.ok.cab x c hfn hc)))).trans e1⟩
  ·obtain ⟨o',e1⟩:=I.base.there b o e hx
   exact ⟨o',(hs.2 b (Nat.ne_of_lt (Nat.lt_of_lt_of_le (Heap.lt_size e) (I.ok.cab x c hfn hc)))).trans e1⟩
  ·by_cases hj:j=i
   ·subst hj
    rw [hi] at e1;cases e1
    rw [List.getElem?_set_self hiU] at e2
    cases e2
    exact ⟨u,r,.inr ⟨.inl hk,c,hc,hc'⟩⟩
   ·rw [List.getElem?_set_ne (Ne.symm hj)] at e2
    obtain ⟨u',r',q⟩:=hl j y v' e1 e2 e3
    refine ⟨u',r',?_⟩
    rcases q with q | ⟨k,c',e,z'⟩
    ·exact .inl q
    ·refine .inr ⟨k,c',e,z'.sameBut hs ?_⟩
     rintro rfl
     exact hj (sE hN e1 (I.ok.inj _ _ _ e hc ▸ hi))
  ·by_cases hcc:c'=c
   ·subst hcc;exact ⟨_,hc'⟩
   ·obtain ⟨w2,z2⟩:=I.cell y c' e
    exact ⟨w2,z2.sameBut hs hcc⟩
  ·obtain ⟨e,n,ne,nf,d⟩:=I.pin p hp
   refine ⟨(hs.2 p.1 ?_).trans e,n,ne,nf,d⟩
   intro q
   rw [q,hoc] at e
   have q':oc=p.2:=Option.some.inj e
   exact d w' (by rw [← q'];exact hocd)
theorem sG {M:Model} {A:Around} {E:Value->Shared->Prop} {i:Nat} {x:Str} {v:V} {u:Value} {Q:Unit->Shared->Prop} (I:Inv X pins U H s) (hN:X.N.Nodup) (hi:X.N[i]?=some x) (hx:Loc X.env.scope x) (r:RelV v u)
  (h:∀ s',Inv X pins (U.set i (some v)) H s'->Q () s') (hf:autoParam (X.fn x=true\/X.env.scope.names.lookup x=some .local) L2.auto1._auto_1):wpAny M A (storeName X.env x u) Q E s:=
 qj I hN hi hx r (fun s' I' _=>h s' I') hf
theorem Inv.call' {s':Shared} {ch:List Addr} (I:Inv X pins U H s) (ho:s'.os=s.os) (u:Un (frs X.stack) ch H H' s.heap s'.heap) (hok:HOk X.prog X.w H' s'.heap) (hg:AllBare s'.gens)
  (hch:∀ b∈ch,(b∈X.ex\/X.s₀.heap.objs.size<=b)/\b≠X.env.locals/\(∀ x c,X.env.cells.lookup x=some c->c≠b)/\∀ p∈X.pn ++ pins,p.1≠b):Inv X pins U H' s':=by
 obtain ⟨h',g',d',t',o'⟩:=s'
 have e:o'=s.os:=ho
 subst e
 exact I.call (g':=g') (t':=t') (d':=d') u hok hg hch
end
abbrev XK:=Value->Option Addr->Hp->Prop
abbrev St:=List (Option V)
abbrev VK:=V->Hp->Prop
abbrev TE:=St->Hp->VK->Prop
abbrev TT:=St->Hp->(Bool->Hp->Prop)->Prop
abbrev TA:=St->Hp->(List V->Hp->Prop)->Prop
structure Ends where
 nx:St->Hp->Prop
 rt:VK
 bk:St->Hp->Prop:=fun _ _=>False
 ct:St->Hp->Prop:=fun _ _=>False
abbrev TS:=Ends->St->Hp->Prop
def EP (X:Cx) (pins:List (Addr×Obj)) (U:St) (Q:VK) (u:Value) (s':Shared):Prop:=∃ v H',Inv X pins U H' s'/\RelV v u/\Q v H'
def TP (X:Cx) (pins:List (Addr×Obj)) (U:St) (Q:Bool->Hp->Prop) (b:Bool) (s':Shared):Prop:=∃ H',Inv X pins U H' s'/\Q b H'
def AP (X:Cx) (pins:List (Addr×Obj)) (U:St) (Q:List V->Hp->Prop) (us:List Value) (s':Shared):Prop:=∃ vs H',Inv X pins U H' s'/\Vals vs us/\Q vs H'
def SP (X:Cx) (pins:List (Addr×Obj)) (D:Ends) (f:Flow) (s':Shared):Prop:=
 match f with
 | .next=>∃ U' H',Inv X pins U' H' s'/\D.nx U' H'
 | .brk=>∃ U' H',Inv X pins U' H' s'/\D.bk U' H'
 | .cont=>∃ U' H',Inv X pins U' H' s'/\D.ct U' H'
 | .ret u=>∃ v U' H',Inv X pins U' H' s'/\RelV v u/\D.rt v H'
def PE (X:Cx) (e:Expr) (t:TE):Prop:=
 ∀ (pins:List (Addr×Obj)) (s:Shared) (U:St) (H:Hp) (Q:VK),Inv X pins U H s->t U H Q->wpAny (model X.prog X.w) X.A (eval e X.env) (EP X pins U Q) X.xe s
def PT (X:Cx) (e:Expr) (t:TT):Prop:=
 ∀ (pins:List (Addr×Obj)) (s:Shared) (U:St) (H:Hp) (Q:Bool->Hp->Prop),Inv X pins U H s->t U H Q->wpAny (model X.prog X.w) X.A (isTrue e X.env (eval e X.env)) (TP X pins U Q) X.xe s
def PW (X:Cx) (e:Expr) (t:TT):Prop:=
 ∀ (whole:Sem Value) (pins:List (Addr×Obj)) (s:Shared) (U:St) (H:Hp) (Q:Bool->Hp->Prop),Inv X pins U H s->t U H Q->wpAny (model X.prog X.w) X.A (isTrue e X.env whole) (TP X pins U Q) X.xe s
theorem PW.pt {X:Cx} {e:Expr} {t:TT} (h:PW X e t):PT X e t:=h _
def PA (X:Cx) (es:List Expr) (t:TA):Prop:=
 ∀ (pos:Pos) (pins:List (Addr×Obj)) (s:Shared) (U:St) (H:Hp) (Q:List V->Hp->Prop),Inv X pins U H s->t U H Q->wpAny (model X.prog X.w) X.A (spliced (backTo pos (starEach es X.env))) (AP X pins U Q) X.xe s
def PS (X:Cx) (st:Stmt) (t:TS):Prop:=
 ∀ (pins:List (Addr×Obj)) (s:Shared) (U:St) (H:Hp) (D:Ends),Inv X pins U H s->t D U H->wpAny (model X.prog X.w) X.A (exec st X.env) (SP X pins D) X.xe s
def PSs (X:Cx) (st:List Stmt) (t:TS):Prop:=
 ∀ (pins:List (Addr×Obj)) (s:Shared) (U:St) (H:Hp) (D:Ends),Inv X pins U H s->t D U H->wpAny (model X.prog X.w) X.A (execs st X.env) (SP X pins D) X.xe s
theorem dz {α:Type} {t:Sem α} {Q Q':α->Shared->Prop} {M:Model} {A:Around} {E:Value->Shared->Prop} {s:Shared} (h:wpAny M A t Q E s) (hQ:∀ a s,Q a s->Q' a s):wpAny M A t Q' E s:=wpAny_mono h hQ fun _ _ x=>x
section
variable {X:Cx}
def sH (i:Nat):TE:=fun U H Q=>∃ v,U[i]?=some (some v)/\Q v H
def tC (v:V):TE:=fun _ H Q=>Q v H
theorem uB {i:Nat} {x:Str} {pos:Pos} (hN:X.N[i]?=some x) (hv:Vis X.env.scope x) (hd:autoParam ((x == ("__debug__":Str))=false) L2.auto2._auto_1) (hcd:autoParam ((x == ("__classdict__":Str))=false) L2.auto2._auto_1):PE X (.Name x pos) (sH i):=by
 intro pins s U H Q I h
 obtain ⟨v,e,h⟩:=h
 obtain ⟨m,hn,hl⟩:=I.loc
 obtain ⟨u,r,l⟩:=hl i x v hN e hv
 have fin:EP X pins U Q u s:=⟨v,H,I,r,h⟩
 rcases l with ⟨hk,hm⟩ | ⟨hk,c,hc,hcell⟩
 ·exact wpAny_Name (wpAny_loadName_local I.ok.kind hk hn hm fin) hd
 ·rcases hk with hk | hk
  ·exact wpAny_Name (wpAny_loadName_cell I.ok.kind hk hc hcell fin) hd
  ·exact wpAny_Name (wpAny_loadName_free I.ok.kind hk hc hcell fin hcd) hd
theorem Dp {i j pos}:PE X (.Constant (.int i) j pos) (tC (.int i)):=fun _ _ _ H _ I h=>wpAny_Constant_int ⟨.int i,H,I.tok _,⟨_,rfl⟩,h⟩
theorem HD {b j pos}:PE X (.Constant (.bool b) j pos) (tC (.bl b)):=fun _ _ _ H _ I h=>Constant_bool ⟨.bl b,H,I,rfl,h⟩
theorem Dq {x j pos}:PE X (.Constant (.str x) j pos) (tC (.str x)):=fun _ _ _ H _ I h=>Calls.Constant_str ⟨.str x,H,I.tok _,⟨_,rfl⟩,h⟩
def Gl (X:Cx) (x:Str):Prop:=X.env.kindOf x=some .globalImplicit
theorem u6 {E:Value->Shared->Prop} {pins:List (Addr×Obj)} {s:Shared} {U:St} {H:Hp} {x:Str} {u:Value} {pos:Pos} {Q:Value->Shared->Prop} (I:Inv X pins U H s) (hg:Gl X x) (hm:X.mg x=some u) (h:Q u s)
  (hd:autoParam ((x == ("__debug__":Str))=false) L2.auto2._auto_1):wpAny (model X.prog X.w) X.A (eval (.Name x pos) X.env) Q E s:=
 Calls.Name_function_global I.ok.kind hg (Calls.loadGlobal_global (by rw [I.ok.glob];exact I.mod.glob.keeps I.bk) hm h) hd
theorem mH {E:Value->Shared->Prop} {pins:List (Addr×Obj)} {s:Shared} {U:St} {H:Hp} {x:Str} {u:Value} {pos:Pos} {Q:Value->Shared->Prop} (I:Inv X pins U H s) (hg:Gl X x) (hm:X.mg x=none) (hv:bootBuiltins x=some u) (h:Q u s)
  (hn:autoParam (x≠"__name__") L2.auto2._auto_1) (hd:autoParam ((x == ("__debug__":Str))=false) L2.auto2._auto_1):wpAny (model X.prog X.w) X.A (eval (.Name x pos) X.env) Q E s:=by
 obtain ⟨mb,h1,h2⟩:=I.mod.blt
 exact Calls.Name_function_global I.ok.kind hg (Calls.loadGlobal_builtin (by rw [I.ok.glob];exact I.mod.glob.keeps I.bk) hm (by rw [I.ok.blt];exact h1.keeps I.bk) ((h2 x hn).trans hv) h) hd
theorem oK {x:Str} {v:V} {u:Value} {pos:Pos} (hg:Gl X x) (hm:X.mg x=some u) (r:RelV v u) (hd:autoParam ((x == ("__debug__":Str))=false) L2.auto2._auto_1):PE X (.Name x pos) (tC v):=
 fun _ _ _ H _ I h=>u6 I hg hm ⟨v,H,I,r,h⟩ hd
theorem zP {x:Str} {v:V} {u:Value} {pos:Pos} (hg:Gl X x) (hm:X.mg x=none) (hv:bootBuiltins x=some u) (r:RelV v u) (hn:autoParam (x≠"__name__") L2.auto2._auto_1) (hd:autoParam ((x == ("__debug__":Str))=false) L2.auto2._auto_1):PE X (.Name x pos) (tC v):=
 fun _ _ _ H _ I h=>mH I hg hm hv ⟨v,H,I,r,h⟩ hn hd
variable {a b:Expr} {ta tb:TE} {pos:Pos}
def tB (t:TE):TT:=fun U H Q=>t U H fun x H1=>∃ c,x= .bl c/\Q c H1
theorem Ds {e:Expr} {t:TE} (h:PE X e t) (he:autoParam (∀ whole,isTrue e X.env whole=(do let v ← whole;standAt e.pos;holding [v] (truthy v))) L2.auto3._auto_1):PT X e (tB t):=by
 intro pins s U H Q I hw
 refine isTrue_plain (dz (h pins s U H _ I hw) fun v s1 qq0=>?_) (he _)
 obtain ⟨x,H1,I1,r1,q1⟩:=qq0
 obtain ⟨d,rfl,q⟩:=q1
 cases r1
 exact wpAny_truthy_bool ⟨H1,I1,q⟩
variable {tA tB':TT} {rest:List Expr}
def Dt (t u:TT):TT:=fun U H Q=>t U H fun c H1=>if c=true then u U H1 Q else Q false H1
def tOr (t u:TT):TT:=fun U H Q=>t U H fun c H1=>if c=true then Q true H1 else u U H1 Q
def Du (t:TT):TT:=fun U H Q=>t U H fun c H1=>Q (!c) H1
theorem zQ (ha:PT X a tA):PW X (.BoolOp .And [a] pos) tA:=by
 intro wh pins s U H Q I h
 refine isTrue_and (dz (ha pins s U H Q I h) fun c s1 e=>?_)
 cases c with
 | true=>exact isTrue_and_nil e
 | false=>exact e
theorem Dv (ha:PT X a tA):PW X (.BoolOp .Or [a] pos) tA:=by
 intro wh pins s U H Q I h
 refine isTrue_or (dz (ha pins s U H Q I h) fun c s1 e=>?_)
 cases c with
 | false=>exact isTrue_or_nil e
 | true=>exact e
theorem Dw (ha:PT X a tA) (hb:PW X (.BoolOp .And (b :: rest) pos) tB'):PW X (.BoolOp .And (a :: b :: rest) pos) (Dt tA tB'):=by
 intro wh pins s U H Q I h
 refine isTrue_and (dz (ha pins s U H _ I h) fun c s1 qq0=>?_)
 obtain ⟨H1,I1,q1⟩:=qq0
 cases c with
 | true=>exact hb wh pins s1 U H1 Q I1 q1
 | false=>exact ⟨H1,I1,q1⟩
theorem HF (ha:PT X a tA) (hb:PW X (.BoolOp .Or (b :: rest) pos) tB'):PW X (.BoolOp .Or (a :: b :: rest) pos) (tOr tA tB'):=by
 intro wh pins s U H Q I h
 refine isTrue_or (dz (ha pins s U H _ I h) fun c s1 qq0=>?_)
 obtain ⟨H1,I1,q1⟩:=qq0
 cases c with
 | true=>exact ⟨H1,I1,q1⟩
 | false=>exact hb wh pins s1 U H1 Q I1 q1
theorem Dy (ha:PT X a tA):PT X (.UnaryOp .Not a pos) (Du tA):=by
 intro pins s U H Q I h
 exact isTrue_not (ha pins s U H (fun c H1=>Q (!c) H1) I h)
def xG (ta tb:TE):TE:=fun U H Q=>ta U H fun x H1=>∃ c,x= .bl c/\if c=true then tb U H1 Q else Q (.bl false) H1
def Dz (ta tb:TE):TE:=fun U H Q=>ta U H fun x H1=>∃ c,x= .bl c/\if c=true then Q (.bl true) H1 else tb U H1 Q
def xH (ta:TE):TE:=fun U H Q=>ta U H fun x H1=>∃ c,x= .bl c/\Q (.bl (!c)) H1
theorem DG {op} {t:TE} (h:PE X a t):PE X (.BoolOp op [a] pos) t:=fun pins s U H Q I hw=>BoolOp_one (h pins s U H Q I hw)
theorem DK (ha:PE X a ta) (hb:PE X (.BoolOp .And (b :: rest) pos) tb):PE X (.BoolOp .And (a :: b :: rest) pos) (xG ta tb):=by
 intro pins s U H Q I h
 refine BoolOp_and (dz (ha pins s U H _ I h) fun v s1 qq0=>?_)
 obtain ⟨x,H1,I1,r1,q1⟩:=qq0
 obtain ⟨c,rfl,q1⟩:=q1
 cases r1
 refine wpAny_truthy_bool ?_
 cases c with
 | true=>exact hb pins s1 U H1 Q I1 q1
 | false=>exact ⟨.bl false,H1,I1,rfl,q1⟩
theorem HH (ha:PE X a ta) (hb:PE X (.BoolOp .Or (b :: rest) pos) tb):PE X (.BoolOp .Or (a :: b :: rest) pos) (Dz ta tb):=by
 intro pins s U H Q I h
 refine BoolOp_or (dz (ha pins s U H _ I h) fun v s1 qq0=>?_)
 obtain ⟨x,H1,I1,r1,q1⟩:=qq0
 obtain ⟨c,rfl,q1⟩:=q1
 cases r1
 refine wpAny_truthy_bool ?_
 cases c with
 | false=>exact hb pins s1 U H1 Q I1 q1
 | true=>exact ⟨.bl true,H1,I1,rfl,q1⟩
theorem DN (ha:PE X a ta):PE X (.UnaryOp .Not a pos) (xH ta):=by
 intro pins s U H Q I h
 refine UnaryOp_ (dz (ha pins s U H _ I h) fun v s1 qq0=>?_)
 obtain ⟨x,H1,I1,r1,q1⟩:=qq0
 obtain ⟨c,rfl,q1⟩:=q1
 cases r1
 exact not_of (wpAny_truthy_bool ⟨.bl (!c),H1,I1,rfl,q1⟩)
def tIf (t:TT) (ta tb:TE):TE:=fun U H Q=>t U H fun c H1=>if c=true then ta U H1 Q else tb U H1 Q
theorem xJ {c:Expr} (hc:PT X c tA) (ha:PE X a ta) (hb:PE X b tb):PE X (.IfExp c a b pos) (tIf tA ta tb):=by
 intro pins s U H Q I h
 refine wpAny_IfExp (dz (hc pins s U H _ I h) fun d s1 qq0=>?_)
 obtain ⟨H1,I1,q1⟩:=qq0
 cases d with
 | true=>exact ha pins s1 U H1 Q I1 q1
 | false=>exact hb pins s1 U H1 Q I1 q1
end
def SqL (K:W.Frag) (H:Hp) (a:Addr) (xs:List V):Prop:=
 Rd H a (.lst xs)\/
  ∃ (o:Obj) (its:Array Value) (n:Nat),K.lookup a=some o/\o.cls= .type "list"/\o.dict=none/\o.data= .seq its n/\its.size<=sizeLine/\Vals xs its.toList
def SqT (K:W.Frag) (H:Hp) (a:Addr) (xs:List V):Prop:=
 Rd H a (.tup xs)\/
  ∃ (o:Obj) (its:Array Value) (n:Nat),K.lookup a=some o/\o.cls= .type "tuple"/\o.data= .seq its n/\its.size<=sizeLine/\Vals xs its.toList
def absV:Value->Option V
 | .none=>some .non
 | .bool b=>some (.bl b)
 | .int i _=>some (.int i)
 | .str x _=>some (.str x)
 | .bytes b _=>some (.byt b)
 | .float b _=>some (.flt b)
 | .ref a=>some (.ref a)
 | .type n=>some (.ty n)
 | _=>none
theorem RelV.abs {x:V} {u:Value} (r:RelV x u):absV u=some x:=by
 cases x with
 | non=>cases r;rfl
 | bl _=>cases r;rfl
 | int _=>obtain ⟨t,rfl⟩:=r;rfl
 | str _=>obtain ⟨t,rfl⟩:=r;rfl
 | byt _=>obtain ⟨t,rfl⟩:=r;rfl
 | flt _=>obtain ⟨t,rfl⟩:=r;rfl
 | ref _=>cases r;rfl
 | ty _=>cases r;rfl
theorem RelV.inj {x y:V} {u:Value} (r:RelV x u) (q:RelV y u):x=y:=Option.some.inj (r.abs.symm.trans q.abs)
theorem Vals.inj:∀ {xs ys:List V} {us:List Value},Vals xs us->Vals ys us->xs=ys
 | _,_,_,.nil,.nil=>rfl
 | _,_,_,.cons r t,.cons r' t'=>by rw [r.inj r',Vals.inj t t']
section
variable {X:Cx} {pins:List (Addr×Obj)} {U:St} {H:Hp} {s:Shared} {a:Addr} {xs ys:List V}
theorem SqL.of {K:W.Frag} (h:H a=some (.lst xs)):SqL K H a xs:=.inl (.inl h)
theorem SqT.of {K:W.Frag} (h:H a=some (.tup xs)):SqT K H a xs:=.inl (.inl h)
theorem Inv.list (I:Inv X pins U H s) (h:SqL X.K H a xs):∃ its:List Value,Vals xs its/\PlainL s.heap a its.toArray/\xs.length<=sizeLine:=by
 rcases h with h | ⟨o,its,n,hk,hc,hd,hs,hz,r⟩
 ·obtain ⟨z,its,n,r,e⟩:=h.ok I.hok
  exact ⟨its,r,⟨_,n,e,rfl,rfl,rfl⟩,z⟩
 ·refine ⟨its.toList,r,⟨o,n,I.kIn a o hk,hc,hd,by simpa using hs⟩,?_⟩
  have e:=r.length
  simp only [Array.length_toList] at e
  omega
theorem Inv.tuple (I:Inv X pins U H s) (h:SqT X.K H a xs):∃ its:List Value,Vals xs its/\IsTup s.heap a its.toArray/\xs.length<=sizeLine:=by
 rcases h with h | ⟨o,its,n,hk,hc,hs,hz,r⟩
 ·obtain ⟨z,its,r,p⟩:=h.ok I.hok
  exact ⟨its,r,p,z⟩
 ·refine ⟨its.toList,r,⟨o,I.kIn a o hk,hc,n,by simpa using hs⟩,?_⟩
  have e:=r.length
  simp only [Array.length_toList] at e
  omega
theorem Inv.list_inj (I:Inv X pins U H s) (h:SqL X.K H a xs) (h':SqL X.K H a ys):xs=ys:=by
 obtain ⟨its,r,⟨o,n,e,_,_,d⟩,_⟩:=I.list h
 obtain ⟨its',r',⟨o',n',e',_,_,d'⟩,_⟩:=I.list h'
 rw [e] at e';cases e'
 rw [d] at d'
 injection d' with d1 _
 have:its=its':=by simpa using congrArg Array.toList d1
 subst this
 exact r.inj r'
theorem Inv.tuple_inj (I:Inv X pins U H s) (h:SqT X.K H a xs) (h':SqT X.K H a ys):xs=ys:=by
 obtain ⟨its,r,⟨o,e,_,n,d⟩,_⟩:=I.tuple h
 obtain ⟨its',r',⟨o',e',_,n',d'⟩,_⟩:=I.tuple h'
 rw [e] at e';cases e'
 rw [d] at d'
 injection d' with d1 _
 have:its=its':=by simpa using congrArg Array.toList d1
 subst this
 exact r.inj r'
end
abbrev Cx.wish (X:Cx) (E:Value->Shared->Prop):Cx:={X with xe:=E}
abbrev Cx.nox (X:Cx):Cx:=X.wish fun _ _=>False
theorem Cx.Ok.wish {X:Cx} (ok:X.Ok) (E:Value->Shared->Prop):(X.wish E).Ok:=
 ⟨ok.mod,ok.kind,ok.glob,ok.blt,ok.above,ok.inj,ok.has,ok.cab,ok.hd,ok.frames,ok.stk,ok.exf,ok.bs,ok.bsz,ok.noex,ok.exfs,ok.funs,ok.frf⟩
theorem Cx.Ok.unwish {X:Cx} {E:Value->Shared->Prop} (ok:(X.wish E).Ok):X.Ok:=
 ⟨ok.mod,ok.kind,ok.glob,ok.blt,ok.above,ok.inj,ok.has,ok.cab,ok.hd,ok.frames,ok.stk,ok.exf,ok.bs,ok.bsz,ok.noex,ok.exfs,ok.funs,ok.frf⟩
section
variable {X:Cx} {pins:List (Addr×Obj)} {U:St} {H:Hp} {s:Shared} {E:Value->Shared->Prop}
theorem Inv.wish (I:Inv X pins U H s) (E:Value->Shared->Prop):Inv (X.wish E) pins U H s:=⟨I.ok.wish E,I.os,I.bare,I.base,I.loc,I.cell,I.free,I.freeC,I.pin,I.hok,I.len⟩
theorem Inv.unwish (I:Inv (X.wish E) pins U H s):Inv X pins U H s:=⟨I.ok.unwish,I.os,I.bare,I.base,I.loc,I.cell,I.free,I.freeC,I.pin,I.hok,I.len⟩
theorem SP.unwish {D:Ends} {f:Flow} {s':Shared} (h:SP (X.wish E) pins D f s'):SP X pins D f s':=by
 cases f with
 | next=>obtain ⟨U',H',I,q⟩:=h;exact ⟨U',H',I.unwish,q⟩
 | brk=>obtain ⟨U',H',I,q⟩:=h;exact ⟨U',H',I.unwish,q⟩
 | cont=>obtain ⟨U',H',I,q⟩:=h;exact ⟨U',H',I.unwish,q⟩
 | ret u=>obtain ⟨v,U',H',I,r,q⟩:=h;exact ⟨v,U',H',I.unwish,r,q⟩
theorem PSs.nox {st:List Stmt} {t:TS} (h:PSs X.nox st t):PSs X st t:=fun pins s U H D I hw=>
 wpAny_mono (h pins s U H D (I.wish _) hw) (fun _ _ q=>q.unwish) fun _ _ z=>False.elim z
end
section
variable {X:Cx} {st:Stmt} {rest:List Stmt} {t u:TS} {e:Expr} {te:TE} {pos:Pos}
def xK:TS:=fun D U H=>D.nx U H
def zR (t u:TS):TS:=fun D U H=>t {D with nx:=u D} U H
theorem zT:PSs X [] xK:=fun _ _ U H _ I h=>wpAny_execs_nil ⟨U,H,I,h⟩
theorem xM (h1:PS X st t) (h2:PSs X rest u):PSs X (st :: rest) (zR t u):=by
 intro pins s U H D I h
 refine wpAny_execs_cons (dz (h1 pins s U H {D with nx:=u D} I h) fun f s1 q=>?_)
 cases f with
 | next=>
  obtain ⟨U',H',I',q⟩:=q
  exact h2 pins s1 U' H' D I' q
 | ret v=>exact q
 | brk=>exact q
 | cont=>exact q
theorem zU (h1:PS X st t):PSs X [st] t:=by
 intro pins s U H D I h
 refine wpAny_execs_cons (dz (h1 pins s U H D I h) fun f s1 q=>?_)
 cases f with
 | next=>exact wpAny_execs_nil q
 | ret v=>exact q
 | brk=>exact q
 | cont=>exact q
theorem Inv.quiet {pins:List (Addr×Obj)} {U:St} {H:Hp} {s:Shared} (I:Inv X pins U H s):interactive X.env=false:=by simp [interactive,I.ok.kind]
def u9 (te:TE):TS:=fun D U H=>te U H fun _ H1=>D.nx U H1
theorem zV (he:PE X e te) (hs:autoParam (swapsWith e none pos.line X.env=pure false) L2.auto4._auto_1):PS X (.Expr e pos) (u9 te):=by
 intro pins s U H D I h
 exact wpAny_Expr_any (dz (he pins s U H _ I h) fun v s1 ⟨x,H1,I1,r1,q1⟩=>⟨U,H1,I1,q1⟩) I.quiet hs
def DP (te:TE):TS:=fun D U H=>te U H D.rt
theorem DQ (he:PE X e te):PS X (.Return (some e) pos) (DP te):=by
 intro pins s U H D I h
 exact wpAny_Return_some (dz (he pins s U H _ I h) fun v s1 ⟨x,H1,I1,r1,q1⟩=>⟨x,U,H1,I1,r1,q1⟩)
def DW (c:TT) (t u:TS):TS:=fun D U H=>c U H fun b H1=>if b=true then t D U H1 else u D U H1
theorem HJ {c:Expr} {a b:List Stmt} {tc:TT} (hc:PT X c tc) (ha:PSs X a t) (hb:PSs X b u):PS X (.If c a b pos) (DW tc t u):=by
 intro pins s U H D I h
 refine wpAny_If (dz (hc pins s U H _ I h) fun d s1 qq0=>?_)
 obtain ⟨H1,I1,q1⟩:=qq0
 cases d with
 | true=>exact ha pins s1 U H1 D I1 q1
 | false=>exact hb pins s1 U H1 D I1 q1
def xN:TS:=fun _ _ _=>False
theorem xO:PS X st xN:=fun _ _ _ _ _ _ h=>h.elim
end
abbrev TG:=V->St->Hp->(St->Hp->Prop)->Prop
abbrev v5:=List V->St->Hp->(St->Hp->Prop)->Prop
def PG (X:Cx) (target:Expr) (t:TG):Prop:=
 ∀ (pins:List (Addr×Obj)) (s:Shared) (U:St) (H:Hp) (v:V) (u:Value) (Q:St->Hp->Prop),Inv X pins U H s->RelV v u->t v U H Q->
  wpAny (model X.prog X.w) X.A (assign target X.env u) (fun _ s'=>∃ U' H',Inv X pins U' H' s'/\Q U' H') X.xe s
def Hv (X:Cx) (ts:List Expr) (t:v5):Prop:=
 ∀ (pins:List (Addr×Obj)) (s:Shared) (U:St) (H:Hp) (vs:List V) (us:List Value) (Q:St->Hp->Prop),Inv X pins U H s->Vals vs us->t vs U H Q->
  wpAny (model X.prog X.w) X.A (assignInOrder ((assignEach ts X.env).map (·.2)) us) (fun _ s'=>∃ U' H',Inv X pins U' H' s'/\Q U' H') X.xe s
section
variable {X:Cx} {pos:Pos}
def j9 (i:Nat):TG:=fun v U H Q=>Q (U.set i (some v)) H
theorem vd {i:Nat} {x:Str} (hN:X.N.Nodup) (hi:X.N[i]?=some x) (hx:Loc X.env.scope x) (hf:autoParam (X.fn x=true\/X.env.scope.names.lookup x=some .local) L2.auto1._auto_1):PG X (.Name x pos) (j9 i):=by
 intro pins s U H v u Q I r h
 exact wpAny_assign_Name (sG I hN hi hx r (fun s' I'=>⟨_,H,I',h⟩) hf)
def DX:v5:=fun vs U H Q=>vs=[]/\Q U H
def xP (t:TG) (u:v5):v5:=fun vs U H Q=>∃ v r,vs=v :: r/\t v U H fun U' H'=>u r U' H' Q
theorem zW:Hv X [] DX:=by
 intro pins s U H vs us Q I r h
 obtain ⟨e,h⟩:=h
 subst e
 cases r
 exact assignInOrder_nil ⟨U,H,I,h⟩
theorem xQ {e:Expr} {es:List Expr} {t:TG} {u:v5} (h1:PG X e t) (h2:Hv X es u)
  (hs:autoParam ((assignEach (e :: es) X.env).map (·.2)=assign e X.env :: (assignEach es X.env).map (·.2)) L2.auto4._auto_1):Hv X (e :: es) (xP t u):=by
 intro pins s U H vs us Q I r h
 obtain ⟨v,vr,e1,h⟩:=h
 subst e1
 cases r with
 | cons r rr=>
  rw [hs]
  refine assignInOrder_cons (dz (h1 pins s U H _ _ _ I r h) fun _ s1 qq0=>?_)
  obtain ⟨σ1,H1,I1,q1⟩:=qq0
  exact h2 pins s1 σ1 H1 _ _ Q I1 rr q1
def zX (K:W.Frag) (n:Nat) (t:v5):TG:=fun v U H Q=>∃ a xs,v= .ref a/\SqT K H a xs/\xs.length=n/\t xs U H Q
theorem DY {es:List Expr} {k:Nat} {t:v5} {n:Nat} (hc:X.calm=true) (h:Hv X es t)
  (hn:autoParam ((assignEach es X.env).length=n) L2.auto4._auto_1) (hst:autoParam ((assignEach es X.env).findIdx? (·.1)=none) L2.auto4._auto_1):PG X (.Tuple es k pos) (zX X.K n t):=by
 intro pins s U H v u Q I r hw
 obtain ⟨a,xs,e1,hq,hl,hw⟩:=hw
 subst e1
 cases r
 obtain ⟨its,rv,ht,hz⟩:=I.tuple hq
 refine assign_Tuple_tuple (I.ok.hd hc) ht (by simp [hn,← hl,rv.length]) hst fun h' hx=>?_
 have I1:Inv X pins U H {s with heap:=h'}:=I.kept (t':=s.toks) fun b o e=>hx b o (Nat.ne_of_lt (Heap.lt_size e)) e
 exact h pins _ U H xs _ Q I1 (by simpa using rv) hw
def v6 (te:TE) (g:TG):TS:=fun D U H=>te U H fun x H1=>g x U H1 D.nx
theorem xR {i:Nat} {x:Str} {e:Expr} {te:TE} {pos':Pos} (hN:X.N.Nodup) (hi:X.N[i]?=some x) (hx:Loc X.env.scope x) (he:PE X e te) (hs:autoParam (swapsWith e (some (.Name x pos')) pos.line X.env=pure false) L2.auto4._auto_1) (hf:autoParam (X.fn x=true\/X.env.scope.names.lookup x=some .local) L2.auto1._auto_1):
  PS X (.Assign [.Name x pos'] e pos) (v6 te (j9 i)):=by
 intro pins s U H D I h
 refine wpAny_Assign_Name (dz (he pins s U H _ I h) fun v s1 qq0=>?_) hs
 obtain ⟨y,H1,I1,r1,q1⟩:=qq0
 exact sG I1 hN hi hx r1 (fun s2 I2=>⟨_,H1,I2,q1⟩) hf
end
structure It where
 go:Nat->Hp->Prop
 yld:Nat->Hp->V->Hp->Prop
 stop:Nat->Hp->Prop
def jK (X:Cx) (pins:List (Addr×Obj)) (H:Hp) (b:Addr):Prop:=
 H b=none/\b≠X.env.locals/\b ∉ X.fs/\(b∈X.ex\/X.s₀.heap.objs.size<=b)/\(∀ x c,X.env.cells.lookup x=some c->c≠b)/\∀ p∈X.pn ++ pins,p.1≠b
theorem Inv.fpOk {X:Cx} {pins:List (Addr×Obj)} {U:St} {H H':Hp} {s:Shared} {b:Addr} (I:Inv X pins U H s) (hb:s.heap.objs.size<=b) (hn:H' b=none):jK X pins H' b:=by
 refine ⟨hn,Nat.ne_of_gt (Nat.lt_of_lt_of_le I.lt hb),I.nofs hb,.inr (Nat.le_trans I.sz hb),fun x c e z=>?_,fun p hp z=>?_⟩
 ·obtain ⟨v,q⟩:=I.cell x c e
  exact absurd (Nat.lt_of_lt_of_le q.lt (by rw [z];exact hb)) (Nat.lt_irrefl _)
 ·exact absurd (Nat.lt_of_lt_of_le (Heap.lt_size (I.pin p hp).1) (by rw [z];exact hb)) (Nat.lt_irrefl _)
structure Turn (P:Program) (w:World) (K:W.Frag) (tg:Expr) (J:It) (fp:List Addr) (it:Addr) (tn:Nat->Heap->Prop):Prop where
 mem:it∈fp
 obj:∀ i h,tn i h->∀ b∈fp,∃ o,h.get? b=some o/\∀ v,o.data≠.cell v
 keep:∀ i h h',tn i h->(∀ b∈fp,∀ o,h.get? b=some o->h'.get? b=some o)->tn i h'
 item:∀ (X:Cx),X.prog=P->X.w=w->X.K=K->X.calm=true->∀ (i:Nat) (pins:List (Addr×Obj)) (s:Shared) (U:St) (H:Hp) (E:Value->Shared->Prop),Inv X pins U H s->(∀ b∈fp,jK X pins H b)->tn i s.heap->J.go i H->
  wpAny (model P w) X.A (pyNext (.ref it)) (fun r s1=>∃ u,r=some u/\
   wpAny (model P w) X.A (letOwnedTupleGo tg (.ref it) u) (fun _ s2=>∃ x H',Inv X pins U H' s2/\RelV x u/\J.yld i H x H'/\tn (i+1) s2.heap/\∀ b∈fp,H' b=none) E s1) E s
 done:∀ (X:Cx),X.prog=P->X.w=w->X.K=K->X.calm=true->∀ (i:Nat) (pins:List (Addr×Obj)) (s:Shared) (U:St) (H:Hp) (E:Value->Shared->Prop),Inv X pins U H s->(∀ b∈fp,jK X pins H b)->tn i s.heap->J.stop i H->
  wpAny (model P w) X.A (pyNext (.ref it)) (fun r s1=>r=none/\Inv X pins U H s1) E s
 self:∀ (A:Around) (i:Nat) (s:Shared) (Q:Value->Shared->Prop) (E:Value->Shared->Prop),tn i s.heap->Q (.ref it) s->wpAny (model P w) A (pyIter (.ref it)) Q E s
abbrev TI:=St->Hp->(It->Hp->Prop)->Prop
def PIE (X:Cx) (pins:List (Addr×Obj)) (U:St) (tg:Expr) (R:It->Hp->Prop) (itv:Value) (s2:Shared):Prop:=
 ∃ (it:Addr) (fp:List Addr) (tn:Nat->Heap->Prop) (J:It) (H':Hp),itv= .ref it/\Inv X pins U H' s2/\Turn X.prog X.w X.K tg J fp it tn/\tn 0 s2.heap/\(∀ b∈fp,jK X pins H' b)/\R J H'
def PI (X:Cx) (tg iter:Expr) (wi:TI):Prop:=
 ∀ (pins:List (Addr×Obj)) (s:Shared) (U:St) (H:Hp) (R:It->Hp->Prop),Inv X pins U H s->wi U H R->
  wpAny (model X.prog X.w) X.A (eval iter X.env) (fun v s1=>wpAny (model X.prog X.w) X.A (pyIter v) (PIE X pins U tg R) X.xe s1) X.xe s
theorem sI {M:Model} {A:Around} {E:Value->Shared->Prop} {s:Shared} {tg:Expr} {it:Addr} {u:Value} {o:Obj} {n:String} {vs:Array Value} {Q:Unit->Shared->Prop} (ho:s.heap.get? it=some o) (hc:o.cls= .type n) (hd:o.data= .fields vs)
  (hn:["enumerate","zip","dict_itemiterator","dict_reverseitemiterator","odict_iterator","itertools.zip_longest","itertools.pairwise"].contains n=false) (hQ:Q () s):wpAny M A (letOwnedTupleGo tg (.ref it) u) Q E s:=by
 unfold letOwnedTupleGo
 cases tg <;> first
  | exact wpAny_pure hQ
  | (cases u <;> first
    | exact wpAny_pure hQ
    | (refine wpAny_bind (wpAny_load ho ?_)
       rw [hc,hd]
       show wpAny M A (if (["enumerate","zip","dict_itemiterator","dict_reverseitemiterator","odict_iterator","itertools.zip_longest","itertools.pairwise"].contains n && vs[0]? == some (rawInt _))=true then _ else _) Q E s
       rw [if_neg (by intro h;rw [hn,Bool.false_and] at h;cases h)]
       exact wpAny_pure hQ))
def CP (K:W.Frag) (a:Addr):It:=
 ⟨fun i H=>∃ xs x,SqL K H a xs/\xs[i]?=some x,fun i H x H'=>H'=H/\∀ xs,SqL K H a xs->xs[i]?=some x,fun i H=>∃ xs,SqL K H a xs/\xs.length<=i⟩
def HN (K:W.Frag) (a:Addr):It:=
 ⟨fun i H=>∃ xs x,SqT K H a xs/\xs[i]?=some x,fun i H x H'=>H'=H/\∀ xs,SqT K H a xs->xs[i]?=some x,fun i H=>∃ xs,SqT K H a xs/\xs.length<=i⟩
def Ea (lo:Int) (n:Nat):It:=⟨fun i _=>i < n,fun i H x H'=>H'=H/\x= .int (lo+i),fun i _=>n<=i⟩
theorem v7 {P:Program} {w:World} {K:W.Frag} {tg:Expr} (a it:Addr):Turn P w K tg (CP K a) [it] it (fun i h=>h.IsListIter it a i) where
 mem:=by simp
 obj:=fun i h st b hb=>by
  have e:b=it:=by simpa using hb
  subst e
  obtain ⟨o,e,c,d⟩:=st
  exact ⟨o,e,fun v z=>by rw [d] at z;cases z⟩
 keep:=fun i h h' st k=>st.at fun o e=>k it (by simp) o e
 item:=by
  intro X hP hw hK hc i pins s U H E I hf st hg
  subst hP hw hK
  obtain ⟨xs,x,hq,hx⟩:=hg
  obtain ⟨its,rv,p,hz⟩:=I.list hq
  obtain ⟨u,hu,ru⟩:=rv.get hx
  obtain ⟨f0,f1,f2,f3,f4,f5⟩:=hf it (by simp)
  refine wpAny_pyNext_list_item st p.isList (x:=u) (by simpa using hu) fun h' st' sb=>?_
  have I1:Inv X pins U H {s with heap:=h'}:=I.turned (t':=s.toks) (fun b o hb e=>(sb.2 b hb).trans e) f0 f1 f3 f4 f5
  obtain ⟨o,e,c,d⟩:=id st'
  exact ⟨u,rfl,sI (s:={s with heap:=h'}) e c d (by decide) ⟨x,H,I1,ru,⟨rfl,fun ys hy=>by rw [I.list_inj hy hq];exact hx⟩,st',fun b hb=>(hf b hb).1⟩⟩
 done:=by
  intro X hP hw hK hc i pins s U H E I hf st hg
  subst hP hw hK
  obtain ⟨xs,hq,hx⟩:=hg
  obtain ⟨its,rv,p,hz⟩:=I.list hq
  obtain ⟨f0,f1,f2,f3,f4,f5⟩:=hf it (by simp)
  have hl:=rv.length
  exact wpAny_pyNext_list_end (I.ok.hd hc) st p.isList (by simp;omega) fun h' eb=>⟨rfl,I.turned (t':=s.toks) (fun b o hb e=>eb b o hb e) f0 f1 f3 f4 f5⟩
 self:=fun _ _ _ _ _ st h=>wpAny_pyIter_listiter st h
theorem uC {P:Program} {w:World} {K:W.Frag} {tg:Expr} (a it:Addr):Turn P w K tg (HN K a) [it] it (fun i h=>h.IsTupleIter it a i) where
 mem:=by simp
 obj:=fun i h st b hb=>by
  have e:b=it:=by simpa using hb
  subst e
  obtain ⟨o,e,c,d⟩:=st
  exact ⟨o,e,fun v z=>by rw [d] at z;cases z⟩
 keep:=fun i h h' st k=>st.at fun o e=>k it (by simp) o e
 item:=by
  intro X hP hw hK hc i pins s U H E I hf st hg
  subst hP hw hK
  obtain ⟨xs,x,hq,hx⟩:=hg
  obtain ⟨its,rv,p,hz⟩:=I.tuple hq
  obtain ⟨u,hu,ru⟩:=rv.get hx
  obtain ⟨f0,f1,f2,f3,f4,f5⟩:=hf it (by simp)
  refine wpAny_pyNext_tuple_item st (show s.heap.IsTuple a its.toArray from p) (x:=u) (by simpa using hu) fun h' st' sb=>?_
  have I1:Inv X pins U H {s with heap:=h'}:=I.turned (t':=s.toks) (fun b o hb e=>(sb.2 b hb).trans e) f0 f1 f3 f4 f5
  obtain ⟨o,e,c,d⟩:=id st'
  exact ⟨u,rfl,sI (s:={s with heap:=h'}) e c d (by decide) ⟨x,H,I1,ru,⟨rfl,fun ys hy=>by rw [I.tuple_inj hy hq];exact hx⟩,st',fun b hb=>(hf b hb).1⟩⟩
 done:=by
  intro X hP hw hK hc i pins s U H E I hf st hg
  subst hP hw hK
  obtain ⟨xs,hq,hx⟩:=hg
  obtain ⟨its,rv,p,hz⟩:=I.tuple hq
  obtain ⟨f0,f1,f2,f3,f4,f5⟩:=hf it (by simp)
  have hl:=rv.length
  exact wpAny_pyNext_tuple_end (I.ok.hd hc) st (show s.heap.IsTuple a its.toArray from p) (by simp;omega) fun h' eb=>⟨rfl,I.turned (t':=s.toks) (fun b o hb e=>eb b o hb e) f0 f1 f3 f4 f5⟩
 self:=fun _ _ _ _ _ st h=>wpAny_pyIter_tupleiter st h
theorem uD {P:Program} {w:World} {K:W.Frag} {tg:Expr} (it:Addr) (lo:Int) (n:Nat):Turn P w K tg (Ea lo n) [it] it (fun i h=>IsRangeIter h it (lo+(i:Nat)*1) ((n:Int) - (i:Nat)) 1) where
 mem:=by simp
 obj:=fun i h st b hb=>by
  have e:b=it:=by simpa using hb
  subst e
  exact ⟨_,st,fun v z=>by
   have z':Data.fields _=Data.cell v:=z
   cases z'⟩
 keep:=fun i h h' st k=>k it (by simp) _ st
 item:=by
  intro X hP hw hK hc i pins s U H E I hf st hg
  subst hP hw hK
  obtain ⟨f0,f1,f2,f3,f4,f5⟩:=hf it (by simp)
  have W:=Walks.range (prog:=X.prog) (w:=X.w) (I.ok.hd hc) it lo 1 n
  refine W.item i s _ _ hg st fun v h' tk hv st' kk=>?_
  obtain ⟨t,rfl⟩:=hv
  have I1:Inv X pins U H {s with heap:=h',toks:=tk}:=I.turned (fun b o hb e=>kk b o (by simpa using hb) e) f0 f1 f3 f4 f5
  refine ⟨_,rfl,sI (s:={s with heap:=h',toks:=tk}) (n:="range_iterator") st' rfl rfl (by decide) ⟨.int (lo+i),H,I1,⟨t,?_⟩,⟨rfl,rfl⟩,st',fun b hb=>(hf b hb).1⟩⟩
  rw [Int.mul_one]
 done:=by
  intro X hP hw hK hc i pins s U H E I hf st hg
  subst hP hw hK
  obtain ⟨f0,f1,f2,f3,f4,f5⟩:=hf it (by simp)
  exact wpAny_pyNext_range_end (I.ok.hd hc) st (by have:n<=i:=hg;omega) fun h' eb=>⟨rfl,I.turned (t':=s.toks) (fun b o hb e=>eb b o hb e) f0 f1 f3 f4 f5⟩
 self:=fun _ _ _ _ _ st h=>wpAny_pyIter_rangeiter st h
section
variable {X:Cx} {tg:Expr}
theorem xT {pins:List (Addr×Obj)} {U:St} {H:Hp} {s:Shared} {R:It->Hp->Prop} {E:Value->Shared->Prop} {lo hi:Int} {t u v:Tok} {tk:Nat} (I:Inv X pins U H s) (h1: -(2 ^ 62)<=lo) (h2:lo < 2 ^ 62) (h3: -(2 ^ 62)<=hi) (h4:hi < 2 ^ 62)
  (q:R (Ea lo (hi - lo).toNat) H):wpAny (model X.prog X.w) X.A (pyIter (.ref s.heap.objs.size)) (PIE X pins U tg R) E {s with heap:=s.heap.push {cls:=.type "range",data:=.fields #[.int lo t,.int hi u,.int 1 v]},toks:=tk}:=by
 refine wpAny_pyIter_range (IsRange.new ..) (small_one h1 h2 h3 h4) ?_
 have I1:Inv X pins U H {s with heap:=s.heap.push {cls:=.type "range",data:=.fields #[.int lo t,.int hi u,.int 1 v]},toks:=tk}:=I.kept fun b o e=>Heap.get?_push_of_some _ e
 refine ⟨(s.heap.push {cls:=.type "range",data:=.fields #[.int lo t,.int hi u,.int 1 v]}).objs.size,[(s.heap.push {cls:=.type "range",data:=.fields #[.int lo t,.int hi u,.int 1 v]}).objs.size],_,_,H,rfl,
  I1.kept (t':=tk) fun b o e=>Heap.get?_push_of_some _ e,uD _ lo (hi - lo).toNat,?_,fun b hb=>?_,q⟩
 ·have e1:lo+((0:Nat):Int)*1=lo:=by simp
  have e2:(((hi - lo).toNat:Nat):Int) - ((0:Nat):Int)=Builtin.Range.rangeSize lo hi 1:=by rw [rangeSize_one];split <;> omega
  show IsRangeIter _ _ (lo+((0:Nat):Int)*1) ((((hi - lo).toNat:Nat):Int) - ((0:Nat):Int)) 1
  rw [e1,e2]
  exact Heap.get?_push_size _ rfl
 ·have e:b=(s.heap.push {cls:=.type "range",data:=.fields #[.int lo t,.int hi u,.int 1 v]}).objs.size:=by simpa using hb
  subst e
  exact I1.fpOk (Nat.le_refl _) (I1.hok.fresh (Nat.le_refl _))
def xU (ta:TA):TI:=fun U H R=>ta U H fun vs H1=>∃ j:Int,vs=[.int j]/\-(2 ^ 62)<=j/\j < 2 ^ 62/\R (Ea 0 j.toNat) H1
theorem v8 {a:Expr} {ta:TA} {p pos:Pos} (hg:Gl X "range") (hm:X.mg "range"=none) (ha:PA X [a] ta) (hs:autoParam (starEach [a] X.env=[(false,eval a X.env)]) L2.auto4._auto_1):PI X tg (.Call (.Name "range" p) [a] [] pos) (xU ta):=by
 intro pins s U H R I h
 refine Call_ (mH I hg hm boot_range (PyProof.Rows.callWith_type1 (dz (ha pos pins s U H _ I h) fun us s1 ⟨vs,H1,I1,r1,q1⟩=>?_) hs rfl))
 obtain ⟨j,e,q1,q2,q⟩:=q1
 subst e
 cases r1 with
 | cons r rr=>
  cases rr
  obtain ⟨t,rfl⟩:=r
  exact call_range_1 (xT I1 (by omega) (by omega) q1 q2 (by simpa using q))
def zY (wi:TI) (g:TG) (tb:TS):TS:=fun D U H=>wi U H fun J H1=>∃ W:Nat->Nat->St->Hp->Prop,(∃ m,W 0 m U H1)/\∀ i m U H,W i m U H->
 (J.stop i H/\D.nx U H)\/(J.go i H/\∃ N:St->Hp->Prop,(∀ U' H',N U' H'->∃ m',m' < m/\W (i+1) m' U' H')/\∀ x H',J.yld i H x H'->g x U H' fun σ2 H2=>tb {D with nx:=N,ct:=N,bk:=D.nx} σ2 H2)
def mJ (fp:List Addr) (h:Heap):List (Addr×Obj):=fp.filterMap fun b=>(h.get? b).map fun o=>(b,o)
theorem iZ {fp:List Addr} {h:Heap} {b:Addr} {o:Obj} (hb:b∈fp) (e:h.get? b=some o):(b,o)∈mJ fp h:=List.mem_filterMap.mpr ⟨b,hb,by rw [e];rfl⟩
theorem v9 {fp:List Addr} {h:Heap} {p:Addr×Obj} (hp:p∈mJ fp h):p.1∈fp/\h.get? p.1=some p.2:=by
 obtain ⟨b,hb,e⟩:=List.mem_filterMap.mp hp
 cases q:h.get? b with
 | none=>rw [q] at e;cases e
 | some o=>
  rw [q] at e
  have e':(b,o)=p:=Option.some.inj e
  subst e'
  exact ⟨hb,q⟩
theorem Inv.pinned {pins:List (Addr×Obj)} {U:St} {H:Hp} {s:Shared} {fp:List Addr} (I:Inv X pins U H s) (hf:∀ b∈fp,jK X pins H b) (ho:∀ b∈fp,∃ o,s.heap.get? b=some o/\∀ v,o.data≠.cell v):Inv X (pins ++ mJ fp s.heap) U H s:=
 I.pins_of fun p hp=>(List.mem_append.mp hp).elim (fun z=>I.pin p (List.mem_append_right _ z)) fun z=>by
  obtain ⟨hb,e⟩:=v9 z
  obtain ⟨f0,f1,f2,_⟩:=hf p.1 hb
  obtain ⟨o,e',d⟩:=ho p.1 hb
  rw [e] at e';cases e'
  exact ⟨e,f0,f1,f2,d⟩
theorem Inv.unpinned {pins pl:List (Addr×Obj)} {U:St} {H:Hp} {s:Shared} (I:Inv X (pins ++ pl) U H s):Inv X pins U H s:=I.pins_of fun p hp=>I.pin p (List.mem_append_right _ (List.mem_append_left _ hp))
theorem Eb {iter:Expr} {body:List Stmt} {wi:TI} {g:TG} {tb:TS} {pos:Pos} (hp:PassesOwn (model X.prog X.w) X.A X.env X.xe) (hc:X.calm=true) (hi:PI X tg iter wi) (hg:PG X tg g) (hb:PSs X body tb)
  (hs:autoParam (∀ x,foldedSetIterable iter X.env x=pure x) L2.auto3._auto_1):PS X (.For tg iter body [] pos) (zY wi g tb):=by
 intro pins s U H D I h
 refine wpAny_For (dz (hi pins s U H _ I h) fun v s1 h1=>dz h1 fun itv s2 h2=>?_) hs
 obtain ⟨it,fp,tn,J,H2,e,I2,T,st2,f2,W,⟨m0,w0⟩,turn⟩:=h2
 subst e
 have stat:∀ {H':Hp},(∀ b∈fp,H' b=none)->∀ b∈fp,jK X pins H' b:=fun hn b hb=>⟨hn b hb,(f2 b hb).2⟩
 refine codeAny_forLoop_any (fun n s'=>∃ i U' H',Inv X pins U' H' s'/\tn i s'.heap/\(∀ b∈fp,H' b=none)/\W i n U' H') ?_ m0 ⟨0,U,H2,I2,st2,fun b hb=>(f2 b hb).1,w0⟩
 rintro n s3 ⟨i,σ3,H3,I3,st3,fr3,w3⟩
 rcases turn i n σ3 H3 w3 with ⟨stop,qn⟩ | ⟨go,N,hN,step⟩
 ·refine wpAny_passesOwn hp (dz (T.done X rfl rfl rfl hc i pins s3 σ3 H3 X.xe I3 (stat fr3) st3 stop) fun r s4 qq0=>?_)
  obtain ⟨hr,I4⟩:=qq0
  subst hr
  exact wpAny_execs_nil ⟨σ3,H3,I4,qn⟩
 ·refine wpAny_passesOwn hp (dz (T.item X rfl rfl rfl hc i pins s3 σ3 H3 X.xe I3 (stat fr3) st3 go) fun r s4 qq0=>?_)
  obtain ⟨u,hr,h4⟩:=qq0
  subst hr
  refine wpAny_passesOwn hp (dz h4 fun _ s5 qq0=>?_)
  obtain ⟨x,H5,I5,r5,y5,st5,fr5⟩:=qq0
  have I5':=I5.pinned (stat fr5) (T.obj _ _ st5)
  refine wpAny_passesOwn hp (dz (hg _ s5 σ3 H5 x u _ I5' r5 (step x H5 y5)) fun _ s6 qq0=>?_)
  obtain ⟨σ6,H6,I6,q6⟩:=qq0
  refine wpAny_passesOwn hp (dz (hb _ s6 σ6 H6 _ I6 q6) fun f s7 q7=>?_)
  have again:∀ {σ7:St} {H7:Hp},Inv X (pins ++ mJ fp s5.heap) σ7 H7 s7->N σ7 H7->∃ m,m < n/\∃ i U' H',Inv X pins U' H' s7/\tn i s7.heap/\(∀ b∈fp,H' b=none)/\W i m U' H':=fun {σ7 H7} I7 n7=>by
   obtain ⟨m',hm,w7⟩:=hN σ7 H7 n7
   refine ⟨m',hm,i+1,σ7,H7,I7.unpinned,T.keep _ _ _ st5 fun b hb o e=>(I7.pin (b,o) (List.mem_append_right _ (List.mem_append_right _ (iZ hb e)))).1,fun b hb=>?_,w7⟩
   obtain ⟨o,e,d⟩:=T.obj _ _ st5 b hb
   exact (I7.pin (b,o) (List.mem_append_right _ (List.mem_append_right _ (iZ hb e)))).2.1
  cases f with
  | next=>obtain ⟨σ7,H7,I7,n7⟩:=q7;exact again I7 n7
  | cont=>obtain ⟨σ7,H7,I7,n7⟩:=q7;exact again I7 n7
  | brk=>obtain ⟨σ7,H7,I7,q7⟩:=q7;exact ⟨σ7,H7,I7.unpinned,q7⟩
  | ret v=>obtain ⟨x7,σ7,H7,I7,r7,q7⟩:=q7;exact ⟨x7,σ7,H7,I7.unpinned,r7,q7⟩
end
theorem sJ {K:W.Frag} {a:Addr} {xs:List V} {g:TG} {tb:TS} {D:Ends} {U:St} {H:Hp} (Pv:Nat->St->Hp->Prop) (h0:Pv 0 U H) (hl:∀ i U H,i<=xs.length->Pv i U H->SqL K H a xs)
  (hs:∀ i x U H,xs[i]?=some x->Pv i U H->g x U H fun σ2 H2=>tb {D with nx:=Pv (i+1),ct:=Pv (i+1),bk:=D.nx} σ2 H2) (hd:∀ U H,Pv xs.length U H->D.nx U H):
  ∃ W:Nat->Nat->St->Hp->Prop,(∃ m,W 0 m U H)/\∀ i m U H,W i m U H->
   ((CP K a).stop i H/\D.nx U H)\/((CP K a).go i H/\∃ N:St->Hp->Prop,(∀ U' H',N U' H'->∃ m',m' < m/\W (i+1) m' U' H')/\∀ x H',(CP K a).yld i H x H'->g x U H' fun σ2 H2=>tb {D with nx:=N,ct:=N,bk:=D.nx} σ2 H2):=by
 refine ⟨fun i m U H=>m=xs.length - i/\i<=xs.length/\Pv i U H,⟨xs.length,by simp,Nat.zero_le _,h0⟩,?_⟩
 rintro i m U H ⟨rfl,hi,p⟩
 have q:=hl i U H hi p
 by_cases hlt:i < xs.length
 ·refine .inr ⟨⟨xs,xs[i],q,by simp [hlt]⟩,Pv (i+1),fun U' H' p'=>⟨xs.length - (i+1),by omega,rfl,hlt,p'⟩,fun x H' y=>?_⟩
  obtain ⟨e,y⟩:=y
  subst e
  exact hs i x U _ (y xs q) p
 ·have e:i=xs.length:=by omega
  subst e
  exact .inl ⟨⟨xs,q,Nat.le_refl _⟩,hd U H p⟩
theorem ql {lo:Int} {n:Nat} {g:TG} {tb:TS} {D:Ends} {U:St} {H:Hp} (Pv:Nat->St->Hp->Prop) (h0:Pv 0 U H)
  (hs:∀ i U H,i < n->Pv i U H->g (.int (lo+i)) U H fun σ2 H2=>tb {D with nx:=Pv (i+1),ct:=Pv (i+1),bk:=D.nx} σ2 H2) (hd:∀ U H,Pv n U H->D.nx U H):
  ∃ W:Nat->Nat->St->Hp->Prop,(∃ m,W 0 m U H)/\∀ i m U H,W i m U H->
   ((Ea lo n).stop i H/\D.nx U H)\/((Ea lo n).go i H/\∃ N:St->Hp->Prop,(∀ U' H',N U' H'->∃ m',m' < m/\W (i+1) m' U' H')/\∀ x H',(Ea lo n).yld i H x H'->g x U H' fun σ2 H2=>tb {D with nx:=N,ct:=N,bk:=D.nx} σ2 H2):=by
 refine ⟨fun i m U H=>m=n - i/\i<=n/\Pv i U H,⟨n,by simp,Nat.zero_le _,h0⟩,?_⟩
 rintro i m U H ⟨rfl,hi,p⟩
 by_cases hlt:i < n
 ·refine .inr ⟨hlt,Pv (i+1),fun U' H' p'=>⟨n - (i+1),by omega,rfl,hlt,p'⟩,fun x H' y=>?_⟩
  obtain ⟨e,y⟩:=y
  subst e y
  exact hs i U _ hlt p
 ·have e:i=n:=by omega
  subst e
  exact .inl ⟨Nat.le_refl _,hd U H p⟩
abbrev R2:=V->V->Hp->VK->Prop
def OpR (X:Cx) (f:Value->Value->Sem Value) (r:R2):Prop:=
 ∀ (pins:List (Addr×Obj)) (s:Shared) (U:St) (H:Hp) (x y:V) (v u:Value) (Q:VK),Inv X pins U H s->RelV x v->RelV y u->r x y H Q->
  wpAny (model X.prog X.w) X.A (f v u) (EP X pins U Q) X.xe s
def CallR (X:Cx) (f:Value) (r:List V->Hp->VK->Prop):Prop:=
 ∀ (pins:List (Addr×Obj)) (s:Shared) (U:St) (H:Hp) (xs:List V) (us:List Value) (Q:VK),Inv X pins U H s->Vals xs us->r xs H Q->
  wpAny (model X.prog X.w) X.A (call f us) (EP X pins U Q) X.xe s
def zN (r:R2) (ta tb:TE):TE:=fun U H Q=>ta U H fun x H1=>tb U H1 fun y H2=>r x y H2 Q
def rI (C:Int->Int->Prop) (g:Int->Int->V):R2:=fun x y H Q=>∃ i j,x= .int i/\y= .int j/\C i j/\Q (g i j) H
def zZ (g:Int->Int->V):R2:=fun x y H Q=>∃ i j,x= .int i/\y= .int j/\Q (g i j) H
section
variable {X:Cx} {a b c:Expr} {ta tb tc:TE} {pos:Pos}
theorem Ec (ha:PE X a ta) (hb:PE X b tb) {pins:List (Addr×Obj)} {s:Shared} {U:St} {H:Hp} {R:V->V->Hp->Prop} (I:Inv X pins U H s)
  (h:ta U H fun x H1=>tb U H1 fun y H2=>R x y H2) {Q:Value->Shared->Prop} {f:Value->Value->Sem Value}
  (hf:∀ v u s2 x y H2,Inv X pins U H2 s2->RelV x v->RelV y u->R x y H2->wpAny (model X.prog X.w) X.A (f v u) Q X.xe s2):
  wpAny (model X.prog X.w) X.A (eval a X.env) (fun v s₁=>wpAny (model X.prog X.w) X.A (eval b X.env) (fun u s₂=>wpAny (model X.prog X.w) X.A (f v u) Q X.xe s₂) X.xe s₁) X.xe s:=by
 refine dz (ha pins s U H _ I h) fun v s1 qq0=>?_
 obtain ⟨x,H1,I1,r1,q1⟩:=qq0
 refine dz (hb pins s1 U H1 _ I1 q1) fun u s2 qq0=>?_
 obtain ⟨y,H2,I2,r2,q2⟩:=qq0
 exact hf v u s2 x y H2 I2 r1 r2 q2
theorem HQ {op:Operator} {r:R2} (ho:OpR X (binaryOp op) r) (ha:PE X a ta) (hb:PE X b tb):PE X (.BinOp a op b pos) (zN r ta tb):=by
 intro pins s U H Q I h
 exact wpAny_BinOp (Ec ha hb I h fun v u s2 x y H2 I2 rx ry q=>ho pins s2 U H2 x y v u Q I2 rx ry q)
theorem KJ {f:Value->Value->Sem Value} {C:Int->Int->Prop} {g:Int->Int->Int}
  (rule:∀ (i j:Int) (t u:Tok) (s:Shared) (Q:Value->Shared->Prop) (E:Value->Shared->Prop),C i j->Q (.int (g i j) s.toks) {s with toks:=s.toks+1}->wpAny (model X.prog X.w) X.A (f (.int i t) (.int j u)) Q E s):
  OpR X f (rI C fun i j=>.int (g i j)):=by
 intro pins s U H x y v u Q I rx ry h
 obtain ⟨i,j,rfl,rfl,hc,q⟩:=h
 obtain ⟨t,rfl⟩:=rx
 obtain ⟨t',rfl⟩:=ry
 exact rule i j t t' s _ _ hc ⟨.int (g i j),H,I.tok _,⟨_,rfl⟩,q⟩
theorem HR {f:Value->Value->Sem Value} {g:Int->Int->Int}
  (rule:∀ (i j:Int) (t u:Tok) (s:Shared) (Q:Value->Shared->Prop) (E:Value->Shared->Prop),Q (.int (g i j) s.toks) {s with toks:=s.toks+1}->wpAny (model X.prog X.w) X.A (f (.int i t) (.int j u)) Q E s):
  OpR X f (zZ fun i j=>.int (g i j)):=by
 intro pins s U H x y v u Q I rx ry h
 obtain ⟨i,j,rfl,rfl,q⟩:=h
 obtain ⟨t,rfl⟩:=rx
 obtain ⟨t',rfl⟩:=ry
 exact rule i j t t' s _ _ ⟨.int (g i j),H,I.tok _,⟨_,rfl⟩,q⟩
theorem z6 {f:Value->Value->Sem Value} {g:Int->Int->Bool}
  (rule:∀ (i j:Int) (t u:Tok) (s:Shared) (Q:Value->Shared->Prop) (E:Value->Shared->Prop),Q (.bool (g i j)) s->wpAny (model X.prog X.w) X.A (f (.int i t) (.int j u)) Q E s):
  OpR X f (zZ fun i j=>.bl (g i j)):=by
 intro pins s U H x y v u Q I rx ry h
 obtain ⟨i,j,rfl,rfl,q⟩:=h
 obtain ⟨t,rfl⟩:=rx
 obtain ⟨t',rfl⟩:=ry
 exact rule i j t t' s _ _ ⟨.bl (g i j),H,I,rfl,q⟩
def CDiv (i j:Int):Prop:=0 < j/\j < 1073741824
def CPow (i j:Int):Prop:=0<=j/\j<=1000000/\i.natAbs < 2 ^ 64
def CMul (i j:Int):Prop:=(-(2 ^ 64) < i/\i < 2 ^ 64)\/(-(2 ^ 64) < j/\j < 2 ^ 64)
theorem CMul.ok {i j:Int} (h:CMul i j):IntMulOk i j:=by
 rcases h with ⟨h1,h2⟩ | ⟨h1,h2⟩
 ·exact .of_left (intBits_le_64 h1 h2)
 ·exact .of_right (intBits_le_64 h1 h2)
theorem Ed:OpR X (binaryOp .Add) (zZ fun i j=>.int (i+j)):=HR fun _ _ _ _ _ _ _ q=>add_int q
theorem Ef:OpR X (binaryOp .Sub) (zZ fun i j=>.int (i - j)):=HR fun _ _ _ _ _ _ _ q=>sub_int q
theorem Eg:OpR X (binaryOp .Mult) (rI CMul fun i j=>.int (i*j)):=KJ fun _ _ _ _ _ _ _ hc q=>mul_int q hc.ok
theorem dY:OpR X (binaryOp .FloorDiv) (rI CDiv fun i j=>.int (i / j)):=KJ fun i j _ _ _ _ _ hc q=>by
 have h1:(0:Int) < j:=hc.1
 have h2:j < 1073741824:=hc.2
 exact floordiv_int (by omega) (by rw [Int.fdiv_eq_ediv_of_nonneg i (by omega)];exact q) (.inl (PyProof.noPylong_small (by omega)))
theorem cN:OpR X (binaryOp .Mod) (rI (fun _ j=>0 < j) fun i j=>.int (i % j)):=KJ fun i j _ _ _ _ _ hc q=>by
 have h1:(0:Int) < j:=hc
 exact mod_int' (by omega) (by rw [Int.fmod_eq_emod_of_nonneg i (by omega)];exact q)
theorem Eh:OpR X (binaryOp .Pow) (rI CPow fun i j=>.int (i ^ j.toNat)):=KJ fun _ _ _ _ _ _ _ hc q=>pow_int_small hc.1 hc.2.1 hc.2.2 q
end
def HS:V->V->Bool
 | .non,.non=>true | .non,.int _=>true | .int _,.non=>true | .non,.bl _=>true | .bl _,.non=>true | .non,.str _=>true | .str _,.non=>true
 | .int _,.int _=>true | .bl _,.bl _=>true | .str _,.str _=>true | .byt _,.byt _=>true
 | .int _,.str _=>true | .str _,.int _=>true | .bl _,.str _=>true | .str _,.bl _=>true
 | _,_=>false
def rEq:R2:=fun x y H Q=>HS x y=true/\Q (.bl (decide (x=y))) H
def rNe:R2:=fun x y H Q=>HS x y=true/\Q (.bl (!decide (x=y))) H
theorem vf {i j:Int}:decide (V.int i=V.int j)=(i == j):=by
 rw [Bool.eq_iff_iff]
 simp
theorem xV {i j:Bool}:decide (V.bl i=V.bl j)=(i == j):=by
 rw [Bool.eq_iff_iff]
 simp
theorem vg {i j:Str}:decide (V.str i=V.str j)=(i == j):=by
 rw [Bool.eq_iff_iff]
 simp
theorem vh {i j:Array UInt8}:decide (V.byt i=V.byt j)=(i.toList == j.toList):=by
 rw [Bool.eq_iff_iff]
 cases i
 cases j
 simp
section
variable {X:Cx} {a b c:Expr} {ta tb tc:TE} {pos:Pos}
theorem bu {pins:List (Addr×Obj)} {U:St} {H:Hp} {s:Shared} {Q:VK} {k k':Bool} (I:Inv X pins U H s) (q:Q (.bl k) H) (e:k=k'):EP X pins U Q (.bool k') s:=by
 subst e
 exact ⟨.bl k,H,I,rfl,q⟩
theorem HW:OpR X (compareOp .Eq) rEq:=by
 intro pins s U H x y v u Q I rx ry h
 obtain ⟨hs,q⟩:=h
 cases x with
 | non=>
  cases rx
  cases y with
  | non=>cases ry;exact PySem.EqNone.eq_none_none (bu I q (by simp))
  | bl j=>cases ry;exact PySem.EqNone.eq_none_bool (bu I q (by simp))
  | int j=>obtain ⟨t',rfl⟩:=ry;exact PySem.EqNone.eq_none_int (bu I q (by simp))
  | str j=>obtain ⟨t',rfl⟩:=ry;exact PySem.EqNone.eq_none_str (bu I q (by simp))
  | _=>exact absurd (show false=true from hs) Bool.false_ne_true
 | bl i=>
  cases rx
  cases y with
  | non=>cases ry;exact PySem.EqNone.eq_bool_none (bu I q (by simp))
  | bl j=>cases ry;exact eq_bool (bu I q xV)
  | str j=>obtain ⟨t',rfl⟩:=ry;exact PySem.EqMixed.eq_bool_str (bu I q (by simp))
  | _=>exact absurd (show false=true from hs) Bool.false_ne_true
 | int i=>
  obtain ⟨t,rfl⟩:=rx
  cases y with
  | non=>cases ry;exact PySem.EqNone.eq_int_none (bu I q (by simp))
  | int j=>obtain ⟨t',rfl⟩:=ry;exact eq_int (bu I q vf)
  | str j=>obtain ⟨t',rfl⟩:=ry;exact PySem.EqMixed.eq_int_str (bu I q (by simp))
  | _=>exact absurd (show false=true from hs) Bool.false_ne_true
 | str i=>
  obtain ⟨t,rfl⟩:=rx
  cases y with
  | non=>cases ry;exact PySem.EqNone.eq_str_none (bu I q (by simp))
  | bl j=>cases ry;exact PySem.EqMixed.eq_str_bool (bu I q (by simp))
  | int j=>obtain ⟨t',rfl⟩:=ry;exact PySem.EqMixed.eq_str_int (bu I q (by simp))
  | str j=>obtain ⟨t',rfl⟩:=ry;exact eq_str (bu I q vg)
  | _=>exact absurd (show false=true from hs) Bool.false_ne_true
 | byt i=>
  obtain ⟨t,rfl⟩:=rx
  cases y with
  | byt j=>obtain ⟨t',rfl⟩:=ry;exact PySem.W.eq_bytes (bu I q vh)
  | _=>exact absurd (show false=true from hs) Bool.false_ne_true
 | _=>cases y <;> exact absurd (show false=true from hs) Bool.false_ne_true
theorem HX:OpR X (compareOp .NotEq) rNe:=by
 intro pins s U H x y v u Q I rx ry h
 obtain ⟨hs,q⟩:=h
 cases x with
 | non=>
  cases rx
  cases y with
  | non=>cases ry;exact PySem.EqNone.ne_none_none (bu I q (by simp))
  | bl j=>cases ry;exact PySem.EqNone.ne_none_bool (bu I q (by simp))
  | int j=>obtain ⟨t',rfl⟩:=ry;exact PySem.EqNone.ne_none_int (bu I q (by simp))
  | str j=>obtain ⟨t',rfl⟩:=ry;exact PySem.EqNone.ne_none_str (bu I q (by simp))
  | _=>exact absurd (show false=true from hs) Bool.false_ne_true
 | bl i=>
  cases rx
  cases y with
  | non=>cases ry;exact PySem.EqNone.ne_bool_none (bu I q (by simp))
  | bl j=>cases ry;exact ne_bool (bu I q (congrArg not xV))
  | str j=>obtain ⟨t',rfl⟩:=ry;exact PySem.EqMixed.ne_bool_str (bu I q (by simp))
  | _=>exact absurd (show false=true from hs) Bool.false_ne_true
 | int i=>
  obtain ⟨t,rfl⟩:=rx
  cases y with
  | non=>cases ry;exact PySem.EqNone.ne_int_none (bu I q (by simp))
  | int j=>obtain ⟨t',rfl⟩:=ry;exact ne_int (bu I q (congrArg not vf))
  | str j=>obtain ⟨t',rfl⟩:=ry;exact PySem.EqMixed.ne_int_str (bu I q (by simp))
  | _=>exact absurd (show false=true from hs) Bool.false_ne_true
 | str i=>
  obtain ⟨t,rfl⟩:=rx
  cases y with
  | non=>cases ry;exact PySem.EqNone.ne_str_none (bu I q (by simp))
  | bl j=>cases ry;exact PySem.EqMixed.ne_str_bool (bu I q (by simp))
  | int j=>obtain ⟨t',rfl⟩:=ry;exact PySem.EqMixed.ne_str_int (bu I q (by simp))
  | str j=>obtain ⟨t',rfl⟩:=ry;exact ne_str (bu I q (congrArg not vg))
  | _=>exact absurd (show false=true from hs) Bool.false_ne_true
 | byt i=>
  obtain ⟨t,rfl⟩:=rx
  cases y with
  | byt j=>obtain ⟨t',rfl⟩:=ry;exact PySem.W.ne_bytes (bu I q (congrArg not vh))
  | _=>exact absurd (show false=true from hs) Bool.false_ne_true
 | _=>cases y <;> exact absurd (show false=true from hs) Bool.false_ne_true
theorem HY:OpR X (compareOp .Lt) (zZ fun i j=>.bl (decide (i < j))):=z6 fun _ _ _ _ _ _ _ q=>lt_int q
theorem vm:OpR X (compareOp .LtE) (zZ fun i j=>.bl (decide (i<=j))):=z6 fun _ _ _ _ _ _ _ q=>le_int q
theorem sO:OpR X (compareOp .Gt) (zZ fun i j=>.bl (decide (j < i))):=z6 fun _ _ _ _ _ _ _ q=>gt_int q
theorem Ia:OpR X (compareOp .GtE) (zZ fun i j=>.bl (decide (j<=i))):=z6 fun _ _ _ _ _ _ _ q=>ge_int q
theorem wg:OpR X (compareOp .In) (fun x y H Q=>∃ i j,x= .str i/\y= .str j/\Q (.bl (!(Builtin.Str.occurrences j i 0 j.length 1).isEmpty)) H):=by
 intro pins s U H x y v u Q I rx ry h
 obtain ⟨i,j,rfl,rfl,q⟩:=h
 obtain ⟨t,rfl⟩:=rx
 obtain ⟨t',rfl⟩:=ry
 exact in_str (bu I q rfl)
theorem OpR.or {f:Value->Value->Sem Value} {r r':R2} (h:OpR X f r) (h':OpR X f r'):OpR X f (fun x y H Q=>r x y H Q\/r' x y H Q):=by
 intro pins s U H x y v u Q I rx ry q
 rcases q with q | q
 ·exact h pins s U H x y v u Q I rx ry q
 ·exact h' pins s U H x y v u Q I rx ry q
theorem aF (b:Expr) {op:CmpOp} (h:autoParam (op≠.In) L2.auto2._auto_1) (h2:autoParam (op≠.NotIn) L2.auto2._auto_1):behindInMarks op b=false:=by
 have e1:(op == CmpOp.In)=false:=by cases op <;> first | rfl | exact absurd rfl h
 have e2:(op == CmpOp.NotIn)=false:=by cases op <;> first | rfl | exact absurd rfl h2
 cases b <;> simp [behindInMarks,e1,e2]
theorem z7 {op:CmpOp} {r:R2} (ho:OpR X (compareOp op) r) (ha:PE X a ta) (hb:PE X b tb) (hm:behindInMarks op b=false):PE X (.Compare a [op] [b] pos) (zN r ta tb):=by
 intro pins s U H Q I h
 exact wpAny_Compare1 (Ec ha hb I h fun v u s2 x y H2 I2 rx ry q=>ho pins s2 U H2 x y v u Q I2 rx ry q) hm
def sS (t:TE):TT:=fun U H Q=>t U H fun x H'=>∃ k,x= .bl k/\Q k H'
theorem z8 {op:CmpOp} {r:R2} (ho:OpR X (compareOp op) r) (ha:PE X a ta) (hb:PE X b tb) (hm:behindInMarks op b=false):PT X (.Compare a [op] [b] pos) (sS (zN r ta tb)):=by
 intro pins s U H Q I h
 refine wpAny_isTrue_Compare1 (dz (ha pins s U H _ I h) fun v s1 ⟨x,H1,I1,r1,q1⟩=>dz (hb pins s1 U H1 _ I1 q1) fun u s2 ⟨y,H2,I2,r2,q2⟩=>
  dz (ho pins s2 U H2 x y v u _ I2 r1 r2 q2) fun c s3 ⟨z,H3,I3,r3,k,e,q3⟩=>?_) hm
 subst e
 cases r3
 exact wpAny_truthy_bool ⟨H3,I3,q3⟩
def uE (r r':R2) (ta tb tc:TE):TE:=fun U H Q=>ta U H fun x H1=>tb U H1 fun y H2=>r x y H2 fun z H3=>∃ k,z= .bl k/\
 (if k=true then tc U H3 fun w' H4=>r' y w' H4 Q else Q (.bl false) H3)
theorem xW {op op':CmpOp} {r r':R2} (ho:OpR X (compareOp op) r) (ho':OpR X (compareOp op') r') (ha:PE X a ta) (hb:PE X b tb) (hc:PE X c tc)
  (hm:autoParam (lastMarks [op,op'] [b,c]=false) L2.auto5._auto_1):PT X (.Compare a [op,op'] [b,c] pos) (sS (uE r r' ta tb tc)):=by
 intro pins s U H Q I h
 refine isTrue_chain (dz (ha pins s U H _ I h) fun v s1 ⟨x,H1,I1,r1,q1⟩=>test_link (dz (hb pins s1 U H1 _ I1 q1) fun u s2 ⟨y,H2,I2,r2,q2⟩=>
  dz (ho pins s2 U H2 x y v u _ I2 r1 r2 q2) fun d s3 ⟨z,H3,I3,r3,k,e,q3⟩=>?_)) hm
 subst e
 cases r3
 refine wpAny_truthy_bool ?_
 cases k with
 | false=>
  obtain ⟨k',e',q'⟩:=q3
  cases e'
  exact ite_ff ⟨H3,I3,q'⟩
 | true=>
  refine ite_tt (test_last (dz (hc pins s3 U H3 _ I3 q3) fun w' s4 ⟨z',H4,I4,r4,q4⟩=>dz (ho' pins s4 U H4 y z' u w' _ I4 r2 r4 q4) fun d' s5 qq0=>?_))
  obtain ⟨z2,H5,I5,r5,k2,e2,q5⟩:=qq0
  subst e2
  cases r5
  exact wpAny_truthy_bool ⟨H5,I5,q5⟩
theorem qR:(sizeLine:Nat) < 2 ^ 63:=by rw [sizeLine_eq];decide
theorem uF:OpR X (binaryOp .Add) (fun x y H Q=>∃ i j,x= .str i/\y= .str j/\i.length+j.length<=sizeLine/\Q (.str (i ++ j)) H):=by
 intro pins s U H x y v u Q I rx ry h
 obtain ⟨i,j,rfl,rfl,hz,q⟩:=h
 obtain ⟨t,rfl⟩:=rx
 obtain ⟨t',rfl⟩:=ry
 exact add_str (fun t' tk=>⟨.str (i ++ j),H,I.tok _,⟨_,rfl⟩,q⟩) hz
theorem vals1 {x:V} {us:List Value} (r:Vals [x] us):∃ u,us=[u]/\RelV x u:=by
 cases r with
 | cons r1 r2=>cases r2;exact ⟨_,rfl,r1⟩
theorem vals2 {x y:V} {us:List Value} (r:Vals [x,y] us):∃ u w',us=[u,w']/\RelV x u/\RelV y w':=by
 cases r with
 | cons r1 r2=>
  cases r2 with
  | cons r3 r4=>cases r4;exact ⟨_,_,rfl,r1,r3⟩
theorem wj (hc:X.calm=true):CallR X (.builtin "max") (fun xs H Q=>∃ i j,xs=[.int i,.int j]/\Q (.int (if j > i then j else i)) H):=by
 intro pins s U H xs us Q I r h
 obtain ⟨i,j,rfl,q⟩:=h
 obtain ⟨u,w',rfl,⟨t,rfl⟩,⟨t',rfl⟩⟩:=vals2 r
 refine max_two_ints (I.ok.hd hc) fun h' tk k=>⟨_,H,I.kept k,?_,q⟩
 by_cases hj:j > i
 ·rw [if_pos hj,if_pos hj];exact ⟨_,rfl⟩
 ·rw [if_neg hj,if_neg hj];exact ⟨_,rfl⟩
theorem wk (hc:X.calm=true):CallR X (.builtin "min") (fun xs H Q=>∃ i j,xs=[.int i,.int j]/\Q (.int (if j < i then j else i)) H):=by
 intro pins s U H xs us Q I r h
 obtain ⟨i,j,rfl,q⟩:=h
 obtain ⟨u,w',rfl,⟨t,rfl⟩,⟨t',rfl⟩⟩:=vals2 r
 refine min_two_ints (I.ok.hd hc) fun h' tk k=>⟨_,H,I.kept k,?_,q⟩
 by_cases hj:j < i
 ·rw [if_pos hj,if_pos hj];exact ⟨_,rfl⟩
 ·rw [if_neg hj,if_neg hj];exact ⟨_,rfl⟩
theorem wu:CallR X (.type "int") (fun xs H Q=>(∃ i,xs=[.int i]/\Q (.int i) H)\/∃ k,xs=[.bl k]/\Q (.int (if k then 1 else 0)) H):=by
 intro pins s U H xs us Q I r h
 rcases h with ⟨i,rfl,q⟩ | ⟨k,rfl,q⟩
 ·obtain ⟨u,rfl,t,rfl⟩:=vals1 r
  exact call_int_int ⟨.int i,H,I,⟨_,rfl⟩,q⟩
 ·obtain ⟨u,rfl,r1⟩:=vals1 r
  cases r1
  exact call_int_bool ⟨.int (if k then 1 else 0),H,I.tok _,⟨_,rfl⟩,q⟩
def Ib (K:W.Frag) (x:V) (H:Hp) (n:Nat):Prop:=
 match x with
 | .str y=>y.length<=sizeLine/\n=y.length
 | .byt y=>y.size<=sizeLine/\n=y.size
 | .ref p=>(∃ xs,SqL K H p xs/\n=xs.length)\/∃ xs,SqT K H p xs/\n=xs.length
 | _=>False
theorem xX:CallR X (.builtin "len") (fun xs H Q=>∃ x n,xs=[x]/\Ib X.K x H n/\Q (.int n) H):=by
 intro pins s U H xs us Q I r h
 obtain ⟨x,n,rfl,e,q⟩:=h
 obtain ⟨u,rfl,rx⟩:=vals1 r
 have hl:=qR
 have hs:sizeLine=16777216:=sizeLine_eq
 cases x with
 | str y=>
  obtain ⟨t,rfl⟩:=rx
  obtain ⟨hy,e'⟩:y.length<=sizeLine/\n=y.length:=e
  subst e'
  exact len_str (by omega) ⟨.int _,H,I.tok _,⟨_,rfl⟩,q⟩
 | byt y=>
  obtain ⟨t,rfl⟩:=rx
  obtain ⟨hy,e'⟩:y.size<=sizeLine/\n=y.size:=e
  subst e'
  exact PySem.W.len_bytes (by omega) ⟨.int _,H,I.tok _,⟨_,rfl⟩,q⟩
 | ref p=>
  cases rx
  have e':(∃ xs,SqL X.K H p xs/\n=xs.length)\/∃ xs,SqT X.K H p xs/\n=xs.length:=e
  rcases e' with ⟨xs,hx,e'⟩ | ⟨xs,hx,e'⟩
  ·subst e'
   obtain ⟨its,r',pl,hz⟩:=I.list hx
   have hlen:=r'.length
   exact Calls.call_len_list pl.isList (by simp only [List.size_toArray];omega) ⟨.int xs.length,H,I.tok _,⟨_,by simp only [List.size_toArray];rw [hlen]⟩,q⟩
  ·subst e'
   obtain ⟨its,r',pl,hz⟩:=I.tuple hx
   have hlen:=r'.length
   exact len_tuple pl (by simp only [List.size_toArray];omega) ⟨.int xs.length,H,I.tok _,⟨_,by simp only [List.size_toArray];rw [hlen]⟩,q⟩
 | _=>exact (show False from e).elim
end
structure ObjM (h:Heap) (x dx C:Addr) (mA:Str->Option Value):Prop where
 obj:h.get? x=some (PySem.W.instObj C dx)
 ns:h.Ns1 dx mA
 ne:dx≠x
theorem ww {h:Heap} {dx:Addr} {mA:Str->Option Value} (n:h.Ns1 dx mA):∃ od,h.get? dx=some od/\∀ name,PySem.W.lookIn name od=some (mA name):=by
 obtain ⟨o,es,ep,ho,hd,hk,_,hm⟩:=n
 refine ⟨o,ho,fun name=>?_⟩
 have e:=hm name
 unfold nsFind findBy at e
 rw [← Array.find?_toList] at e
 unfold PySem.W.lookIn
 rw [hd]
 dsimp only
 split
 ·rename_i y q
  rw [q] at e
  exact congrArg some e
 ·rename_i q
  rw [q] at e
  have a:es.toList.any (·.refKey)=false:=by
   rw [List.any_eq_false]
   intro y hy
   obtain ⟨z,t,hkey⟩:=hk y (Array.mem_toList_iff.mp hy)
   simp [DictEntry.refKey,hkey]
  have a':¬ es.toList.any (·.refKey)=true:=by rw [a];exact Bool.false_ne_true
  rw [if_neg a']
  exact congrArg some e
theorem ObjM.look {h:Heap} {x dx C:Addr} {mA:Str->Option Value} (I:ObjM h x dx C mA):∃ od,PySem.W.InstAt h x (PySem.W.instObj C dx) C (some od)/\∀ name,PySem.W.lookIn name od=some (mA name):=
 let ⟨od,ho,hl⟩:=ww I.ns
 ⟨od,⟨I.obj,rfl,rfl,ho⟩,hl⟩
theorem RelO.some_of {v:V} {o:Option Value} (r:RelO (some v) o):∃ u,o=some u/\RelV v u:=by
 cases o with
 | none=>exact (show False from r).elim
 | some u=>exact ⟨u,rfl,r⟩
section
variable {P:Program} {w:World} {H H':Hp} {h h':Heap} {a C dx:Addr} {fs fs':List (Str×V)}
theorem z9 (hok:HOk P w H h) (e:H a=some (.ins C dx fs)):∃ mA,ObjM h a dx C mA/\(∀ f,RelO (fs.lookup f) (mA f))/\PySem.Within mA (fs.map (·.1))/\fs.length<=1000/\H dx=some (.own a):=by
 obtain ⟨d,z,ne,ob,mA,n,r,q⟩:=(show ObjOk P w H h a (.ins C dx fs) from hok a _ e)
 exact ⟨mA,⟨ob,n,ne⟩,r,q,z,d⟩
end
structure Cls (K:W.Frag) (C:Addr):Prop where
 pg:PySem.W.plainGet K C Str.empty=true
 hd:PySem.W.hasDictIn K C=true
 po:PySem.W.plainOver K C=true
 sa:PySem.W.findIn K (.ref C) "__setattr__"=some (some (.builtin "object.__setattr__"))
theorem Cls.get {K:W.Frag} {C:Addr} (c:Cls K C) (f:Str):PySem.W.plainGet K C f=true:=c.pg
section
variable {X:Cx} {pins:List (Addr×Obj)} {U:St} {H:Hp} {s:Shared} {A:Around} {E:Value->Shared->Prop} {Q:Value->Shared->Prop} {c:Value} {b:Bool}
inductive lF (K:W.Frag) (H:Hp):V->Value->Prop where
 | non:lF K H .non (.type "NoneType")
 | bl (x:Bool):lF K H (.bl x) (.type "bool")
 | int (i:Int):lF K H (.int i) (.type "int")
 | str (x:Str):lF K H (.str x) (.type "str")
 | flt (x:UInt64):lF K H (.flt x) (.type "float")
 | lst {a:Addr} {xs:List V} (e:H a=some (.lst xs)):lF K H (.ref a) (.type "list")
 | frz {a:Addr} {o:Obj} {xs:List V} (e:H a=some (.frz o (.lst xs))):lF K H (.ref a) (.type "list")
 | tup {a:Addr} {xs:List V} (e:H a=some (.tup xs)):lF K H (.ref a) (.type "tuple")
 | dK {a:Addr} {kvs:List (Key×V)} (e:H a=some (.dK kvs)):lF K H (.ref a) (.type "dict")
 | dT {a:Addr} {kvs:List (List Key×V)} (e:H a=some (.dT kvs)):lF K H (.ref a) (.type "dict")
 | ins {a C dx:Addr} {fs:List (Str×V)} (e:H a=some (.ins C dx fs)) (cl:Cls K C) (ha:PySem.W.findIn K (.ref C) "__class__"=some (some (.builtin "object.__class__")))
   (hn:PySem.W.specialIn K (.builtin "object.__class__") "__get__"=some (some (.builtin "getset_descriptor.__get__"))) (htk:PySem.W.takesIn K (.builtin "object.__class__")=some true)
   (hm:PySem.W.mroIn K C (.type "object")=some true):lF K H (.ref a) (.ref C)
theorem wy {x:V} {u t:Value} (I:Inv X pins U H s) (rx:RelV x u) (ty:lF X.K H x t) (e:PySem.W.kitOne X.K t c=some b) (h:∀ tk,Q (.bool b) {s with toks:=tk}):
  wpAny (model X.prog X.w) A (call (.builtin "isinstance") [u,c]) Q E s:=by
 cases ty with
 | non=>cases (show u=Value.none from rx);exact PySem.W.kia_one PySem.W.kitx_none I.kIn True.intro e (fun z=>nomatch z) h
 | bl y=>cases (show u=Value.bool y from rx);exact PySem.W.kia_one PySem.W.kitx_bool I.kIn True.intro e (fun z=>nomatch z) h
 | int i=>obtain ⟨t,q⟩:=(show ∃ t,u=Value.int i t from rx);cases q;exact PySem.W.kia_one PySem.W.kitx_int I.kIn True.intro e (fun z=>nomatch z) h
 | str y=>obtain ⟨t,q⟩:=(show ∃ t,u=Value.str y t from rx);cases q;exact PySem.W.kia_one PySem.W.kitx_str I.kIn True.intro e (fun z=>nomatch z) h
 | flt y=>obtain ⟨t,q⟩:=(show ∃ t,u=Value.float y t from rx);cases q;exact PySem.W.kia_one PySem.W.kitx_float I.kIn True.intro e (fun z=>nomatch z) h
 | @lst a xs ea=>
  cases (show u=Value.ref a from rx)
  obtain ⟨_,_,n,_,h1⟩:=(show ObjOk X.prog X.w H s.heap a (.lst xs) from I.hok a _ ea)
  exact PySem.W.kia_one PySem.W.kitx_list I.kIn ⟨_,h1,rfl⟩ e (fun z=>nomatch z) h
 | @frz a ob xs ea=>
  cases (show u=Value.ref a from rx)
  obtain ⟨_,_,_,n,_,h1⟩:=(show ObjOk X.prog X.w H s.heap a (.frz ob (.lst xs)) from I.hok a _ ea)
  exact PySem.W.kia_one PySem.W.kitx_list I.kIn ⟨_,h1,rfl⟩ e (fun z=>nomatch z) h
 | @tup a xs ea=>
  cases (show u=Value.ref a from rx)
  obtain ⟨_,_,_,p⟩:=(show ObjOk X.prog X.w H s.heap a (.tup xs) from I.hok a _ ea)
  obtain ⟨o,h1,h2,_⟩:=p
  exact PySem.W.kia_one PySem.W.kitx_tuple I.kIn ⟨o,h1,h2⟩ e (fun z=>nomatch z) h
 | @dK a kvs ea=>
  cases (show u=Value.ref a from rx)
  obtain ⟨_,_,vs,_,p⟩:=(show ObjOk X.prog X.w H s.heap a (.dK kvs) from I.hok a _ ea)
  obtain ⟨o,es,ep,h1,h2,_⟩:=p
  exact PySem.W.kia_one PySem.W.kitx_dict I.kIn ⟨o,h1,h2.1⟩ e (fun z=>nomatch z) h
 | @dT a kvs ea=>
  cases (show u=Value.ref a from rx)
  obtain ⟨_,_,xs,_,o,es,ep,h1,h2,_⟩:=(show ObjOk X.prog X.w H s.heap a (.dT kvs) from I.hok a _ ea)
  exact PySem.W.kia_one PySem.W.kitx_dict I.kIn ⟨o,h1,h2.1⟩ e (fun z=>nomatch z) h
 | @ins a C dx fs ea cl ha hn htk hm=>
  cases (show u=Value.ref a from rx)
  obtain ⟨mA,O,_⟩:=z9 I.hok ea
  obtain ⟨od,J,_⟩:=O.look
  exact PySem.W.kia_one (PySem.W.kitx_own (cl.get _) cl.hd ha hn htk hm) I.kIn J e (fun z=>nomatch z) h
end
structure Room (k:Nat) (A:Around):Prop where
 hd:A.handled=none
 dp:A.depth+3*k+5 < recursionLimit
 un:A.units+16*k+200 < cLine
 gd:A.guards=some []
theorem Room.mono {j k:Nat} {A:Around} (r:Room k A) (h:j<=k):Room j A:=⟨r.hd,by have:=r.dp;omega,by have:=r.un;omega,r.gd⟩
theorem Room.deeper {k:Nat} {A:Around} (r:Room (k+1) A) (env:Env):Room k (A.deeper env):=
 ⟨r.hd,by have:=r.dp;show A.depth+1+3*k+5 < _;omega,by have:=r.un;show A.units+3+16*k+200 < _;omega,r.gd⟩
theorem Room.depth {k:Nat} {A:Around} (r:Room k A):A.depth < recursionLimit:=by have:=r.dp;omega
theorem Room.units {k:Nat} {A:Around} (r:Room k A):A.units+64 < cLine:=by have:=r.un;omega
theorem Room.units0 {k:Nat} {A:Around} (r:Room k A):A.units < cLine:=by have:=r.un;omega
def Ei:TA:=fun _ H Q=>Q [] H
def vo (ta:TE) (tr:TA):TA:=fun U H Q=>ta U H fun x H1=>tr U H1 fun xs H2=>Q (x :: xs) H2
section
variable {X:Cx} {e:Expr} {es:List Expr} {te:TE} {t:TA} {pos:Pos}
theorem Ej:PA X [] Ei:=fun _ _ _ _ H Q I h=>Calls.spliced_nil ⟨[],H,I,.nil,h⟩
theorem Aa (ha:PE X e te) (hr:PA X es t) (hs:autoParam (starEach (e :: es) X.env=(false,eval e X.env) :: starEach es X.env) L2.auto4._auto_1):PA X (e :: es) (vo te t):=by
 intro pos pins s U H Q I h
 rw [hs]
 show wpAny _ _ (spliced ((false,eval e X.env) :: backTo pos (starEach es X.env))) _ _ s
 refine Calls.spliced_cons (dz (ha pins s U H _ I h) fun u s1 qq0=>?_)
 obtain ⟨x,H1,I1,r1,q1⟩:=qq0
 exact dz (hr pos pins s1 U H1 _ I1 q1) fun us s2 ⟨xs,H2,I2,r2,q2⟩=>⟨x :: xs,H2,I2,.cons r1 r2,q2⟩
def Ek (t:TA):TE:=fun U H Q=>t U H fun xs H1=>xs.length<=sizeLine/\∀ p,H1 p=none->Q (.ref p) (upd H1 p (.tup xs))
def El (t:TA):TE:=fun U H Q=>t U H fun xs H1=>xs.length<=sizeLine/\∀ p,H1 p=none->Q (.ref p) (upd H1 p (.lst xs))
theorem Em {x1} (h:PA X es t):PE X (.Tuple es x1 pos) (Ek t):=by
 intro pins s U H Q I hq
 refine wpAny_Tuple_spliced (dz (h pos pins s U H _ I hq) fun us s1 ⟨xs,H1,I1,r,z,q⟩=>⟨by rw [← r.length];exact z,?_⟩)
 have hf:H1 s1.heap.objs.size=none:=I1.hok.fresh (Nat.le_refl _)
 refine ⟨.ref s1.heap.objs.size,upd H1 s1.heap.objs.size (.tup xs),I1.laid (t':=s1.toks) (fun b u e=>Heap.get?_push_of_some _ e) (Nat.le_refl _) ?_,rfl,q _ hf⟩
 exact ⟨z,us,r,⟨_,Heap.get?_push_size _ rfl,rfl,_,rfl⟩⟩
theorem En (h:PA X es t):PE X (.List es pos) (El t):=by
 intro pins s U H Q I hq
 refine wpAny_List_spliced (dz (h pos pins s U H _ I hq) fun us s1 ⟨xs,H1,I1,r,z,q⟩=>⟨by rw [← r.length];exact z,?_⟩)
 have hf:H1 s1.heap.objs.size=none:=I1.hok.fresh (Nat.le_refl _)
 refine ⟨.ref s1.heap.objs.size,upd H1 s1.heap.objs.size (.lst xs),I1.laid (t':=s1.toks) (fun b u e=>Heap.get?_push_of_some _ e) (Nat.le_refl _) ?_,rfl,q _ hf⟩
 exact ⟨z,us,0,r,Heap.get?_push_size _ rfl⟩
end
abbrev Sp:=List V->Hp->VK->XK->Prop
abbrev xq:=List Env->Hp->Shared->XK->Value->Shared->Prop
structure Ab (P:Program) (w:World) (K:W.Frag) (mg:Str->Option Value) (base:Heap) (A:Around) (outer:List Env) (s:Shared) (H:Hp):Prop where
 frames:A.frames=some outer
 mod:Mod K mg base
 bs:∀ b o,base.get? b=some o->s.heap.get? b=some o/\H b=none
 bsz:base.objs.size<=s.heap.objs.size
 funs:s.heap.FunFrames base outer
 frf:∀ b∈frs outer,H b=none
 hok:HOk P w H s.heap
 bare:AllBare s.gens
def CE (outer:List Env) (P:Program) (w:World) (H:Hp) (s:Shared) (Q:VK) (u:Value) (s':Shared):Prop:=
 ∃ v H',s'.os=s.os/\AllBare s'.gens/\Un (frs outer) [] H H' s.heap s'.heap/\HOk P w H' s'.heap/\RelV v u/\Q v H'
def CR (CX:xq) (outer:List Env) (P:Program) (w:World) (H:Hp) (s:Shared) (Q:VK) (E:XK) (r:Result) (s':Shared):Prop:=
 match r with
 | .ok (.ret u)=>CE outer P w H s Q u s'
 | .ok _=>False
 | .error e=>CX outer H s E e s'
structure FnOk (P:Program) (w:World) (K:W.Frag) (mg:Str->Option Value) (base:Heap) (CX:xq) (k:Nat) (f:Addr) (fd:FuncData) (ps:List Str) (sp:Sp):Prop where
 len:∀ vs H Q E,sp vs H Q E->vs.length=ps.length
 run:∀ (A:Around) (outer:List Env) (s:Shared) (H:Hp) (args:Args) (us:List Value) (vs:List V) (Q:VK) (E:XK),Room k A->Ab P w K mg base A outer s H->BindsTo s fd args (ps.zip us)->Vals vs us->sp vs H Q E->
  codeAny (model P w) A (.call (.ref f) args) (CR CX outer P w H s Q E) s
theorem FnOk.mono {P:Program} {w:World} {K:W.Frag} {mg:Str->Option Value} {base:Heap} {CX:xq} {j k:Nat} {f:Addr} {fd:FuncData} {ps:List Str} {sp:Sp} (F:FnOk P w K mg base CX j f fd ps sp) (h:j<=k):
  FnOk P w K mg base CX k f fd ps sp:=⟨F.len,fun A outer s H args us vs Q E hr=>F.run A outer s H args us vs Q E (hr.mono h)⟩
section
variable {X:Cx} {pins:List (Addr×Obj)} {U:St} {H:Hp} {s s':Shared}
theorem Inv.env0 (I:Inv X pins U H s):Ab X.prog X.w X.K X.mg X.base X.A X.stack s H:=
 ⟨I.ok.frames,I.ok.mod,I.bs,Nat.le_trans I.ok.bsz I.sz,I.stack,I.stkFree,I.hok,I.bare⟩
theorem Inv.after {Q:VK} {u:Value} (I:Inv X pins U H s) (h:CE X.stack X.prog X.w H s Q u s'):EP X pins U Q u s':=by
 obtain ⟨v,H',os,bare,un,hok,r,q⟩:=h
 obtain ⟨hh,g,d,t,os'⟩:=s'
 obtain rfl:os'=s.os:=os
 exact ⟨v,H',I.call (h':=hh) (g':=g) (d':=d) (t':=t) (ch:=[]) un hok bare (fun b z=>absurd z (by simp)),r,q⟩
end
def qm (sp:Sp) (dvs:List V) (E:XK) (t:TA):TE:=fun U H Q=>t U H fun vs H1=>sp (vs ++ dvs) H1 Q E
def Binds (K:W.Frag) (fd:FuncData) (ps:List Str) (ds:List Value):Prop:=
 ∀ (s:Shared) (us:List Value),K.In s.heap->(us ++ ds).length=ps.length->BindsTo s fd ⟨us,[]⟩ (ps.zip (us ++ ds))
theorem Binds.all {K:W.Frag} {fd:FuncData} {ps:List Str} (h:∀ us:List Value,us.length=ps.length->bindArgs fd ⟨us,[]⟩=pure (ps.zip us)):Binds K fd ps []:=fun s us _ hl=>by
 rw [List.append_nil] at hl ⊢
 exact .of_eq (h us hl)
def uG (CX:xq) (X:Cx) (E:XK):Prop:=∀ (pins:List (Addr×Obj)) (U:St) (H:Hp) (s:Shared) (e:Value) (s':Shared),Inv X pins U H s->CX X.stack H s E e s'->X.xe e s'
section
variable {X:Cx} {CX:xq} {k:Nat} {f C:Addr} {fd:FuncData} {ps:List Str} {sp:Sp} {dvs:List V} {ds:List Value} {E:XK} {x m:Str} {p pos apos:Pos} {e o:Expr} {es:List Expr} {ta:TE} {t:TA}
theorem Eo {pins:List (Addr×Obj)} {U:St} {H:Hp} {s:Shared} {Q:VK} {us:List Value} {vs:List V} (F:FnOk X.prog X.w X.K X.mg X.base CX k f fd ps sp) (hr:Room k X.A) (hb:Binds X.K fd ps ds) (hd:Vals dvs ds) (hx:uG CX X E)
  (I:Inv X pins U H s) (r:Vals vs us) (h:sp (vs ++ dvs) H Q E):wpAny (model X.prog X.w) X.A (call (.ref f) us) (EP X pins U Q) X.xe s:=by
 have r2:Vals (vs ++ dvs) (us ++ ds):=r.append hd
 have hl:(us ++ ds).length=ps.length:=by rw [← r2.length];exact F.len _ _ _ _ h
 refine wpAny_call (codeAny_mono (F.run X.A X.stack s H ⟨us,[]⟩ (us ++ ds) (vs ++ dvs) Q E hr I.env0 (hb s us I.kIn hl) r2 h) fun r s' hq=>?_)
 cases r with
 | error e=>exact hx pins U H s e s' I hq
 | ok fl=>
  cases fl with
  | ret u=>exact I.after hq
  | next=>exact False.elim hq
  | brk=>exact False.elim hq
  | cont=>exact False.elim hq
theorem Ac (F:FnOk X.prog X.w X.K X.mg X.base CX k f fd ps sp) (hr:Room k X.A) (hg:Gl X x) (hm:X.mg x=some (.ref f)) (hk:PySem.W.keepIn X.K (.ref f)=true) (hb:Binds X.K fd ps ds) (hd:Vals dvs ds) (hx:uG CX X E)
  (ha:PA X (e :: es) t) (hdb:autoParam ((x == ("__debug__":Str))=false) L2.auto2._auto_1) (he:autoParam (starEach (e :: es) X.env=(false,eval e X.env) :: starEach es X.env) L2.auto4._auto_1) (hpl:autoParam ((backTo pos (starEach es X.env)).any (·.1)=false) L2.auto4._auto_1):
  PE X (.Call (.Name x p) (e :: es) [] pos) (qm sp dvs E t):=by
 intro pins s U H Q I h
 refine wpAny_Call_Name_kw (u6 I hg hm ?_ hdb)
 refine PySem.W.callWith_K (h₀:=X.base) I.ok.mod.kin hk (dz (ha pos pins s U H _ I h) fun us s1 ⟨vs,H1,I1,r,q⟩=>⟨I1.kIn,?_⟩) he hpl
 exact Eo F hr hb hd hx I1 r q
end
structure aD (N P:List Str) (sc:Scope):Prop where
 kind:sc.kind= .function
 co:sc.isCoroutine=false
 gen:sc.isGenerator=false
 nd:N.Nodup
 pre:N.take P.length=P
 par:∀ x∈P,sc.names.lookup x=some .local\/sc.names.lookup x=some .cell
 nofree:∀ y∈sc.names,y.2≠.free
theorem qp {kindOf:Str->Option NameKind} {x:Str}:∀ {binds:List (Str×Value)} {m:Str->Option Value},(∀ v,(x,v) ∉ binds)->bindL kindOf binds m x=m x
 | [],_,_=>rfl
 | (n,v) :: r,m,h=>by
  unfold bindL
  rw [qp fun w hw=>h w (List.mem_cons_of_mem _ hw)]
  split
  ·have:x≠n:=by rintro rfl;exact h v List.mem_cons_self
   simp [this]
  ·rfl
theorem qt {kindOf:Str->Option NameKind} {x:Str}:∀ {binds:List (Str×Value)} {m:Str->Option Value},(∀ v,(x,v) ∉ binds)->bindC kindOf binds m x=m x
 | [],_,_=>rfl
 | (n,v) :: r,m,h=>by
  unfold bindC
  rw [qt fun w hw=>h w (List.mem_cons_of_mem _ hw)]
  split
  ·rfl
  ·have:x≠n:=by rintro rfl;exact h v List.mem_cons_self
   simp [this]
theorem qu {kindOf:Str->Option NameKind} {x:Str} {v:Value}:∀ {P:List Str} {vs:List Value} {i:Nat} {m:Str->Option Value},P.Nodup->P[i]?=some x->vs[i]?=some v->kindOf x=some .local->
  bindL kindOf (P.zip vs) m x=some v
 | [],_,_,_,_,h,_,_=>by simp at h
 | _ :: _,[],_,_,_,_,h,_=>by simp at h
 | p :: P,w :: vs,0,m,nd,h1,h2,hk=>by
  simp at h1 h2;subst h1;subst h2
  show bindL kindOf ((p,w) :: P.zip vs) m p=_
  unfold bindL
  rw [qp fun v hv=>(List.nodup_cons.mp nd).1 (List.of_mem_zip hv).1,if_pos hk]
  simp
 | p :: P,w :: vs,i+1,m,nd,h1,h2,hk=>by
  show bindL kindOf ((p,w) :: P.zip vs) m x=_
  unfold bindL
  exact qu (i:=i) (List.nodup_cons.mp nd).2 (by simpa using h1) (by simpa using h2) hk
theorem qw {kindOf:Str->Option NameKind} {x:Str} {v:Value}:∀ {P:List Str} {vs:List Value} {i:Nat} {m:Str->Option Value},P.Nodup->P[i]?=some x->vs[i]?=some v->kindOf x≠some .local->
  bindC kindOf (P.zip vs) m x=some v
 | [],_,_,_,_,h,_,_=>by simp at h
 | _ :: _,[],_,_,_,_,h,_=>by simp at h
 | p :: P,w :: vs,0,m,nd,h1,h2,hk=>by
  simp at h1 h2;subst h1;subst h2
  show bindC kindOf ((p,w) :: P.zip vs) m p=_
  unfold bindC
  rw [qt fun v hv=>(List.nodup_cons.mp nd).1 (List.of_mem_zip hv).1,if_neg hk]
  simp
 | p :: P,w :: vs,i+1,m,nd,h1,h2,hk=>by
  show bindC kindOf ((p,w) :: P.zip vs) m x=_
  unfold bindC
  exact qw (i:=i) (List.nodup_cons.mp nd).2 (by simpa using h1) (by simpa using h2) hk
def start (N:List Str) (vs:List V):St:=vs.map some ++ List.replicate (N.length - vs.length) none
def qT (CX:xq) (P:Program) (w:World) (K:W.Frag) (mg:Str->Option Value) (base:Heap) (N:List Str) (qual:Str) (scope:Scope) (f:Addr) (cd:Value) (A:Around) (outer:List Env) (s:Shared) (H:Hp) (E:XK):Cx where
 prog:=P
 w:=w
 K:=K
 mg:=mg
 base:=base
 A:=A.deeper (envOfC qual scope s.heap.objs.size f cd)
 N:=N
 s₀:=s
 H₀:=H
 env:=envOfC qual scope s.heap.objs.size f cd
 outer:=outer
 stack:=envOfC qual scope s.heap.objs.size f cd :: outer
 ex:=[]
 calm:=true
 fn:=fun _=>true
 pn:=[]
 xe:=fun e s'=>wpAny (model P w) (A.deeper (envOfC qual scope s.heap.objs.size f cd)) (leaving (envOfC qual scope s.heap.objs.size f cd) e) (fun _ s''=>CX outer H s E e s'') (fun e' s''=>CX outer H s E e' s'') s'
theorem sU {sc:Scope} {n:Nat} {x:Str} (h:sc.names.lookup x=some .cell):∃ c,(cellsFrom n sc.names []).lookup x=some c:=by
 have q:=PySem.W.cellsFrom_some sc.names n [] (.inl h)
 exact Option.isSome_iff_exists.mp q
theorem wz {CX:xq} {P:Program} {w:World} {K:W.Frag} {mg:Str->Option Value} {base:Heap} {N ps:List Str} {qual:Str} {scope:Scope} {f:Addr} {cd:Value} {A:Around} {outer:List Env} {s s1:Shared} {H:Hp} {E:XK} {us:List Value} {vs:List V}
  (S:aD N ps scope) (hd:A.handled=none) (e0:Ab P w K mg base A outer s H) (hl:vs.length=ps.length) (r:Vals vs us)
  (x:InCallC s s.heap.objs.size (bindL (envOfC qual scope s.heap.objs.size f cd).kindOf (ps.zip us) fun _=>none) (cellsFrom (s.heap.objs.size+1) scope.names []) (bindC (envOfC qual scope s.heap.objs.size f cd).kindOf (ps.zip us) fun _=>none) s1):
  Inv (qT CX P w K mg base N qual scope f cd A outer s H E) [] (start N vs) H s1:=by
 have hpl:ps.length<=N.length:=by have:=congrArg List.length S.pre;rw [List.length_take] at this;omega
 obtain ⟨h1,tk,rfl,hk⟩:=x.done
 have noA:∀ b:Addr,b ∉ (qT CX P w K mg base N qual scope f cd A outer s H E).ex:=fun b z=>absurd (show b∈([]:List Addr) from z) (by simp)
 refine ⟨⟨e0.mod,S.kind,rfl,rfl,Nat.le_refl _,fun y z c h1 h2=>?_,fun y hy=>?_,fun y c _ h=>?_,fun _=>hd,Around.frames_deeper e0.frames,.inr ⟨rfl,rfl⟩,fun b z=>absurd z (noA b),e0.bs,e0.bsz,fun b _ _=>noA b,fun b z=>absurd z (noA b),e0.funs,e0.frf⟩,
  rfl,e0.bare,Un.kept hk,⟨_,x.toInCall.ns,fun i y v h1 h2 h3=>?_⟩,fun y c h=>⟨_,x.cell y c h⟩,e0.hok.fresh (Nat.le_refl _),fun y c h=>?_,fun p hp=>absurd (show p∈([]:List (Addr×Obj)) from hp) (by simp),e0.hok.kept hk,?_⟩
 ·exact name_of_addr x.apart (PySem.mem_of_lookup h1) (PySem.mem_of_lookup h2)
 ·have hy:scope.names.lookup y=some .cell\/scope.names.lookup y=some .free:=hy
  rcases hy with hy | hy
  ·exact sU hy
  ·exact absurd rfl (S.nofree _ (PySem.mem_of_lookup hy))
 ·exact Nat.le_of_lt (x.above y c (PySem.mem_of_lookup h))
 ·have hi:i < vs.length:=by
   unfold start at h2
   by_cases hi:i < vs.length
   ·exact hi
   ·rw [List.getElem?_append_right (by simpa using hi)] at h2
    rw [List.getElem?_replicate] at h2
    split at h2 <;> cases h2
  have ha:vs[i]?=some v:=by
   unfold start at h2
   rw [List.getElem?_append_left (by simpa using hi),List.getElem?_map] at h2
   cases e:vs[i]? with
   | none=>rw [e] at h2;cases h2
   | some a=>rw [e] at h2;cases h2;rfl
  obtain ⟨u,hu,rv⟩:=r.get ha
  have hp:ps[i]?=some y:=by
   rw [← S.pre,List.getElem?_take_of_lt (by omega)];exact h1
  have ndP:ps.Nodup:=by rw [← S.pre];exact S.nd.sublist (List.take_sublist _ _)
  refine ⟨u,rv,?_⟩
  rcases S.par y (List.mem_of_getElem? hp) with k | k
  ·exact .inl ⟨k,qu ndP hp hu k⟩
  ·obtain ⟨c,e⟩:=sU (n:=s.heap.objs.size+1) k
   refine .inr ⟨.inl k,c,e,?_⟩
   have q:=x.cell y c e
   rw [qw ndP hp hu (by show scope.names.lookup y≠_;rw [k];decide)] at q
   exact q
 ·exact e0.hok.fresh (Nat.le_of_lt (x.above y c (PySem.mem_of_lookup h)))
 ·unfold start
  show _=N.length
  rw [List.length_append,List.length_map,List.length_replicate]
  omega
theorem Ie {CX:xq} {P:Program} {w:World} {K:W.Frag} {mg:Str->Option Value} {base:Heap} {k:Nat} {f:Addr} {name qual:Str} {params:Arguments} {body:List Stmt} {scope:Scope} {dV kV doc pm cdv ct oc:Value} {an od:Option Addr}
  {osl:Array (Option Value)} {N ps:List Str} {sp:Sp} (lk:K.lookup f=some ⟨oc,od,.func (PySem.W.fnOf name qual params body scope dV kV doc pm an cdv ct),osl⟩) (hcd:PySem.W.codeIn K cdv qual=true) (S:aD N ps scope)
  (len:∀ vs H Q E,sp vs H Q E->vs.length=ps.length)
  (hbody:∀ (A:Around) (outer:List Env) (s:Shared) (H:Hp) (vs:List V) (Q:VK) (E:XK),Room k (A.deeper (envOfC qual scope s.heap.objs.size f cdv))->sp vs H Q E->
   ∃ t,PSs (qT CX P w K mg base N qual scope f cdv A outer s H E) body t/\t {nx:=fun _ H'=>Q .non H',rt:=Q} (start N vs) H):
  FnOk P w K mg base CX (k+1) f (PySem.W.fnOf name qual params body scope dV kV doc pm an cdv ct) ps sp:=by
 refine ⟨len,fun A outer s H args us vs Q E hr e0 hb r hsp=>?_⟩
 have hl:=len _ _ _ _ hsp
 have KX:K.In s.heap:=e0.mod.kin.keeps fun b o e=>(e0.bs b o e).1
 have lim:s.heap.NoLimit:=e0.mod.nolimit.keeps fun b o e=>(e0.bs b o e).1
 have hkind:∀ y∈ps.zip us,scope.names.lookup y.1=some .local\/(scope.names.lookup y.1=some .cell/\((cellsFrom (s.heap.objs.size+1) scope.names []).lookup y.1).isSome=true):=fun ⟨n,v⟩ hy=>by
  rcases S.par n (List.of_mem_zip hy).1 with q | q
  ·exact .inl q
  ·exact .inr ⟨q,PySem.W.cellsFrom_some _ _ _ (.inl q)⟩
 refine codeAny_call_function hr.depth (KX _ _ lk) rfl S.co S.gen rfl (PySem.W.codeRec_of KX hcd) (hb _ _ _ _ ?_)
 refine wpAny_newFunctionEnv_cells S.kind hkind fun env he s1 x=>?_
 subst he
 refine ⟨lim.keeps x.toInCall.keep,codeAny_func ?_⟩
 obtain ⟨t,ht,hq⟩:=hbody A outer s H vs Q E (hr.deeper _) hsp
 have I:Inv (qT CX P w K mg base N qual scope f cdv A outer s H E) [] (start N vs) H s1:=wz S hr.hd e0 hl r x
 refine wpAny_mono (ht [] s1 (start N vs) H _ I hq) (fun fl s' hs=>?_) fun e s' hs=>hs
 have fin:∀ {U':St} {H':Hp} {v:V} {u:Value},Inv (qT CX P w K mg base N qual scope f cdv A outer s H E) [] U' H' s'->RelV v u->Q v H'->CE outer P w H s Q u s':=
  fun {U' H' v u} J rv q=>⟨v,H',J.os,J.bare,J.base,J.hok,rv,q⟩
 cases fl with
 | ret u=>
  obtain ⟨v,U',H',J,rv,q⟩:=hs
  exact fin J rv q
 | next=>
  obtain ⟨U',H',J,q⟩:=hs
  exact fin (v:=V.non) (u:=Value.none) J rfl q
 | brk=>
  obtain ⟨_,_,_,q⟩:=hs
  exact False.elim q
 | cont=>
  obtain ⟨_,_,_,q⟩:=hs
  exact False.elim q
section
variable {X:Cx} {x:Str} {p pos:Pos} {e:Expr} {es:List Expr} {t:TA} {id T:String} {r:List V->Hp->VK->Prop}
def Ep (r:List V->Hp->VK->Prop) (t:TA):TE:=fun U H Q=>t U H fun vs H1=>r vs H1 Q
theorem xY (hc:CallR X (.builtin id) r) (hg:Gl X x) (hm:X.mg x=none) (hv:bootBuiltins x=some (.builtin id)) (ha:PA X (e :: es) t) (hn:autoParam (x≠"__name__") L2.auto2._auto_1) (hdb:autoParam ((x == ("__debug__":Str))=false) L2.auto2._auto_1)
  (he:autoParam (starEach (e :: es) X.env=(false,eval e X.env) :: starEach es X.env) L2.auto4._auto_1) (hpl:autoParam ((backTo pos (starEach es X.env)).any (·.1)=false) L2.auto4._auto_1):PE X (.Call (.Name x p) (e :: es) [] pos) (Ep r t):=by
 intro pins s U H Q I h
 refine wpAny_Call_Name_kw (mH I hg hm hv ?_ hn hdb)
 exact PyProof.Rows.callWith_builtin1 (dz (ha pos pins s U H _ I h) fun us s1 ⟨vs,H1,I1,r1,q1⟩=>hc pins s1 U H1 vs us Q I1 r1 q1) he hpl
theorem wA (hc:CallR X (.type T) r) (hg:Gl X x) (hm:X.mg x=none) (hv:bootBuiltins x=some (.type T)) (ha:PA X (e :: es) t) (hn:autoParam (x≠"__name__") L2.auto2._auto_1) (hdb:autoParam ((x == ("__debug__":Str))=false) L2.auto2._auto_1)
  (he:autoParam (starEach (e :: es) X.env=(false,eval e X.env) :: starEach es X.env) L2.auto4._auto_1) (hpl:autoParam ((backTo pos (starEach es X.env)).any (·.1)=false) L2.auto4._auto_1):PE X (.Call (.Name x p) (e :: es) [] pos) (Ep r t):=by
 intro pins s U H Q I h
 refine wpAny_Call_Name_kw (mH I hg hm hv ?_ hn hdb)
 exact PyProof.Rows.callWith_type1 (dz (ha pos pins s U H _ I h) fun us s1 ⟨vs,H1,I1,r1,q1⟩=>hc pins s1 U H1 vs us Q I1 r1 q1) he hpl
end
end L2
namespace HT
open PySem PyProof.Rows
section
open PySem.SeqAt
open PySem.AutoSeq1 (wpAny_loadPart')
open PySem.MeetsSeq PySem.MeetsSeq2 PySem.MeetsSeq3
end
section
variable {prog:Program} {w:World} {A:Around} {E:Value->Shared->Prop} {s:Shared}
def sIx (n d:Nat):Option Int->Nat
 | none=>d
 | some v=>if v < 0 then (v+(n:Int)).toNat else min v.toNat n
theorem sIx_none (n d:Nat):sIx n d none=d:=rfl
theorem sIx_nat (n d k:Nat):sIx n d (some (k:Int))=min k n:=by
 show (if (k:Int) < 0 then ((k:Int)+(n:Int)).toNat else min (k:Int).toNat n)=min k n
 rw [if_neg (by omega),Int.toNat_natCast]
theorem sIx_le (n d:Nat) (hd:d<=n) (o:Option Int):sIx n d o<=n:=by
 cases o with
 | none=>exact hd
 | some v=>
  show (if v < 0 then (v+(n:Int)).toNat else min v.toNat n)<=n
  by_cases hv:v < 0
  ·rw [if_pos hv];omega
  ·rw [if_neg hv];exact Nat.min_le_right _ _
theorem clip_eq (v:Int) (n d:Nat):(if v < 0 then max (v+(n:Int)) 0 else min v (n:Int))=((sIx n d (some v):Nat):Int):=by
 show (if v < 0 then max (v+(n:Int)) 0 else min v (n:Int))=(((if v < 0 then (v+(n:Int)).toNat else min v.toNat n):Nat):Int)
 by_cases hv:v < 0
 ·simp only [if_pos hv];omega
 ·simp only [if_neg hv];omega
theorem uH (lo hi:Option Int) (n:Nat):Builtin.Slice.sliceAdjust lo hi 1 (n:Int)=(((sIx n 0 lo:Nat):Int),((sIx n n hi:Nat):Int)):=by
 have h1:¬ ((1:Int) < 0):=by omega
 unfold Builtin.Slice.sliceAdjust
 simp only [h1,if_false]
 refine Prod.ext ?_ ?_
 ·cases lo with
  | none=>rfl
  | some v=>exact clip_eq v n 0
 ·cases hi with
  | none=>rfl
  | some v=>exact clip_eq v n n
theorem uI (i j:Nat):Builtin.Slice.slicePlaces (i:Int) (j:Int) 1=j - i:=by
 unfold Builtin.Slice.slicePlaces
 have h1:(1:Int) > 0:=by omega
 simp only [h1,if_true,Int.ediv_one]
 split <;> omega
theorem oW {v:Value} {o:Option Int} {Q:Option Int->Shared->Prop} (p:IsPart v o) (h:Q o s):wpAny (model prog w) A (Builtin.Slice.slicePartIndex v) Q E s:=by
 cases p with
 | none=>exact slicePart_none h
 | int i t=>exact slicePart_int h
theorem iQ {sl:Addr} {vl vu:Value} {lo hi:Option Int} {n:Nat} {Q:Int×Int×Nat->Shared->Prop} (hs:s.heap.IsSliceOf sl vl vu .none) (pl:IsPart vl lo) (pu:IsPart vu hi)
  (h:Q (((sIx n 0 lo:Nat):Int),1,sIx n n hi - sIx n 0 lo) s):wpAny (model prog w) A (Builtin.Slice.sliceApplied (.ref sl) (pure (n:Int))) Q E s:=by
 obtain ⟨os,hos,hcs,hds⟩:=id hs
 unfold Builtin.Slice.sliceApplied Builtin.Slice.sliceFields
 refine wpAny_bind (wpAny_bind (wpAny_field hos hds (x:=vl) rfl (wpAny_bind (wpAny_field hos hds (x:=vu) rfl (wpAny_bind (wpAny_field hos hds (x:=.none) rfl (wpAny_pure ?_)))))))
 refine wpAny_bind (slicePart_none ?_)
 show wpAny _ _ (if ((1:Int) == 0)=true then _ else _) _ _ s
 rw [if_neg (by decide)]
 refine wpAny_bind (oW pl (wpAny_bind (oW pu (wpAny_bind (wpAny_pure ?_)))))
 show wpAny _ _ (match Builtin.Slice.sliceAdjust lo hi 1 (n:Int) with | (lo,hi)=>pure (lo,(1:Int),Builtin.Slice.slicePlaces lo hi 1)) _ _ s
 rw [uH lo hi n]
 show wpAny _ _ (pure (((sIx n 0 lo:Nat):Int),(1:Int),Builtin.Slice.slicePlaces ((sIx n 0 lo:Nat):Int) ((sIx n n hi:Nat):Int) 1)) _ _ s
 rw [uI]
 exact wpAny_pure h
theorem xZ (xs:Array Value) (i k:Nat):((List.range k).filterMap fun (m:Nat)=>xs[((i:Int)+(m:Int)*1).toNat]?).toArray=((xs.toList.drop i).take k).toArray:=by
 have e:(fun (m:Nat)=>xs[((i:Int)+(m:Int)*1).toNat]?)=fun m=>xs[i+m]?:=by
  funext m
  have:((i:Int)+(m:Int)*1).toNat=i+m:=by omega
  rw [this]
 rw [e]
 have:=pick_run xs i k
 rw [List.filterMap_map] at this
 have e2:((fun x=>xs[x]?) ∘ fun x=>i+x)=fun m=>xs[i+m]?:=rfl
 rw [e2] at this
 rw [this]
theorem getItem_tuple_cut {t sl:Addr} {items:Array Value} {vl vu:Value} {lo hi:Option Int} {Q:Value->Shared->Prop} (ht:IsTup s.heap t items) (hs:s.heap.IsSliceOf sl vl vu .none) (pl:IsPart vl lo) (pu:IsPart vu hi)
  (hw:¬ (sIx items.size 0 lo=0/\sIx items.size items.size hi=items.size))
  (h:Q (.ref s.heap.objs.size) {s with heap:=s.heap.push {cls:=.type "tuple",data:=.seq ((items.toList.drop (sIx items.size 0 lo)).take (sIx items.size items.size hi - sIx items.size 0 lo)).toArray}})
  (hsz:items.size<=sizeLine):wpAny (model prog w) A (getItem (.ref t) (.ref sl)) Q E s:=by
 have htake:sizeOk (.seq ((items.toList.drop (sIx items.size 0 lo)).take (sIx items.size items.size hi - sIx items.size 0 lo)).toArray):=by
  show ((items.toList.drop (sIx items.size 0 lo)).take (sIx items.size items.size hi - sIx items.size 0 lo)).toArray.size<=sizeLine
  rw [List.size_toArray,List.length_take,List.length_drop,Array.length_toList]
  omega
 have hj:sIx items.size items.size hi<=items.size:=sIx_le _ _ (Nat.le_refl _) hi
 obtain ⟨os,hos,hcs,hds⟩:=id hs
 have hTs:s.TypeIs (.ref sl) "slice":=⟨os,hos,hcs⟩
 unfold getItem
 try with_reducible refine wpAny_holding ?_
 first | refine wpAny_bind (wpAny_pure ?_) | skip
 refine wpAny_bind (wpAny_sequenceKey ht.typeIs (by decide) ?_)
 refine wpAny_bind (wpAny_callSpecial?_slot (name:=Str.ofString "__getitem__") ht.typeIs PyProof.Rows.slot_tuple_getitem
  (wpAny_call_entry PyProof.Rows.slot_tuple_getitem ht.typeIs entry_tuple_getitem ?_ (args_tuple_getitem _ _)))
 show wpAny _ _ (Builtin.Tuple.tupleItemsOf (.ref t) >>=_) _ _ s
 refine wpAny_bind (tupleItemsOf_ ht ?_)
 refine wpAny_bind (wpAny_typeOf hTs ?_)
 rw [if_pos (by decide)]
 refine wpAny_bind (iQ hs pl pu ?_)
 have hno:¬ ((((sIx items.size 0 lo:Nat):Int) == 0 && (1:Int) == 1 && (sIx items.size items.size hi - sIx items.size 0 lo) == items.size)=true):=by
  intro q
  rw [Bool.and_eq_true,Bool.and_eq_true] at q
  have q1:((sIx items.size 0 lo:Nat):Int)=0:=eq_of_beq q.1.1
  have q2:sIx items.size items.size hi - sIx items.size 0 lo=items.size:=eq_of_beq q.2
  exact hw ⟨by omega,by omega⟩
 show wpAny _ _ (if (((sIx items.size 0 lo:Nat):Int) == 0 && (1:Int) == 1 && (sIx items.size items.size hi - sIx items.size 0 lo) == items.size)=true then _ else _) _ _ s
 rw [if_neg hno,xZ]
 first
  | exact wpAny_bind (m:=Builtin.Tuple.tupleExact _) (wpAny_newObj_type (wpAny_pure ⟨_,rfl,wpAny_pure h⟩) htake)
  | exact wpAny_bind (m:=Builtin.Tuple.tupleExact _) (wpAny_newObj_type (wpAny_bind (wpAny_pure (wpAny_pure ⟨_,rfl,wpAny_pure h⟩))) htake)
  | exact wpAny_bind (wpAny_bind (m:=Builtin.Tuple.tupleExact _) (wpAny_newObj_type (wpAny_pure (wpAny_pure ⟨_,rfl,wpAny_pure h⟩)) htake))
  | exact wpAny_bind (wpAny_bind (m:=Builtin.Tuple.tupleExact _) (wpAny_newObj_type (wpAny_pure ⟨_,rfl,wpAny_pure h⟩) htake))
end
end HT
namespace L2
open PySem PySem.Spec PyProof.Rows
abbrev TO:=St->Hp->(Option Int->Hp->Prop)->Prop
def PO (X:Cx) (e:Option Expr) (t:TO):Prop:=
 ∀ (pins:List (Addr×Obj)) (s:Shared) (U:St) (H:Hp) (Q:Option Int->Hp->Prop),Inv X pins U H s->t U H Q->
  wpAny (model X.prog X.w) X.A (evalPart e X.env) (fun u s'=>∃ o H',Inv X pins U H' s'/\IsPart u o/\Q o H') X.xe s
def qU:TO:=fun _ H Q=>Q none H
def yc (t:TE):TO:=fun U H Q=>t U H fun x H1=>∃ i,x= .int i/\Q (some i) H1
theorem intsAre_of {ns:List Int}:∀ {us:List Value},Vals (ns.map V.int) us->IntsAre us ns:=by
 induction ns with
 | nil=>intro us r;rw [List.map_nil] at r;cases r;exact .nil
 | cons n ns ih=>
  intro us r
  rw [List.map_cons] at r
  cases r with
  | cons r1 r2=>
   obtain ⟨t,e⟩:=r1
   subst e
   exact .cons n t (ih r2)
section
variable {X:Cx} {e:Expr} {te:TE} {lo hi:Option Expr} {tl th:TO} {pos p2:Pos}
theorem Ad:PO X none qU:=by
 intro pins s U H Q I h
 rw [evalPart_none]
 exact wpAny_pure ⟨none,H,I,.none,h⟩
theorem Ae (h:PE X e te):PO X (some e) (yc te):=by
 intro pins s U H Q I hw
 rw [evalPart_some]
 refine dz (h pins s U H _ I hw) fun u s1 qq0=>?_
 obtain ⟨x,H1,I1,r1,q1⟩:=qq0
 obtain ⟨i,rfl,q⟩:=q1
 obtain ⟨t,rfl⟩:=r1
 exact ⟨some i,H1,I1,.int i t,q⟩
def SlR (X:Cx) (r:V->Option Int->Option Int->Hp->VK->Prop):Prop:=
 ∀ (pins:List (Addr×Obj)) (s:Shared) (U:St) (H:Hp) (x:V) (v vl vu:Value) (lo hi:Option Int) (sl:Addr) (Q:VK),Inv X pins U H s->RelV x v->s.heap.IsSliceOf sl vl vu .none->IsPart vl lo->IsPart vu hi->r x lo hi H Q->
  ∃ T id,typeLookup (.type T) "__getitem__"=pure (some (.builtin id))/\s.TypeIs v T/\wpAny (model X.prog X.w) X.A (getItem v (.ref sl)) (EP X pins U Q) X.xe s
theorem SlR.or {r r':V->Option Int->Option Int->Hp->VK->Prop} (h:SlR X r) (h':SlR X r'):SlR X (fun x lo hi H Q=>r x lo hi H Q\/r' x lo hi H Q):=by
 intro pins s U H x v vl vu lo hi sl Q I rx hs pl pu q
 rcases q with q | q
 ·exact h pins s U H x v vl vu lo hi sl Q I rx hs pl pu q
 ·exact h' pins s U H x v vl vu lo hi sl Q I rx hs pl pu q
def tSl (r:V->Option Int->Option Int->Hp->VK->Prop) (te:TE) (tl th:TO):TE:=fun U H Q=>te U H fun x H1=>tl U H1 fun l H2=>th U H2 fun u H3=>r x l u H3 Q
theorem yd {r:V->Option Int->Option Int->Hp->VK->Prop} (hr:SlR X r) (he:PE X e te) (hl:PO X lo tl) (hu:PO X hi th):PE X (.Subscript e (.Slice lo hi none p2) pos) (tSl r te tl th):=by
 intro pins s U H Q I h
 refine Subscript_ (dz (he pins s U H _ I h) fun v s1 qq0=>?_)
 obtain ⟨x,H1,I1,r1,q1⟩:=qq0
 refine wpAny_Slice (dz (hl pins s1 U H1 _ I1 q1) fun vl s2 ⟨l,H2,I2,pl,q2⟩=>dz (hu pins s2 U H2 _ I2 q2) fun vu s3 qq0=>?_)
 obtain ⟨u,H3,I3,pu,q3⟩:=qq0
 rw [evalPart_none]
 refine wpAny_pure ?_
 have I4:Inv X pins U H3 {s3 with heap:=s3.heap.push {cls:=.type "slice",data:=.fields #[vl,vu,.none]}}:=I3.kept (t':=s3.toks) fun b ob q=>Heap.get?_push_of_some _ q
 obtain ⟨T,id,hT,ht,hg⟩:=hr pins {s3 with heap:=s3.heap.push {cls:=.type "slice",data:=.fields #[vl,vu,.none]}} U H3 x v vl vu l u s3.heap.objs.size Q I4 r1 (Heap.IsSliceOf.new ..) pl pu q3
 show wpAny (model X.prog X.w) X.A (subscriptTail e (.Slice lo hi none p2) v (.ref s3.heap.objs.size)) (EP X pins U Q) X.xe {s3 with heap:=s3.heap.push {cls:=.type "slice",data:=.fields #[vl,vu,.none]}}
 exact tail_any (ops:=[.ref s3.heap.objs.size,v]) ht hT hg (by with_unfolding_all rfl)
def lG (xs:List V) (lo hi:Option Int):List V:=(xs.drop (HT.sIx xs.length 0 lo)).take (HT.sIx xs.length xs.length hi - HT.sIx xs.length 0 lo)
theorem mZ (xs:List V) (lo hi:Option Int):(lG xs lo hi).length<=xs.length:=by
 unfold lG
 rw [List.length_take,List.length_drop]
 omega
def Ig (K:W.Frag):V->Option Int->Option Int->Hp->VK->Prop:=fun x lo hi H Q=>∃ a xs,x= .ref a/\SqT K H a xs/\
 ¬ (HT.sIx xs.length 0 lo=0/\HT.sIx xs.length xs.length hi=xs.length)/\∀ p,H p=none->Q (.ref p) (upd H p (.tup (lG xs lo hi)))
theorem Er:SlR X (Ig X.K):=by
 intro pins s U H x v vl vu lo hi sl Q I rx hs pl pu h
 obtain ⟨a,xs,rfl,hx,hw,q⟩:=h
 cases rx
 obtain ⟨its,r,ht,hz⟩:=I.tuple hx
 have hlen:its.toArray.size=xs.length:=by rw [List.size_toArray];exact r.length.symm
 refine ⟨"tuple",_,PyProof.Rows.slot_tuple_getitem.lookup,ht.typeIs,?_⟩
 refine HT.getItem_tuple_cut ht hs pl pu (by rw [hlen];exact hw) ?_ (by rw [hlen];exact hz)
 rw [hlen]
 refine ⟨.ref s.heap.objs.size,_,I.laid (t':=s.toks) (o:=.tup (lG xs lo hi)) (fun b ob q=>Heap.get?_push_of_some _ q) (Nat.le_refl _) ?_,rfl,q _ (I.hok.fresh (Nat.le_refl _))⟩
 exact ⟨Nat.le_trans (mZ xs lo hi) hz,_,(r.drop (HT.sIx xs.length 0 lo)).take (HT.sIx xs.length xs.length hi - HT.sIx xs.length 0 lo),IsTup.new _ _⟩
end
def Hw (n:Nat) (i:Int):Option Nat:=if 0<=i then (if i < n then some i.toNat else none) else if -(n:Int)<=i then some (i+n).toNat else none
def vp {α:Type} (xs:List α) (i:Int):Option α:=(Hw xs.length i).bind fun j=>xs[j]?
theorem Af {n:Nat} {i:Int} {j:Nat} (h:Hw n i=some j):seqIndex? i n=some j/\j < n/\-(n:Int)<=i/\i < n:=by
 unfold Hw at h
 by_cases h0:0<=i
 ·rw [if_pos h0] at h
  by_cases h1:i < n
  ·rw [if_pos h1] at h
   have e:i.toNat=j:=Option.some.inj h
   exact ⟨by rw [seqIndex_of h0 h1,e],by omega,by omega,h1⟩
  ·rw [if_neg h1] at h;cases h
 ·rw [if_neg h0] at h
  by_cases h1: -(n:Int)<=i
  ·rw [if_pos h1] at h
   have e:(i+n).toNat=j:=Option.some.inj h
   exact ⟨by rw [seqIndex_neg (by omega) h1,e],by omega,h1,by omega⟩
  ·rw [if_neg h1] at h;cases h
theorem qW {α:Type} {xs:List α} {i:Int} {v:α} (h:vp xs i=some v):∃ j,seqIndex? i xs.length=some j/\xs[j]?=some v/\j < xs.length/\-(xs.length:Int)<=i/\i < xs.length:=by
 unfold vp at h
 cases e:Hw xs.length i with
 | none=>rw [e] at h;cases h
 | some j=>
  rw [e] at h
  obtain ⟨h1,h2,h3,h4⟩:=Af e
  exact ⟨j,h1,h,h2,h3,h4⟩
theorem dZ {α:Type} {xs:List α} {j:Nat} {v:α} (h:xs[j]?=some v):vp xs (j:Int)=some v:=by
 have hj:j < xs.length:=(List.getElem?_eq_some_iff.mp h).1
 have e:Hw xs.length (j:Int)=some j:=by
  unfold Hw
  rw [if_pos (by omega),if_pos (by omega)];simp
 unfold vp;rw [e];exact h
def vq (b:Expr):Prop:=∀ o i,subscripted b false o i=operate [o,i] (getItem o i)
def IxR (X:Cx) (r:R2):Prop:=
 ∀ (value slice:Expr) (pins:List (Addr×Obj)) (s:Shared) (U:St) (H:Hp) (x y:V) (v u:Value) (Q:VK),Inv X pins U H s->RelV x v->RelV y u->r x y H Q->
  subscripted slice false v u=operate [v,u] (getItem v u)->wpAny (model X.prog X.w) X.A (subscriptTail value slice v u) (EP X pins U Q) X.xe s
def Es (X:Cx) (id:String) (r:V->List V->Hp->VK->Prop):Prop:=
 ∀ (pins:List (Addr×Obj)) (s:Shared) (U:St) (H:Hp) (x:V) (xs:List V) (v:Value) (us:List Value) (Q:VK),Inv X pins U H s->RelV x v->Vals xs us->r x xs H Q->
  wpAny (model X.prog X.w) X.A (call (.builtin id) (v :: us)) (EP X pins U Q) X.xe s
section
variable {X:Cx} {a b:Expr} {ta tb:TE} {pos:Pos}
theorem IxR.or {r r':R2} (h:IxR X r) (h':IxR X r'):IxR X (fun x y H Q=>r x y H Q\/r' x y H Q):=by
 intro value slice pins s U H x y v u Q I rx ry q hs
 rcases q with q | q
 ·exact h value slice pins s U H x y v u Q I rx ry q hs
 ·exact h' value slice pins s U H x y v u Q I rx ry q hs
theorem Ih {r:R2} (hr:IxR X r) (ha:PE X a ta) (hb:PE X b tb) (hs:vq b):PE X (.Subscript a b pos) (zN r ta tb):=by
 intro pins s U H Q I h
 exact Subscript_ (Ec ha hb I h fun v u s2 x y H2 I2 rx ry q=>hr a b pins s2 U H2 x y v u Q I2 rx ry q (hs _ _))
def Ii (K:W.Frag):R2:=fun x y H Q=>∃ p xs i v,x= .ref p/\y= .int i/\SqL K H p xs/\vp xs i=some v/\Q v H
def Ij (K:W.Frag):R2:=fun x y H Q=>∃ p xs i v,x= .ref p/\y= .int i/\SqT K H p xs/\vp xs i=some v/\Q v H
def Ik:R2:=fun x y H Q=>∃ z i c,x= .str z/\y= .int i/\z.length<=sizeLine/\vp z.cps.toList i=some c/\Q (.str ⟨#[c]⟩) H
theorem Ag:IxR X (Ii X.K):=by
 intro value slice pins s U H x y v u Q I rx ry h hs
 obtain ⟨p,xs,i,z,rfl,rfl,hq,he,q⟩:=h
 cases rx
 obtain ⟨t,rfl⟩:=ry
 obtain ⟨its,r,pl,hz⟩:=I.list hq
 obtain ⟨j,h1,h2,h3,h4,h5⟩:=qW he
 obtain ⟨w,ew,rw'⟩:=r.get h2
 have hl:=r.length
 have hn:=qR
 have fin:EP X pins U Q w s:=⟨z,H,I,rw',q⟩
 by_cases h0:0<=i
 ·have hj:i.toNat=j:=by
   rw [seqIndex_of h0 h5] at h1
   exact Option.some.inj h1
  exact item_listR pl.isList h0 (by omega) (by rw [hj];simpa using ew) fin hs
 ·have hj:(i+(its.toArray.size:Int)).toNat=j:=by
   rw [seqIndex_neg (by omega) h4] at h1
   rw [List.size_toArray,← hl]
   exact Option.some.inj h1
  exact subscriptTail_builtinR (x:=w) pl.isList.typeIs slot_list_getitem.lookup
   (wpAny_getItem_list_neg (Q:=fun r s'=>r=w/\EP X pins U Q r s') pl.isList (by omega) (by rw [List.size_toArray] <;> omega) (by omega) (by rw [hj];simpa using ew) ⟨rfl,fin⟩) hs
theorem Et:IxR X (Ij X.K):=by
 intro value slice pins s U H x y v u Q I rx ry h hs
 obtain ⟨p,xs,i,z,rfl,rfl,hq,he,q⟩:=h
 cases rx
 obtain ⟨t,rfl⟩:=ry
 obtain ⟨its,r,pl,hz⟩:=I.tuple hq
 obtain ⟨j,h1,h2,h3,h4,h5⟩:=qW he
 obtain ⟨w,ew,rw'⟩:=r.get h2
 have hl:=r.length
 have hn:=qR
 have fin:EP X pins U Q w s:=⟨z,H,I,rw',q⟩
 exact subscriptTail_builtinR (x:=w) pl.typeIs slot_tuple_getitem.lookup
  (getItem_tuple (j:=j) (Q:=fun r s'=>r=w/\EP X pins U Q r s') pl (by omega) (by omega) (by rw [List.size_toArray,← hl];exact h1) (by simpa using ew) ⟨rfl,fin⟩) hs
theorem Eu:IxR X Ik:=by
 intro value slice pins s U H x y v u Q I rx ry h hs
 obtain ⟨z,i,c,rfl,rfl,hz,he,q⟩:=h
 obtain ⟨t,rfl⟩:=rx
 obtain ⟨t',rfl⟩:=ry
 obtain ⟨j,h1,h2,h3,h4,h5⟩:=qW he
 have hl:z.cps.toList.length=z.length:=by simp [Str.length]
 rw [hl] at h1 h4 h5
 have hn:=qR
 exact tail_any (typeIs_str s z t) slot_str_getitem.lookup (getItem_str (c:=c) (by
  have e1:decide (i < -(2 ^ 63:Int))=false:=decide_eq_false (by omega)
  have e2:decide (i>=2 ^ 63)=false:=decide_eq_false (by omega)
  rw [e1,e2,Bool.or_false]) (by rw [h1];simpa using h2) ⟨.str ⟨#[c]⟩,H,I.tok _,⟨_,rfl⟩,q⟩) hs
def Ew (K:W.Frag):R2:=fun x y H Q=>Ii K x y H Q\/Ij K x y H Q\/Ik x y H Q
theorem Ex:IxR X (Ew X.K):=Ag.or (Et.or Eu)
theorem qX (lo hi:Option Int) (n:Nat):(sliceBounds lo hi none n).1=((HT.sIx n 0 lo:Nat):Int)/\(sliceBounds lo hi none n).2.1=((HT.sIx n n hi:Nat):Int)/\(sliceBounds lo hi none n).2.2=1:=by
 refine ⟨?_,?_,rfl⟩
 ·cases lo with
  | none=>simp [sliceBounds,HT.sIx]
  | some i=>
   simp only [sliceBounds,HT.sIx,Option.getD_none,show (1:Int) > 0 by decide,if_true]
   by_cases h:i < 0
   ·simp only [h,if_true] <;> omega
   ·simp only [h,if_false] <;> omega
 ·cases hi with
  | none=>simp [sliceBounds,HT.sIx]
  | some i=>
   simp only [sliceBounds,HT.sIx,Option.getD_none,show (1:Int) > 0 by decide,if_true]
   by_cases h:i < 0
   ·simp only [h,if_true] <;> omega
   ·simp only [h,if_false] <;> omega
theorem pR (its:List Value) (lo hi:Option Int):slicePick its.toArray lo hi none=((its.drop (HT.sIx its.length 0 lo)).take (HT.sIx its.length its.length hi - HT.sIx its.length 0 lo)).toArray:=by
 obtain ⟨h1,h2,h3⟩:=qX lo hi its.toArray.size
 unfold slicePick
 rw [h1,h2,h3]
 simp only [sliceRange_one,pick_run,List.size_toArray] <;> rfl
def Il (K:W.Frag):V->Option Int->Option Int->Hp->VK->Prop:=fun x lo hi H Q=>∃ a xs,x= .ref a/\SqL K H a xs/\∀ p,H p=none->Q (.ref p) (upd H p (.lst (lG xs lo hi)))
theorem Ah:SlR X (Il X.K):=by
 intro pins s U H x v vl vu lo hi sl Q I rx hs pl pu h
 obtain ⟨a,xs,rfl,hx,q⟩:=h
 cases rx
 obtain ⟨its,r,ht,hz⟩:=I.list hx
 have hlen:=r.length
 refine ⟨"list",_,slot_list_getitem.lookup,ht.isList.typeIs,?_⟩
 refine wpAny_getItem_list_slice ht.isList hs pl pu .none (by simp) ?_ (by rw [List.size_toArray] <;> omega)
 rw [pR,← hlen]
 refine ⟨.ref s.heap.objs.size,_,I.laid (t':=s.toks) (o:=.lst (lG xs lo hi)) (fun b ob q=>Heap.get?_push_of_some _ q) (Nat.le_refl _) ?_,rfl,q _ (I.hok.fresh (Nat.le_refl _))⟩
 exact ⟨Nat.le_trans (mZ xs lo hi) hz,_,0,(r.drop (HT.sIx xs.length 0 lo)).take (HT.sIx xs.length xs.length hi - HT.sIx xs.length 0 lo),Heap.get?_push_size _ rfl⟩
def gK:V->Bool
 | .non=>true
 | .bl _=>true
 | .int _=>true
 | .str _=>true
 | _=>false
def vy:V->V->Bool
 | .non,.non=>true
 | .bl a,.bl b=>a == b
 | .bl a,.int b=>(if a then 1 else 0) == b
 | .int a,.bl b=>a == (if b then 1 else 0)
 | .int a,.int b=>a == b
 | .str a,.str b=>a == b
 | _,_=>false
theorem qY {A:Around} {s:Shared} {y x:V} {u v:Value} (ry:RelV y u) (rx:RelV x v) (fy:gK y=true) (fx:gK x=true):SeqAt.EqAt A s u v (vy y x):=by
 cases y with
 | non=>
  cases ry
  cases x with
  | non=>cases rx;exact SeqAt.EqAt.same _
  | bl b=>cases rx;exact SeqAt.EqAt.none_bool b
  | int b=>obtain ⟨t,rfl⟩:=rx;exact SeqAt.EqAt.none_int b t
  | str b=>obtain ⟨t,rfl⟩:=rx;exact SeqAt.EqAt.none_str b t
  | _=>exact absurd (show false=true from fx) Bool.false_ne_true
 | bl a=>
  cases ry
  cases x with
  | non=>cases rx;exact SeqAt.EqAt.bool_none a
  | bl b=>cases rx;exact SeqAt.EqAt.bool_bool a b
  | int b=>obtain ⟨t,rfl⟩:=rx;exact SeqAt.EqAt.bool_int a b t
  | str b=>obtain ⟨t,rfl⟩:=rx;exact SeqAt.EqAt.bool_str a b t
  | _=>exact absurd (show false=true from fx) Bool.false_ne_true
 | int a=>
  obtain ⟨t',rfl⟩:=ry
  cases x with
  | non=>cases rx;exact SeqAt.EqAt.int_none a t'
  | bl b=>cases rx;exact SeqAt.EqAt.int_bool a t' b
  | int b=>obtain ⟨t,rfl⟩:=rx;exact SeqAt.EqAt.int_int a t' b t
  | str b=>obtain ⟨t,rfl⟩:=rx;exact SeqAt.EqAt.int_str a t' b t
  | _=>exact absurd (show false=true from fx) Bool.false_ne_true
 | str a=>
  obtain ⟨t',rfl⟩:=ry
  cases x with
  | non=>cases rx;exact SeqAt.EqAt.str_none a t'
  | bl b=>cases rx;exact SeqAt.EqAt.str_bool a t' b
  | int b=>obtain ⟨t,rfl⟩:=rx;exact SeqAt.EqAt.str_int a t' b t
  | str b=>obtain ⟨t,rfl⟩:=rx;exact SeqAt.EqAt.str_str a t' b t
  | _=>exact absurd (show false=true from fx) Bool.false_ne_true
 | _=>exact absurd (show false=true from fy) Bool.false_ne_true
def Ai (x:V) (u:Value):Bool:=match u with
 | .none=>vy .non x
 | .bool b=>vy (.bl b) x
 | .int i _=>vy (.int i) x
 | .str z _=>vy (.str z) x
 | _=>false
theorem ye {x y:V} {u:Value} (r:RelV y u) (f:gK y=true):Ai x u=vy y x:=by
 cases y with
 | non=>cases r;rfl
 | bl b=>cases r;rfl
 | int i=>obtain ⟨t,rfl⟩:=r;rfl
 | str z=>obtain ⟨t,rfl⟩:=r;rfl
 | _=>exact absurd (show false=true from f) Bool.false_ne_true
theorem qZ {x:V}:∀ {xs:List V} {us:List Value},Vals xs us->xs.all gK=true->us.any (Ai x)=xs.any fun y=>vy y x
 | _,_,.nil,_=>rfl
 | y :: xs,u :: us,.cons r t,f=>by
  rw [List.all_cons,Bool.and_eq_true] at f
  rw [List.any_cons,List.any_cons,ye r f.1,qZ t f.2]
theorem oX {A:Around} {s:Shared} {x:V} {v:Value} (rx:RelV x v) (fx:gK x=true):∀ {xs:List V} {us:List Value},Vals xs us->xs.all gK=true->∀ u∈us,SeqAt.EqAt A s u v (Ai x u)
 | _,_,.nil,_=>fun u hu=>by cases hu
 | y :: xs,u :: us,.cons r t,f=>fun u' hu=>by
  rw [List.all_cons,Bool.and_eq_true] at f
  rcases List.mem_cons.mp hu with rfl | hu
  ·rw [ye r f.1];exact qY r rx f.1 fx
  ·exact oX rx fx t f.2 u' hu
def inV (x:V) (xs:List V):Bool:=xs.any fun y=>vy y x
def rIn (K:W.Frag) (neg:Bool):R2:=fun x y H Q=>∃ p xs,y= .ref p/\(SqL K H p xs\/SqT K H p xs)/\gK x=true/\xs.all gK=true/\Q (.bl (if neg then !inV x xs else inV x xs)) H
theorem wB:OpR X (compareOp .In) (rIn X.K false):=by
 intro pins s U H x y v u Q I rx ry h
 obtain ⟨p,xs,rfl,hq,fx,fs,q⟩:=h
 cases ry
 rcases hq with hq | hq
 ·obtain ⟨its,r,pl,hz⟩:=I.list hq
  refine SeqAt.in_listAt (Ai x) pl.isList (fun w hw=>oX rx fx r fs w (by simpa using hw)) ⟨.bl _,H,I,rfl,?_⟩
  rw [show its.toArray.any (Ai x)=its.any (Ai x) by simp,qZ r fs]
  exact q
 ·obtain ⟨its,r,pl,hz⟩:=I.tuple hq
  refine SeqAt.in_tupleAt (Ai x) pl (fun w hw=>oX rx fx r fs w (by simpa using hw)) ⟨.bl _,H,I,rfl,?_⟩
  rw [show its.toArray.any (Ai x)=its.any (Ai x) by simp,qZ r fs]
  exact q
theorem CallR.or {f:Value} {r r':List V->Hp->VK->Prop} (h:CallR X f r) (h':CallR X f r'):CallR X f (fun xs H Q=>r xs H Q\/r' xs H Q):=by
 intro pins s U H xs us Q I rs q
 rcases q with q | q
 ·exact h pins s U H xs us Q I rs q
 ·exact h' pins s U H xs us Q I rs q
theorem q9:CallR X (.type "list") (fun xs H Q=>∃ p ys,xs=[.ref p]/\(SqL X.K H p ys\/SqT X.K H p ys)/\∀ l,H l=none->Q (.ref l) (upd H l (.lst ys))):=by
 intro pins s U H xs us Q I r h
 obtain ⟨p,ys,rfl,hq,q⟩:=h
 obtain ⟨u,rfl,rx⟩:=vals1 r
 cases rx
 have fin:∀ (its:List Value),Vals ys its->ys.length<=sizeLine->∀ (h':Heap) (c':Nat),(∀ b o',s.heap.get? b=some o'->h'.get? b=some o')->
   h'.get? s.heap.objs.size=some {cls:=.type "list",dict:=none,data:=.seq its.toArray c',slots:=#[]}->EP X pins U Q (.ref s.heap.objs.size) {s with heap:=h'}:=fun its r' hz h' c' kp e=>
  ⟨.ref s.heap.objs.size,_,I.laid (t':=s.toks) kp (Nat.le_refl _) (show ObjOk X.prog X.w _ h' _ (.lst ys) from ⟨hz,its,c',r',e⟩),rfl,q _ (I.hok.fresh (Nat.le_refl _))⟩
 rcases hq with hq | hq
 ·obtain ⟨its,r',pl,hz⟩:=I.list hq
  have hlen:=r'.length
  obtain ⟨o,ho,hc,n,hd⟩:=pl.isList
  exact call_list_seq p (.inl rfl) ho hc hd (fun h' c' kp e=>fin its r' hz h' c' kp e) (by simp only [List.size_toArray] <;> omega)
 ·obtain ⟨its,r',pl,hz⟩:=I.tuple hq
  have hlen:=r'.length
  obtain ⟨o,ho,hc,n,hd⟩:=pl
  exact call_list_seq p (.inr rfl) ho hc hd (fun h' c' kp e=>fin its r' hz h' c' kp e) (by simp only [List.size_toArray] <;> omega)
theorem pU:CallR X (.type "tuple") (fun xs H Q=>∃ p ys,xs=[.ref p]/\((SqL X.K H p ys/\∀ l,H l=none->Q (.ref l) (upd H l (.tup ys)))\/(SqT X.K H p ys/\Q (.ref p) H))):=by
 intro pins s U H xs us Q I r h
 obtain ⟨p,ys,rfl,h⟩:=h
 obtain ⟨u,rfl,rx⟩:=vals1 r
 cases rx
 rcases h with ⟨hq,q⟩ | ⟨hq,q⟩
 ·obtain ⟨its,r',pl,hz⟩:=I.list hq
  have hlen:=r'.length
  refine call_tuple_list pl.isList (fun h' kp=>?_) (by simp only [List.size_toArray] <;> omega)
  have I1:Inv X pins U H {s with heap:=h'}:=I.kept (t':=s.toks) kp
  have I2:Inv X pins U (upd H h'.objs.size (.tup ys)) {s with heap:=h'.push {cls:=.type "tuple",data:=.seq its.toArray}}:=
   I1.laid (t':=s.toks) (fun b o e=>Heap.get?_push_of_some _ e) (Nat.le_refl _) (show ObjOk X.prog X.w _ _ _ (.tup ys) from ⟨hz,its,r',IsTup.new _ _⟩)
  exact ⟨.ref h'.objs.size,_,I2,rfl,q _ (I1.hok.fresh (Nat.le_refl _))⟩
 ·obtain ⟨its,r',pl,hz⟩:=I.tuple hq
  exact call_tuple_same pl ⟨.ref p,H,I,rfl,q⟩
def tyV (K:W.Frag) (T:String) (x:V) (H:Hp):Prop:=match x with
 | .str _=>T="str"
 | .int _=>T="int"
 | .ref p=>(T="list"/\∃ xs,SqL K H p xs)\/(T="tuple"/\∃ o,K.lookup p=some o/\o.cls= .type "tuple"/\o.dict=none)\/
   (T="dict"/\((∃ kvs,H p=some (.dK kvs))\/∃ kvs,H p=some (.dT kvs)))\/(T="set"/\∃ S n,H p=some (.set S n))
 | _=>False
theorem Ey {pins:List (Addr×Obj)} {U:St} {H:Hp} {s:Shared} {T:String} {x:V} {v:Value} (I:Inv X pins U H s) (r:RelV x v) (ty:tyV X.K T x H):
  s.TypeIs v T/\∀ a,v= .ref a->∃ ob,s.heap.get? a=some ob/\ob.dict=none:=by
 cases x with
 | str z=>
  obtain ⟨t,rfl⟩:=r
  cases (show T="str" from ty)
  exact ⟨typeIs_str s z t,fun _ e=>nomatch e⟩
 | int i=>
  obtain ⟨t,rfl⟩:=r
  cases (show T="int" from ty)
  exact ⟨typeIs_int s i t,fun _ e=>nomatch e⟩
 | ref p=>
  cases r
  rcases ty with ⟨rfl,xs,hq⟩ | ⟨rfl,o,hk,hc,hd⟩ | ⟨rfl,hk⟩ | ⟨rfl,S,n,hk⟩
  ·obtain ⟨its,_,pl,_⟩:=I.list hq
   refine ⟨pl.isList.typeIs,fun a e=>?_⟩
   cases e
   obtain ⟨o,n,e,c,hd,_⟩:=pl
   exact ⟨o,e,hd⟩
  ·refine ⟨⟨o,I.kIn p o hk,hc⟩,fun a e=>?_⟩
   cases e
   exact ⟨o,I.kIn _ o hk,hd⟩
  ·have z:∃ o,s.heap.get? p=some o/\o.ExactDict:=by
    rcases hk with ⟨kvs,hk⟩ | ⟨kvs,hk⟩
    ·obtain ⟨_,_,_,_,o,_,_,e,ex,_⟩:=I.hok p _ hk
     exact ⟨o,e,ex⟩
    ·obtain ⟨_,_,_,_,o,_,_,e,ex,_⟩:=I.hok p _ hk
     exact ⟨o,e,ex⟩
   obtain ⟨o,e,ex⟩:=z
   refine ⟨⟨o,e,ex.1⟩,fun a e2=>?_⟩
   cases e2
   exact ⟨o,e,ex.2.1⟩
  ·obtain ⟨o,_,_,_,e,ex,_⟩:=I.hok p _ hk
   refine ⟨⟨o,e,ex.1⟩,fun a e2=>?_⟩
   cases e2
   exact ⟨o,e,ex.2.1⟩
 | _=>exact False.elim ty
def Im (K:W.Frag) (T:String) (r:V->List V->Hp->VK->Prop) (to:TE) (t:TA):TE:=fun U H Q=>to U H fun x H1=>tyV K T x H1/\t U H1 fun xs H2=>r x xs H2 Q
variable {o e:Expr} {es:List Expr} {to:TE} {t:TA} {name:Str} {apos cpos:Pos} {T id:String} {r:V->List V->Hp->VK->Prop}
theorem Io (pa:PlainAttrs T) (slot:Slot T name id) (hty:typeOf (.builtin id)=pure (.type "method_descriptor")) (hm:Es X id r) (ho:PE X o to) (ha:PA X (e :: es) t)
  (hbase:autoParam (attributeBase o name X.env (eval o X.env)=eval o X.env) L2.auto4._auto_1)
  (hfew:((backTo cpos (starEach (e :: es) X.env)).all (fun x=>!x.1) && (backToKw cpos (keywordEach [] X.env)).all (fun x=>x.1.isSome)
   && decide ((e :: es).length+([]:List Keyword).length+(if ([]:List Keyword).isEmpty then 0 else 1) < 30))=true:=by rfl)
  (hline:autoParam ((apos.endLine == cpos.line)=true) L2.auto4._auto_1) (hs:autoParam (starEach (e :: es) X.env=(false,eval e X.env) :: starEach es X.env) L2.auto4._auto_1) (hplain:autoParam ((backTo cpos (starEach es X.env)).any (·.1)=false) L2.auto4._auto_1):
  PE X (.Call (.Attribute o name apos) (e :: es) [] cpos) (Im X.K T r to t):=by
 intro pins s U H Q I h
 refine wpAny_Call_method_late hbase hfew hline rfl (dz (ho pins s U H _ I h) fun v s1 qq0=>?_)
 obtain ⟨x,H1,I1,r1,ty,q1⟩:=qq0
 obtain ⟨h1,h2⟩:=Ey I1 r1 ty
 refine ⟨T,id,pa,slot,hty,h1,h2,?_⟩
 have hA:=ha cpos pins s1 U H1 _ I1 q1
 rw [hs] at hA ⊢
 refine Calls.callWith_builtin (by show (false || (backTo cpos (starEach es X.env)).any (·.1))=false;rw [hplain] <;> rfl) (Calls.evalArgs_plain ?_)
 exact dz hA fun us s2 ⟨vs,H2,I2,r2,q2⟩=>hm pins s2 U H2 x vs v us Q I2 r1 r2 q2
end
def MtM (X:Cx) (id:String) (r:V->List V->Hp->VK->Prop):Prop:=
 ∀ (pins:List (Addr×Obj)) (s:Shared) (U:St) (H:Hp) (x:V) (xs:List V) (v:Value) (us:List Value) (Q:VK),Inv X pins U H s->RelV x v->Vals xs us->r x xs H Q->
  wpAny (model X.prog X.w) X.A (call (.builtin id) (v :: us)) (EP X pins U Q) X.xe s
theorem Vals.one:∀ {x:V} {us:List Value},Vals [x] us->∃ u,us=[u]/\RelV x u
 | _,_,.cons r .nil=>⟨_,rfl,r⟩
theorem Vals.rep {xs:List V} {us:List Value} (h:Vals xs us):∀ k:Nat,Vals (List.replicate k xs).flatten (List.replicate k us).flatten
 | 0=>.nil
 | k+1=>by
  rw [List.replicate_succ,List.replicate_succ,List.flatten_cons,List.flatten_cons]
  exact Vals.append h (Vals.rep h k)
theorem foldl_rep (its:List Value):∀ (k:Nat) (acc:List Value),
  List.foldl (fun x1 x2=>x1 ++ x2) acc.toArray (List.replicate k its.toArray)=(acc ++ (List.replicate k its).flatten).toArray
 | 0,acc=>by simp
 | k+1,acc=>by
  have e:acc.toArray ++ its.toArray=(acc ++ its).toArray:=by simp
  have e2:(acc ++ its) ++ (List.replicate k its).flatten=acc ++ (List.replicate (k+1) its).flatten:=by
   rw [List.replicate_succ,List.flatten_cons,List.append_assoc]
  rw [← e2,← foldl_rep its k (acc ++ its),← e,List.replicate_succ,List.foldl_cons]
section
variable {X:Cx} {pins:List (Addr×Obj)} {U:St} {H:Hp} {s:Shared} {l b:Addr} {xs ys zs:List V}
theorem Inv.lset {its its':List Value} {n:Nat} {f:Array Value->Array Value} {t':Nat} (I:Inv X pins U H s) (hH:H l=some (.lst xs))
  (e:s.heap.get? l=some {cls:=.type "list",data:=.seq its.toArray n}) (hf:f its.toArray=its'.toArray) (hv:Vals ys its') (hz:ys.length<=sizeLine):
  Inv X pins U (upd H l (.lst ys)) {s with heap:=s.heap.update l (Obj.mapSeq f),toks:=t'}:=by
 have q:=PySem.IsL.update e f
 rw [hf] at q
 refine I.write (x:=l) (e:=l) (by rw [hH];exact trivial) (.inl rfl) (fun b' u hb hu=>(Heap.get?_update_other s.heap (Obj.mapSeq f) (Ne.symm hb)).trans hu) ⟨_,q⟩ ?_
 exact ⟨hz,its',_,hv,q⟩
theorem Inv.lnew {its:List Value} {t':Nat} (I:Inv X pins U H s) (hv:Vals ys its) (hz:ys.length<=sizeLine):
  Inv X pins U (upd H s.heap.objs.size (.lst ys)) {s with heap:=s.heap.push {cls:=.type "list",data:=.seq its.toArray},toks:=t'}:=
 I.laid (fun _ _ q=>Heap.get?_push_of_some _ q) (Nat.le_refl _) ⟨hz,its,0,hv,Heap.get?_push_size _ rfl⟩
theorem Inv.fresh (I:Inv X pins U H s):H s.heap.objs.size=none:=I.hok.fresh (Nat.le_refl _)
theorem Inv.lstM (I:Inv X pins U H s) (hH:H l=some (.lst xs)):xs.length<=sizeLine/\∃ (its:List Value) (n:Nat),Vals xs its/\xs.length=its.length/\s.heap.get? l=some {cls:=.type "list",data:=.seq its.toArray n}:=by
 obtain ⟨z,its,n,r,e⟩:=I.hok l _ hH
 exact ⟨z,its,n,r,r.length,e⟩
theorem yf {n:Nat} (h:n<=sizeLine):Builtin.List.listTooLong n=false:=by
 unfold Builtin.List.listTooLong
 exact decide_eq_false (by omega)
end
section
variable {X:Cx}
def vz:V->List V->Hp->VK->Prop:=fun x vs H Q=>∃ l xs y,x= .ref l/\vs=[y]/\H l=some (.lst xs)/\xs.length < sizeLine/\Q .non (upd H l (.lst (xs ++ [y])))
theorem eO:MtM X "list.append" vz:=by
 intro pins s U H x vs v us Q I rx rv h
 obtain ⟨l,xs,y,rfl,rfl,hH,hz,q⟩:=h
 cases rx
 obtain ⟨u,rfl,ru⟩:=rv.one
 obtain ⟨z,its,n,r,hl,e⟩:=I.lstM hH
 refine call_meets F.slot_list_append ⟨_,e,rfl⟩ F.entry_list_append (F.args_list_append_2 _ _) (PySem.list_append l its.toArray n u (by rw [List.size_toArray];omega)) ⟨e,?_⟩
 refine ⟨.non,_,I.lset (its':=its ++ [u]) hH e (by simp) (r.append (.cons ru .nil)) ?_,rfl,q⟩
 rw [List.length_append,List.length_singleton]
 omega
def Ip:R2:=fun x y H Q=>∃ l b xs zs,x= .ref l/\y= .ref b/\H l=some (.lst xs)/\H b=some (.lst zs)/\xs.length+zs.length<=sizeLine/\∀ p,H p=none->Q (.ref p) (upd H p (.lst (xs ++ zs)))
theorem Ez:OpR X (binaryOp .Add) Ip:=by
 intro pins s U H x y v u Q I rx ry h
 obtain ⟨l,b,xs,zs,rfl,rfl,hH,hB,hz,q⟩:=h
 cases rx
 cases ry
 obtain ⟨z,its,n,r,hl,e⟩:=I.lstM hH
 obtain ⟨z2,its2,n2,r2,hl2,e2⟩:=I.lstM hB
 refine PySem.P.add_list e e2 ?_ (by rw [List.size_toArray,List.size_toArray];omega)
 have ea:its.toArray ++ its2.toArray=(its ++ its2).toArray:=by simp
 rw [ea]
 exact ⟨.ref _,_,I.lnew (t':=s.toks) (r.append r2) (by rw [List.length_append];omega),rfl,q _ I.fresh⟩
def Ir:R2:=fun x y H Q=>∃ l k xs,x= .ref l/\y= .int k/\H l=some (.lst xs)/\-(2 ^ 63)<=k/\k < 2 ^ 63/\xs.length*k.toNat<=sizeLine/\
 ∀ p,H p=none->Q (.ref p) (upd H p (.lst (List.replicate k.toNat xs).flatten))
theorem len_rep {α:Type} (xs:List α) (k:Nat):(List.replicate k xs).flatten.length=k*xs.length:=by
 induction k with
 | zero=>simp
 | succ k ih=>rw [List.replicate_succ,List.flatten_cons,List.length_append,ih,Nat.succ_mul,Nat.add_comm]
theorem EY:OpR X (binaryOp .Mult) Ir:=by
 intro pins s U H x y v u Q I rx ry h
 obtain ⟨l,k,xs,rfl,rfl,hH,h1,h2,hz,q⟩:=h
 cases rx
 obtain ⟨t,rfl⟩:=ry
 obtain ⟨z,its,n,r,hl,e⟩:=I.lstM hH
 have hlen:its.toArray.size*k.toNat<=sizeLine:=by rw [List.size_toArray,← hl];exact hz
 have hcap:¬ its.toArray.size*k.toNat > (2 ^ 63 - 1) / 8:=by
  have:(sizeLine:Nat)<=(2 ^ 63 - 1) / 8:=by decide
  omega
 have hfit:¬ (!Builtin.List.listFitsIndex k)=true:=by
  rw [fitsIndex_both h1 h2]
  exact Bool.false_ne_true
 have hlong:¬ Builtin.List.listTooLong (its.toArray.size*k.toNat)=true:=by
  rw [yf hlen]
  exact Bool.false_ne_true
 have hnew:List.foldl (fun x1 x2=>x1 ++ x2) #[] (List.replicate (if its.toArray.isEmpty=true then 0 else k.toNat) its.toArray)=(List.replicate k.toNat its).flatten.toArray:=by
  have f0:∀ m:Nat,List.foldl (fun x1 x2=>x1 ++ x2) #[] (List.replicate m its.toArray)=(List.replicate m its).flatten.toArray:=fun m=>by
   have:=foldl_rep its m []
   rw [List.nil_append] at this
   exact this
  rw [f0]
  cases its with
  | nil=>simp
  | cons a r'=>rw [if_neg (by simp)]
 refine wpAny_binaryOp_repeat_ref (T:="list") (U:="int") (by decide) ⟨_,e,rfl⟩ (fun s'=>typeIs_int s' k t) noFill_list_mul F.fills_int_mul F.slot_int_rmul repeat_list F.slot_int_index.lookup
  (call_meets F.slot_int_rmul (typeIs_int s k t) F.entry_int_rmul (F.args_int_rmul_2 _ _) (int___rmul___int_list k t l its.toArray n)
   ⟨e,rfl,⟨_,e,rfl⟩,call_meets F.slot_list_mul ⟨_,e,rfl⟩ F.entry_list_mul (F.args_list_mul_2 _ _) (AutoListH.list___mul___list_int_3 l its.toArray n k t hfit hcap hlong) ⟨e,?_⟩⟩)
 rw [hnew]
 exact ⟨.ref _,_,I.lnew (t':=s.toks) (r.rep k.toNat) (by rw [len_rep,Nat.mul_comm];exact hz),rfl,q _ I.fresh⟩
end
end L2
namespace Att
open PySem PySem.W PySem.Calls PyProof.Rows
theorem m9 {P:Params} {h:Heap}:∀ (ns:List Int) (vs:List Value),WellAll P h vs (ns.map WData.int)->IntsAre vs ns:=by
 intro ns
 induction ns with
 | nil=>
  intro vs w
  rw [List.map_nil] at w
  cases w
  exact .nil
 | cons n ns ih=>
  intro vs w
  rw [List.map_cons] at w
  cases w with
  | cons a b=>
   cases a
   exact .cons _ _ (ih _ b)
theorem wC {l:OpenLaw} {n:Nat} (hn:l.most=some n) {P:Params} {h:Heap} {args:List WData} {vals:List Value}
  (hpre:l.row.toRowW.claim.pre args=true) (hwl:WellAll P h vals args):
  ∃ a vs ns,vals=[Value.ref a]/\args=[WData.list (ns.map WData.int)]/\h.get? a=some {cls:=.type "list",data:=.seq vs.toArray}/\IntsAre vs ns/\ns.length<=n:=by
 have hsh:WShape.hasAll [] args [.list .int]=true:=(pre_splitW hpre).1
 have hc:l.pre.holds [] {args:=args}=true:=(pre_splitW hpre).2
 obtain ⟨d,r,rfl,h1,h2⟩:=hasAllW_cons hsh
 obtain rfl:=hasAllW_nil h2
 obtain ⟨xs,rfl,h3⟩:=hasW_list h1
 obtain ⟨ns,rfl⟩:=items_int h3
 have hlen:ns.length<=n:=by
  unfold OpenLaw.pre at hc
  have h4:(WTm.not (.lt (.lit (.int (n:Int))) (.len (.arg 0)))).holds [] {args:=[.list (ns.map .int)]}=true:=by
   have h4:=(holds_andW hc).1
   rw [hn] at h4
   exact h4
  have h5:=condW_of h4 (w_not (w_lt w_lit (w_len_list (w_arg rfl))))
  rw [List.length_map] at h5
  refine Nat.le_of_not_lt fun q=>?_
  have q':(n:Int) < ((ns.length:Nat):Int):=by omega
  first
   | (rw [decide_eq_true q'] at h5;exact absurd h5 (by decide))
   | (simp at h5;omega)
 cases hwl with
 | cons w1 w2=>
  cases w2
  cases w1 with
  | list ho hall=>exact ⟨_,_,ns,rfl,rfl,ho,m9 ns _ hall,hlen⟩
theorem wD (l:OpenLaw) (args:List WData):l.row.toRowW.claim.post args (.bool true) args=true:=
 postW_of (r:=l.row.toRowW) (X:=(true == true))
  (show WShape.has [] (.bool true) .bool=true by first | rfl | decide | simp [WShape.has,WShape.arms,WShape.armsAll])
  (show (WTm.eq .res (.lit (.bool true))).value [] {args:=args,res:=some (.bool true),after:=args}=some (.bool (true == true)) from w_eq_bool (w_res rfl) w_lit) rfl
theorem attach_call {l:OpenLaw} {n:Nat} {q:Program} {loose:List Str} {XP:(Str->Option Value)->Heap->Prop} {YP:World->Heap->Prop} {d:DefRec}
  (hn:l.most=some n) (hdf:d.params.defaults=[])
  (call:∀ (w:World) (s₀ s₁:Shared) (mg mb:Str->Option Value) (fa:Addr) (o:Obj) (pm cd doc:Value) (a:Addr) (vs:List Value) (ns:List Int),
   Ground q loose [] XP w s₀ mg mb s₁.heap->YP w s₁.heap->
   s₁.heap.get? fa=some o->o.data= .func (docDef d.name d.params d.body d.scope pm cd doc)->s₁.heap.CodeRec cd d.name->mg d.name=some (.ref fa)->
   s₁.heap.get? a=some {cls:=.type "list",data:=.seq vs.toArray}->IntsAre vs ns->ns.length<=n->s₁.gens= #[]->
   codeAny (model l.prog w) callerA (.call (.ref fa) ⟨[.ref a],[]⟩) (fun r s'=>r= .ok (.ret (.bool true))/\OldK s₁.heap s'.heap/\s'.os=s₁.os/\AllBare s'.gens) s₁):
  WalkO q loose XP YP l.row.toRowW d [] (fun f vs=>PySem.call f vs):=by
 intro w s₀ s₁ mg mb G Y fa o pm cd doc dV kV ho hd hcd hD hmg hg args vals as hpre hlay hrd hwl hlo
 obtain rfl:dV= .none:=Dflts.none hD hdf
 obtain rfl:kV= .none:=Dflts.noKw hD
 obtain ⟨a,vs,ns,rfl,rfl,hobj,hints,hlen⟩:=wC hn hpre hwl
 refine enter_call (codeAny_mono (call w s₀ s₁ mg mb fa o pm cd doc a vs ns G Y ho (fd_plain hd) hcd hmg hobj hints hlen hg) fun r s' hq=>?_)
 obtain ⟨rfl,h2,h3,h4⟩:=hq
 exact ⟨.inl ⟨.bool true,.bool true,[],rfl,fun _=>rfl,.bool true,wD l _,fun _=>⟨List.Pairwise.nil,fun _ hm=>(nomatch hm)⟩⟩,h2,h3,h4⟩
end Att
namespace L2
open PySem PySem.Spec PyProof.Rows
theorem qx:∀ {vs:List Value} {ns:List Int},IntsAre vs ns->Vals (ns.map V.int) vs
 | _,_,.nil=>.nil
 | _,_,.cons n t h=>.cons ⟨t,rfl⟩ (qx h)
def Only (H:Hp):Prop:=∀ b,H b=none\/∃ o xs,H b=some (.frz o (.lst xs))
theorem yg {P:Program} {w:World} {K:W.Frag} {mg mb:Str->Option Value} {CX:xq} {k:Nat} {fa a:Addr} {fd:FuncData} {x:Str} {sp:Sp} {s₁:Shared} {vs:List Value} {ns:List Int}
  (KX:K.In s₁.heap) (hns:s₁.heap.Ns mainGlobals mg) (hb:s₁.heap.Ns builtinsNs mb) (hbb:∀ x:Str,x≠"__name__"->mb x=bootBuiltins x) (hlim:s₁.heap.NoLimit) (hsm:∃ mm,s₁.heap.Ns sysModules mm) (hg:s₁.gens= #[])
  (ha:s₁.heap.get? a=some {cls:=.type "list",data:=.seq vs.toArray}) (hi:IntsAre vs ns) (hl:ns.length<=sizeLine) (hr:Room k callerA)
  (F:∀ base:Heap,K.In base->base.Ns mainGlobals mg->FnOk P w K mg base CX k fa fd [x] sp) (hbind:∀ (s:Shared) (u:Value),BindsTo s fd ⟨[u],[]⟩ [(x,u)])
  (hsp:∀ H:Hp,Only H->SqL K H a (ns.map V.int)->sp [.ref a] H (fun v _=>v= .bl true) fun _ _ _=>False)
  (hCX:∀ H e s',CX [] H s₁ (fun _ _ _=>False) e s'->False):
  codeAny (model P w) callerA (.call (.ref fa) ⟨[.ref a],[]⟩) (fun r s'=>r= .ok (.ret (.bool true))/\OldK s₁.heap s'.heap/\s'.os=s₁.os/\AllBare s'.gens) s₁:=by
 have rv:=qx hi
 have lenV:=hi.length
 have core:∀ H:Hp,Only H->SqL K H a (ns.map V.int)->HOk P w H s₁.heap->(∀ b,H b≠none->b=a)->(H a≠none->K.lookup a=none)->
   codeAny (model P w) callerA (.call (.ref fa) ⟨[.ref a],[]⟩) (fun r s'=>r= .ok (.ret (.bool true))/\OldK s₁.heap s'.heap/\s'.os=s₁.os/\AllBare s'.gens) s₁:=by
  intro H hO hS hok hA hK
  have base_of:∀ {b:Addr} {o:Obj},s₁.heap.get? b=some o->H b=none->(qQ s₁.heap H).get? b=some o:=fun e n=>xF e n
  have noA:∀ {b:Addr} {o:Obj} {es:Array DictEntry} {ep:Nat},s₁.heap.get? b=some o->o.data= .dict es ep->H b=none:=fun {b o es ep} e d=>by
   cases q:H b with
   | none=>rfl
   | some u=>
    have e':b=a:=hA b (by rw [q];simp)
    subst e'
    rw [ha] at e;cases e
    have d':Data.seq vs.toArray _=Data.dict es ep:=d
    cases d'
  have nsK:∀ {b:Addr} {m:Str->Option Value},s₁.heap.Ns b m->(qQ s₁.heap H).Ns b m:=fun {b m} ⟨o,es,ep,e,d,r⟩=>⟨o,es,ep,base_of e (noA e d),d,r⟩
  have hKb:K.In (qQ s₁.heap H):=fun b o e=>base_of (KX b o e) (by
   cases q:H b with
   | none=>rfl
   | some u=>
    have e':b=a:=hA b (by rw [q];simp)
    subst e'
    rw [hK (by rw [q];simp)] at e;cases e)
  have hM:Mod K mg (qQ s₁.heap H):=⟨hKb,nsK hns,⟨mb,nsK hb,hbb⟩,(let ⟨mc,h1,h2⟩:=hlim;⟨mc,nsK h1,h2⟩),let ⟨mm,h1⟩:=hsm;⟨mm,nsK h1⟩⟩
  have e0:Ab P w K mg (qQ s₁.heap H) callerA [] s₁ H:=⟨rfl,hM,fun b o e=>zO e,Nat.le_of_eq (v4 _ _),trivial,fun b hb=>absurd (show b∈([]:List Addr) from hb) (by simp),hok,.of_eq hg⟩
  refine codeAny_mono ((F _ hKb (nsK hns)).run callerA [] s₁ H ⟨[.ref a],[]⟩ [.ref a] [.ref a] _ _ hr e0 (hbind s₁ (.ref a)) (.cons rfl .nil) (hsp H hO hS)) fun r s' h=>?_
  cases r with
  | error e=>exact (hCX H e s' h).elim
  | ok fl=>
   cases fl with
   | next=>exact False.elim h
   | brk=>exact False.elim h
   | cont=>exact False.elim h
   | ret u=>
    obtain ⟨v,H',os,bare,un,hok',r',q⟩:=h
    have q':v= .bl true:=q
    subst q'
    obtain rfl:u=Value.bool true:=r'
    refine ⟨rfl,OldK.of_keep fun b o e=>?_,os,bare⟩
    cases q:H b with
    | none=>exact un.keep b o e q (by intro z;exact absurd (show b∈([]:List Addr) from z) (by simp)) (by simp)
    | some u=>
     rcases hO b with z | ⟨ob,xs,z⟩
     ·rw [q] at z;cases z
     ·have z2:=un.frzs b ob _ z
      obtain ⟨e1,_⟩:=hok b _ z
      obtain ⟨e2,_⟩:=hok' b _ z2
      rw [e] at e1;cases e1
      exact e2
 cases hk:K.lookup a with
 | some o=>
  have e:=KX a o hk
  rw [ha] at e
  cases e
  refine core (fun _=>none) (fun _=>.inl rfl) (.inr ⟨_,vs.toArray,_,hk,rfl,rfl,rfl,by rw [List.size_toArray,lenV];exact hl,by simpa using rv⟩) (fun b u z=>by have z':(none:Option HO)=some u:=z;cases z') (fun b z=>absurd rfl z) fun z=>absurd rfl z
 | none=>
  refine core (fun b=>if b=a then some (.frz {cls:=.type "list",data:=.seq vs.toArray} (.lst (ns.map V.int))) else none) (fun b=>?_) (.inl (.inr ⟨{cls:=.type "list",data:=.seq vs.toArray},if_pos rfl⟩)) (fun b u z=>?_) (fun b z=>?_) fun _=>hk
  ·by_cases hb:b=a
   ·exact .inr ⟨_,_,if_pos hb⟩
   ·exact .inl (if_neg hb)
  ·by_cases hb:b=a
   ·have z':=(if_pos hb).symm.trans z
    cases z'
    subst hb
    exact ⟨ha,by rw [List.length_map];exact hl,vs,_,rv,ha⟩
   ·have z':=(if_neg hb).symm.trans z
    cases z'
  ·by_cases hb:b=a
   ·exact hb
   ·exact absurd (if_neg hb) z
abbrev KOf {K:W.Frag} {h:Heap} (_:K.In h):W.Frag:=K
theorem Aj {l:PySem.W.OpenLaw} {n k:Nat} {q:Program} {loose:List Str} {XP:(Str->Option Value)->Heap->Prop} {YP:World->Heap->Prop} {d:DefRec} {K:Params->W.Frag} {CX:World->xq} {sp:World->Sp} {x:Str}
  (hn:l.most=some n) (hn2:n<=sizeLine) (hdf:d.params.defaults=[]) (hr:Room k callerA)
  (hY:∀ (w:World) (h:Heap),YP w h->(K w.params).In h)
  (F:∀ (w:World) (mg:Str->Option Value) (fa:Addr) (h:Heap),(K w.params).In h->h.Ns mainGlobals mg->mg d.name=some (.ref fa)->
   ∃ fd:FuncData,(∀ (s:Shared) (u:Value),BindsTo s fd ⟨[u],[]⟩ [(x,u)])/\
    ∀ base:Heap,(K w.params).In base->base.Ns mainGlobals mg->FnOk l.prog w (K w.params) mg base (CX w) k fa fd [x] (sp w))
  (hsp:∀ (w:World) (H:Hp) (a:Addr) (ns:List Int),ns.length<=n->Only H->SqL (K w.params) H a (ns.map V.int)->sp w [.ref a] H (fun v _=>v= .bl true) fun _ _ _=>False)
  (hCX:∀ (w:World) (H:Hp) (s:Shared) (e:Value) (s':Shared),CX w [] H s (fun _ _ _=>False) e s'->False) (him:importsNone q=true):
  PySem.W.WalkO q loose XP YP l.row.toRowW d [] (fun f vs=>PySem.call f vs):=by
 refine Att.attach_call hn hdf fun w s₀ s₁ mg mb fa o pm cd doc a vs ns G Y ho hd hcd hmg hobj hints hlen hg=>?_
 have KX:=hY w _ Y
 obtain ⟨fd,hb,hF⟩:=F w mg fa _ KX G.T.g hmg
 exact yg KX G.T.g G.T.b G.T.builtins G.T.nolimit (let ⟨mm,h1,_⟩:=(G.T.seer him).mods;⟨mm,h1⟩) hg hobj hints (Nat.le_trans hlen hn2) hr hF hb (fun H hO hS=>hsp w H a ns hlen hO hS) fun H e s'=>hCX w H s₁ e s'
def il (s:Stmt):Arguments:=match s with
 | .FunctionDef _ a _ _ _ _ _ _ _ _=>a
 | _=>{posonlyargs:=[],args:=[],vararg:=none,kwonlyargs:=[],kw_defaults:=[],kwarg:=none,defaults:=[]}
def dG (s:Stmt):List Stmt:=match s with
 | .FunctionDef _ _ b _ _ _ _ _ _ _=>b
 | _=>[]
def ak (s:Stmt):Scope:=match s with
 | .FunctionDef _ _ _ _ _ _ sc _ _ _=>sc
 | _=>{kind:=.function,names:=[],isGenerator:=false,isCoroutine:=false}
abbrev yh:xq:=fun _ _ _ _ _ _=>False
abbrev E0:XK:=fun _ _ _=>False
theorem Iu {X:Cx}:uG yh X E0:=fun _ _ _ _ _ _ _ h=>h.elim
structure Fun (K:W.Frag) (x qual:Str) (st:Stmt) (f:Addr) (fd:FuncData):Prop where
 ex:∃ (oc:Value) (od:Option Addr) (kV doc pm:Value) (an:Option Addr) (cdv ct:Value) (osl:Array (Option Value)),
  fd=PySem.W.fnOf x qual (il st) (dG st) (ak st) .none kV doc pm an cdv ct/\K.lookup f=some ⟨oc,od,.func fd,osl⟩/\PySem.W.codeIn K cdv qual=true
 kp:PySem.W.keepIn K (.ref f)=true
section
variable {P:Program} {w:World} {K:W.Frag} {mg:Str->Option Value} {base:Heap}
theorem Fun.ok {x qual:Str} {st:Stmt} {f:Addr} {fd:FuncData} {N ps:List Str} {k:Nat} {sp:Sp} (F:Fun K x qual st f fd) (S:aD N ps (ak st)) (len:∀ vs H Q E,sp vs H Q E->vs.length=ps.length)
  (hbody:∀ (cdv:Value) (A:Around) (outer:List Env) (s:Shared) (H:Hp) (vs:List V) (Q:VK) (E:XK),Room k (A.deeper (envOfC qual (ak st) s.heap.objs.size f cdv))->sp vs H Q E->
   ∃ t,PSs (qT yh P w K mg base N qual (ak st) f cdv A outer s H E).nox (dG st) t/\t {nx:=fun _ H'=>Q .non H',rt:=Q} (start N vs) H):FnOk P w K mg base yh (k+1) f fd ps sp:=by
 obtain ⟨oc,od,kV,doc,pm,an,cdv,ct,osl,rfl,lk,hcd⟩:=F.ex
 refine Ie lk hcd S len fun A outer s H vs Q E hr hsp=>?_
 obtain ⟨t,h,q⟩:=hbody cdv A outer s H vs Q E hr hsp
 exact ⟨t,h.nox,q⟩
theorem Fun.binds {x qual:Str} {st:Stmt} {f:Addr} {fd:FuncData} {ps:List Str} (F:Fun K x qual st f fd)
  (h:∀ (kV doc pm:Value) (an:Option Addr) (cdv ct:Value) (us:List Value),us.length=ps.length->bindArgs (PySem.W.fnOf x qual (il st) (dG st) (ak st) .none kV doc pm an cdv ct) ⟨us,[]⟩=pure (ps.zip us)):Binds K fd ps []:=by
 obtain ⟨oc,od,kV,doc,pm,an,cdv,ct,osl,rfl,lk,hcd⟩:=F.ex
 exact .all (h kV doc pm an cdv ct)
theorem Fb {x qual:Str} {st:Stmt} {f:Addr} {oc:Value} {od an:Option Addr} {osl:Array (Option Value)} {kV doc pm cdv ct:Value} (l:K.lookup f=some ⟨oc,od,.func (PySem.W.fnOf x qual (il st) (dG st) (ak st) .none kV doc pm an cdv ct),osl⟩)
  (c:PySem.W.codeIn K cdv qual=true) (k:PySem.W.keepIn K (.ref f)=true):Fun K x qual st f (PySem.W.fnOf x qual (il st) (dG st) (ak st) .none kV doc pm an cdv ct):=⟨⟨oc,od,kV,doc,pm,an,cdv,ct,osl,rfl,l,c⟩,k⟩
end
theorem lH {A B:Prop} (h:B):if false=true then A else B:=by
 rw [if_neg Bool.false_ne_true]
 exact h
theorem mK {A B:Prop} (h:A):if true=true then A else B:=by
 rw [if_pos rfl]
 exact h
def Same (H H':Hp):Prop:=∀ b o,H b=some o->H' b=some o
theorem Same.refl (H:Hp):Same H H:=fun _ _ h=>h
theorem Same.trans {H H1 H2:Hp} (a:Same H H1) (b:Same H1 H2):Same H H2:=fun c o h=>b c o (a c o h)
end L2
set_option maxHeartbeats 4000000
namespace L2
open PySem PySem.Spec PyProof.Rows
def ni (env:Env):List (Str×NameKind)->List (Str×Addr)->List (Str×Addr)
 | [],acc=>acc
 | (n,k) :: r,acc=>ni env r (if k == .free then (match env.cells.lookup n with | some c=>(n,c) :: acc | none=>acc) else acc)
theorem oY {env:Env}:∀ {names:List (Str×NameKind)} {acc:List (Str×Addr)},(∀ x c,(x,c)∈acc->env.cells.lookup x=some c)->∀ x c,(x,c)∈ni env names acc->env.cells.lookup x=some c
 | [],_,h,x,c,m=>h x c m
 | (n,k) :: r,acc,h,x,c,m=>by
  refine oY (names:=r) ?_ x c m
  intro y d hm
  cases hk:(k == NameKind.free) with
  | false=>rw [hk] at hm;exact h y d hm
  | true=>
   rw [hk] at hm
   simp only [if_true] at hm
   cases e:env.cells.lookup n with
   | none=>rw [e] at hm;exact h y d hm
   | some c'=>
    rw [e] at hm
    rcases List.mem_cons.mp hm with z | z
    ·cases z;exact e
    ·exact h y d z
theorem sV {env:Env}:∀ {names:List (Str×NameKind)} {acc:List (Str×Addr)} {p:Str×Addr},p∈acc->p∈ni env names acc
 | [],_,_,h=>h
 | (n,k) :: r,acc,p,h=>by
  refine sV (names:=r) ?_
  split
  ·split
   ·exact List.mem_cons_of_mem _ h
   ·exact h
  ·exact h
theorem oZ {env:Env} {x:Str} {c:Addr} (e:env.cells.lookup x=some c):∀ {names:List (Str×NameKind)} {acc:List (Str×Addr)},(x,NameKind.free)∈names->(x,c)∈ni env names acc
 | [],_,h=>by simp at h
 | (n,k) :: r,acc,h=>by
  rcases List.mem_cons.mp h with z | z
  ·cases z
   refine sV (names:=r) ?_
   rw [e]
   simp
  ·exact oZ e (names:=r) z
theorem pX {l:List (Str×Addr)} {x:Str} {c:Addr} (hm:(x,c)∈l) (ha:∀ d,(x,d)∈l->d=c):l.lookup x=some c:=by
 induction l with
 | nil=>simp at hm
 | cons p r ih=>
  obtain ⟨n,d⟩:=p
  by_cases e:x=n
  ·subst e
   have:d=c:=ha d (by simp)
   subst this
   simp [List.lookup_cons]
  ·have hb:(x == n)=false:=by simpa using e
   rw [List.lookup_cons,hb]
   refine ih ?_ fun d' h'=>ha d' (List.mem_cons_of_mem _ h')
   rcases List.mem_cons.mp hm with z | z
   ·cases z;exact absurd rfl e
   ·exact z
theorem sW {env:Env} {names:List (Str×NameKind)} {x:Str} {c:Addr} (e:env.cells.lookup x=some c) (h:(x,NameKind.free)∈names):(ni env names []).lookup x=some c:=
 pX (oZ e h) fun d hd=>by
  have q:=oY (names:=names) (acc:=[]) (env:=env) (by simp) x d hd
  rw [e] at q
  exact (Option.some.inj q).symm
theorem wF {env:Env} {names:List (Str×NameKind)} {x:Str} {c:Addr} (e:(ni env names []).lookup x=some c):env.cells.lookup x=some c:=
 oY (names:=names) (acc:=[]) (env:=env) (by simp) x c (PySem.mem_of_lookup e)
theorem kO {env:Env}:∀ (names:List (Str×NameKind)) (acc:List (Str×Addr)),(∀ x∈names,x.2=NameKind.free->∃ c,env.cells.lookup x.1=some c)->
  (forIn (m:=Sem) names acc fun x r=>match x with
   | (name,kind)=>if (kind == NameKind.free)=true then do let c ← cellOf env name;pure (ForInStep.yield ((name,c) :: r)) else pure (ForInStep.yield r))=pure (ni env names acc)
 | [],acc,_=>rfl
 | (n,k) :: r,acc,h=>by
  rw [List.forIn_cons]
  cases hk:(k == NameKind.free) with
  | false=>
   simp only [hk,Bool.false_eq_true,if_false,pure_bind,ni]
   exact kO r acc fun x hx=>h x (List.mem_cons_of_mem _ hx)
  | true=>
   obtain ⟨c,e⟩:=h (n,k) List.mem_cons_self (by simpa using hk)
   simp only [hk,if_true,pure_bind,ni,cellOf,e]
   exact kO r ((n,c) :: acc) fun x hx=>h x (List.mem_cons_of_mem _ hx)
theorem kh {scope:Scope} {env:Env} (h:∀ x∈scope.names,x.2=NameKind.free->∃ c,env.cells.lookup x.1=some c):closureFor scope env=pure (ni env scope.names []):=by
 unfold closureFor
 have:=kO (env:=env) scope.names [] h
 simp only [this,pure_bind]
theorem qy {prog:Program} {w:World} {A:Around} {R:Result->Shared->Prop} {s:Shared} {elt target iter:Expr} {ifs:List Expr} {scope:Scope} {pos:Pos} {it acc:Value} {env:Env} (I:Nat->Shared->Prop)
  (turn:∀ n s,I n s->wpAny (model prog w) A (pyNext it) (fun r s₁=>match r with
   | none=>R (.ok .next) s₁
   | some v=>wpAny (model prog w) A (letOwnedTupleGo target it v) (fun _ s₁'=>wpAny (model prog w) A (assign target env v) (fun _ s₂=>
     wpAny (model prog w) A (forIn ifs true fun c r=>if r=true then do let ok ← isTrue c env (eval c env);pure (ForInStep.yield ok) else pure (ForInStep.yield r)) (fun ok s₃=>
      if ok=true then wpAny (model prog w) A (eval elt env) (fun x s₄=>
       wpAny (model prog w) A (call (.builtin "list.append") [acc,x]) (fun _ s₅=>∃ m,m < n/\I m s₅) (fun _ _=>False) s₄) (fun _ _=>False) s₃
      else ∃ m,m < n/\I m s₃) (fun _ _=>False) s₂) (fun _ _=>False) s₁') (fun _ _=>False) s₁) (fun _ _=>False) s)
  (n:Nat) (h:I n s):
  codeAny (model prog w) A (.compLoop (.ListComp elt [⟨target,iter,ifs,0⟩] scope pos) 0 it acc env) R s:=by
 refine codeAny_loop rfl I (fun n s hI=>?_) n h
 show wpAny _ A ((compTurn (.ListComp elt [⟨target,iter,ifs,0⟩] scope pos) 0 it acc env).onRaise (fun x=>do noteFrame x env;theTreesLotGoes x)) _ _ s
 refine wpAny_noted ?_
 rw [compTurn_list]
 refine wpAny_bind (wpAny_standAt (wpAny_bind (wpAny_mono (turn n s hI) (fun r s₁ h₁=>?_) fun _ _ h'=>h'.elim)))
 cases r with
 | none=>exact wpAny_pure h₁
 | some v=>
  refine wpAny_bind (wpAny_mono h₁ (fun _ s₁' h₁'=>?_) fun _ _ h'=>h'.elim)
  refine wpAny_bind (wpAny_mono h₁' (fun _ s₂ h₂=>wpAny_bind (wpAny_mono h₂ (fun ok s₃ h₃=>?_) fun _ _ h'=>h'.elim)) fun _ _ h'=>h'.elim)
  cases ok with
  | false=>exact wpAny_pure ⟨rfl,h₃⟩
  | true=>
   exact wpAny_bind (wpAny_bind (wpAny_mono h₃ (fun x s₄ h₄=>wpAny_bind (wpAny_mono h₄ (fun _ s₅ h₅=>wpAny_pure (wpAny_pure ⟨rfl,h₅⟩)) fun _ _ h'=>h'.elim)) fun _ _ h'=>h'.elim))
theorem cu:∀ (names:List (Str×NameKind)) (n:Nat) (acc:List (Str×Addr)),cellsFrom n names acc=cellsFrom n names [] ++ acc
 | [],_,_=>rfl
 | (x,k) :: r,n,acc=>by
  unfold cellsFrom
  split
  ·rw [cu r (n+1) ((x,n) :: acc),cu r (n+1) [(x,n)],List.append_assoc];rfl
  ·exact cu r n acc
theorem lJ {α:Type}:∀ {A B:List (Str×α)} {x:Str},(A ++ B).lookup x=(match A.lookup x with | some c=>some c | none=>B.lookup x)
 | [],_,_=>rfl
 | (y,c) :: A,B,x=>by
  rw [List.cons_append,List.lookup_cons,List.lookup_cons]
  cases x == y with
  | true=>rfl
  | false=>exact lJ (A:=A)
theorem o4:∀ {names:List (Str×NameKind)} {n:Nat} {acc:List (Str×Addr)} {x:Str} {c:Addr},(x,c)∈cellsFrom n names acc->(x,c)∈acc\/(x,NameKind.cell)∈names
 | [],_,_,_,_,h=>.inl h
 | (y,k) :: r,n,acc,x,c,h=>by
  unfold cellsFrom at h
  split at h
  ·rename_i hk
   rcases o4 h with z | z
   ·rcases List.mem_cons.mp z with z | z
    ·cases z
     have:k= .cell:=by simpa using hk
     rw [this];exact .inr List.mem_cons_self
    ·exact .inl z
   ·exact .inr (List.mem_cons_of_mem _ z)
  ·exact (o4 h).imp id (List.mem_cons_of_mem _)
theorem lK {α:Type}:∀ {l:List (Str×α)} {x:Str} {c:α},(x,c)∈l->∃ d,l.lookup x=some d
 | (y,d) :: r,x,c,h=>by
  by_cases e:x=y
  ·subst e;exact ⟨d,by simp [List.lookup_cons]⟩
  ·have hb:(x == y)=false:=by simpa using e
   rw [List.lookup_cons,hb]
   rcases List.mem_cons.mp h with z | z
   ·cases z;exact absurd rfl e
   ·exact lK z
theorem lL:∀ {names:List (Str×NameKind)} {n:Nat} {acc:List (Str×Addr)} {x:Str},(x,NameKind.cell)∈names\/(∃ c,(x,c)∈acc)->∃ c,(x,c)∈cellsFrom n names acc
 | [],_,_,_,h=>h.elim (fun h=>by simp at h) id
 | (y,k) :: r,n,acc,x,h=>by
  unfold cellsFrom
  split
  ·refine lL ?_
   rcases h with h | ⟨c,h⟩
   ·rcases List.mem_cons.mp h with z | z
    ·cases z;exact .inr ⟨n,List.mem_cons_self⟩
    ·exact .inl z
   ·exact .inr ⟨c,List.mem_cons_of_mem _ h⟩
  ·rename_i hk
   refine lL ?_
   rcases h with h | h
   ·rcases List.mem_cons.mp h with z | z
    ·cases z;exact absurd (by decide) hk
    ·exact .inl z
   ·exact .inr h
def wG (X:Cx) (scope:Scope) (C:Addr):List (Str×Addr):=cellsFrom (C+1) scope.names (ni X.env scope.names [])
section
variable {M:Model} {A:Around} {E:Value->Shared->Prop} {s:Shared}
theorem dU {scope:Scope} {globals:Addr} {cl:List (Str×Addr)} {qual:Str} {env:Env} {Q:Env->Shared->Prop}
  (hQ:∀ h':Heap,h'.Ns s.heap.objs.size (fun _=>none)->(∀ b o,s.heap.get? b=some o->h'.get? b=some o)->CellsOk h' (s.heap.objs.size+1) (cellsFrom (s.heap.objs.size+1) scope.names [])->
   Q (newEnv scope s.heap.objs.size globals (cellsFrom (s.heap.objs.size+1) scope.names cl) qual none .none (some env) builtinsNs) {s with heap:=h',toks:=s.toks+([]:List (Str×Value)).length}):
  wpAny M A (newFunctionEnv scope globals cl [] qual none .none (some env)) Q E s:=by
 simp only [newFunctionEnv,Option.isSome_some,if_true]
 refine wpAny_bind (wpAny_alloc ?_)
 refine wpAny_bind (wpAny_layCells _ (fun name kind cells=>by cases hkc:kind == NameKind.cell <;> simp [hkc]) _ _ _ _ ?_)
 have ok:=cellsFrom_ok scope.names (s.heap.push {cls:=.type "dict",data:=.dict #[]}) (s.heap.objs.size+1) [] ⟨fun _ _ hm=>(nomatch hm),List.Pairwise.nil⟩ (by rw [Heap.size_push];exact Nat.le_refl _)
 rw [Heap.size_push] at ok
 rw [show ({s with heap:=s.heap.push {cls:=.type "dict",data:=.dict #[]}}:Shared).heap.objs.size=s.heap.objs.size+1 from Heap.size_push ..]
 exact wpAny_bind (wpAny_pure (wpAny_pure (hQ _ ((Heap.Ns.new s.heap (.type "dict")).keeps (pushCells_keeps _ _)) (fun b o e=>pushCells_keeps _ _ b o (Heap.get?_push_of_some _ e)) ok)))
end
def j7 (X:Cx) (N':List Str) (scope:Scope) (C:Addr) (s₀:Shared) (H₀:Hp) (ex:List Addr):Cx:=
 {X with N:=N',s₀:=s₀,H₀:=H₀,env:=compEnvC scope (wG X scope C) C X.env,outer:=X.stack,ex:=ex,fn:=fun x=>decide (scope.names.lookup x=some .cell),pn:=[],xe:=fun _ _=>False}
def cF (sub:List (Option Nat)) (U:St):St:=sub.map fun o=>o.bind fun j=>(U[j]?).join
structure kj (N:List Str) (sc:Scope) (N':List Str) (scope:Scope) (sub:List (Option Nat)):Prop where
 kind:scope.kind= .function
 cel:∀ x∈scope.names,x.2= .cell->scope.names.lookup x.1=some .cell
 loc:∀ x∈scope.names,x.2= .local->scope.names.lookup x.1=some .local
 free:∀ x∈scope.names,x.2= .free->sc.names.lookup x.1=some .cell\/sc.names.lookup x.1=some .free
 len:sub.length=N'.length
 at_:∀ (i j:Nat) (x:Str),sub[i]?=some (some j)->N'[i]?=some x->N[j]?=some x/\(x,NameKind.free)∈scope.names/\scope.names.lookup x=some .free
def yj (N:List Str) (sc:Scope) (N':List Str) (scope:Scope) (sub:List (Option Nat)):Bool:=
 decide (scope.kind= .function) && scope.names.all (fun x=>decide (x.2= .cell->scope.names.lookup x.1=some .cell)) && scope.names.all (fun x=>decide (x.2= .local->scope.names.lookup x.1=some .local)) &&
 scope.names.all (fun x=>decide (x.2= .free->sc.names.lookup x.1=some .cell\/sc.names.lookup x.1=some .free)) && decide (sub.length=N'.length) &&
 (List.range sub.length).all fun i=>match sub[i]?,N'[i]? with
  | some (some j),some x=>decide (N[j]?=some x/\(x,NameKind.free)∈scope.names/\scope.names.lookup x=some .free)
  | _,_=>true
theorem aL {N:List Str} {sc:Scope} {N':List Str} {scope:Scope} {sub:List (Option Nat)} (h:yj N sc N' scope sub=true):kj N sc N' scope sub:=by
 simp only [yj,Bool.and_eq_true,decide_eq_true_eq,List.all_eq_true] at h
 obtain ⟨⟨⟨⟨⟨h1,h2⟩,h3⟩,h4⟩,h5⟩,h6⟩:=h
 refine ⟨h1,h2,h3,h4,h5,fun i j x e1 e2=>?_⟩
 have hi:i < sub.length:=(List.getElem?_eq_some_iff.mp e1).1
 have q:=h6 i (List.mem_range.mpr hi)
 rw [e1,e2] at q
 simpa using q
def yl:TT:=fun _ H Q=>Q true H
def sX (X:Cx) (ifs:List Expr) (t:TT):Prop:=
 ∀ (pins:List (Addr×Obj)) (s:Shared) (U:St) (H:Hp) (Q:Bool->Hp->Prop),Inv X pins U H s->t U H Q->
  wpAny (model X.prog X.w) X.A (forIn ifs true fun c r=>if r=true then do let ok ← isTrue c X.env (eval c X.env);pure (ForInStep.yield ok) else pure (ForInStep.yield r)) (TP X pins U Q) X.xe s
theorem ym {X:Cx}:sX X [] yl:=fun _ _ _ H _ I h=>wpAny_tests_nil ⟨H,I,h⟩
def KeepSt (U U':St):Prop:=U'.length=U.length/\∀ (i:Nat) (v:V),U[i]?=some (some v)->U'[i]?=some (some v)
theorem KeepSt.set {U:St} {i:Nat} {v:V} (h:U[i]?=some none):KeepSt U (U.set i (some v)):=by
 refine ⟨by simp,fun j u e=>?_⟩
 by_cases hj:i=j
 ·subst hj;rw [h] at e;cases e
 ·rw [List.getElem?_set_ne hj];exact e
theorem KeepSt.trans {σ1 σ2 σ3:St} (a:KeepSt σ1 σ2) (b:KeepSt σ2 σ3):KeepSt σ1 σ3:=⟨b.1.trans a.1,fun i v e=>b.2 i v (a.2 i v e)⟩
def o5 (sub:List (Option Nat)) (wi:TI) (g:TG) (tt:TT) (te:TE):TE:=fun U H Q=>wi U H fun J H1=>∃ W:Nat->Nat->List V->Hp->Prop,(∃ m,W 0 m [] H1)/\∀ i m ys H,W i m ys H->
 (J.stop i H/\ys.length<=sizeLine/\∀ D,H D=none->Q (.ref D) (upd H D (.lst ys)))\/
 (J.go i H/\ys.length < sizeLine/\∃ N:List V->Hp->Prop,(∀ ys' H',N ys' H'->∃ m',m' < m/\W (i+1) m' ys' H')/\
  ∀ x H',J.yld i H x H'->g x (cF sub U) H' fun σ2 H2=>KeepSt (cF sub U) σ2/\tt σ2 H2 fun b H3=>if b=true then te σ2 H3 fun y H4=>N (ys ++ [y]) H4 else N ys H3)
theorem jb {scope:Scope} {env:Env} {x:Str} (hx:scope.names.lookup x=some .free):(relabel scope env).names.lookup x=some .cell\/(relabel scope env).names.lookup x=some .free:=by
 have:∀ names:List (Str×NameKind),names.lookup x=some .free->
  (names.map fun (n,k)=>if (k == NameKind.free && env.scope.kind == .function && env.kindOf n == some .cell) then (n,NameKind.cell) else (n,k)).lookup x=some .cell\/
  (names.map fun (n,k)=>if (k == NameKind.free && env.scope.kind == .function && env.kindOf n == some .cell) then (n,NameKind.cell) else (n,k)).lookup x=some .free:=by
  intro names
  induction names with
  | nil=>intro h;simp at h
  | cons p r ih=>
   obtain ⟨n,k⟩:=p
   intro h
   by_cases e:x=n
   ·subst e
    have hk:k= .free:=by simpa [List.lookup_cons] using h
    subst hk
    by_cases hc:((NameKind.free == NameKind.free && env.scope.kind == .function && env.kindOf x == some .cell)=true)
    ·left;simp only [List.map_cons];rw [if_pos hc];simp [List.lookup_cons]
    ·right;simp only [List.map_cons];rw [if_neg hc];simp [List.lookup_cons]
   ·have hb:(x == n)=false:=by simpa using e
    rw [List.lookup_cons,hb] at h
    have q:=ih h
    simp only [List.map_cons]
    split <;> (rw [List.lookup_cons,hb];exact q)
 exact this scope.names hx
theorem rm {scope:Scope} {env:Env} {x:Str} (h:(relabel scope env).names.lookup x=some .cell\/(relabel scope env).names.lookup x=some .free):(x,NameKind.cell)∈scope.names\/(x,NameKind.free)∈scope.names:=by
 have key:∀ k,(k=NameKind.cell\/k=NameKind.free)->(relabel scope env).names.lookup x=some k->(x,NameKind.cell)∈scope.names\/(x,NameKind.free)∈scope.names:=by
  intro k hk hl
  have hm:=PySem.mem_of_lookup hl
  unfold relabel at hm
  obtain ⟨⟨n,k'⟩,hm1,hm2⟩:=List.mem_map.mp hm
  dsimp only at hm2
  by_cases hc:(k' == NameKind.free && env.scope.kind == .function && env.kindOf n == some .cell)=true
  ·rw [if_pos hc] at hm2
   cases hm2
   simp only [Bool.and_eq_true,beq_iff_eq] at hc
   rw [← hc.1.1];exact .inr hm1
  ·rw [if_neg hc] at hm2
   cases hm2
   rcases hk with hk | hk
   ·subst hk;exact .inl hm1
   ·subst hk;exact .inr hm1
 rcases h with h | h
 ·exact key _ (.inl rfl) h
 ·exact key _ (.inr rfl) h
theorem rn {scope:Scope} {env:Env} {x:Str} (hx:scope.names.lookup x=some .cell):(relabel scope env).names.lookup x=some .cell:=by
 have:∀ names:List (Str×NameKind),names.lookup x=some .cell->
  (names.map fun (n,k)=>if (k == NameKind.free && env.scope.kind == .function && env.kindOf n == some .cell) then (n,NameKind.cell) else (n,k)).lookup x=some .cell:=by
  intro names
  induction names with
  | nil=>intro h;simp at h
  | cons p r ih=>
   obtain ⟨n,k⟩:=p
   intro h
   by_cases e:x=n
   ·subst e
    have hk:k= .cell:=by simpa [List.lookup_cons] using h
    subst hk
    simp only [List.map_cons]
    split <;> simp [List.lookup_cons]
   ·have hb:(x == n)=false:=by simpa using e
    rw [List.lookup_cons,hb] at h
    have q:=ih h
    simp only [List.map_cons]
    split <;> (rw [List.lookup_cons,hb];exact q)
 exact this scope.names hx
section
variable {X:Cx} {tg iter elt:Expr} {ifs:List Expr} {scope:Scope} {pos:Pos} {N':List Str} {sub:List (Option Nat)} {wi:TI} {g:TG} {tt:TT} {te:TE}
theorem qz {pins:List (Addr×Obj)} {U:St} {H:Hp} {s:Shared} {fp:List Addr} {D:Addr} {h':Heap} {tk:Nat} {N:List Str} {sc:Scope} (S:kj N sc N' scope sub) (hN:X.N=N) (hsc:X.env.scope=sc) (I:Inv X pins U H s) (hf:∀ b∈fp,jK X pins H b) (hfo:∀ b∈fp,b < s.heap.objs.size)
  (hD:D < s.heap.objs.size) (fD:jK X pins H D) (hns:h'.Ns s.heap.objs.size fun _=>none) (hk:∀ b o,s.heap.get? b=some o->h'.get? b=some o) (hc:CellsOk h' (s.heap.objs.size+1) (cellsFrom (s.heap.objs.size+1) scope.names [])):
  Inv (j7 X N' scope s.heap.objs.size s H (D :: fp)) [] (cF sub U) H {s with heap:=h',toks:=tk}:=by
 have hex:∀ b∈D :: fp,jK X pins H b/\b < s.heap.objs.size:=fun b hb=>by
  rcases List.mem_cons.mp hb with rfl | z
  ·exact ⟨fD,hD⟩
  ·exact ⟨hf b z,hfo b z⟩
 have spl:∀ {x c},(wG X scope s.heap.objs.size).lookup x=some c->(h'.IsCell c none/\s.heap.objs.size+1<=c/\(x,c)∈cellsFrom (s.heap.objs.size+1) scope.names [])\/(X.env.cells.lookup x=some c/\∃ o,s.heap.get? c=some o):=fun {x c} h=>by
  unfold wG at h
  rw [cu,lJ] at h
  cases e:(cellsFrom (s.heap.objs.size+1) scope.names []).lookup x with
  | some d=>
   rw [e] at h
   cases h
   have m:=PySem.mem_of_lookup e
   exact .inl ⟨(hc.empty _ _ m).1,(hc.empty _ _ m).2,m⟩
  | none=>
   rw [e] at h
   have z:=wF h
   obtain ⟨v,o,ho,_⟩:=I.cell x c z
   exact .inr ⟨z,o,ho⟩
 have fre:∀ {x c},(x,NameKind.free)∈scope.names->scope.names.lookup x=some .free->X.env.cells.lookup x=some c->(wG X scope s.heap.objs.size).lookup x=some c:=fun {x c} h1 h2 h3=>by
  unfold wG
  rw [cu,lJ]
  cases e:(cellsFrom (s.heap.objs.size+1) scope.names []).lookup x with
  | some d=>
   rcases o4 (PySem.mem_of_lookup e) with z | z
   ·cases z
   ·have:=S.cel _ z rfl
    rw [h2] at this;cases this
  | none=>exact sW h3 h1
 refine ⟨⟨I.ok.mod,S.kind,I.ok.glob,I.ok.blt,Nat.le_refl _,fun x y c h1 h2=>?_,fun x hx=>?_,fun x c hx h=>?_,I.ok.hd,I.ok.frames,.inl rfl,fun b hb=>?_,I.bs,Nat.le_trans I.ok.bsz I.sz,fun b o e hb=>?_,fun b hb=>?_,I.stack,I.stkFree⟩,
  rfl,I.bare,Un.kept hk,⟨_,hns,fun i x v h1 h2 h3=>?_⟩,fun x c h=>?_,I.hok.fresh (Nat.le_refl _),fun x c h=>?_,fun p hp=>(nomatch hp),I.hok.kept hk,?_⟩
 ·rcases spl h1 with ⟨_,l1,m1⟩ | ⟨z1,o1,q1⟩ <;> rcases spl h2 with ⟨_,l2,m2⟩ | ⟨z2,o2,q2⟩
  ·exact PySem.name_of_addr hc.apart m1 m2
  ·exact absurd (Nat.lt_of_lt_of_le (Heap.lt_size q2) (Nat.le_of_succ_le l1)) (Nat.lt_irrefl _)
  ·exact absurd (Nat.lt_of_lt_of_le (Heap.lt_size q1) (Nat.le_of_succ_le l2)) (Nat.lt_irrefl _)
  ·exact I.ok.inj x y c z1 z2
 ·rcases rm hx with z | z
  ·obtain ⟨c,m⟩:=lL (n:=s.heap.objs.size+1) (acc:=ni X.env scope.names []) (.inl z)
   exact lK m
  ·obtain ⟨c,e⟩:=I.ok.has x (by have:=S.free _ z rfl;rw [← hsc] at this;exact this)
   show ∃ c,(wG X scope s.heap.objs.size).lookup x=some c
   unfold wG
   rw [cu]
   exact lK (c:=c) (List.mem_append_right _ (oZ e z))
 ·have hx':scope.names.lookup x=some .cell:=by simpa [j7] using hx
  rcases spl h with ⟨_,l,_⟩ | ⟨z,o,q⟩
  ·exact Nat.le_of_succ_le l
  ·exfalso
   have m:(x,NameKind.cell)∈scope.names:=PySem.mem_of_lookup hx'
   obtain ⟨d,md⟩:=lL (n:=s.heap.objs.size+1) (acc:=[]) (.inl m)
   obtain ⟨d',e'⟩:=lK md
   have h:(wG X scope s.heap.objs.size).lookup x=some c:=h
   unfold wG at h
   rw [cu,lJ,e'] at h
   cases h
   exact absurd (Nat.lt_of_lt_of_le (Heap.lt_size q) (Nat.le_of_succ_le (hc.empty _ _ (PySem.mem_of_lookup e')).2)) (Nat.lt_irrefl _)
 ·obtain ⟨⟨f0,f1,f2,f3,f4,f5⟩,hlt⟩:=hex b hb
  refine ⟨Nat.ne_of_lt hlt,fun x c h=>?_⟩
  rcases spl h with ⟨_,l,_⟩ | ⟨z,_⟩
  ·exact fun z=>absurd (Nat.lt_of_lt_of_le hlt (Nat.le_of_succ_le (z ▸ l))) (Nat.lt_irrefl _)
  ·exact f4 x c z
 ·obtain ⟨⟨f0,f1,f2,f3,f4,f5⟩,hlt⟩:=hex b hb
  rcases f3 with z | z
  ·exact I.ok.noex b o e z
  ·exact absurd (Nat.lt_of_lt_of_le (Heap.lt_size (I.ok.bs b o e).1) z) (Nat.lt_irrefl _)
 ·obtain ⟨⟨f0,f1,f2,f3,f4,f5⟩,hlt⟩:=hex b hb
  intro z
  rcases List.mem_cons.mp (I.stkSub b z) with z | z
  ·exact f1 z
  ·exact f2 z
 ·have hs:∃ j,sub[i]?=some (some j)/\U[j]?=some (some v):=by
   unfold cF at h2
   rw [List.getElem?_map] at h2
   cases e:sub[i]? with
   | none=>rw [e] at h2;cases h2
   | some o=>
    rw [e] at h2
    cases o with
    | none=>cases h2
    | some j=>
     refine ⟨j,rfl,?_⟩
     have h3:(U[j]?).join=some v:=Option.some.inj h2
     cases e2:U[j]? with
     | none=>rw [e2] at h3;cases h3
     | some z=>rw [e2] at h3;cases z with
      | none=>cases h3
      | some z=>cases h3;rfl
  obtain ⟨j,e1,e2⟩:=hs
  obtain ⟨g1,g2,g3⟩:=S.at_ i j x e1 h1
  rw [← hN] at g1
  obtain ⟨m,hn,hl⟩:=I.loc
  have hkf:X.env.kindOf x=some .cell\/X.env.kindOf x=some .free:=by have:=S.free _ g2 rfl;rw [← hsc] at this;exact this
  have hvis:Vis X.env.scope x:=by
   rcases hkf with z | z
   ·exact .inr (.inl z)
   ·exact .inr (.inr z)
  obtain ⟨u,r,l⟩:=hl j x v g1 e2 hvis
  refine ⟨u,r,.inr ⟨jb g3,?_⟩⟩
  rcases l with ⟨k,_⟩ | ⟨_,c,e,o,ho,hd⟩
  ·have k':X.env.kindOf x=some .local:=k
   rcases hkf with z | z <;> (rw [k'] at z;cases z)
  ·exact ⟨c,fre g2 g3 e,o,hk _ _ ho,hd⟩
 ·rcases spl h with ⟨z,_⟩ | ⟨z,_⟩
  ·exact ⟨_,z⟩
  ·obtain ⟨v,o,ho,hd⟩:=I.cell x c z
   exact ⟨v,o,hk _ _ ho,hd⟩
 ·rcases spl h with ⟨_,l,_⟩ | ⟨z,_⟩
  ·exact I.hok.fresh (Nat.le_of_succ_le l)
  ·exact I.freeC x c z
 ·show (cF sub U).length=N'.length
  unfold cF
  rw [List.length_map]
  exact S.len
theorem vA {N:List Str} {sc:Scope} (S:kj N sc N' scope sub) (hc:X.calm=true) (hN:X.N=N) (hsc:X.env.scope=sc) (hi:PI X tg iter wi)
  (hg:∀ (C:Addr) (s₀:Shared) (H₀:Hp) (ex:List Addr),PG (j7 X N' scope C s₀ H₀ ex) tg g)
  (ht:∀ (C:Addr) (s₀:Shared) (H₀:Hp) (ex:List Addr),sX (j7 X N' scope C s₀ H₀ ex) ifs tt)
  (he:∀ (C:Addr) (s₀:Shared) (H₀:Hp) (ex:List Addr),PE (j7 X N' scope C s₀ H₀ ex) elt te)
  (hs:autoParam (∀ x,foldedSetIterable iter X.env x=pure x) L2.auto3._auto_1):
  PE X (.ListComp elt [⟨tg,iter,ifs,0⟩] scope pos) (o5 sub wi g tt te):=by
 intro pins s U H Q I h
 rw [eval_ListComp]
 have hcl:∀ x∈scope.names,x.2=NameKind.free->∃ c,X.env.cells.lookup x.1=some c:=fun x hx hk=>I.ok.has x.1 (by have:=S.free x hx hk;rw [← hsc] at this;exact this)
 refine wpAny_comprehension_free (use:=none) rfl hs (kh hcl) S.kind S.loc ?_
 refine dz (hi pins s U H _ I h) fun v s1 h1=>dz h1 fun itv s2 h2=>?_
 obtain ⟨it,fp,tn,J,H2,e,I2,T,st2,f2,W,⟨m0,w0⟩,turn⟩:=h2
 subst e
 refine wpAny_newObj_type (dU fun h₁ hns₁ hk31 hcl₁=>?_)
 dsimp only at hns₁ hk31 hcl₁ ⊢
 generalize hs3:({s2 with heap:=s2.heap.push {cls:=.type "list",dict:=none,data:=.seq ([]:List Value).toArray}}:Shared)=s3
 have e3:s2.heap.push {cls:=.type "list",dict:=none,data:=.seq ([]:List Value).toArray}=s3.heap:=by rw [← hs3]
 rw [e3] at hns₁ hk31 hcl₁ ⊢
 have hD3:s3.heap.get? s2.heap.objs.size=some {cls:=.type "list",dict:=none,data:=.seq ([]:List Value).toArray}:=by rw [← e3];exact Heap.get?_push_size _ rfl
 have I3:Inv X pins U H2 s3:=by
  rw [← hs3]
  exact I2.kept (t':=s2.toks) fun b o e=>Heap.get?_push_of_some _ e
 have k23:∀ b o,s2.heap.get? b=some o->s3.heap.get? b=some o:=fun b o e=>by rw [← e3];exact Heap.get?_push_of_some _ e
 have hsz:s3.heap.objs.size=s2.heap.objs.size+1:=by rw [← e3,Heap.size_push]
 have hDn:H2 s2.heap.objs.size=none:=I2.hok.fresh (Nat.le_refl _)
 have fD:jK X pins H2 s2.heap.objs.size:=I2.fpOk (Nat.le_refl _) hDn
 have hfo:∀ b∈fp,b < s2.heap.objs.size:=fun b hb=>let ⟨o,e,_⟩:=T.obj _ _ st2 b hb;Heap.lt_size e
 have hDfp:s2.heap.objs.size ∉ fp:=fun z=>absurd (hfo _ z) (Nat.lt_irrefl _)
 have I4:=qz (tk:=s3.toks+([]:List (Str×Value)).length) S hN hsc I3 f2 (fun b hb=>by rw [hsz];exact Nat.lt_succ_of_lt (hfo b hb)) (D:=s2.heap.objs.size) (by rw [hsz];exact Nat.lt_succ_self _) fD hns₁ hk31 hcl₁
 have stat:∀ {H':Hp} {ob:Obj},(∀ b∈fp,H' b=none)->∀ b∈fp,jK (j7 X N' scope s3.heap.objs.size s3 H2 (s2.heap.objs.size :: fp)) [(s2.heap.objs.size,ob)] H' b:=fun {H' ob} hn b hb=>by
  obtain ⟨q1,q2⟩:=I4.ok.exf b (List.mem_cons_of_mem _ hb)
  refine ⟨hn b hb,q1,I4.ok.exfs b (List.mem_cons_of_mem _ hb),.inl (List.mem_cons_of_mem _ hb),q2,fun p hp z=>?_⟩
  have hp':p=(s2.heap.objs.size,ob):=by simpa [j7] using hp
  subst hp'
  have z':s2.heap.objs.size=b:=z
  exact hDfp (by rw [z'];exact hb)
 generalize hXC:j7 X N' scope s3.heap.objs.size s3 H2 (s2.heap.objs.size :: fp)=XC at I4 stat
 have eP:XC.prog=X.prog:=by rw [← hXC];rfl
 have eW:XC.w=X.w:=by rw [← hXC];rfl
 have eK:XC.K=X.K:=by rw [← hXC];rfl
 have eA:XC.A=X.A:=by rw [← hXC];rfl
 have eE:XC.env=compEnvC scope (wG X scope s3.heap.objs.size) s3.heap.objs.size X.env:=by rw [← hXC];rfl
 have eC:XC.calm=true:=by rw [← hXC];exact hc
 have eX:XC.xe=fun _ _=>False:=by rw [← hXC];rfl
 have eH:XC.H₀=H2:=by rw [← hXC];rfl
 have eS:XC.s₀=s3:=by rw [← hXC];rfl
 have eF:XC.fs=frs X.stack:=by rw [← hXC];rfl
 have eEx:XC.ex=s2.heap.objs.size :: fp:=by rw [← hXC];rfl
 have ePn:XC.pn=[]:=by rw [← hXC];rfl
 have hgC:PG XC tg g:=by rw [← hXC];exact hg _ _ _ _
 have htC:sX XC ifs tt:=by rw [← hXC];exact ht _ _ _ _
 have heC:PE XC elt te:=by rw [← hXC];exact he _ _ _ _
 have pinD:∀ {U':St} {H':Hp} {s':Shared} {ob:Obj},Inv XC [] U' H' s'->H' s2.heap.objs.size=none->s'.heap.get? s2.heap.objs.size=some ob->(∀ v,ob.data≠.cell v)->Inv XC [(s2.heap.objs.size,ob)] U' H' s':=fun {U' H' s' ob} J hn hg hd=>
  J.pins_of fun p hp=>by
   have hp':p=(s2.heap.objs.size,ob):=by simpa using hp
   subst hp'
   refine ⟨hg,hn,(J.ok.exf _ (by rw [eEx];exact List.mem_cons_self)).1,J.ok.exfs _ (by rw [eEx];exact List.mem_cons_self),hd⟩
 have loop:codeAny (model X.prog X.w) X.A (.compLoop (.ListComp elt [⟨tg,iter,ifs,0⟩] scope pos) 0 (.ref it) (.ref s2.heap.objs.size) (compEnvC scope (wG X scope s3.heap.objs.size) s3.heap.objs.size X.env))
   (compPost (model X.prog X.w) X.A X.xe none (EP X pins U Q) (.ref s2.heap.objs.size) s3.heap.objs.size) {s3 with heap:=h₁,toks:=s3.toks+([]:List (Str×Value)).length}:=by
  refine qy (fun n s'=>∃ (i:Nat) (ys:List V) (its:List Value) (nn:Nat) (H':Hp),Inv XC [] (cF sub U) H' s'/\tn i s'.heap/\(∀ b∈fp,H' b=none)/\H' s2.heap.objs.size=none/\
   s'.heap.get? s2.heap.objs.size=some {cls:=.type "list",data:=.seq its.toArray nn}/\Vals ys its/\W i n ys H') ?_ m0
   ⟨0,[],[],_,H2,I4,T.keep _ _ _ st2 fun b _ o e=>hk31 b o (k23 b o e),fun b hb=>(f2 b hb).1,hDn,hk31 _ _ hD3,.nil,w0⟩
  rintro n s4 ⟨i,ys,its,nn,H4,J4,st4,fr4,dn4,dg4,rv4,w4⟩
  have P4:=pinD J4 dn4 dg4 (fun v z=>by cases z)
  rcases turn i n ys H4 w4 with ⟨stop,hyl,qn⟩ | ⟨go,hyl,N,hN,step⟩
  ·have hdone:=T.done XC eP eW eK eC i _ s4 _ H4 (fun _ _=>False) P4 (stat fr4) st4 stop
   rw [eA] at hdone
   refine wpAny_mono hdone (fun r s5 ⟨hr,I5⟩=>?_) fun _ _ z=>z
   subst hr
   obtain ⟨m,hn,_⟩:=id I5.loc
   have hCe:XC.env.locals=s3.heap.objs.size:=by rw [eE];rfl
   rw [hCe] at hn
   refine ⟨m,hn,fun h6 hs6=>?_⟩
   have hDg:=(I5.pin (s2.heap.objs.size,_) (by rw [ePn];exact List.mem_cons_self)).1
   have hDne:s2.heap.objs.size≠s3.heap.objs.size:=by rw [hsz];exact Nat.ne_of_lt (Nat.lt_succ_self _)
   have hHC:H4 s3.heap.objs.size=none:=by have:=I5.free;rw [hCe] at this;exact this
   have k56:∀ b o,b≠s3.heap.objs.size->s5.heap.get? b=some o->h6.get? b=some o:=fun b o hb e=>hs6.extBut b o hb e
   have un:=I5.base
   rw [eF,eEx,eH,eS] at un
   have nC:∀ b o,s3.heap.get? b=some o->b≠s3.heap.objs.size:=fun b o e=>Nat.ne_of_lt (Heap.lt_size e)
   have hok6:HOk X.prog X.w (upd H4 s2.heap.objs.size (.lst ys)) h6:=by
    have h5:=I5.hok
    rw [eP,eW] at h5
    have zM:∀ b u,H4 b=some u->b≠s3.heap.objs.size:=fun b u e z=>by rw [z,hHC] at e;cases e
    intro b u e
    by_cases hb:b=s2.heap.objs.size
    ·subst hb
     rw [aq] at e;cases e
     exact ⟨hyl,its,nn,rv4,k56 _ _ hDne hDg⟩
    ·rw [aK hb] at e
     have nD:∀ c u,H4 c=some u->c≠s2.heap.objs.size:=fun c u e z=>by rw [z,dn4] at e;cases e
     refine (h5 b u e).stay (fun c v hc' q=>k56 c v ?_ q) (fun c q=>by rw [aK (nD c _ q)];exact q) fun c xs q=>by rw [aK (nD c _ q)];exact q
     rcases hc' with z | z
     ·rw [z];exact zM b u e
     ·exact zM c _ z
   have nD2:∀ c u,H4 c=some u->c≠s2.heap.objs.size:=fun c u e z=>by rw [z,dn4] at e;cases e
   have un6:Un (frs X.stack) (s2.heap.objs.size :: fp) H2 (upd H4 s2.heap.objs.size (.lst ys)) s3.heap h6:=
    ⟨fun b o e nn' hb hx=>k56 b o (nC b o e) (un.keep b o e nn' hb hx),fun b o e nn' hb hx=>let ⟨sl,q⟩:=un.slot b o e nn' hb hx;⟨sl,k56 b _ (nC b o e) q⟩,
     fun b o e nn' hx=>by rw [aK (fun z=>hx (by rw [z];exact List.mem_cons_self))];exact un.free b o e nn' hx,
     fun b o e hx=>let ⟨o',q⟩:=un.there b o e hx;⟨o',k56 b o' (nC b o e) q⟩,
     fun b xs e=>by have q:=un.tups b xs e;rw [aK (nD2 b _ q)];exact q,
     fun b o u e=>by have q:=un.frzs b o u e;rw [aK (nD2 b _ q)];exact q,
     fun b ps e=>let ⟨more,q⟩:=un.tbls b ps e;⟨more,by rw [aK (nD2 b _ q)];exact q⟩⟩
   have I6:Inv X pins U (upd H4 s2.heap.objs.size (.lst ys)) {s5 with heap:=h6}:=by
    refine I3.call' (s':={s5 with heap:=h6}) (ch:=s2.heap.objs.size :: fp) ?_ un6 hok6 I5.bare fun b hb=>?_
    ·show s5.os=s3.os
     have:=I5.os
     rw [eS] at this
     exact this
    ·have q:jK X pins H2 b:=by
      rcases List.mem_cons.mp hb with rfl | z
      ·exact fD
      ·exact f2 b z
     obtain ⟨f0,f1,f2',f3,f4,f5⟩:=q
     exact ⟨f3,f1,f4,f5⟩
   exact ⟨.ref s2.heap.objs.size,_,I6,rfl,qn _ dn4⟩
  ·have hitem:=T.item XC eP eW eK eC i _ s4 _ H4 (fun _ _=>False) P4 (stat fr4) st4 go
   rw [eA] at hitem
   refine wpAny_mono hitem (fun r s5 ⟨u,hr,h5⟩=>?_) fun _ _ z=>z
   subst hr
   dsimp only
   refine wpAny_mono h5 (fun _ s6 ⟨x,H6,I6,r6,y6,st6,fr6⟩=>?_) fun _ _ z=>z
   have P6:=I6.pinned (stat fr6) (T.obj _ _ st6)
   rw [← eE,← eP,← eW,← eA]
   refine wpAny_mono (hgC _ s6 _ H6 x u _ P6 r6 (step x H6 y6)) (fun _ s7 ⟨σ7,H7,I7,kp7,q7⟩=>?_) fun _ _ z=>by rw [eX] at z;exact z
   refine wpAny_mono (htC _ s7 σ7 H7 _ I7 q7) (fun ok s8 ⟨H8,I8,q8⟩=>?_) fun _ _ z=>by rw [eX] at z;exact z
   have fin:∀ {H9:Hp} {s9:Shared},Inv XC ([(s2.heap.objs.size,({cls:=.type "list",data:=.seq its.toArray nn}:Obj))] ++ mJ fp s6.heap) σ7 H9 s9->Inv XC [] (cF sub U) H9 s9/\tn (i+1) s9.heap/\(∀ b∈fp,H9 b=none)/\H9 s2.heap.objs.size=none/\
     s9.heap.get? s2.heap.objs.size=some {cls:=.type "list",data:=.seq its.toArray nn}:=fun {H9 s9} J=>by
    have pD:=J.pin (s2.heap.objs.size,({cls:=.type "list",data:=.seq its.toArray nn}:Obj)) (by rw [ePn];simp)
    have pF:∀ b∈fp,∀ o,s6.heap.get? b=some o->s9.heap.get? b=some o/\H9 b=none:=fun b hb o e=>by
     have q:=J.pin (b,o) (by rw [ePn];exact List.mem_append_right _ (List.mem_append_right _ (iZ hb e)))
     exact ⟨q.1,q.2.1⟩
    refine ⟨?_,T.keep _ _ _ st6 fun b hb o e=>(pF b hb o e).1,fun b hb=>?_,pD.2.1,pD.1⟩
    ·have J0:Inv XC [] σ7 H9 s9:=J.pins_of fun p hp=>nomatch hp
     exact J0.weak kp7.1.symm fun j v e=>kp7.2 j v e
    ·obtain ⟨o,e,_⟩:=T.obj _ _ st6 b hb
     exact (pF b hb o e).2
   cases ok with
   | false=>
    rw [if_neg (by simp)]
    rw [if_neg (by simp)] at q8
    obtain ⟨m',hm,w8⟩:=hN _ _ q8
    obtain ⟨a1,a2,a3,a4,a5⟩:=fin I8
    exact ⟨m',hm,i+1,ys,its,nn,H8,a1,a2,a3,a4,a5,rv4,w8⟩
   | true=>
    rw [if_pos rfl]
    rw [if_pos rfl] at q8
    refine wpAny_mono (heC _ s8 σ7 H8 _ I8 q8) (fun xv s9 ⟨y,H9,I9,r9,n9⟩=>?_) fun _ _ z=>by rw [eX] at z;exact z
    obtain ⟨m',hm,w9⟩:=hN _ _ n9
    obtain ⟨a1,a2,a3,a4,a5⟩:=fin I9
    refine wpAny_list_append_plain (items:=its.toArray) ⟨nn,a5⟩ (fun h' ⟨n',hp'⟩ sb=>?_) (by simp;rw [← rv4.length];omega)
    obtain ⟨q1,q2⟩:=I4.ok.exf s2.heap.objs.size (by rw [eEx];exact List.mem_cons_self)
    have a1':Inv XC [] (cF sub U) H9 {s9 with heap:=h'}:=a1.turned (t':=s9.toks) (fun b o hb e=>(sb.2 b hb).trans e) a4 q1 (.inl (by rw [eEx];exact List.mem_cons_self)) q2 (fun p hp=>by rw [ePn] at hp;exact nomatch hp)
    refine ⟨m',hm,i+1,ys ++ [y],its ++ [xv],n',H9,a1',T.keep _ _ _ a2 fun b hb o e=>(sb.2 b (fun z=>hDfp (by rw [← z];exact hb))).trans e,a3,a4,?_,rv4.append (.cons r9 .nil),w9⟩
    rw [hp']
    simp
 subst hs3
 exact codeAny_compStart_list loop (T.self _ 0 _ _ _ (T.keep _ _ _ st2 fun b _ o e=>hk31 b o (k23 b o e)) loop)
end
abbrev m5 (sub:List (Option Nat)) (g:TG) (tt:TT) (te:TE) (U:St) (Q:VK) (J:It) (H1:Hp):Prop:=∃ W:Nat->Nat->List V->Hp->Prop,(∃ m,W 0 m [] H1)/\∀ i m ys H,W i m ys H->
 (J.stop i H/\ys.length<=sizeLine/\∀ D,H D=none->Q (.ref D) (upd H D (.lst ys)))\/
 (J.go i H/\ys.length < sizeLine/\∃ N:List V->Hp->Prop,(∀ ys' H',N ys' H'->∃ m',m' < m/\W (i+1) m' ys' H')/\
  ∀ x H',J.yld i H x H'->g x (cF sub U) H' fun σ2 H2=>KeepSt (cF sub U) σ2/\tt σ2 H2 fun b H3=>if b=true then te σ2 H3 fun y H4=>N (ys ++ [y]) H4 else N ys H3)
theorem rA {sub:List (Option Nat)} {g:TG} {tt:TT} {te:TE} {U:St} {Q:VK} {J:It} {H:Hp} {n:Nat} (Pv:Nat->List V->Hp->Prop) (hn:n<=sizeLine) (h0:Pv 0 [] H) (hl:∀ i ys H,Pv i ys H->ys.length<=i)
  (hgo:∀ i ys H,i < n->Pv i ys H->J.go i H) (hstop:∀ ys H,Pv n ys H->J.stop n H)
  (hs:∀ i ys H x H',i < n->Pv i ys H->J.yld i H x H'->g x (cF sub U) H' fun σ2 H2=>KeepSt (cF sub U) σ2/\tt σ2 H2 fun b H3=>if b=true then te σ2 H3 fun y H4=>Pv (i+1) (ys ++ [y]) H4 else Pv (i+1) ys H3)
  (hd:∀ ys H,Pv n ys H->∀ D,H D=none->Q (.ref D) (upd H D (.lst ys))):m5 sub g tt te U Q J H:=by
 refine ⟨fun i m ys H=>m=n - i/\i<=n/\Pv i ys H,⟨n,by simp,Nat.zero_le _,h0⟩,?_⟩
 rintro i m ys H ⟨rfl,hi,p⟩
 have hl':=hl i ys H p
 by_cases hlt:i < n
 ·exact .inr ⟨hgo i ys H hlt p,by omega,fun ys' H'=>Pv (i+1) ys' H',fun ys' H' p'=>⟨n - (i+1),by omega,rfl,hlt,p'⟩,fun x H' y=>hs i ys H x H' hlt p y⟩
 ·have e:i=n:=by omega
  subst e
  exact .inl ⟨hstop ys H p,by omega,hd ys H p⟩
section
variable {κ:Type} [DecidableEq κ]
def o6 (kvs:List (κ×V)) (k:κ):Option V:=(kvs.find? fun kv=>decide (kv.1=k)).map (·.2)
def putK (kvs:List (κ×V)) (k:κ) (v:V):List (κ×V):=
 if (kvs.any fun kv=>decide (kv.1=k))=true then kvs.map (fun kv=>if kv.1=k then (kv.1,v) else kv) else kvs ++ [(k,v)]
theorem sY {p:κ×V} {r:List (κ×V)} {k:κ} (e:p.1=k):o6 (p :: r) k=some p.2:=by simp [o6,List.find?_cons,e]
theorem sZ {p:κ×V} {r:List (κ×V)} {k:κ} (e:¬ p.1=k):o6 (p :: r) k=o6 r k:=by simp [o6,List.find?_cons,e]
theorem tD (kvs:List (κ×V)) (k:κ) (v:V):(putK kvs k v).length<=kvs.length+1:=by
 unfold putK
 split
 ·rw [List.length_map];omega
 ·rw [List.length_append,List.length_cons,List.length_nil];omega
theorem RelO.isSome_eq {o:Option V} {u:Option Value} (r:RelO o u):o.isSome=u.isSome:=by
 cases o with
 | none=>cases u with
  | none=>rfl
  | some _=>exact (show False from r).elim
 | some _=>cases u with
  | none=>exact (show False from r).elim
  | some _=>rfl
theorem RelO.getD {o:Option V} {u:Option Value} {d:V} {d':Value} (r:RelO o u) (rd:RelV d d'):RelV (o.getD d) (u.getD d'):=by
 cases o with
 | none=>cases u with
  | none=>exact rd
  | some _=>exact (show False from r).elim
 | some _=>cases u with
  | none=>exact (show False from r).elim
  | some _=>exact r
theorem KV.val {kvs:List (κ×V)} {vs:List (κ×Value)} (r:KV kvs vs) (k:κ):RelO (o6 kvs k) (valueAt vs k):=by
 unfold KV at r
 induction r with
 | nil=>exact True.intro
 | @cons p q ps qs h t ih=>
  obtain ⟨h1,h2⟩:=h
  by_cases e:p.1=k
  ·have e':q.1=k:=h1.symm.trans e
   have b:valueAt (q :: qs) k=some q.2:=by simp [valueAt,List.find?_cons,e']
   rw [sY e,b];exact h2
  ·have e':¬ q.1=k:=fun z=>e (h1.trans z)
   have b:valueAt (q :: qs) k=valueAt qs k:=by simp [valueAt,List.find?_cons,e']
   rw [sZ e,b];exact ih
theorem KV.any {kvs:List (κ×V)} {vs:List (κ×Value)} (r:KV kvs vs) (k:κ):(kvs.any fun kv=>decide (kv.1=k))=vs.any fun kv=>decide (kv.1=k):=by
 unfold KV at r
 induction r with
 | nil=>rfl
 | cons h t ih=>rw [List.any_cons,List.any_cons,ih,h.1]
theorem KV.repl {kvs:List (κ×V)} {vs:List (κ×Value)} (r:KV kvs vs) (k:κ) {y:V} {u:Value} (ry:RelV y u):
  KV (kvs.map fun kv=>if kv.1=k then (kv.1,y) else kv) (vs.map fun kv=>if kv.1=k then (kv.1,u) else kv):=by
 unfold KV at r ⊢
 induction r with
 | nil=>exact .nil
 | @cons p q ps qs h t ih=>
  rw [List.map_cons,List.map_cons]
  refine .cons ?_ ih
  obtain ⟨h1,h2⟩:=h
  by_cases e:p.1=k
  ·rw [if_pos e,if_pos (h1.symm.trans e)];exact ⟨h1,ry⟩
  ·rw [if_neg e,if_neg (fun z=>e (h1.trans z))];exact ⟨h1,h2⟩
theorem KV.put {kvs:List (κ×V)} {vs:List (κ×Value)} (r:KV kvs vs) (k:κ) {y:V} {u:Value} (ry:RelV y u):KV (putK kvs k y) (stored vs k u):=by
 unfold putK stored
 rw [r.any k]
 by_cases e:(vs.any fun kv=>decide (kv.1=k))=true
 ·rw [if_pos e,if_pos e];exact r.repl k ry
 ·rw [if_neg e,if_neg e];exact Paired.snoc r ⟨rfl,ry⟩
end
theorem qC {P:Program} {w:World} {k:Key} {u:Value} (r:RelV (kV k) u):(bz P w).is k u=true:=by
 cases k with
 | inl i=>obtain ⟨t,e⟩:=(show ∃ t,u=Value.int i t from r);subst e;exact su P w i t
 | inr x=>obtain ⟨t,e⟩:=(show ∃ t,u=Value.str x t from r);subst e;exact sy P w x t
theorem qD {P:Program} {w:World}:∀ {ks:List Key} {us:List Value},Vals (ks.map kV) us->ItemsAre (bz P w) ks us
 | [],_,r=>by rw [List.map_nil] at r;cases r;exact .nil
 | k :: ks,_,r=>by
  rw [List.map_cons] at r
  cases r with
  | cons h t=>exact .cons (qC h) (qD t)
abbrev KT (H:Hp):List (List Key×V)->List (List Key×Addr×Value)->Prop:=Paired fun p q=>p.1=q.1/\H q.2.1=some (.tup (p.1.map kV))/\RelV p.2 q.2.2
theorem KT.val {H:Hp} {kvs:List (List Key×V)} {xs:List (List Key×Addr×Value)} (r:KT H kvs xs) (k:List Key):RelO (o6 kvs k) ((atKey xs k).map (·.2)):=by
 induction r with
 | nil=>exact True.intro
 | @cons p q ps qs h t ih=>
  obtain ⟨h1,_,h2⟩:=h
  by_cases e:p.1=k
  ·have e':q.1=k:=h1.symm.trans e
   have b:atKey (q :: qs) k=some q.2:=by simp [atKey,List.find?_cons,e']
   rw [sY e,b];exact h2
  ·have e':¬ q.1=k:=fun z=>e (h1.trans z)
   have b:atKey (q :: qs) k=atKey qs k:=by simp [atKey,List.find?_cons,e']
   rw [sZ e,b];exact ih
section
variable {P:Program} {w:World} {H:Hp} {h:Heap} {a:Addr}
theorem CQ {u:HO} (ok:HOk P w H h) (e:Rd H a u):ObjOk P w H h a u:=e.ok ok
theorem vB {kvs:List (Key×V)} (ok:HOk P w H h) (e:Rd H a (.dK kvs)):kvs.length<=sizeLine/\(a == sysModules)=false/\∃ vs,KV kvs vs/\h.DictOf (bz P w) a vs:=
 show ObjOk P w H h a (.dK kvs) from CQ ok e
theorem Iv {kvs:List (Key×V)} (ok:HOk P w H h) (e:H a=some (.dK kvs)):kvs.length<=sizeLine/\(a == sysModules)=false/\∃ vs,KV kvs vs/\h.DictOf (bz P w) a vs:=vB ok (.inl e)
theorem uJ {ks:List Key} (ok:HOk P w H h) (e:H a=some (.tup (ks.map kV))):(tupleKind (bz P w)).is h ks a:=by
 obtain ⟨_,its,r,o,h1,h2,n,h3⟩:=(show ObjOk P w H h a (.tup (ks.map kV)) from ok a _ e)
 exact ⟨o,its.toArray,n,h1,h2,h3,by simpa using qD r⟩
theorem yo {kvs:List (List Key×V)} (ok:HOk P w H h) (e:Rd H a (.dT kvs)):kvs.length<=sizeLine/\(a == sysModules)=false/\
  ∃ xs,KT H kvs xs/\h.DictOfH (tupleKind (bz P w)) a xs:=by
 obtain ⟨z,y,xs,r,o,es,ep,h1,h2,h3,h4,h5⟩:=(show ObjOk P w H h a (.dT kvs) from CQ ok e)
 refine ⟨z,y,xs,r,o,es,ep,h1,h2,h3,h4,fun x hx=>?_,h5⟩
 have all:∀ {l:List (List Key×V)} {m:List (List Key×Addr×Value)},KT H l m->∀ x∈m,(tupleKind (bz P w)).is h x.1 x.2.1:=by
  intro l m q
  induction q with
  | nil=>intro x hx;exact nomatch hx
  | @cons p q ps qs hq t ih=>
   intro x hx
   rcases List.mem_cons.mp hx with e | hx
   ·subst e
    exact uJ ok (by rw [← hq.1];exact hq.2.1)
   ·exact ih x hx
 exact all r x hx
end
def DGet (H:Hp) (a:Addr) (y:V) (r:Option V):Prop:=
 (∃ kvs k,Rd H a (.dK kvs)/\y=kV k/\r=o6 kvs k)\/∃ kvs k b,Rd H a (.dT kvs)/\y= .ref b/\H b=some (.tup (k.map kV))/\r=o6 kvs k
theorem DGet.k {H:Hp} {a:Addr} {kvs:List (Key×V)} {k:Key} (e:H a=some (.dK kvs)):DGet H a (kV k) (o6 kvs k):=.inl ⟨kvs,k,.inl e,rfl,rfl⟩
section
variable {X:Cx} {pins:List (Addr×Obj)} {U:St} {H:Hp} {s:Shared} {a:Addr} {y v:V} {u r:Value} {o:Option V} {A:Around} {E:Value->Shared->Prop}
theorem Inv.big (I:Inv X pins U H s):sysModules < s.heap.objs.size:=by
 have h:mainGlobals < s.heap.objs.size:=(I.mod.glob.keeps I.bk).lt
 exact Nat.lt_trans (by decide) h
theorem wH {Q:Value->Shared->Prop} (hu:A.units+1 < cLine) (I:Inv X pins U H s) (g:DGet H a y (some v)) (ry:RelV y u) (h:∀ w' s',Inv X pins U H s'->RelV v w'->Q w' s'):
  wpAny (model X.prog X.w) A (getItem (.ref a) u) Q E s:=by
 rcases g with ⟨kvs,k,e,ey,l⟩ | ⟨kvs,k,b,e,ey,eb,l⟩
 ·subst ey
  obtain ⟨z,hd,vs,rel,dd⟩:=vB I.hok e
  obtain ⟨w',hw,rw'⟩:=RelO.some_of (v:=v) (o:=valueAt vs k) (by rw [l];exact rel.val k)
  exact wpAny_getItem_of (qC ry) dd.mapOf hw (h w' _ (I.tok _) rw')
 ·subst ey
  cases (show u=Value.ref b from ry)
  obtain ⟨z,hd,xs,rel,dd⟩:=yo I.hok e
  obtain ⟨w',hw,rw'⟩:=RelO.some_of (v:=v) (o:=(atKey xs k).map (·.2)) (by rw [l];exact rel.val k)
  obtain ⟨p,hp,hp2⟩:=Option.map_eq_some_iff.mp hw
  refine wpAny_getItem_heap (tupleKind_room_in1 hu) (uJ I.hok eb) dd hp ?_
  rw [hp2]
  exact h w' _ (I.tok _) rw'
theorem d_in {Q:Value->Shared->Prop} (hu:A.units+1 < cLine) (I:Inv X pins U H s) (g:DGet H a y o) (ry:RelV y u) (h:∀ s',Inv X pins U H s'->Q (.bool o.isSome) s'):
  wpAny (model X.prog X.w) A (compareOp .In u (.ref a)) Q E s:=by
 rcases g with ⟨kvs,k,e,ey,l⟩ | ⟨kvs,k,b,e,ey,eb,l⟩
 ·subst ey
  obtain ⟨z,hd,vs,rel,dd⟩:=vB I.hok e
  refine wpAny_in_of (qC ry) hd dd.mapOf ?_
  rw [← (rel.val k).isSome_eq,← l]
  exact h _ (I.tok _)
 ·subst ey
  cases (show u=Value.ref b from ry)
  obtain ⟨z,hd,xs,rel,dd⟩:=yo I.hok e
  refine wpAny_in_heap (tupleKind_room_in1 hu) (uJ I.hok eb) hd dd ?_
  have q:=(rel.val k).isSome_eq
  rw [Option.isSome_map] at q
  rw [← q,← l]
  exact h _ (I.tok _)
theorem Ak {h':Heap} {t':Nat} {ob:HO} (I:Inv X pins U H s) (mu:HB (H a)) (hs:Heap.SameBut a s.heap h') (he:∃ q,h'.get? a=some q) (new:ObjOk X.prog X.w (upd H a ob) h' a ob):
  Inv X pins U (upd H a ob) {s with heap:=h',toks:=t'}:=
 I.write (x:=a) (e:=a) mu (.inl rfl) (fun b q hb z=>(hs.2 b hb).trans z) he new
theorem Fd {P:Program} {w:World} {H':Hp} {h':Heap} {kvs:List (Key×V)} {vs:List (Key×Value)} (z:kvs.length<=sizeLine) (hd:(a == sysModules)=false) (rel:KV kvs vs) (dd:h'.DictOf (bz P w) a vs):
  ObjOk P w H' h' a (.dK kvs):=⟨z,hd,vs,rel,dd⟩
end
def Iw (i:Expr):Prop:=∀ ov iv,subscripted i false ov iv=operate [ov,iv] (getItem ov iv)
theorem vC {prog:Program} {w:World} {A:Around} {E:Value->Shared->Prop} {s:Shared} {env:Env} {value slice:Expr} {pos:Pos} {T id:String} {Q:Value->Shared->Prop}
  (hl:typeLookup (.type T) "__getitem__"=pure (some (.builtin id))) (hs:Iw slice)
  (h:wpAny (model prog w) A (eval value env) (fun o s₁=>wpAny (model prog w) A (eval slice env) (fun i s₂=>s₂.TypeIs o T/\wpAny (model prog w) A (getItem o i) Q E s₂) E s₁) E s):
  wpAny (model prog w) A (eval (.Subscript value slice pos) env) Q E s:=by
 refine Subscript_ (wpAny_mono h (fun o s₁ h₁=>wpAny_mono h₁ (fun i s₂ h₂=>?_) fun _ _ x=>x) fun _ _ x=>x)
 obtain ⟨hT,h₂⟩:=h₂
 unfold subscriptTail
 refine wpAny_bind ?_
 rw [getitemInPython_of_ne hT.not_modules]
 refine wpAny_bind (wpAny_specialOf hT hl ?_)
 have fin:wpAny (model prog w) A (subscripted slice false o i) (fun r s₃=>wpAny (model prog w) A (letTemporaryGo value o r >>=fun _=>pure r) Q E s₃) E s₂:=by
  rw [hs o i]
  exact wpAny_operating (wpAny_mono h₂ (fun r s₃ h₃=>wpAny_bind (wpAny_letTemporaryGo (wpAny_pure h₃))) fun _ _ x=>x)
 first
  | exact wpAny_pure (wpAny_bind fin)
  | exact wpAny_bind (wpAny_pure (wpAny_bind fin))
  | exact wpAny_bind fin
theorem tE {X:Cx} {pins:List (Addr×Obj)} {U:St} {H:Hp} {s:Shared} {a:Addr} {y:V} {o:Option V} (I:Inv X pins U H s) (g:DGet H a y o):s.TypeIs (.ref a) "dict":=by
 rcases g with ⟨kvs,k,e,_,_⟩ | ⟨kvs,k,b,e,_,_,_⟩
 ·obtain ⟨_,_,vs,_,dd⟩:=vB I.hok e
  exact dd.typeIs
 ·obtain ⟨_,_,xs,_,dd⟩:=yo I.hok e
  exact dd.typeIs
def yp (td ty:TE):TE:=fun U H Q=>td U H fun x H1=>ty U H1 fun y H2=>∃ a v,x= .ref a/\DGet H2 a y (some v)/\Q v H2
section
variable {X:Cx} {o i e value:Expr} {pos pos' tpos:Pos} {td ty tv:TE}
theorem Al (hu:X.A.units+1 < cLine) (ho:PE X o td) (hi:PE X i ty) (hs:Iw i):PE X (.Subscript o i pos) (yp td ty):=by
 intro pins s U H Q I h
 refine vC PySem.F.slot_dict_getitem.lookup hs (dz (ho pins s U H _ I h) fun u s1 ⟨x,H1,I1,rx,q1⟩=>dz (hi pins s1 U H1 _ I1 q1) fun iv s2 qq0=>?_)
 obtain ⟨y,H2,I2,ry,a,v,ex,g,q2⟩:=qq0
 subst ex
 obtain rfl:u=Value.ref a:=rx
 exact ⟨tE I2 g,wH hu I2 g ry fun w' s3 I3 rw'=>⟨v,H2,I3,rw',q2⟩⟩
end
theorem yq {P:Program} {w:World} {H:Hp} (h:Heap) (hb:sysModules < h.objs.size):ObjOk P w H (h.push {cls:=.type "dict",data:=.dict #[]}) h.objs.size (.dK []):=
 ⟨Nat.zero_le _,beq_eq_false_iff_ne.mpr (Ne.symm (Nat.ne_of_lt hb)),[],.nil,Heap.DictOf.new h⟩
def rB:List (TE×TE)->St->Hp->(List (V×V)->Hp->Prop)->Prop
 | [],_,H,Q=>Q [] H
 | (tk,tv) :: r,U,H,Q=>tk U H fun x H1=>tv U H1 fun y H2=>rB r U H2 fun ps H3=>Q ((x,y) :: ps) H3
abbrev VV:List (V×V)->List (Value×Value)->Prop:=Paired fun p q=>RelV p.1 q.1/\RelV p.2 q.2
def Iz (X:Cx) (pos:Pos) (keys:List (Option Expr)) (values:List Expr) (trs:List (TE×TE)):Prop:=
 ∀ (pins:List (Addr×Obj)) (s:Shared) (U:St) (H:Hp) (Q:List (V×V)->Hp->Prop),Inv X pins U H s->rB trs U H Q->
  wpAny (model X.prog X.w) X.A (evalPairs (pairTrees keys values X.env pos)) (fun vs s'=>∃ ps H',Inv X pins U H' s'/\VV ps vs/\Q ps H') X.xe s
theorem Am {X:Cx} {pos:Pos}:Iz X pos [] [] []:=fun pins s U H Q I h=>pairTrees_nil_walk ⟨[],H,I,.nil,h⟩
theorem yr {X:Cx} {pos:Pos} {k v:Expr} {ks:List (Option Expr)} {vs:List Expr} {tk tv:TE} {trs:List (TE×TE)} (hk:PE X k tk) (hv:PE X v tv) (hr:Iz X pos ks vs trs):
  Iz X pos (some k :: ks) (v :: vs) ((tk,tv) :: trs):=fun pins s U H Q I h=>
 pairTrees_cons_walk (dz (hk pins s U H _ I h) fun u s1 ⟨x,H1,I1,rx,q1⟩=>dz (hv pins s1 U H1 _ I1 q1) fun w2 s2 ⟨y,H2,I2,ry,q2⟩=>
  dz (hr pins s2 U H2 _ I2 q2) fun ws s3 ⟨ps,H3,I3,rel,q3⟩=>⟨(x,y) :: ps,H3,I3,.cons ⟨rx,ry⟩ rel,q3⟩)
def iC (kvs more:List (Key×V)):List (Key×V):=more.foldl (fun acc kv=>putK acc kv.1 kv.2) kvs
theorem KV.merge:∀ {more:List (Key×V)} {rs:List (Key×Value)} {kvs:List (Key×V)} {vs:List (Key×Value)},KV more rs->KV kvs vs->KV (iC kvs more) (merged vs rs):=by
 intro more rs kvs vs r
 unfold KV at r
 induction r generalizing kvs vs with
 | nil=>intro q;exact q
 | @cons p q ps qs h t ih=>
  intro r0
  have e:KV (putK kvs p.1 p.2) (stored vs q.1 q.2):=by
   have:=r0.put p.1 h.2
   rw [← h.1];exact this
  exact ih e
theorem km:∀ (more kvs:List (Key×V)),(iC kvs more).length<=kvs.length+more.length
 | [],kvs=>by show kvs.length<=kvs.length+0;omega
 | p :: r,kvs=>by
  have h1:=km r (putK kvs p.1 p.2)
  have h2:=tD kvs p.1 p.2
  show (iC (putK kvs p.1 p.2) r).length<=_
  rw [List.length_cons];omega
theorem o7 {P:Program} {w:World}:∀ {kvs:List (Key×V)} {ws:List (Value×Value)},VV (kvs.map fun kv=>(kV kv.1,kv.2)) ws->∃ rs,Carries (bz P w) ws rs/\KV kvs rs
 | [],_,r=>by rw [List.map_nil] at r;cases r;exact ⟨[],True.intro,.nil⟩
 | p :: kvs,_,r=>by
  rw [List.map_cons] at r
  cases r with
  | @cons a b as bs h t=>
   obtain ⟨rs,c,q⟩:=o7 (P:=P) (w:=w) t
   obtain ⟨b1,b2⟩:=b
   exact ⟨(p.1,b2) :: rs,⟨qC h.1,rfl,c⟩,.cons ⟨rfl,h.2⟩ q⟩
def yt (trs:List (TE×TE)):TE:=fun U H Q=>∀ p,H p=none->rB trs U (upd H p (.dK [])) fun ps H2=>H2 p=some (.dK [])/\∃ kvs:List (Key×V),ps=kvs.map (fun kv=>(kV kv.1,kv.2))/\kvs.length<=15/\Q (.ref p) (upd H2 p (.dK (iC [] kvs)))
theorem An {X:Cx} {pos:Pos} {keys:List (Option Expr)} {values:List Expr} {trs:List (TE×TE)} (h:Iz X pos keys values trs) (hall:keys.all (·.isSome)=true) (hl:keys.length=values.length) (h0:keys≠[])
  (h15:keys.length<=15):PE X (.Dict keys values pos) (yt trs):=by
 intro pins s U H Q I q
 have hn:=I.hok.fresh (Nat.le_refl s.heap.objs.size)
 have I1:=I.laid (a:=s.heap.objs.size) (o:=.dK []) (h':=s.heap.push {cls:=.type "dict",data:=.dict #[]}) (t':=s.toks) (fun _ _ q=>Heap.get?_push_of_some _ q) (Nat.le_refl _) (yq s.heap I.big)
 refine wpAny_Dict_walk (knd:=bz X.prog X.w) hall hl h0 h15 (dz (h pins _ U _ _ I1 (q _ hn)) fun ws s2 qq0=>?_)
 obtain ⟨ps,H2,I2,rel,e,kvs,ep,lk,q2⟩:=qq0
 subst ep
 obtain ⟨rs,c,rk⟩:=o7 (P:=X.prog) (w:=X.w) rel
 obtain ⟨z,hd,vs0,r0,dd⟩:=Iv I2.hok e
 cases r0
 refine ⟨rs,c,dd,fun h' dd' hs=>⟨.ref s.heap.objs.size,_,?_,rfl,q2⟩⟩
 have hz:(iC [] kvs).length<=sizeLine:=by
  have h1:=km kvs []
  rw [List.length_nil] at h1
  rw [sizeLine_eq];omega
 have he:∃ q,h'.get? s.heap.objs.size=some q:=let ⟨q,_,_,hq,_⟩:=dd';⟨q,hq⟩
 exact Ak I2 (by rw [e];exact True.intro) hs he (Fd hz hd (rk.merge .nil) dd')
structure M2 (X:Cx) (o:Expr) (m:Str) (apos:Pos) (e f:Expr) (cpos:Pos):Prop where
 base:attributeBase o m X.env (eval o X.env)=eval o X.env
 few:((backTo cpos (starEach [e,f] X.env)).all (fun x=>!x.1) && (backToKw cpos (keywordEach [] X.env)).all (fun x=>x.1.isSome)
  && decide (([e,f]:List Expr).length+([]:List Keyword).length+(if ([]:List Keyword).isEmpty then 0 else 1) < 30))=true
 line:(apos.endLine == cpos.line)=true
 trees:backTo cpos (starEach [e,f] X.env)=[(false,eval e X.env),(false,eval f X.env)]
def Hy (x:Str):It:=⟨fun i _=>i < x.cps.size,fun i H v H'=>H'=H/\∃ c,x.cps[i]?=some c/\v= .str ⟨#[c]⟩,fun i _=>i=x.cps.size⟩
theorem tG {P:Program} {w:World} {K:W.Frag} {tg:Expr} (it:Addr) (x:Str) (t:Tok) (ty:String)
  (hty:["enumerate","zip","dict_itemiterator","dict_reverseitemiterator","odict_iterator","itertools.zip_longest","itertools.pairwise"].contains ty=false)
  (W:∀ A:Around,A.handled=none->Walks P w A it [it] [it] x.cps.size (SignAt x) fun i h=>h.IsStrIter it ty x t i)
  (hself:∀ (A:Around) (i:Nat) (s:Shared) (Q:Value->Shared->Prop) (E:Value->Shared->Prop),s.heap.IsStrIter it ty x t i->Q (.ref it) s->wpAny (model P w) A (pyIter (.ref it)) Q E s):Turn P w K tg (Hy x) [it] it (fun i h=>h.IsStrIter it ty x t i) where
 mem:=by simp
 obj:=fun i h st b hb=>by
  have e:b=it:=by simpa using hb
  subst e
  obtain ⟨o,e,c,d⟩:=st
  exact ⟨o,e,fun v z=>by rw [d] at z;cases z⟩
 keep:=fun i h h' st k=>by
  obtain ⟨o,e,r⟩:=st
  exact ⟨o,k it (by simp) o e,r⟩
 item:=by
  intro X hP hw hK hc i pins s U H E I hf st hg
  subst hP hw hK
  obtain ⟨f0,f1,f2,f3,f4,f5⟩:=hf it (by simp)
  refine (W X.A (I.ok.hd hc)).item i s _ _ hg st fun v h' tk hv st' kk=>?_
  obtain ⟨c,u,e1,rfl⟩:=hv
  have I1:Inv X pins U H {s with heap:=h',toks:=tk}:=I.turned (fun b o hb e=>kk b o (by simpa using hb) e) f0 f1 f3 f4 f5
  obtain ⟨o,e,cl,d⟩:=id st'
  exact ⟨_,rfl,sI (s:={s with heap:=h',toks:=tk}) e cl d hty ⟨.str ⟨#[c]⟩,H,I1,⟨u,rfl⟩,⟨rfl,c,e1,rfl⟩,st',fun b hb=>(hf b hb).1⟩⟩
 done:=by
  intro X hP hw hK hc i pins s U H E I hf st hg
  subst hP hw hK
  obtain ⟨f0,f1,f2,f3,f4,f5⟩:=hf it (by simp)
  have hg:i=x.cps.size:=hg
  subst hg
  exact (W X.A (I.ok.hd hc)).done s _ _ st fun h' tk kk=>⟨rfl,I.turned (fun b o hb e=>kk b o (by simpa using hb) e) f0 f1 f3 f4 f5⟩
 self:=hself
section
variable {X:Cx}
theorem all_range {bs:List Bool}:(List.range bs.length).all (fun i=>bs.getD i false)=bs.all id:=by
 rw [Bool.eq_iff_iff]
 simp only [List.all_eq_true,List.mem_range]
 constructor
 ·intro h b hb
  obtain ⟨i,hi,e⟩:=List.mem_iff_getElem.mp hb
  have:=h i hi
  rw [List.getD_eq_getElem?_getD,List.getElem?_eq_getElem hi] at this
  simp only [Option.getD_some] at this
  rw [← e];exact this
 ·intro h i hi
  rw [List.getD_eq_getElem?_getD,List.getElem?_eq_getElem hi]
  exact h _ (List.getElem_mem hi)
theorem m6:∀ {bs:List Bool} {us:List Value} {i:Nat} {v:Value},Vals (bs.map V.bl) us->us[i]?=some v->v= .bool (bs.getD i false)
 | [],_,i,v,.nil,e=>by simp at e
 | b :: bs,_,0,v,.cons r t,e=>by simp at e;subst e;exact r
 | b :: bs,_,i+1,v,.cons r t,e=>by
  simp at e
  have:=m6 (bs:=bs) t e
  simpa using this
def rAll:List V->Hp->VK->Prop:=fun xs H Q=>∃ (p:Addr) (bs:List Bool),xs=[.ref p]/\H p=some (.lst (bs.map V.bl))/\Q (.bl (bs.all id)) H
theorem cH (hc:X.calm=true):CallR X (.builtin "all") rAll:=by
 intro pins s U H xs us Q I r h
 obtain ⟨p,bs,rfl,hp,q⟩:=h
 obtain ⟨u,rfl,ru⟩:=vals1 r
 cases ru
 obtain ⟨hz,its,n,rv,e⟩:=I.hok p _ hp
 refine call_all_walk (wpAny_pyIter_list (items:=its.toArray) ⟨_,e,rfl,n,rfl⟩ ?_)
 refine ⟨s.heap.objs.size,_,_,_,_,_,fun i=>bs.getD i false,rfl,Walks.list (A:=X.A.in1) (I.ok.hd hc) s.heap.objs.size p (Nat.ne_of_lt (Heap.lt_size e)) its.toArray,⟨⟨_,Heap.get?_push_size _ rfl,rfl,rfl⟩,⟨_,Heap.get?_push_of_some _ e,rfl,n,rfl⟩⟩,?_,fun h' tk hk=>?_⟩
 ·intro i v s' Q' E' hv hq
  have:=m6 rv (by simpa using hv)
  subst this
  exact wpAny_truthy_bool hq
 ·have hl:its.toArray.size=bs.length:=by have:=rv.length;simpa using this.symm
  rw [hl,all_range]
  refine ⟨.bl _,H,?_,rfl,q⟩
  exact I.kept fun b o e=>hk b o (by simp;exact Nat.ne_of_lt (Heap.lt_size e)) (Heap.get?_push_of_some _ e)
theorem kW:∀ {ys:List Str} {us:List Value},Vals (ys.map V.str) us->StrsAre us ys
 | [],_,.nil=>.nil
 | y :: ys,_,.cons r t=>by
  obtain ⟨k,e⟩:=(show ∃ t,_=Value.str y t from r)
  subst e
  exact .cons y k (kW t)
def rJoin:V->List V->Hp->VK->Prop:=fun x xs H Q=>∃ (sep:Str) (p:Addr) (ys:List Str),x= .str sep/\xs=[.ref p]/\H p=some (.lst (ys.map V.str))/\(ys.map (·.length)).sum+ys.length*sep.length<=16777216/\Q (.str (Txt.join sep ys)) H
theorem Ao:Es X "str.join" rJoin:=by
 intro pins s U H x xs v us Q I rx r h
 obtain ⟨sep,p,ys,rfl,rfl,hp,hz,q⟩:=h
 obtain ⟨u,rfl,ru⟩:=vals1 r
 cases ru
 obtain ⟨t,rfl⟩:=rx
 obtain ⟨hz',its,n,rv,e⟩:=I.hok p _ hp
 exact join_list (items:=its.toArray) ⟨_,e,rfl,n,rfl⟩ (by simpa using kW rv) hz fun t' k=>⟨.str _,H,I.tok _,⟨_,rfl⟩,q⟩
def IK:V->Option Int->Option Int->Hp->VK->Prop:=fun v lo hi H Q=>∃ x,v= .str x/\x.length<=sizeLine/\Q (.str (Txt.slice x lo hi)) H
theorem Fe:SlR X IK:=by
 intro pins s U H x v vl vu lo hi sl Q I rx hs pl pu h
 obtain ⟨z,rfl,hz,q⟩:=h
 obtain ⟨t,rfl⟩:=rx
 refine ⟨"str",_,F.slot_str_getitem.lookup,typeIs_str _ _ _,?_⟩
 have fin:∀ (t' k:Nat),EP X pins U Q (.str (Txt.slice z lo hi) t') {s with toks:=k}:=fun t' k=>⟨.str _,H,I.tok _,⟨_,rfl⟩,q⟩
 have sz:=Nat.le_trans (Txt.slice_le z lo hi) hz
 obtain ⟨o,ho,hc,hd⟩:=hs
 cases pl with
 | none=>
  cases pu with
  | none=>exact wpAny_getItem_str_slice (l:=none) (u:=none) (st:=none) ⟨o,ho,hc,hd⟩ rfl (post_val_or_str ⟨sz,fin⟩)
  | int j tj=>exact wpAny_getItem_str_slice (l:=none) (u:=some (j,tj)) (st:=none) ⟨o,ho,hc,hd⟩ rfl (post_val_or_str ⟨sz,fin⟩)
 | int i ti=>
  cases pu with
  | none=>exact wpAny_getItem_str_slice (l:=some (i,ti)) (u:=none) (st:=none) ⟨o,ho,hc,hd⟩ rfl (post_val_or_str ⟨sz,fin⟩)
  | int j tj=>exact wpAny_getItem_str_slice (l:=some (i,ti)) (u:=some (j,tj)) (st:=none) ⟨o,ho,hc,hd⟩ rfl (post_val_or_str ⟨sz,fin⟩)
def CT:R2:=fun x y H Q=>∃ i n,x= .str i/\y= .int n/\MulOk i n/\Q (.str (Txt.mul i n)) H
theorem uK:OpR X (binaryOp .Mult) CT:=by
 intro pins s U H x y v u Q I rx ry h
 obtain ⟨i,n,rfl,rfl,hk,q⟩:=h
 obtain ⟨t,rfl⟩:=rx
 obtain ⟨t',rfl⟩:=ry
 exact SB.mul hk fun t' k=>⟨.str _,H,I.tok _,⟨_,rfl⟩,q⟩
def sgn (x:Str):List V:=x.cps.toList.map fun c=>V.str ⟨#[c]⟩
theorem qF {x:Str} {acc:Array Value} (h:ItemsOf (SignAt x) acc x.cps.size):Vals (sgn x) acc.toList:=by
 obtain ⟨h1,h2⟩:=h
 have key:∀ (l:List Nat) (a:List Value),l.length=a.length->(∀ (j:Nat) (v:Value),a[j]?=some v->∃ (c:Nat) (u:Tok),l[j]?=some c/\v=Value.str ⟨#[c]⟩ u)->Vals (l.map fun c=>V.str ⟨#[c]⟩) a:=by
  intro l
  induction l with
  | nil=>intro a hl _;cases a with
   | nil=>exact .nil
   | cons _ _=>simp at hl
  | cons c l ih=>
   intro a hl hh
   cases a with
   | nil=>simp at hl
   | cons v a=>
    obtain ⟨c',u,e1,e2⟩:=hh 0 v (by simp)
    simp at e1;subst e1
    refine .cons ⟨u,e2⟩ (ih a (by simpa using hl) fun j v' e=>?_)
    obtain ⟨c',u,e1,e2⟩:=hh (j+1) v' (by simpa using e)
    exact ⟨c',u,by simpa using e1,e2⟩
 refine key x.cps.toList acc.toList (by simp [h1]) fun j v e=>?_
 obtain ⟨c,u,e1,e2⟩:=h2 j v (by simpa using e)
 exact ⟨c,u,by simpa using e1,e2⟩
theorem tH (hc:X.calm=true):CallR X (.type "list") (fun xs H Q=>∃ x,xs=[.str x]/\x.cps.size<=sizeLine/\∀ p,H p=none->Q (.ref p) (upd H p (.lst (sgn x)))):=by
 intro pins s U H xs us Q I r h
 obtain ⟨x,rfl,hz,q⟩:=h
 obtain ⟨u,rfl,t,rfl⟩:=vals1 r
 refine call_list_str (I.ok.hd hc) x t (hn:=hz) fun h' tk acc' c' hk hS hacc=>?_
 refine ⟨.ref s.heap.objs.size,_,I.laid (o:=.lst (sgn x)) hk (Nat.le_refl _) ⟨by simp [sgn];exact hz,acc'.toList,c',qF hacc,by simpa using hS⟩,rfl,q _ I.fresh⟩
theorem rC (hc:X.calm=true):CallR X (.type "tuple") (fun xs H Q=>∃ x,xs=[.str x]/\x.cps.size<=sizeLine/\∀ p,H p=none->Q (.ref p) (upd H p (.tup (sgn x)))):=by
 intro pins s U H xs us Q I r h
 obtain ⟨x,rfl,hz,q⟩:=h
 obtain ⟨u,rfl,t,rfl⟩:=vals1 r
 refine call_tuple_str (I.ok.hd hc) x t (hsz:=hz) fun h' tk acc hk hacc=>?_
 have J:Inv X pins U H {s with heap:=h',toks:=tk}:=I.kept hk
 refine ⟨.ref h'.objs.size,_,J.laid (t':=tk) (o:=.tup (sgn x)) (fun b o e=>Heap.get?_push_of_some _ e) (Nat.le_refl _) ⟨by simp [sgn];exact hz,acc.toList,qF hacc,⟨_,Heap.get?_push_size _ rfl,rfl,0,by simp⟩⟩,rfl,q _ J.fresh⟩
def Ff (K:W.Frag):List V->Hp->VK->Prop:=fun xs H Q=>∃ x T t b,xs=[x,.ty T]/\lF K H x t/\PySem.W.kitOne K t (.type T)=some b/\Q (.bl b) H
theorem yu:CallR X (.builtin "isinstance") (Ff X.K):=by
 intro pins s U H xs us Q I r h
 obtain ⟨x,T,t,b,rfl,ty,e,q⟩:=h
 obtain ⟨u,v,rfl,ru,rv⟩:=vals2 r
 cases rv
 exact wy I ru ty e fun tk=>⟨.bl b,H,I.tok _,rfl,q⟩
def pY:List V->List V->Bool
 | [],[]=>true
 | x :: xs,y :: ys=>vy x y && pY xs ys
 | _,_=>false
theorem o8:∀ (xs ys:List V),xs.length=ys.length->(List.range xs.length).all (fun j=>vy (xs.getD j .non) (ys.getD j .non))=pY xs ys
 | [],[],_=>rfl
 | x :: xs,y :: ys,h=>by
  have ih:=o8 xs ys (by simpa using h)
  rw [List.length_cons,List.range_succ_eq_map,List.all_cons,List.all_map]
  simp only [pY]
  rw [← ih]
  rfl
 | [],y :: ys,h=>by simp at h
 | x :: xs,[],h=>by simp at h
theorem tK:∀ {xs ys:List V},xs.length≠ys.length->pY xs ys=false
 | [],[],h=>absurd rfl h
 | [],y :: ys,_=>rfl
 | x :: xs,[],_=>rfl
 | x :: xs,y :: ys,h=>by simp [pY,tK (xs:=xs) (ys:=ys) (by simpa using h)]
def IV (K:W.Frag) (neg:Bool):R2:=fun x y H Q=>∃ a b xs ys,x= .ref a/\y= .ref b/\SqL K H a xs/\SqL K H b ys/\xs.all gK=true/\ys.all gK=true/\Q (.bl (if neg then !pY xs ys else pY xs ys)) H
theorem wI (hu:X.A.units < cLine):OpR X (compareOp .Eq) (IV X.K false):=by
 intro pins s U H x y v u Q I rx ry h
 obtain ⟨a,b,xs,ys,rfl,rfl,ha,hb,fx,fy,q⟩:=h
 cases rx
 cases ry
 obtain ⟨its,r1,p1,z1⟩:=I.list ha
 obtain ⟨jts,r2,p2,z2⟩:=I.list hb
 have l1:its.toArray.size=xs.length:=by simpa using r1.length.symm
 have l2:jts.toArray.size=ys.length:=by simpa using r2.length.symm
 by_cases hl:xs.length=ys.length
 ·refine SeqAt.eq_listAt (e:=fun j=>vy (xs.getD j .non) (ys.getD j .non)) p1.isList p2.isList (by rw [l1,l2];exact hl) hu (fun j h1 h2=>?_) ?_
  ·have h1':j < xs.length:=by omega
   have h2':j < ys.length:=by omega
   obtain ⟨u1,e1,q1⟩:=r1.get (List.getElem?_eq_getElem h1')
   obtain ⟨u2,e2,q2⟩:=r2.get (List.getElem?_eq_getElem h2')
   have e1':its.toArray[j]=u1:=by
    have:=List.getElem?_eq_some_iff.mp e1
    obtain ⟨_,z⟩:=this
    simpa using z
   have e2':jts.toArray[j]=u2:=by
    have:=List.getElem?_eq_some_iff.mp e2
    obtain ⟨_,z⟩:=this
    simpa using z
   rw [e1',e2']
   have g1:xs.getD j .non=xs[j]:=by rw [List.getD_eq_getElem?_getD,List.getElem?_eq_getElem h1'];rfl
   have g2:ys.getD j .non=ys[j]:=by rw [List.getD_eq_getElem?_getD,List.getElem?_eq_getElem h2'];rfl
   show SeqAt.EqAt X.A.in1 s u1 u2 (vy (xs.getD j .non) (ys.getD j .non))
   rw [g1,g2]
   exact qY q1 q2 (List.all_eq_true.mp fx _ (List.getElem_mem h1')) (List.all_eq_true.mp fy _ (List.getElem_mem h2'))
  ·rw [l1,o8 xs ys hl]
   exact ⟨.bl _,H,I,rfl,q⟩
 ·refine SeqAt.eq_list_lengthsAt p1.isList p2.isList (by rw [l1,l2];simpa using hl) hu ?_
  rw [if_neg (by simp),tK hl] at q
  exact ⟨.bl false,H,I,rfl,q⟩
end
def cj (K:W.Frag) (mg:Str->Option Value) (x:Str) (st:Stmt):Prop:=∃ f fd,Fun K x x st f fd/\mg x=some (.ref f)
theorem aO {K:W.Frag} {mg:Str->Option Value} {h:Heap} (X:K.In h) (G:h.Ns mainGlobals mg) {x:Str} {st:Stmt} {f:Addr} {oc:Value} {od an:Option Addr} {osl:Array (Option Value)} {kV doc pm cdv ct:Value}
  (a:PySem.W.nsIn K mainGlobals x=some (some (.ref f)))
  (l:K.lookup f=some ⟨oc,od,.func (PySem.W.fnOf x x (il st) (dG st) (ak st) .none kV doc pm an cdv ct),osl⟩)
  (c:PySem.W.codeIn K cdv x=true) (k:PySem.W.keepIn K (.ref f)=true):cj K mg x st:=⟨f,_,Fb l c k,PySem.W.mg_of X G a⟩
def Has (P:Program) (w:World) (K:W.Frag) (mg:Str->Option Value) (base:Heap) (k:Nat) (x:Str) (ps:List Str) (sp:Sp):Prop:=
 ∃ f fd,mg x=some (.ref f)/\PySem.W.keepIn K (.ref f)=true/\Binds K fd ps []/\FnOk P w K mg base yh k f fd ps sp
section
variable {P:Program} {w:World} {K:W.Frag} {mg:Str->Option Value} {base:Heap}
theorem Has.mono {j k:Nat} {x:Str} {ps:List Str} {sp:Sp} (h:Has P w K mg base j x ps sp) (hk:j<=k):Has P w K mg base k x ps sp:=
 let ⟨f,fd,a,b,c,d⟩:=h;⟨f,fd,a,b,c,d.mono hk⟩
theorem Fg {x:Str} {st:Stmt} {N ps:List Str} {k:Nat} {sp:Sp} (D:cj K mg x st) (S:aD N ps (ak st))
  (hb:∀ (kV doc pm:Value) (an:Option Addr) (cdv ct:Value) (us:List Value),us.length=ps.length->bindArgs (PySem.W.fnOf x x (il st) (dG st) (ak st) .none kV doc pm an cdv ct) ⟨us,[]⟩=pure (ps.zip us))
  (len:∀ vs H Q E,sp vs H Q E->vs.length=ps.length)
  (hbody:∀ (f:Addr) (cdv:Value) (A:Around) (outer:List Env) (s:Shared) (H:Hp) (vs:List V) (Q:VK) (E:XK),Room k (A.deeper (envOfC x (ak st) s.heap.objs.size f cdv))->sp vs H Q E->
   ∃ t,PSs (qT yh P w K mg base N x (ak st) f cdv A outer s H E).nox (dG st) t/\t {nx:=fun _ H'=>Q .non H',rt:=Q} (start N vs) H):Has P w K mg base (k+1) x ps sp:=by
 obtain ⟨f,fd,F,hm⟩:=D
 exact ⟨f,fd,hm,F.kp,F.binds hb,F.ok S len fun cdv A outer s H vs Q E hr h=>hbody f cdv A outer s H vs Q E hr h⟩
end
section
variable {X:Cx}
theorem yw {k:Nat} {x:Str} {ps:List Str} {sp:Sp} {p pos:Pos} {e:Expr} {es:List Expr} {t:TA} (F:Has X.prog X.w X.K X.mg X.base k x ps sp) (hr:Room k X.A) (hg:Gl X x)
  (ha:PA X (e :: es) t) (hdb:autoParam ((x == ("__debug__":Str))=false) L2.auto2._auto_1) (he:autoParam (starEach (e :: es) X.env=(false,eval e X.env) :: starEach es X.env) L2.auto4._auto_1) (hpl:autoParam ((backTo pos (starEach es X.env)).any (·.1)=false) L2.auto4._auto_1):
  PE X (.Call (.Name x p) (e :: es) [] pos) (qm sp [] E0 t):=by
 obtain ⟨f,fd,a,b,c,d⟩:=F
 exact Ac d hr hg a b c .nil Iu ha hdb he hpl
def vD:R2:=fun x y H Q=>(∃ i j,x= .int i/\y= .int j/\Q (.int (i+j)) H)\/(∃ i j,x= .str i/\y= .str j/\i.length+j.length<=sizeLine/\Q (.str (i ++ j)) H)\/Ip x y H Q
theorem bY:OpR X (binaryOp .Add) vD:=Ed.or (uF.or Ez)
def yx:R2:=fun x y H Q=>(∃ i j,x= .int i/\y= .int j/\CMul i j/\Q (.int (i*j)) H)\/CT x y H Q\/Ir x y H Q
theorem jc:OpR X (binaryOp .Mult) yx:=Eg.or (uK.or EY)
theorem yz {x:Str} {z:Str} {pos:Pos} (hg:Gl X x) (hm:∃ t,X.mg x=some (.str z t)) (hd:autoParam ((x == ("__debug__":Str))=false) L2.auto2._auto_1):PE X (.Name x pos) (tC (.str z)):=
 let ⟨t,e⟩:=hm;oK hg e ⟨t,rfl⟩ hd
theorem yC {x:Str} {z:Int} {pos:Pos} (hg:Gl X x) (hm:∃ t,X.mg x=some (.int z t)) (hd:autoParam ((x == ("__debug__":Str))=false) L2.auto2._auto_1):PE X (.Name x pos) (tC (.int z)):=
 let ⟨t,e⟩:=hm;oK hg e ⟨t,rfl⟩ hd
theorem IW {x:Str} {T:String} {pos:Pos} (hg:Gl X x) (hm:X.mg x=none) (hv:bootBuiltins x=some (.type T)) (hn:autoParam (x≠"__name__") L2.auto2._auto_1) (hd:autoParam ((x == ("__debug__":Str))=false) L2.auto2._auto_1):PE X (.Name x pos) (tC (.ty T)):=
 zP hg hm hv rfl hn hd
def Aq (K:W.Frag):R2:=fun x y H Q=>(∃ i j,x= .str i/\y= .str j/\Q (.bl (!(Builtin.Str.occurrences j i 0 j.length 1).isEmpty)) H)\/rIn K false x y H Q
theorem Fi:OpR X (compareOp .In) (Aq X.K):=wg.or wB
def Fj (K:W.Frag):R2:=fun x y H Q=>rEq x y H Q\/IV K false x y H Q
theorem Fl (hu:X.A.units < cLine):OpR X (compareOp .Eq) (Fj X.K):=HW.or (wI hu)
def KN (K:W.Frag):V->Option Int->Option Int->Hp->VK->Prop:=fun x lo hi H Q=>Il K x lo hi H Q\/Ig K x lo hi H Q\/IK x lo hi H Q
theorem Fo:SlR X (KN X.K):=Ah.or (Er.or Fe)
def Ar (K:W.Frag) (tl:TE):TI:=fun U H R=>tl U H fun x H1=>(∃ a,x= .ref a/\(∃ xs,SqL K H1 a xs)/\R (CP K a) H1)\/(∃ a,x= .ref a/\(∃ xs,SqT K H1 a xs)/\R (HN K a) H1)\/(∃ z,x= .str z/\R (Hy z) H1)
theorem Fp {tg l:Expr} {tl:TE} (hl:PE X l tl):PI X tg l (Ar X.K tl):=by
 intro pins s U H R I h
 refine dz (hl pins s U H _ I h) fun v s1 qq0=>?_
 obtain ⟨x,H1,I1,r1,q1⟩:=qq0
 rcases q1 with ⟨a,rfl,⟨xs,hq⟩,q⟩ | ⟨a,rfl,⟨xs,hq⟩,q⟩ | ⟨z,rfl,q⟩
 ·cases r1
  obtain ⟨its,rv,p,hz⟩:=I1.list hq
  refine wpAny_pyIter_list p.isList ?_
  refine ⟨s1.heap.objs.size,[s1.heap.objs.size],_,_,H1,rfl,I1.kept (t':=s1.toks) fun b o e=>Heap.get?_push_of_some _ e,v7 a _,⟨_,Heap.get?_push_size _ rfl,rfl,rfl⟩,fun b hb=>?_,q⟩
  have e:b=s1.heap.objs.size:=by simpa using hb
  subst e
  exact I1.fpOk (Nat.le_refl _) (I1.hok.fresh (Nat.le_refl _))
 ·cases r1
  obtain ⟨its,rv,p,hz⟩:=I1.tuple hq
  refine wpAny_pyIter_tuple (show s1.heap.IsTuple a its.toArray from p) ?_
  refine ⟨s1.heap.objs.size,[s1.heap.objs.size],_,_,H1,rfl,I1.kept (t':=s1.toks) fun b o e=>Heap.get?_push_of_some _ e,uC a _,⟨_,Heap.get?_push_size _ rfl,rfl,rfl⟩,fun b hb=>?_,q⟩
  have e:b=s1.heap.objs.size:=by simpa using hb
  subst e
  exact I1.fpOk (Nat.le_refl _) (I1.hok.fresh (Nat.le_refl _))
 ·obtain ⟨t,rfl⟩:=r1
  have fin:∀ (ty:String) (T:Turn X.prog X.w X.K tg (Hy z) [s1.heap.objs.size] s1.heap.objs.size (fun i h=>h.IsStrIter s1.heap.objs.size ty z t i)) (o:Obj),(s1.heap.push o).IsStrIter s1.heap.objs.size ty z t 0->PIE X pins U tg R (.ref s1.heap.objs.size) {s1 with heap:=s1.heap.push o}:=
   fun ty T o st=>⟨s1.heap.objs.size,[s1.heap.objs.size],_,_,H1,rfl,I1.kept (t':=s1.toks) fun b o e=>Heap.get?_push_of_some _ e,T,st,fun b hb=>by
    have e:b=s1.heap.objs.size:=by simpa using hb
    subst e
    exact I1.fpOk (Nat.le_refl _) (I1.hok.fresh (Nat.le_refl _)),q⟩
  cases ha:z.cps.all (· < 128)
  ·exact wpAny_pyIter_wide ha (fin "str_iterator" (tG _ z t _ (by decide) (fun A' hA=>Walks.strWide hA _ z t) fun A i s Q E st h=>wpAny_pyIter_striter_wide st h) _ ⟨_,Heap.get?_push_size _ rfl,rfl,rfl⟩)
  ·exact wpAny_pyIter_ascii ha (fin "str_ascii_iterator" (tG _ z t _ (by decide) (fun A' hA=>Walks.strAscii hA _ z t) fun A i s Q E st h=>wpAny_pyIter_striter_ascii st h) _ ⟨_,Heap.get?_push_size _ rfl,rfl,rfl⟩)
end
section
variable {X:Cx} {K:W.Frag}
theorem Av (hK:X.K=K):IxR X (Ew K):=hK ▸ Ex
theorem yD (hK:X.K=K):OpR X (compareOp .In) (Aq K):=hK ▸ Fi
theorem Fq (hK:X.K=K) (hu:X.A.units < cLine):OpR X (compareOp .Eq) (Fj K):=hK ▸ Fl hu
theorem Aw {tg l:Expr} {tl:TE} (hK:X.K=K) (hl:PE X l tl):PI X tg l (Ar K tl):=hK ▸ Fp hl
def Ax (K:W.Frag):List V->Hp->VK->Prop:=fun xs H Q=>∃ x n,xs=[x]/\Ib K x H n/\Q (.int n) H
theorem bQ (hK:X.K=K):CallR X (.builtin "len") (Ax K):=hK ▸ xX
theorem bR (hK:X.K=K):CallR X (.builtin "isinstance") (Ff K):=hK ▸ yu
def yE (K:W.Frag):List V->Hp->VK->Prop:=fun xs H Q=>(∃ p ys,xs=[.ref p]/\(SqL K H p ys\/SqT K H p ys)/\∀ l,H l=none->Q (.ref l) (upd H l (.lst ys)))\/(∃ x,xs=[.str x]/\x.cps.size<=sizeLine/\∀ p,H p=none->Q (.ref p) (upd H p (.lst (sgn x))))
theorem kY (hK:X.K=K) (hc:X.calm=true):CallR X (.type "list") (yE K):=hK ▸ q9.or (tH hc)
def Ja (K:W.Frag):List V->Hp->VK->Prop:=fun xs H Q=>(∃ p ys,xs=[.ref p]/\((SqL K H p ys/\∀ l,H l=none->Q (.ref l) (upd H l (.tup ys)))\/(SqT K H p ys/\Q (.ref p) H)))\/(∃ x,xs=[.str x]/\x.cps.size<=sizeLine/\∀ p,H p=none->Q (.ref p) (upd H p (.tup (sgn x))))
theorem tL (hK:X.K=K) (hc:X.calm=true):CallR X (.type "tuple") (Ja K):=hK ▸ pU.or (rC hc)
variable {o e:Expr} {es:List Expr} {to:TE} {t:TA} {name:Str} {apos cpos:Pos} {T id:String} {r:V->List V->Hp->VK->Prop}
theorem Ft (hK:X.K=K) (pa:PlainAttrs T) (slot:Slot T name id) (hty:typeOf (.builtin id)=pure (.type "method_descriptor")) (hm:Es X id r) (ho:PE X o to) (ha:PA X (e :: es) t)
  (hbase:autoParam (attributeBase o name X.env (eval o X.env)=eval o X.env) L2.auto4._auto_1)
  (hfew:((backTo cpos (starEach (e :: es) X.env)).all (fun x=>!x.1) && (backToKw cpos (keywordEach [] X.env)).all (fun x=>x.1.isSome)
   && decide ((e :: es).length+([]:List Keyword).length+(if ([]:List Keyword).isEmpty then 0 else 1) < 30))=true:=by rfl)
  (hline:autoParam ((apos.endLine == cpos.line)=true) L2.auto4._auto_1) (hs:autoParam (starEach (e :: es) X.env=(false,eval e X.env) :: starEach es X.env) L2.auto4._auto_1) (hplain:autoParam ((backTo cpos (starEach es X.env)).any (·.1)=false) L2.auto4._auto_1):
  PE X (.Call (.Attribute o name apos) (e :: es) [] cpos) (Im K T r to t):=by
 subst hK;exact Io pa slot hty hm ho ha hbase hfew hline hs hplain
theorem Ay {ts:List Expr} {k:Nat} {gs:v5} {n:Nat} {pos:Pos} (hK:X.K=K) (hc:X.calm=true) (h:Hv X ts gs)
  (hn:autoParam ((assignEach ts X.env).length=n) L2.auto4._auto_1) (hst:autoParam ((assignEach ts X.env).findIdx? (·.1)=none) L2.auto4._auto_1):PG X (.Tuple ts k pos) (zX K n gs):=by
 subst hK;exact DY hc h hn hst
end
section
variable {X:Cx} {sc scope:Scope} {N':List Str} {C:Addr} {s₀:Shared} {H₀:Hp} {ex:List Addr} {x:Str} {pos:Pos}
theorem pvL (i:Nat) (h:sc.names.lookup x=some .local) (hN:autoParam (X.N[i]?=some x) L2.auto4._auto_1) (hsc:autoParam (X.env.scope=sc) L2.auto4._auto_1) (hd:autoParam ((x == ("__debug__":Str))=false) L2.auto6._auto_1) (hcd:autoParam ((x == ("__classdict__":Str))=false) L2.auto6._auto_1):
  PE X (.Name x pos) (sH i):=uB hN (.inl (by rw [hsc];exact h)) hd hcd
theorem pvBL (i:Nat) (h:scope.names.lookup x=some .local) (hN:autoParam (N'[i]?=some x) L2.auto4._auto_1) (hd:autoParam ((x == ("__debug__":Str))=false) L2.auto6._auto_1) (hcd:autoParam ((x == ("__classdict__":Str))=false) L2.auto6._auto_1):
  PE (j7 X N' scope C s₀ H₀ ex) (.Name x pos) (sH i):=uB hN (.inl (lookup_relabel_local h)) hd hcd
theorem pvBF (i:Nat) (h:scope.names.lookup x=some .free) (hN:autoParam (N'[i]?=some x) L2.auto4._auto_1) (hd:autoParam ((x == ("__debug__":Str))=false) L2.auto6._auto_1) (hcd:autoParam ((x == ("__classdict__":Str))=false) L2.auto6._auto_1):
  PE (j7 X N' scope C s₀ H₀ ex) (.Name x pos) (sH i):=uB hN (by
   rcases jb (env:=X.env) h with z | z
   ·exact .inr (.inl z)
   ·exact .inr (.inr z)) hd hcd
theorem bc (h:sc.names.lookup x=some .globalImplicit) (hsc:autoParam (X.env.scope=sc) L2.auto4._auto_1):Gl X x:=by
 show X.env.scope.names.lookup x=_
 rw [hsc];exact h
theorem gC {env:Env}:∀ {names:List (Str×NameKind)} {x:Str},names.lookup x=some .globalImplicit->
  (names.map fun (n,k)=>if (k == NameKind.free && env.scope.kind == .function && env.kindOf n == some .cell) then (n,NameKind.cell) else (n,k)).lookup x=some .globalImplicit
 | [],_,h=>by simp at h
 | (n,k) :: r,x,h=>by
  have ih:=@gC env r x
  show List.lookup x ((if (k == NameKind.free && env.scope.kind == .function && env.kindOf n == some .cell)=true then (n,NameKind.cell) else (n,k)) :: _)=_
  cases hx:x == n with
  | true=>
   simp only [List.lookup_cons,hx] at h
   cases h
   simp [List.lookup_cons,hx]
  | false=>
   simp only [List.lookup_cons,hx] at h
   by_cases hc:(k == NameKind.free && env.scope.kind == .function && env.kindOf n == some .cell)=true
   ·rw [if_pos hc];simp only [List.lookup_cons,hx];exact ih h
   ·rw [if_neg hc];simp only [List.lookup_cons,hx];exact ih h
theorem jL (h:scope.names.lookup x=some .globalImplicit):Gl (j7 X N' scope C s₀ H₀ ex) x:=gC h
theorem pgB (i:Nat) (h:scope.names.lookup x=some .local) (hN:N'.Nodup) (hi:autoParam (N'[i]?=some x) L2.auto4._auto_1):PG (j7 X N' scope C s₀ H₀ ex) (.Name x pos) (j9 i):=
 vd hN hi (.inl (lookup_relabel_local h)) (.inr (lookup_relabel_local h))
end
def lM:Expr->Bool
 | .ListComp ..=>false | .SetComp ..=>false | .DictComp ..=>false | _=>true
theorem CV {value:Expr} {target:Option Expr} {line:Nat} {env:Env} (h:lM value=true):swapsWith value target line env=pure false:=by
 cases value <;> first | rfl | cases h
def jM:Expr->Bool
 | .Slice ..=>false | _=>true
theorem pix {b:Expr} (h:jM b=true):vq b:=by
 intro o i
 cases b <;> first | rfl | cases h
def mL:Expr->Bool
 | .Set ..=>false | _=>true
theorem yF {e:Expr} {env:Env} (h:mL e=true):∀ x,foldedSetIterable e env x=pure x:=by
 intro x
 cases e <;> first | rfl | cases h
def notStar:Expr->Bool
 | .Starred ..=>false | _=>true
theorem cV {e:Expr} {es:List Expr} {env:Env} (h:notStar e=true):starEach (e :: es) env=(false,eval e env) :: starEach es env:=by
 cases e <;> first | rfl | cases h
theorem mO {env:Env} {pos:Pos}:∀ {es:List Expr},es.all notStar=true->(backTo pos (starEach es env)).any (·.1)=false
 | [],_=>rfl
 | e :: es,h=>by
  simp only [List.all_cons,Bool.and_eq_true] at h
  rw [cV h.1]
  show (false || (backTo pos (starEach es env)).any (·.1))=false
  rw [mO h.2];rfl
theorem yG {env:Env} {pos:Pos}:∀ {es:List Expr},es.all notStar=true->(backTo pos (starEach es env)).all (fun x=>!x.1)=true
 | [],_=>rfl
 | e :: es,h=>by
  simp only [List.all_cons,Bool.and_eq_true] at h
  rw [cV h.1]
  show (true && (backTo pos (starEach es env)).all (fun x=>!x.1))=true
  rw [yG h.2];rfl
section
variable {X:Cx} {K:W.Frag} {e:Expr} {es:List Expr} {te:TE} {t:TA} {pos p:Pos}
theorem paC (ha:PE X e te) (hr:PA X es t) (h:autoParam (notStar e=true) L2.auto4._auto_1):PA X (e :: es) (vo te t):=Aa ha hr (cV h)
theorem Jb {k:Nat} {x:Str} {ps:List Str} {sp:Sp} (F:Has X.prog X.w X.K X.mg X.base k x ps sp) (hr:Room k X.A) (hg:Gl X x) (ha:PA X (e :: es) t) (hdb:(x == ("__debug__":Str))=false) (h:autoParam ((e :: es).all notStar=true) L2.auto4._auto_1):
  PE X (.Call (.Name x p) (e :: es) [] pos) (qm sp [] E0 t):=by
 simp only [List.all_cons,Bool.and_eq_true] at h
 exact yw F hr hg ha hdb (cV h.1) (mO h.2)
theorem Jc {x:Str} {id:String} {r:List V->Hp->VK->Prop} (hc:CallR X (.builtin id) r) (hg:Gl X x) (hm:X.mg x=none) (hv:bootBuiltins x=some (.builtin id)) (ha:PA X (e :: es) t) (hn:x≠"__name__") (hdb:(x == ("__debug__":Str))=false) (h:autoParam ((e :: es).all notStar=true) L2.auto4._auto_1):
  PE X (.Call (.Name x p) (e :: es) [] pos) (Ep r t):=by
 simp only [List.all_cons,Bool.and_eq_true] at h
 exact xY hc hg hm hv ha hn hdb (cV h.1) (mO h.2)
theorem Fv {x:Str} {T:String} {r:List V->Hp->VK->Prop} (hc:CallR X (.type T) r) (hg:Gl X x) (hm:X.mg x=none) (hv:bootBuiltins x=some (.type T)) (ha:PA X (e :: es) t) (hn:x≠"__name__") (hdb:(x == ("__debug__":Str))=false) (h:autoParam ((e :: es).all notStar=true) L2.auto4._auto_1):
  PE X (.Call (.Name x p) (e :: es) [] pos) (Ep r t):=by
 simp only [List.all_cons,Bool.and_eq_true] at h
 exact wA hc hg hm hv ha hn hdb (cV h.1) (mO h.2)
def rD:Expr->Bool
 | .Call ..=>false | _=>true
theorem Jd {o:Expr} {f:Str} {env:Env} {w:Sem Value} (h:rD o=true):attributeBase o f env w=w:=by
 cases o <;> first | rfl | cases h
theorem Je {o:Expr} {to:TE} {name:Str} {apos cpos:Pos} {T id:String} {r:V->List V->Hp->VK->Prop} (hK:X.K=K) (pa:PlainAttrs T) (slot:Slot T name id) (hty:typeOf (.builtin id)=pure (.type "method_descriptor")) (hm:Es X id r) (ho:PE X o to) (ha:PA X (e :: es) t)
  (hbase:autoParam (rD o=true) L2.auto4._auto_1) (hl:autoParam (es.length < 20) L2.auto2._auto_1) (hline:autoParam ((apos.endLine == cpos.line)=true) L2.auto4._auto_1) (h:autoParam ((e :: es).all notStar=true) L2.auto4._auto_1):
  PE X (.Call (.Attribute o name apos) (e :: es) [] cpos) (Im K T r to t):=by
 have hA:=yG (env:=X.env) (pos:=cpos) h
 simp only [List.all_cons,Bool.and_eq_true] at h
 refine Ft hK pa slot hty hm ho ha (Jd hbase) ?_ hline (cV h.1) (mO h.2)
 rw [hA]
 have:(e :: es).length+([]:List Keyword).length+(if ([]:List Keyword).isEmpty then 0 else 1) < 30:=by simp;omega
 rw [decide_eq_true this];rfl
theorem Jf {i:Nat} {x:Str} {pos':Pos} (hN:X.N.Nodup) (hi:X.N[i]?=some x) (hx:Loc X.env.scope x) (he:PE X e te) (hf:X.fn x=true) (h:autoParam (lM e=true) L2.auto4._auto_1):PS X (.Assign [.Name x pos'] e pos) (v6 te (j9 i)):=
 xR hN hi hx he (CV h) (.inl hf)
theorem Fw (he:PE X e te) (h:autoParam (lM e=true) L2.auto4._auto_1):PS X (.Expr e pos) (u9 te):=zV he (CV h)
theorem ixE {a b:Expr} {ta tb:TE} (hK:X.K=K) (ha:PE X a ta) (hb:PE X b tb) (h:autoParam (jM b=true) L2.auto4._auto_1):PE X (.Subscript a b pos) (zN (Ew K) ta tb):=Ih (Av hK) ha hb (pix h)
theorem Jg {tg iter:Expr} {body:List Stmt} {wi:TI} {g:TG} {tb:TS} (hp:PassesOwn (model X.prog X.w) X.A X.env X.xe) (hc:X.calm=true) (hi:PI X tg iter wi) (hg:PG X tg g) (hb:PSs X body tb) (h:autoParam (mL iter=true) L2.auto4._auto_1):PS X (.For tg iter body [] pos) (zY wi g tb):=
 Eb hp hc hi hg hb (yF h)
end
section
variable {X:Cx} {tg iter elt:Expr} {ifs:List Expr} {scope:Scope} {pos:Pos} {N':List Str} {sub:List (Option Nat)} {wi:TI} {g:TG} {tt:TT} {te:TE} {N:List Str} {sc:Scope}
theorem Jh (S:kj N sc N' scope sub) (hc:X.calm=true) (hN:X.N=N) (hsc:X.env.scope=sc) (hi:PI X tg iter wi)
  (hg:∀ (C:Addr) (s₀:Shared) (H₀:Hp) (ex:List Addr),PG (j7 X N' scope C s₀ H₀ ex) tg g)
  (ht:∀ (C:Addr) (s₀:Shared) (H₀:Hp) (ex:List Addr),sX (j7 X N' scope C s₀ H₀ ex) ifs tt)
  (he:∀ (C:Addr) (s₀:Shared) (H₀:Hp) (ex:List Addr),PE (j7 X N' scope C s₀ H₀ ex) elt te) (h:autoParam (mL iter=true) L2.auto4._auto_1):
  PE X (.ListComp elt [⟨tg,iter,ifs,0⟩] scope pos) (o5 sub wi g tt te):=vA S hc hN hsc hi hg ht he (yF h)
end
theorem d7:bootBuiltins "len"=some (.builtin "len"):=by trivial
theorem Fx:bootBuiltins "max"=some (.builtin "max"):=by trivial
theorem Fy:bootBuiltins "min"=some (.builtin "min"):=by trivial
theorem aQ:bootBuiltins "isinstance"=some (.builtin "isinstance"):=by trivial
theorem eQ:bootBuiltins "all"=some (.builtin "all"):=by trivial
theorem jd:bootBuiltins "list"=some (.type "list"):=by trivial
theorem o9:bootBuiltins "tuple"=some (.type "tuple"):=by trivial
theorem ph:bootBuiltins "int"=some (.type "int"):=by trivial
theorem fL:bootBuiltins "str"=some (.type "str"):=by trivial
theorem rE:bootBuiltins "enumerate"=some (.type "enumerate"):=by trivial
theorem Az:bootBuiltins "bool"=some (.type "bool"):=by trivial
theorem uL {c A B:Prop} [Decidable c] (h1:c->A) (h2:¬ c->B):if decide c=true then A else B:=by
 by_cases h:c
 ·rw [if_pos (decide_eq_true h)];exact h1 h
 ·rw [if_neg (by rw [decide_eq_false h];exact Bool.false_ne_true)];exact h2 h
theorem Ba {α:Type} {xs:List α} {k:Int} {v:α} (h0:0<=k) (h:xs[k.toNat]?=some v):vp xs k=some v:=by
 have e:((k.toNat:Nat):Int)=k:=by omega
 rw [← e]
 exact dZ h
section
variable {U:St} {H:Hp} {D:Ends} {ta tb te tc:TE} {tt tu:TT} {Q:VK} {t u:TS} {g:TG}
theorem m7 (h:t {D with nx:=u D} U H):zR t u D U H:=h
theorem fM (h:D.nx U H):xK D U H:=h
theorem jt (h:te U H fun x H1=>g x U H1 D.nx):v6 te g D U H:=h
theorem fO {i:Nat} {v:V} {R:St->Hp->Prop} (h:R (U.set i (some v)) H):j9 i v U H R:=h
theorem ju (h:te U H D.rt):DP te D U H:=h
theorem fP (h:te U H fun _ H1=>D.nx U H1):u9 te D U H:=h
theorem nj (h:tt U H fun b H1=>if b=true then t D U H1 else u D U H1):DW tt t u D U H:=h
theorem fQ {R:Bool->Hp->Prop} (h:te U H fun x H1=>∃ k,x= .bl k/\R k H1):sS te U H R:=h
theorem nu {R:Bool->Hp->Prop} (h:te U H fun x H1=>∃ k,x= .bl k/\R k H1):tB te U H R:=h
theorem jw {R:Bool->Hp->Prop} (h:tt U H fun c H1=>R (!c) H1):Du tt U H R:=h
theorem jx {R:Bool->Hp->Prop} (h:tt U H fun c H1=>if c=true then tu U H1 R else R false H1):Dt tt tu U H R:=h
theorem nA {R:Bool->Hp->Prop} (h:tt U H fun c H1=>if c=true then R true H1 else tu U H1 R):tOr tt tu U H R:=h
theorem fU (h:ta U H fun x H1=>∃ c,x= .bl c/\if c=true then tb U H1 Q else Q (.bl false) H1):xG ta tb U H Q:=h
theorem jy (h:ta U H fun x H1=>∃ c,x= .bl c/\if c=true then Q (.bl true) H1 else tb U H1 Q):Dz ta tb U H Q:=h
theorem fV (h:ta U H fun x H1=>∃ c,x= .bl c/\Q (.bl (!c)) H1):xH ta U H Q:=h
theorem jz (h:tt U H fun c H1=>if c=true then ta U H1 Q else tb U H1 Q):tIf tt ta tb U H Q:=h
theorem jA {i:Nat} {v:V} (e:U[i]?=some (some v)) (h:Q v H):sH i U H Q:=⟨v,e,h⟩
theorem xr {v:V} (h:Q v H):tC v U H Q:=h
theorem nF {r:R2} (h:ta U H fun x H1=>tb U H1 fun y H2=>r x y H2 Q):zN r ta tb U H Q:=h
theorem nG {r:List V->Hp->VK->Prop} {a:TA} (h:a U H fun vs H1=>r vs H1 Q):Ep r a U H Q:=h
theorem fW {a:TA} {R:List V->Hp->Prop} (h:te U H fun x H1=>a U H1 fun xs H2=>R (x :: xs) H2):vo te a U H R:=h
theorem jB {R:List V->Hp->Prop} (h:R [] H):Ei U H R:=h
theorem fX {sp:Sp} {E:XK} {a:TA} (h:a U H fun vs H1=>sp vs H1 Q E):qm sp [] E a U H Q:=by
 unfold qm
 simpa only [List.append_nil] using h
theorem nH {K:W.Frag} {T:String} {r:V->List V->Hp->VK->Prop} {a:TA} (h:te U H fun x H1=>tyV K T x H1/\a U H1 fun xs H2=>r x xs H2 Q):Im K T r te a U H Q:=h
theorem nJ {r:V->Option Int->Option Int->Hp->VK->Prop} {tl th:TO} (h:te U H fun x H1=>tl U H1 fun l H2=>th U H2 fun u H3=>r x l u H3 Q):tSl r te tl th U H Q:=h
theorem jC {R:Option Int->Hp->Prop} (h:R none H):qU U H R:=h
theorem fY {R:Option Int->Hp->Prop} (h:te U H fun x H1=>∃ i,x= .int i/\R (some i) H1):yc te U H R:=h
theorem fZ {R:Bool->Hp->Prop} (h:R true H):yl U H R:=h
theorem f9 {a:TA} {R:It->Hp->Prop} (h:a U H fun vs H1=>∃ j:Int,vs=[.int j]/\-(2 ^ 62)<=j/\j < 2 ^ 62/\R (Ea 0 j.toNat) H1):xU a U H R:=h
theorem gb {K:W.Frag} {R:It->Hp->Prop} (h:te U H fun x H1=>(∃ a,x= .ref a/\(∃ xs,SqL K H1 a xs)/\R (CP K a) H1)\/(∃ a,x= .ref a/\(∃ xs,SqT K H1 a xs)/\R (HN K a) H1)\/(∃ z,x= .str z/\R (Hy z) H1)):Ar K te U H R:=h
theorem gf {sub:List (Option Nat)} {wi:TI} (h:wi U H fun J H1=>m5 sub g tt te U Q J H1):o5 sub wi g tt te U H Q:=h
theorem jD {wi:TI} {tbd:TS} (h:wi U H fun J H1=>∃ W:Nat->Nat->St->Hp->Prop,(∃ m,W 0 m U H1)/\∀ i m U H,W i m U H->
 (J.stop i H/\D.nx U H)\/(J.go i H/\∃ N:St->Hp->Prop,(∀ U' H',N U' H'->∃ m',m' < m/\W (i+1) m' U' H')/\∀ x H',J.yld i H x H'->g x U H' fun σ2 H2=>tbd {D with nx:=N,ct:=N,bk:=D.nx} σ2 H2)):zY wi g tbd D U H:=h
variable {i j:Int} {x y:Str} {f:Int->Int->V} {C:Int->Int->Prop} {K:W.Frag}
theorem nM (h:Q (f i j) H):zZ f (.int i) (.int j) H Q:=⟨_,_,rfl,rfl,h⟩
theorem xu (c:C i j) (h:Q (f i j) H):rI C f (.int i) (.int j) H Q:=⟨_,_,rfl,rfl,c,h⟩
theorem gh (h:Q (.int (i+j)) H):vD (.int i) (.int j) H Q:=.inl ⟨_,_,rfl,rfl,h⟩
theorem jN (c:x.length+y.length<=sizeLine) (h:Q (.str (x ++ y)) H):vD (.str x) (.str y) H Q:=.inr (.inl ⟨_,_,rfl,rfl,c,h⟩)
theorem Fz {a b:Addr} {xs ys:List V} (ha:H a=some (.lst xs)) (hb:H b=some (.lst ys)) (c:xs.length+ys.length<=sizeLine) (h:∀ p,H p=none->Q (.ref p) (upd H p (.lst (xs ++ ys)))):vD (.ref a) (.ref b) H Q:=
 .inr (.inr ⟨a,b,xs,ys,rfl,rfl,ha,hb,c,h⟩)
theorem gj (c:CMul i j) (h:Q (.int (i*j)) H):yx (.int i) (.int j) H Q:=.inl ⟨_,_,rfl,rfl,c,h⟩
theorem eN {p:Addr} {xs:List V} {v:V} (s:SqL K H p xs) (e:vp xs i=some v) (h:Q v H):Ew K (.ref p) (.int i) H Q:=.inl ⟨p,xs,i,v,rfl,rfl,s,e,h⟩
theorem gM {p:Addr} {xs:List V} {v:V} (s:SqT K H p xs) (e:vp xs i=some v) (h:Q v H):Ew K (.ref p) (.int i) H Q:=.inr (.inl ⟨p,xs,i,v,rfl,rfl,s,e,h⟩)
theorem vG {c:Nat} (s:x.length<=sizeLine) (e:vp x.cps.toList i=some c) (h:Q (.str ⟨#[c]⟩) H):Ew K (.str x) (.int i) H Q:=.inr (.inr ⟨x,i,c,rfl,rfl,s,e,h⟩)
theorem iR (h:Q (.bl (!(Builtin.Str.occurrences y x 0 y.length 1).isEmpty)) H):Aq K (.str x) (.str y) H Q:=.inl ⟨_,_,rfl,rfl,h⟩
theorem nO {b:Bool} {R:Bool->Prop} (h:R b):∃ k,V.bl b= .bl k/\R k:=⟨b,rfl,h⟩
theorem gk {n:Int} {R:Int->Prop} (h:R n):∃ k,V.int n= .int k/\R k:=⟨n,rfl,h⟩
end
theorem Same.upd {H H':Hp} {p:Addr} {o:HO} (s:Same H H') (hn:H' p=none):Same H (upd H' p o):=fun b u e=>by
 have q:=s b u e
 rw [aK (fun z=>by rw [z,hn] at q;cases q)]
 exact q
theorem vH {H:Hp} {q b:Addr} {o u:HO} (hq:H q=none) (hb:H b=some u):upd H q o b=some u:=by
 rw [aK (fun z=>by rw [z,hq] at hb;cases hb)];exact hb
theorem CW {vs:List V} {d:Int} (h0:0<=d) (h1:d < vs.length):∃ v,v∈vs/\vp vs d=some v:=by
 have hl:d.toNat < vs.length:=by omega
 exact ⟨vs[d.toNat],List.getElem_mem hl,Ba h0 (List.getElem?_eq_getElem hl)⟩
theorem je (sep:Str) (ys:List Str):Txt.join sep ys=Str.join sep ys:=by
 show Builtin.Str.glued sep ys=Str.join sep ys
 exact PySem.StrLaws.glued_eq_join sep ys
theorem tM (ys:List Str):(Txt.join (Str.ofString "") ys).cps.toList=(ys.map fun y=>y.cps.toList).flatten:=by
 rw [je]
 have e0:(Str.ofString "").cps= #[]:=by trivial
 have key:∀ ys:List Str,(Str.join (Str.ofString "") ys).cps.toList=(ys.map fun y=>y.cps.toList).flatten:=by
  intro ys
  induction ys with
  | nil=>rfl
  | cons y r ih=>
   cases r with
   | nil=>simp [Str.join]
   | cons z r=>
    show ((y ++ Str.ofString "") ++ Str.join (Str.ofString "") (z :: r)).cps.toList=_
    rw [Str.cps_append,Str.cps_append,e0]
    simp only [Array.append_empty,Array.toList_append,ih,List.map_cons,List.flatten_cons]
 exact key ys
theorem vI (x:Str):x.length=x.cps.toList.length:=by simp [Str.length]
theorem lN {ys:List Str} (h:∀ y∈ys,y.length=1):(Txt.join (Str.ofString "") ys).length=ys.length:=by
 rw [vI,tM]
 induction ys with
 | nil=>rfl
 | cons y r ih=>
  have h1:=h y (by simp)
  rw [vI] at h1
  simp only [List.map_cons,List.flatten_cons,List.length_append,List.length_cons,h1]
  rw [ih fun z hz=>h z (by simp [hz])]
  omega
theorem pq {ys:List Str} (h:∀ y∈ys,y.length=1):(ys.map (·.length)).sum=ys.length:=by
 induction ys with
 | nil=>rfl
 | cons y r ih=>
  simp only [List.map_cons,List.sum_cons,List.length_cons,h y (by simp),ih fun z hz=>h z (by simp [hz])]
  omega
theorem FJ (c:Nat):(⟨#[c]⟩:Str).length=1:=by simp [Str.length]
section
variable {H:Hp} {Q:VK} {K:W.Frag}
theorem jO {p:Addr} {xs:List V} (s:SqL K H p xs) (h:Q (.int xs.length) H):Ax K [V.ref p] H Q:=⟨_,_,rfl,.inl ⟨_,s,rfl⟩,h⟩
theorem yH {p:Addr} {xs:List V} (s:SqT K H p xs) (h:Q (.int xs.length) H):Ax K [V.ref p] H Q:=⟨_,_,rfl,.inr ⟨_,s,rfl⟩,h⟩
theorem rF {z:Str} (s:z.length<=sizeLine) (h:Q (.int z.length) H):Ax K [V.str z] H Q:=⟨_,_,rfl,⟨s,rfl⟩,h⟩
theorem nP {i j:Int} {R:Int->Int->Prop} (h:R i j):∃ a b,[V.int i,V.int j]=[.int a,.int b]/\R a b:=⟨_,_,rfl,h⟩
theorem gO {x:V} {T:String} {t:Value} {b:Bool} (ty:lF K H x t) (e:PySem.W.kitOne K t (.type T)=some b) (h:Q (.bl b) H):Ff K [x,.ty T] H Q:=⟨x,T,t,b,rfl,ty,e,h⟩
theorem FN {sep:Str} {p:Addr} {ys:List Str} (hp:H p=some (.lst (ys.map V.str))) (hz:(ys.map (·.length)).sum+ys.length*sep.length<=16777216) (h:Q (.str (Txt.join sep ys)) H):rJoin (.str sep) [.ref p] H Q:=⟨sep,p,ys,rfl,rfl,hp,hz,h⟩
theorem Ji {x:Str} {lo hi:Option Int} (hz:x.length<=sizeLine) (h:Q (.str (Txt.slice x lo hi)) H):KN K (.str x) lo hi H Q:=.inr (.inr ⟨x,rfl,hz,h⟩)
theorem Jj {p:Addr} {xs:List V} {lo hi:Option Int} (s:SqL K H p xs) (h:∀ q,H q=none->Q (.ref q) (upd H q (.lst (lG xs lo hi)))):KN K (.ref p) lo hi H Q:=.inl ⟨p,xs,rfl,s,h⟩
end
section
variable {U:St} {H:Hp} {Q:VK}
theorem FP {trs:List (TE×TE)} (h:∀ p,H p=none->rB trs U (upd H p (.dK [])) fun ps H2=>H2 p=some (.dK [])/\∃ kvs:List (Key×V),ps=kvs.map (fun kv=>(kV kv.1,kv.2))/\kvs.length<=15/\Q (.ref p) (upd H2 p (.dK (iC [] kvs)))):yt trs U H Q:=h
theorem Bb {K:W.Frag} {z:Str} (hz:z.length<=sizeLine) (h:∀ p,H p=none->Q (.ref p) (upd H p (.lst (sgn z)))):yE K [.str z] H Q:=.inr ⟨z,rfl,hz,h⟩
end
theorem tO {sub:List (Option Nat)} {g:TG} {tt:TT} {te:TE} {U:St} {Q:VK} {H:Hp} {z:Str} (Pv:Nat->List V->Hp->Prop) (hn:z.cps.size<=sizeLine) (h0:Pv 0 [] H) (hl:∀ i ys H,Pv i ys H->ys.length<=i)
  (hs:∀ i ys H c,z.cps.toList[i]?=some c->Pv i ys H->g (.str ⟨#[c]⟩) (cF sub U) H fun σ2 H2=>KeepSt (cF sub U) σ2/\tt σ2 H2 fun b H3=>if b=true then te σ2 H3 fun y H4=>Pv (i+1) (ys ++ [y]) H4 else Pv (i+1) ys H3)
  (hd:∀ ys H,Pv z.cps.size ys H->∀ D,H D=none->Q (.ref D) (upd H D (.lst ys))):m5 sub g tt te U Q (Hy z) H:=
 rA (n:=z.cps.size) Pv hn h0 hl (fun i ys H hi _=>hi) (fun ys H _=>rfl) (fun i ys H x H' hi p y=>by
  obtain ⟨e1,c,e2,e3⟩:=y
  subst e1 e3
  exact hs i ys _ c (by simpa using e2) p) hd
theorem wJ {sub:List (Option Nat)} {g:TG} {tt:TT} {te:TE} {U:St} {Q:VK} {H:Hp} {K:W.Frag} {a:Addr} {xs:List V} (Pv:Nat->List V->Hp->Prop) (hn:xs.length<=sizeLine) (h0:Pv 0 [] H) (hl:∀ i ys H,Pv i ys H->ys.length<=i)
  (hq:∀ i ys H,Pv i ys H->SqL K H a xs)
  (hs:∀ i ys H x,xs[i]?=some x->Pv i ys H->g x (cF sub U) H fun σ2 H2=>KeepSt (cF sub U) σ2/\tt σ2 H2 fun b H3=>if b=true then te σ2 H3 fun y H4=>Pv (i+1) (ys ++ [y]) H4 else Pv (i+1) ys H3)
  (hd:∀ ys H,Pv xs.length ys H->∀ D,H D=none->Q (.ref D) (upd H D (.lst ys))):m5 sub g tt te U Q (CP K a) H:=
 rA (n:=xs.length) Pv hn h0 hl (fun i ys H hi p=>⟨xs,xs[i],hq i ys H p,List.getElem?_eq_getElem hi⟩) (fun ys H p=>⟨xs,hq _ ys H p,Nat.le_refl _⟩) (fun i ys H x H' hi p y=>by
  obtain ⟨e1,e2⟩:=y
  subst e1
  exact hs i ys _ x (e2 xs (hq i ys _ p)) p) hd
structure JE (X:Cx) (e:Expr) (t:TE):Prop where
 run:PE X e t
structure JT (X:Cx) (e:Expr) (t:TT):Prop where
 run:PT X e t
structure JW (X:Cx) (e:Expr) (t:TT):Prop where
 run:PW X e t
structure JA (X:Cx) (es:List Expr) (t:TA):Prop where
 run:PA X es t
structure JS (X:Cx) (s:Stmt) (t:TS):Prop where
 run:PS X s t
structure JB (X:Cx) (s:List Stmt) (t:TS):Prop where
 run:PSs X s t
structure JI (X:Cx) (tg iter:Expr) (t:TI):Prop where
 run:PI X tg iter t
structure JG (X:Cx) (tg:Expr) (t:TG):Prop where
 run:PG X tg t
structure KQ (X:Cx) (tg:List Expr) (t:v5):Prop where
 run:Hv X tg t
structure JO (X:Cx) (e:Option Expr) (t:TO):Prop where
 run:PO X e t
structure KR (X:Cx) (pos:Pos) (keys:List (Option Expr)) (values:List Expr) (t:List (TE×TE)):Prop where
 run:Iz X pos keys values t
structure FQ (X:Cx) (ifs:List Expr) (t:TT):Prop where
 run:sX X ifs t
section
variable {X:Cx} {K:W.Frag} {sc scope:Scope} {N':List Str} {C:Addr} {s₀:Shared} {H₀:Hp} {ex:List Addr} {x:Str} {pos p p2 pos' apos cpos tpos:Pos} {a b c e o:Expr} {es:List Expr} {ta tb tc te to ti:TE} {t:TA} {tA tB' tt:TT} {rest:List Expr}
theorem ao (i:Nat) (h:sc.names.lookup x=some .local) (hN:autoParam (X.N[i]?=some x) L2.auto4._auto_1) (hsc:autoParam (X.env.scope=sc) L2.auto4._auto_1) (hd:autoParam ((x == ("__debug__":Str))=false) L2.auto6._auto_1) (hcd:autoParam ((x == ("__classdict__":Str))=false) L2.auto6._auto_1):JE X (.Name x pos) (sH i):=⟨pvL i h hN hsc hd hcd⟩
theorem bI (i:Nat) (h:scope.names.lookup x=some .local) (hN:autoParam (N'[i]?=some x) L2.auto4._auto_1) (hd:autoParam ((x == ("__debug__":Str))=false) L2.auto6._auto_1) (hcd:autoParam ((x == ("__classdict__":Str))=false) L2.auto6._auto_1):JE (j7 X N' scope C s₀ H₀ ex) (.Name x pos) (sH i):=⟨pvBL i h hN hd hcd⟩
theorem Jk (i:Nat) (h:scope.names.lookup x=some .free) (hN:autoParam (N'[i]?=some x) L2.auto4._auto_1) (hd:autoParam ((x == ("__debug__":Str))=false) L2.auto6._auto_1) (hcd:autoParam ((x == ("__classdict__":Str))=false) L2.auto6._auto_1):JE (j7 X N' scope C s₀ H₀ ex) (.Name x pos) (sH i):=⟨pvBF i h hN hd hcd⟩
theorem aA {i j}:JE X (.Constant (.int i) j pos) (tC (.int i)):=⟨Dp⟩
theorem pZ {i j}:JE X (.Constant (.bool i) j pos) (tC (.bl i)):=⟨HD⟩
theorem bB {i j}:JE X (.Constant (.str i) j pos) (tC (.str i)):=⟨Dq⟩
theorem dN {z:Str} (hg:Gl X x) (hm:∃ t,X.mg x=some (.str z t)) (hd:(x == ("__debug__":Str))=false):JE X (.Name x pos) (tC (.str z)):=⟨yz hg hm hd⟩
theorem uM {z:Int} (hg:Gl X x) (hm:∃ t,X.mg x=some (.int z t)) (hd:(x == ("__debug__":Str))=false):JE X (.Name x pos) (tC (.int z)):=⟨yC hg hm hd⟩
theorem lO {T:String} (hg:Gl X x) (hm:X.mg x=none) (hv:bootBuiltins x=some (.type T)) (hn:x≠"__name__") (hd:(x == ("__debug__":Str))=false):JE X (.Name x pos) (tC (.ty T)):=⟨IW hg hm hv hn hd⟩
theorem bG {op:Operator} {r:R2} (ho:OpR X (binaryOp op) r) (ha:JE X a ta) (hb:JE X b tb):JE X (.BinOp a op b pos) (zN r ta tb):=⟨HQ ho ha.run hb.run⟩
theorem ir {op:CmpOp} {r:R2} (ho:OpR X (compareOp op) r) (ha:JE X a ta) (hb:JE X b tb) (hm:behindInMarks op b=false):JE X (.Compare a [op] [b] pos) (zN r ta tb):=⟨z7 ho ha.run hb.run hm⟩
theorem aM {op:CmpOp} {r:R2} (ho:OpR X (compareOp op) r) (ha:JE X a ta) (hb:JE X b tb) (hm:behindInMarks op b=false):JT X (.Compare a [op] [b] pos) (sS (zN r ta tb)):=⟨z8 ho ha.run hb.run hm⟩
theorem vJ (ha:JT X a tA):JW X (.BoolOp .And [a] pos) tA:=⟨zQ ha.run⟩
theorem mQ (ha:JT X a tA):JW X (.BoolOp .Or [a] pos) tA:=⟨Dv ha.run⟩
theorem yI (ha:JT X a tA) (hb:JW X (.BoolOp .And (b :: rest) pos) tB'):JW X (.BoolOp .And (a :: b :: rest) pos) (Dt tA tB'):=⟨Dw ha.run hb.run⟩
theorem qG (ha:JT X a tA) (hb:JW X (.BoolOp .Or (b :: rest) pos) tB'):JW X (.BoolOp .Or (a :: b :: rest) pos) (tOr tA tB'):=⟨HF ha.run hb.run⟩
theorem m8 (h:JW X e tt):JT X e tt:=⟨h.run.pt⟩
theorem gm (ha:JT X a tA):JT X (.UnaryOp .Not a pos) (Du tA):=⟨Dy ha.run⟩
def plainT:Expr->Bool
 | .BoolOp ..=>false | .UnaryOp ..=>false | .Compare ..=>false | .IfExp ..=>false | _=>true
theorem gn (h:JE X e te) (hp:autoParam (plainT e=true) L2.auto4._auto_1):JT X e (tB te):=⟨Ds h.run (by
 intro whole
 cases e <;> first | rfl | cases hp)⟩
theorem jP {op} (h:JE X a te):JE X (.BoolOp op [a] pos) te:=⟨DG h.run⟩
theorem kE (ha:JE X a ta) (hb:JE X (.BoolOp .And (b :: rest) pos) tb):JE X (.BoolOp .And (a :: b :: rest) pos) (xG ta tb):=⟨DK ha.run hb.run⟩
theorem Jl (ha:JE X a ta) (hb:JE X (.BoolOp .Or (b :: rest) pos) tb):JE X (.BoolOp .Or (a :: b :: rest) pos) (Dz ta tb):=⟨HH ha.run hb.run⟩
theorem Jm (ha:JE X a ta):JE X (.UnaryOp .Not a pos) (xH ta):=⟨DN ha.run⟩
theorem wK (hc:JT X c tA) (ha:JE X a ta) (hb:JE X b tb):JE X (.IfExp c a b pos) (tIf tA ta tb):=⟨xJ hc.run ha.run hb.run⟩
theorem tQ {x1} (h:JA X es t):JE X (.Tuple es x1 pos) (Ek t):=⟨Em h.run⟩
theorem jE (h:JA X es t):JE X (.List es pos) (El t):=⟨En h.run⟩
theorem aj:JA X [] Ei:=⟨Ej⟩
theorem aa (ha:JE X e te) (hr:JA X es t) (h:autoParam (notStar e=true) L2.auto4._auto_1):JA X (e :: es) (vo te t):=⟨paC ha.run hr.run h⟩
theorem FT:KR X pos [] [] []:=⟨Am⟩
theorem oM {k v:Expr} {ks:List (Option Expr)} {vs:List Expr} {tk tv:TE} {trs:List (TE×TE)} (hk:JE X k tk) (hv:JE X v tv) (hr:KR X pos ks vs trs):KR X pos (some k :: ks) (v :: vs) ((tk,tv) :: trs):=⟨yr hk.run hv.run hr.run⟩
theorem FW {keys:List (Option Expr)} {values:List Expr} {trs:List (TE×TE)} (h:KR X pos keys values trs) (hall:keys.all (·.isSome)=true) (hl:keys.length=values.length) (h0:keys≠[]) (h15:keys.length<=15):JE X (.Dict keys values pos) (yt trs):=⟨An h.run hall hl h0 h15⟩
theorem j0:JO X none qU:=⟨Ad⟩
theorem iu (h:JE X e te):JO X (some e) (yc te):=⟨Ae h.run⟩
theorem jf {r:V->Option Int->Option Int->Hp->VK->Prop} {lo hi:Option Expr} {tl th:TO} (hr:SlR X r) (he:JE X e te) (hl:JO X lo tl) (hu:JO X hi th):JE X (.Subscript e (.Slice lo hi none p2) pos) (tSl r te tl th):=⟨yd hr he.run hl.run hu.run⟩
theorem gP (hK:X.K=K) (ha:JE X a ta) (hb:JE X b tb) (h:autoParam (jM b=true) L2.auto4._auto_1):JE X (.Subscript a b pos) (zN (Ew K) ta tb):=⟨ixE hK ha.run hb.run h⟩
theorem aC {k:Nat} {ps:List Str} {sp:Sp} (F:Has X.prog X.w X.K X.mg X.base k x ps sp) (hr:Room k X.A) (hg:Gl X x) (ha:JA X (e :: es) t) (hdb:(x == ("__debug__":Str))=false) (h:autoParam ((e :: es).all notStar=true) L2.auto4._auto_1):
  JE X (.Call (.Name x p) (e :: es) [] pos) (qm sp [] E0 t):=⟨Jb F hr hg ha.run hdb h⟩
theorem aJ {id:String} {r:List V->Hp->VK->Prop} (hc:CallR X (.builtin id) r) (hg:Gl X x) (hm:X.mg x=none) (hv:bootBuiltins x=some (.builtin id)) (ha:JA X (e :: es) t) (hn:x≠"__name__") (hdb:(x == ("__debug__":Str))=false) (h:autoParam ((e :: es).all notStar=true) L2.auto4._auto_1):
  JE X (.Call (.Name x p) (e :: es) [] pos) (Ep r t):=⟨Jc hc hg hm hv ha.run hn hdb h⟩
theorem b8 {T:String} {r:List V->Hp->VK->Prop} (hc:CallR X (.type T) r) (hg:Gl X x) (hm:X.mg x=none) (hv:bootBuiltins x=some (.type T)) (ha:JA X (e :: es) t) (hn:x≠"__name__") (hdb:(x == ("__debug__":Str))=false) (h:autoParam ((e :: es).all notStar=true) L2.auto4._auto_1):
  JE X (.Call (.Name x p) (e :: es) [] pos) (Ep r t):=⟨Fv hc hg hm hv ha.run hn hdb h⟩
theorem cU {name:Str} {T id:String} {r:V->List V->Hp->VK->Prop} (hK:X.K=K) (pa:PlainAttrs T) (slot:Slot T name id) (hty:typeOf (.builtin id)=pure (.type "method_descriptor")) (hm:Es X id r) (ho:JE X o to) (ha:JA X (e :: es) t)
  (hbase:autoParam (rD o=true) L2.auto4._auto_1) (hl:autoParam (es.length < 20) L2.auto2._auto_1) (hline:autoParam ((apos.endLine == cpos.line)=true) L2.auto4._auto_1) (h:autoParam ((e :: es).all notStar=true) L2.auto4._auto_1):JE X (.Call (.Attribute o name apos) (e :: es) [] cpos) (Im K T r to t):=⟨Je hK pa slot hty hm ho.run ha.run hbase hl hline h⟩
theorem aR:FQ X [] yl:=⟨ym⟩
variable {tg iter elt:Expr} {ifs:List Expr} {sub:List (Option Nat)} {wi:TI} {g:TG} {N:List Str}
theorem qH {ta:TA} (hg:Gl X "range") (hm:X.mg "range"=none) (ha:JA X [a] ta) (h:autoParam (notStar a=true) L2.auto4._auto_1):JI X tg (.Call (.Name "range" p) [a] [] pos) (xU ta):=⟨v8 hg hm ha.run (cV h)⟩
theorem aX (hK:X.K=K) (hl:JE X e te):JI X tg e (Ar K te):=⟨Aw hK hl.run⟩
theorem iw {i:Nat} (hN:X.N.Nodup) (hi:X.N[i]?=some x) (hx:Loc X.env.scope x) (hf:X.fn x=true):JG X (.Name x pos) (j9 i):=⟨vd hN hi hx (.inl hf)⟩
theorem du (i:Nat) (h:scope.names.lookup x=some .local) (hN:N'.Nodup) (hi:autoParam (N'[i]?=some x) L2.auto4._auto_1):JG (j7 X N' scope C s₀ H₀ ex) (.Name x pos) (j9 i):=⟨pgB i h hN hi⟩
theorem rG:KQ X [] DX:=⟨zW⟩
theorem iT {gs:v5} (h1:JG X e g) (h2:KQ X es gs) (hs:autoParam ((assignEach (e :: es) X.env).map (·.2)=assign e X.env :: (assignEach es X.env).map (·.2)) L2.auto4._auto_1):KQ X (e :: es) (xP g gs):=⟨xQ h1.run h2.run hs⟩
theorem uN {ts:List Expr} {k:Nat} {gs:v5} {n:Nat} (hK:X.K=K) (hc:X.calm=true) (h:KQ X ts gs) (hn:autoParam ((assignEach ts X.env).length=n) L2.auto4._auto_1) (hst:autoParam ((assignEach ts X.env).findIdx? (·.1)=none) L2.auto4._auto_1):JG X (.Tuple ts k pos) (zX K n gs):=⟨Ay hK hc h.run hn hst⟩
theorem bA (S:kj N sc N' scope sub) (hc:X.calm=true) (hN:X.N=N) (hsc:X.env.scope=sc) (hi:JI X tg iter wi)
  (hg:∀ (C:Addr) (s₀:Shared) (H₀:Hp) (ex:List Addr),JG (j7 X N' scope C s₀ H₀ ex) tg g)
  (ht:∀ (C:Addr) (s₀:Shared) (H₀:Hp) (ex:List Addr),FQ (j7 X N' scope C s₀ H₀ ex) ifs tt)
  (he:∀ (C:Addr) (s₀:Shared) (H₀:Hp) (ex:List Addr),JE (j7 X N' scope C s₀ H₀ ex) elt te) (h:autoParam (mL iter=true) L2.auto4._auto_1):
  JE X (.ListComp elt [⟨tg,iter,ifs,0⟩] scope pos) (o5 sub wi g tt te):=⟨Jh S hc hN hsc hi.run (fun C s₀ H₀ ex=>(hg C s₀ H₀ ex).run) (fun C s₀ H₀ ex=>(ht C s₀ H₀ ex).run) (fun C s₀ H₀ ex=>(he C s₀ H₀ ex).run) h⟩
variable {st:Stmt} {sts:List Stmt} {u v:TS}
theorem aY {i:Nat} (hN:X.N.Nodup) (hi:X.N[i]?=some x) (hx:Loc X.env.scope x) (he:JE X e te) (hf:X.fn x=true) (h:autoParam (lM e=true) L2.auto4._auto_1):JS X (.Assign [.Name x pos'] e pos) (v6 te (j9 i)):=⟨Jf hN hi hx he.run hf h⟩
theorem aB (he:JE X e te):JS X (.Return (some e) pos) (DP te):=⟨DQ he.run⟩
theorem bZ (he:JE X e te) (h:autoParam (lM e=true) L2.auto4._auto_1):JS X (.Expr e pos) (u9 te):=⟨Fw he.run h⟩
theorem aV {sa sb:List Stmt} (hc:JT X c tt) (ha:JB X sa u) (hb:JB X sb v):JS X (.If c sa sb pos) (DW tt u v):=⟨HJ hc.run ha.run hb.run⟩
theorem kZ {body:List Stmt} (hp:PassesOwn (model X.prog X.w) X.A X.env X.xe) (hc:X.calm=true) (hi:JI X tg iter wi) (hg:JG X tg g) (hb:JB X body u) (h:autoParam (mL iter=true) L2.auto4._auto_1):JS X (.For tg iter body [] pos) (zY wi g u):=⟨Jg hp hc hi.run hg.run hb.run h⟩
theorem pA:JS X st xN:=⟨xO⟩
theorem aN:JB X [] xK:=⟨zT⟩
theorem az (h:JS X st u):JB X [st] u:=⟨zU h.run⟩
theorem au (h:JS X st u) (h2:JB X sts v):JB X (st :: sts) (zR u v):=⟨xM h.run h2.run⟩
end
section
variable {P:Program} {w:World} {K:W.Frag} {mg:Str->Option Value} {base:Heap}
theorem cz {x:Str} {st:Stmt} {N ps:List Str} {k:Nat} {sp:Sp} (D:cj K mg x st) (S:aD N ps (ak st))
  (hb:∀ (kV doc pm:Value) (an:Option Addr) (cdv ct:Value) (us:List Value),us.length=ps.length->bindArgs (PySem.W.fnOf x x (il st) (dG st) (ak st) .none kV doc pm an cdv ct) ⟨us,[]⟩=pure (ps.zip us))
  (len:∀ vs H Q E,sp vs H Q E->vs.length=ps.length)
  (hbody:∀ (f:Addr) (cdv:Value) (A:Around) (outer:List Env) (s:Shared) (H:Hp) (vs:List V) (Q:VK) (E:XK),Room k (A.deeper (envOfC x (ak st) s.heap.objs.size f cdv))->sp vs H Q E->
   ∃ t,JB (qT yh P w K mg base N x (ak st) f cdv A outer s H E).nox (dG st) t/\t {nx:=fun _ H'=>Q .non H',rt:=Q} (start N vs) H):Has P w K mg base (k+1) x ps sp:=
 Fg D S hb len fun f cdv A outer s H vs Q E hr h=>let ⟨t,j,q⟩:=hbody f cdv A outer s H vs Q E hr h;⟨t,j.run,q⟩
theorem okJ {x:Str} {st:Stmt} {N ps:List Str} {k:Nat} {sp:Sp} {f:Addr} {fd:FuncData} (F:Fun K x x st f fd) (S:aD N ps (ak st)) (len:∀ vs H Q E,sp vs H Q E->vs.length=ps.length)
  (hbody:∀ (f:Addr) (cdv:Value) (A:Around) (outer:List Env) (s:Shared) (H:Hp) (vs:List V) (Q:VK) (E:XK),Room k (A.deeper (envOfC x (ak st) s.heap.objs.size f cdv))->sp vs H Q E->
   ∃ t,JB (qT yh P w K mg base N x (ak st) f cdv A outer s H E).nox (dG st) t/\t {nx:=fun _ H'=>Q .non H',rt:=Q} (start N vs) H):FnOk P w K mg base yh (k+1) f fd ps sp:=
 F.ok S len fun cdv A outer s H vs Q E hr h=>let ⟨t,j,q⟩:=hbody f cdv A outer s H vs Q E hr h;⟨t,j.run,q⟩
end
theorem cX {K:W.Frag} {mg:Str->Option Value} {h:Heap} (X:K.In h) (G:h.Ns mainGlobals mg) {x:Str} {v:Value} {f:Tok->Value} (a:PySem.W.nsIn K mainGlobals x=some (some v)) (e:∃ t,v=f t):∃ t,mg x=some (f t):=by
 obtain ⟨t,rfl⟩:=e
 exact ⟨t,PySem.W.mg_of X G a⟩
theorem Jo {l:PySem.W.OpenLaw} {q:Program} {loose:List Str} {XP:(Str->Option Value)->Heap->Prop} {YP:World->Heap->Prop} {d:DefRec} {K:Params->W.Frag} {st:Stmt} {k:Nat} {sp:W.Frag->Sp} {x:Str}
  (hn:l.most=some 63) (hdf:d.params.defaults=[]) (hdn:d.name="law") (hk:Room k callerA) (hY:∀ (w:World) (h:Heap),YP w h->(K w.params).In h)
  (hb:∀ (kV doc pm:Value) (an:Option Addr) (cdv ct:Value) (us:List Value),us.length=[x].length->bindArgs (PySem.W.fnOf "law" "law" (il st) (dG st) (ak st) .none kV doc pm an cdv ct) ⟨us,[]⟩=pure ([x].zip us))
  (F:∀ (w:World) (mg:Str->Option Value) (h:Heap),(K w.params).In h->h.Ns mainGlobals mg->cj (K w.params) mg "law" st/\∀ (base:Heap) (f:Addr) (fd:FuncData),Fun (K w.params) "law" "law" st f fd->FnOk l.prog w (K w.params) mg base yh k f fd [x] (sp (K w.params)))
  (hsp:∀ (K:W.Frag) (H:Hp) (a:Addr) (ns:List Int),ns.length<=63->SqL K H a (ns.map V.int)->sp K [.ref a] H (fun v _=>v= .bl true) fun _ _ _=>False) (him:autoParam (importsNone q=true) L2.auto6._auto_1):
  PySem.W.WalkO q loose XP YP l.row.toRowW d [] (fun f vs=>PySem.call f vs):=
 L2.Aj (n:=63) (k:=k) (x:=x) (CX:=fun _=>yh) (sp:=fun w=>sp (K w.params)) hn (by decide) hdf hk hY (fun w mg fa h X G e=>by
  obtain ⟨⟨f,fd,Fn,hm⟩,ok⟩:=F w mg h X G
  rw [hdn,hm] at e
  have ef:f=fa:=by injection (Option.some.inj e)
  subst ef
  refine ⟨fd,fun s u=>?_,fun base _ _=>ok base f fd Fn⟩
  obtain ⟨oc,od,kV,doc,pm,an,cdv,ct,osl,rfl,lk,hcd⟩:=Fn.ex
  exact .of_eq (hb kV doc pm an cdv ct [u] rfl)) (fun w H a ns hl _ hS=>hsp _ H a ns hl hS) (fun _ _ _ _ _ z=>z) him
def KY (xs:Nat->List V) (n:Nat):It:=⟨fun i _=>i < n,fun i H v H'=>∃ T,H T=none/\v= .ref T/\H'=upd H T (.tup (xs i)),fun i _=>i=n⟩
theorem FZ {P:Program} {w:World} {K:W.Frag} {elts:List Expr} {k:Nat} {pos:Pos} {it:Addr} {fp wr:List Addr} {n:Nat} {xs:Nat->List V} {Pt:Nat->Array Value->Prop} {St:Nat->Heap->Prop} {Mid:Nat->Addr->Heap->Prop}
  (W:∀ A:Around,A.handled=none->WalksT P w A it fp wr n Pt St Mid) (hxs:∀ i,(xs i).length<=sizeLine) (hPt:∀ i vals,Pt i vals->Vals (xs i) vals.toList) (hmem:it∈fp)
  (hobj:∀ i h,St i h->∀ b∈fp,∃ o,h.get? b=some o/\∀ v,o.data≠.cell v)
  (hself:∀ (A:Around) (i:Nat) (s:Shared) (Q:Value->Shared->Prop) (E:Value->Shared->Prop),St i s.heap->Q (.ref it) s->wpAny (model P w) A (pyIter (.ref it)) Q E s):
  Turn P w K (.Tuple elts k pos) (KY xs n) fp it St where
 mem:=hmem
 obj:=hobj
 keep:=fun i h h' st kk=>(W {} rfl).frame i h h' st kk
 item:=by
  intro X hP hw hK hc i pins s U H E I hf st hg
  subst hP hw hK
  have W':=W X.A (I.ok.hd hc)
  refine W'.item i s _ _ hg st fun T vals h' tk hPv hT isT mid kk=>?_
  refine ⟨.ref T,rfl,W'.go elts k pos i T _ _ _ mid fun h'' st'' kk2=>?_⟩
  have hTn:H T=none:=I.hok.fresh hT
  have hTw:T ∉ wr:=W'.apart i T h' mid
  have kall:∀ b o,b ∉ wr->s.heap.get? b=some o->h''.get? b=some o:=fun b o hb e=>kk2 b o hb (kk b o hb e)
  have nT:∀ b o,s.heap.get? b=some o->b≠T:=fun b o e=>Nat.ne_of_lt (Nat.lt_of_lt_of_le (Heap.lt_size e) hT)
  have nTH:∀ b u,H b=some u->b≠T:=fun b u e z=>by rw [z,hTn] at e;cases e
  have nW:∀ b u,H b=some u->b ∉ wr:=fun b u e hb=>by rw [(hf b (W'.sub b hb)).1] at e;cases e
  have isT':h''.IsTuple T vals:=by
   obtain ⟨o,ho,r⟩:=isT
   exact ⟨o,kk2 T o hTw ho,r⟩
  have hlT:∃ o,h''.get? T=some o:=let ⟨o,ho,_⟩:=isT';⟨o,ho⟩
  have I':Inv X pins U (upd H T (.tup (xs i))) {s with heap:=h'',toks:=tk}:=by
   refine I.step (g':=s.gens) (d':=s.drawn) (ch:=wr) (fun b hb=>?_) (fun b o _ _ hc e _=>kall b o hc e) (fun b o _ _ hc e _=>⟨o.slots,kall b o hc e⟩) (fun b o _ e hn=>by rw [aK (nT b o e)];exact hn)
    (fun b o hc e=>⟨o,kall b o hc e⟩) (fun b ys e=>by rw [aK (nTH b _ e)];exact e) (fun b o u e=>by rw [aK (nTH b _ e)];exact e) (fun b ps e=>⟨#[],by rw [aK (nTH b _ e),e];simp⟩) (fun m hm=>?_) (fun b u e=>?_) I.bare
   ·obtain ⟨f0,f1,f2,f3,f4,f5⟩:=hf b (W'.sub b hb)
    exact ⟨f3,f1,f4,f5⟩
   ·obtain ⟨o,es,ep,ho,r⟩:=hm
    exact ⟨o,es,ep,kall _ o (fun hb=>(hf _ (W'.sub _ hb)).2.1 rfl) ho,r⟩
   ·by_cases hb:b=T
    ·subst hb
     rw [aq] at e;cases e
     obtain ⟨o,ho,hcl,nn,hd⟩:=isT'
     exact ⟨hxs i,vals.toList,hPt i vals hPv,o,ho,hcl,nn,by simpa using hd⟩
    ·rw [aK hb] at e
     refine (I.hok b u e).stay (fun c v hc' q=>kall c v ?_ q) (fun c q=>by rw [aK (nTH c _ q)];exact q) fun c ys q=>by rw [aK (nTH c _ q)];exact q
     rcases hc' with z | z
     ·rw [z];exact nW b u e
     ·exact nW c _ z
  refine ⟨.ref T,upd H T (.tup (xs i)),I',rfl,⟨T,hTn,rfl,rfl⟩,st'',fun b hb=>?_⟩
  obtain ⟨o,e,_⟩:=hobj i _ st b hb
  rw [aK (nT b o e)]
  exact (hf b hb).1
 done:=by
  intro X hP hw hK hc i pins s U H E I hf st hg
  subst hP hw hK
  have W':=W X.A (I.ok.hd hc)
  have hg:i=n:=hg
  subst hg
  refine W'.done s _ _ st fun h' tk kk=>⟨rfl,?_⟩
  have nW:∀ b u,H b=some u->b ∉ wr:=fun b u e hb=>by rw [(hf b (W'.sub b hb)).1] at e;cases e
  refine I.step (g':=s.gens) (d':=s.drawn) (ch:=wr) (fun b hb=>?_) (fun b o _ _ hc e _=>kk b o hc e) (fun b o _ _ hc e _=>⟨o.slots,kk b o hc e⟩) (fun b o _ e hn=>hn)
    (fun b o hc e=>⟨o,kk b o hc e⟩) (fun b ys e=>e) (fun b o u e=>e) (fun b ps e=>⟨#[],by rw [e];simp⟩) (fun m hm=>?_) (fun b u e=>?_) I.bare
  ·obtain ⟨f0,f1,f2,f3,f4,f5⟩:=hf b (W'.sub b hb)
   exact ⟨f3,f1,f4,f5⟩
  ·obtain ⟨o,es,ep,ho,r⟩:=hm
   exact ⟨o,es,ep,kk _ o (fun hb=>(hf _ (W'.sub _ hb)).2.1 rfl) ho,r⟩
  ·refine (I.hok b u e).stay (fun c v hc' q=>kk c v ?_ q) (fun c q=>q) fun c ys q=>q
   rcases hc' with z | z
   ·rw [z];exact nW b u e
   ·exact nW c _ z
 self:=hself
def tR (x:Str) (i:Nat):List V:=[.int i,.str ⟨#[x.cps.getD i 0]⟩]
def Jp (K:W.Frag):R2:=fun x y H Q=>rNe x y H Q\/∃ (a b:Addr) (ns ms:List Int),x= .ref a/\y= .ref b/\SqL K H a (ns.map V.int)/\SqL K H b (ms.map V.int)/\Q (.bl (!decide (ns=ms))) H
theorem Ga {X:Cx} {K:W.Frag} (hK:X.K=K) (hu:X.A.units+64 < cLine):OpR X (compareOp .NotEq) (Jp K):=by
 subst hK
 intro pins s U H x y v u Q I rx ry h
 rcases h with h | ⟨a,b,ns,ms,rfl,rfl,ha,hb,q⟩
 ·exact HX pins s U H x y v u Q I rx ry h
 ·cases rx
  cases ry
  obtain ⟨its,r1,p1,z1⟩:=I.list ha
  obtain ⟨jts,r2,p2,z2⟩:=I.list hb
  exact PySem.W.ne_intsK p1.isList (intsAre_of r1) p2.isList (intsAre_of r2) hu ⟨.bl _,H,I,rfl,q⟩
section
variable {H:Hp} {Q:VK} {K:W.Frag} {U:St}
theorem dO {n:Nat} {gs:v5} {p:Addr} {xs:List V} {R:St->Hp->Prop} (s:SqT K H p xs) (hl:xs.length=n) (h:gs xs U H R):zX K n gs (.ref p) U H R:=⟨p,xs,rfl,s,hl,h⟩
theorem dH {t:TG} {u:v5} {v:V} {vs:List V} {R:St->Hp->Prop} (h:t v U H fun U' H'=>u vs U' H' R):xP t u (v :: vs) U H R:=⟨v,vs,rfl,h⟩
theorem gq {R:St->Hp->Prop} (h:R U H):DX [] U H R:=⟨rfl,h⟩
theorem gQ {p:Addr} {xs:List V} {y:V} (hp:H p=some (.lst xs)) (c:xs.length < sizeLine) (h:Q .non (upd H p (.lst (xs ++ [y])))):vz (.ref p) [y] H Q:=⟨p,xs,y,rfl,rfl,hp,c,h⟩
theorem Gb {a:Addr} {xs:List V} {k:Int} (ha:H a=some (.lst xs)) (h0: -(2 ^ 63)<=k) (h1:k < 2 ^ 63) (hz:xs.length*k.toNat<=sizeLine) (h:∀ p,H p=none->Q (.ref p) (upd H p (.lst (List.replicate k.toNat xs).flatten))):yx (.ref a) (.int k) H Q:=
 .inr (.inr ⟨a,k,xs,rfl,rfl,ha,h0,h1,hz,h⟩)
end
section
variable {X:Cx} {tg iter elt:Expr} {ifs:List Expr} {scope:Scope} {pos:Pos} {N':List Str} {sub:List (Option Nat)} {wi:TI} {g:TG} {tt:TT} {te:TE}
theorem yJ {N:List Str} {sc:Scope} {use:Option (Value->Sem Unit)} {R:Value->Shared->Prop} {p0:Pos} (S:kj N sc N' scope sub) (hc:X.calm=true) (hN:X.N=N) (hsc:X.env.scope=sc) (hi:PI X tg iter wi)
  (hg:∀ (C:Addr) (s₀:Shared) (H₀:Hp) (ex:List Addr),PG (j7 X N' scope C s₀ H₀ ex) tg g)
  (ht:∀ (C:Addr) (s₀:Shared) (H₀:Hp) (ex:List Addr),sX (j7 X N' scope C s₀ H₀ ex) ifs tt)
  (he:∀ (C:Addr) (s₀:Shared) (H₀:Hp) (ex:List Addr),PE (j7 X N' scope C s₀ H₀ ex) elt te)
  (hs:∀ x,foldedSetIterable iter X.env x=pure x) (pins:List (Addr×Obj)) (s:Shared) (U:St) (H:Hp) (Q:VK) (I:Inv X pins U H s) (h:o5 sub wi g tt te U H Q)
  (hend:∀ (D C:Addr) (s5:Shared) (H5:Hp) (m:Str->Option Value),Inv X pins U H5 s5->jK X pins H5 C->s5.heap.Ns C m->Q (.ref D) H5->compPost (model X.prog X.w) X.A X.xe use R (.ref D) C (.ok .next) s5):
  wpAny (model X.prog X.w) X.A (comprehension (.ListComp elt [⟨tg,iter,ifs,0⟩] scope pos) scope X.env p0 (newList []) false (eval iter X.env) use) R X.xe s:=by
 have hcl:∀ x∈scope.names,x.2=NameKind.free->∃ c,X.env.cells.lookup x.1=some c:=fun x hx hk=>I.ok.has x.1 (by have:=S.free x hx hk;rw [← hsc] at this;exact this)
 refine wpAny_comprehension_free (use:=use) rfl hs (kh hcl) S.kind S.loc ?_
 refine dz (hi pins s U H _ I h) fun v s1 h1=>dz h1 fun itv s2 h2=>?_
 obtain ⟨it,fp,tn,J,H2,e,I2,T,st2,f2,W,⟨m0,w0⟩,turn⟩:=h2
 subst e
 refine wpAny_newObj_type (dU fun h₁ hns₁ hk31 hcl₁=>?_)
 dsimp only at hns₁ hk31 hcl₁ ⊢
 generalize hs3:({s2 with heap:=s2.heap.push {cls:=.type "list",dict:=none,data:=.seq ([]:List Value).toArray}}:Shared)=s3
 have e3:s2.heap.push {cls:=.type "list",dict:=none,data:=.seq ([]:List Value).toArray}=s3.heap:=by rw [← hs3]
 rw [e3] at hns₁ hk31 hcl₁ ⊢
 have hD3:s3.heap.get? s2.heap.objs.size=some {cls:=.type "list",dict:=none,data:=.seq ([]:List Value).toArray}:=by rw [← e3];exact Heap.get?_push_size _ rfl
 have I3:Inv X pins U H2 s3:=by
  rw [← hs3]
  exact I2.kept (t':=s2.toks) fun b o e=>Heap.get?_push_of_some _ e
 have k23:∀ b o,s2.heap.get? b=some o->s3.heap.get? b=some o:=fun b o e=>by rw [← e3];exact Heap.get?_push_of_some _ e
 have hsz:s3.heap.objs.size=s2.heap.objs.size+1:=by rw [← e3,Heap.size_push]
 have hDn:H2 s2.heap.objs.size=none:=I2.hok.fresh (Nat.le_refl _)
 have fD:jK X pins H2 s2.heap.objs.size:=I2.fpOk (Nat.le_refl _) hDn
 have hfo:∀ b∈fp,b < s2.heap.objs.size:=fun b hb=>let ⟨o,e,_⟩:=T.obj _ _ st2 b hb;Heap.lt_size e
 have hDfp:s2.heap.objs.size ∉ fp:=fun z=>absurd (hfo _ z) (Nat.lt_irrefl _)
 have I4:=qz (tk:=s3.toks+([]:List (Str×Value)).length) S hN hsc I3 f2 (fun b hb=>by rw [hsz];exact Nat.lt_succ_of_lt (hfo b hb)) (D:=s2.heap.objs.size) (by rw [hsz];exact Nat.lt_succ_self _) fD hns₁ hk31 hcl₁
 have stat:∀ {H':Hp} {ob:Obj},(∀ b∈fp,H' b=none)->∀ b∈fp,jK (j7 X N' scope s3.heap.objs.size s3 H2 (s2.heap.objs.size :: fp)) [(s2.heap.objs.size,ob)] H' b:=fun {H' ob} hn b hb=>by
  obtain ⟨q1,q2⟩:=I4.ok.exf b (List.mem_cons_of_mem _ hb)
  refine ⟨hn b hb,q1,I4.ok.exfs b (List.mem_cons_of_mem _ hb),.inl (List.mem_cons_of_mem _ hb),q2,fun p hp z=>?_⟩
  have hp':p=(s2.heap.objs.size,ob):=by simpa [j7] using hp
  subst hp'
  have z':s2.heap.objs.size=b:=z
  exact hDfp (by rw [z'];exact hb)
 generalize hXC:j7 X N' scope s3.heap.objs.size s3 H2 (s2.heap.objs.size :: fp)=XC at I4 stat
 have eP:XC.prog=X.prog:=by rw [← hXC];rfl
 have eW:XC.w=X.w:=by rw [← hXC];rfl
 have eK:XC.K=X.K:=by rw [← hXC];rfl
 have eA:XC.A=X.A:=by rw [← hXC];rfl
 have eE:XC.env=compEnvC scope (wG X scope s3.heap.objs.size) s3.heap.objs.size X.env:=by rw [← hXC];rfl
 have eC:XC.calm=true:=by rw [← hXC];exact hc
 have eX:XC.xe=fun _ _=>False:=by rw [← hXC];rfl
 have eH:XC.H₀=H2:=by rw [← hXC];rfl
 have eS:XC.s₀=s3:=by rw [← hXC];rfl
 have eF:XC.fs=frs X.stack:=by rw [← hXC];rfl
 have eEx:XC.ex=s2.heap.objs.size :: fp:=by rw [← hXC];rfl
 have ePn:XC.pn=[]:=by rw [← hXC];rfl
 have hgC:PG XC tg g:=by rw [← hXC];exact hg _ _ _ _
 have htC:sX XC ifs tt:=by rw [← hXC];exact ht _ _ _ _
 have heC:PE XC elt te:=by rw [← hXC];exact he _ _ _ _
 have pinD:∀ {U':St} {H':Hp} {s':Shared} {ob:Obj},Inv XC [] U' H' s'->H' s2.heap.objs.size=none->s'.heap.get? s2.heap.objs.size=some ob->(∀ v,ob.data≠.cell v)->Inv XC [(s2.heap.objs.size,ob)] U' H' s':=fun {U' H' s' ob} J hn hg hd=>
  J.pins_of fun p hp=>by
   have hp':p=(s2.heap.objs.size,ob):=by simpa using hp
   subst hp'
   refine ⟨hg,hn,(J.ok.exf _ (by rw [eEx];exact List.mem_cons_self)).1,J.ok.exfs _ (by rw [eEx];exact List.mem_cons_self),hd⟩
 have loop:codeAny (model X.prog X.w) X.A (.compLoop (.ListComp elt [⟨tg,iter,ifs,0⟩] scope pos) 0 (.ref it) (.ref s2.heap.objs.size) (compEnvC scope (wG X scope s3.heap.objs.size) s3.heap.objs.size X.env))
   (compPost (model X.prog X.w) X.A X.xe use R (.ref s2.heap.objs.size) s3.heap.objs.size) {s3 with heap:=h₁,toks:=s3.toks+([]:List (Str×Value)).length}:=by
  refine qy (fun n s'=>∃ (i:Nat) (ys:List V) (its:List Value) (nn:Nat) (H':Hp),Inv XC [] (cF sub U) H' s'/\tn i s'.heap/\(∀ b∈fp,H' b=none)/\H' s2.heap.objs.size=none/\
   s'.heap.get? s2.heap.objs.size=some {cls:=.type "list",data:=.seq its.toArray nn}/\Vals ys its/\W i n ys H') ?_ m0
   ⟨0,[],[],_,H2,I4,T.keep _ _ _ st2 fun b _ o e=>hk31 b o (k23 b o e),fun b hb=>(f2 b hb).1,hDn,hk31 _ _ hD3,.nil,w0⟩
  rintro n s4 ⟨i,ys,its,nn,H4,J4,st4,fr4,dn4,dg4,rv4,w4⟩
  have P4:=pinD J4 dn4 dg4 (fun v z=>by cases z)
  rcases turn i n ys H4 w4 with ⟨stop,hyl,qn⟩ | ⟨go,hyl,N,hN,step⟩
  ·have hdone:=T.done XC eP eW eK eC i _ s4 _ H4 (fun _ _=>False) P4 (stat fr4) st4 stop
   rw [eA] at hdone
   refine wpAny_mono hdone (fun r s5 ⟨hr,I5⟩=>?_) fun _ _ z=>z
   subst hr
   obtain ⟨m,hn,_⟩:=id I5.loc
   have hCe:XC.env.locals=s3.heap.objs.size:=by rw [eE];rfl
   rw [hCe] at hn
   have hDg:=(I5.pin (s2.heap.objs.size,_) (by rw [ePn];exact List.mem_cons_self)).1
   have hDne:s2.heap.objs.size≠s3.heap.objs.size:=by rw [hsz];exact Nat.ne_of_lt (Nat.lt_succ_self _)
   have hHC:H4 s3.heap.objs.size=none:=by have:=I5.free;rw [hCe] at this;exact this
   have k56:∀ b o,b≠s3.heap.objs.size->s5.heap.get? b=some o->s5.heap.get? b=some o:=fun b o hb e=>e
   have un:=I5.base
   rw [eF,eEx,eH,eS] at un
   have nC:∀ b o,s3.heap.get? b=some o->b≠s3.heap.objs.size:=fun b o e=>Nat.ne_of_lt (Heap.lt_size e)
   have hok6:HOk X.prog X.w (upd H4 s2.heap.objs.size (.lst ys)) s5.heap:=by
    have h5:=I5.hok
    rw [eP,eW] at h5
    have zM:∀ b u,H4 b=some u->b≠s3.heap.objs.size:=fun b u e z=>by rw [z,hHC] at e;cases e
    intro b u e
    by_cases hb:b=s2.heap.objs.size
    ·subst hb
     rw [aq] at e;cases e
     exact ⟨hyl,its,nn,rv4,k56 _ _ hDne hDg⟩
    ·rw [aK hb] at e
     have nD:∀ c u,H4 c=some u->c≠s2.heap.objs.size:=fun c u e z=>by rw [z,dn4] at e;cases e
     refine (h5 b u e).stay (fun c v hc' q=>k56 c v ?_ q) (fun c q=>by rw [aK (nD c _ q)];exact q) fun c xs q=>by rw [aK (nD c _ q)];exact q
     rcases hc' with z | z
     ·rw [z];exact zM b u e
     ·exact zM c _ z
   have nD2:∀ c u,H4 c=some u->c≠s2.heap.objs.size:=fun c u e z=>by rw [z,dn4] at e;cases e
   have un6:Un (frs X.stack) (s2.heap.objs.size :: fp) H2 (upd H4 s2.heap.objs.size (.lst ys)) s3.heap s5.heap:=
    ⟨fun b o e nn' hb hx=>k56 b o (nC b o e) (un.keep b o e nn' hb hx),fun b o e nn' hb hx=>let ⟨sl,q⟩:=un.slot b o e nn' hb hx;⟨sl,k56 b _ (nC b o e) q⟩,
     fun b o e nn' hx=>by rw [aK (fun z=>hx (by rw [z];exact List.mem_cons_self))];exact un.free b o e nn' hx,
     fun b o e hx=>let ⟨o',q⟩:=un.there b o e hx;⟨o',k56 b o' (nC b o e) q⟩,
     fun b xs e=>by have q:=un.tups b xs e;rw [aK (nD2 b _ q)];exact q,
     fun b o u e=>by have q:=un.frzs b o u e;rw [aK (nD2 b _ q)];exact q,
     fun b ps e=>let ⟨more,q⟩:=un.tbls b ps e;⟨more,by rw [aK (nD2 b _ q)];exact q⟩⟩
   have I6:Inv X pins U (upd H4 s2.heap.objs.size (.lst ys)) s5:=by
    refine I3.call' (s':=s5) (ch:=s2.heap.objs.size :: fp) ?_ un6 hok6 I5.bare fun b hb=>?_
    ·show s5.os=s3.os
     have:=I5.os
     rw [eS] at this
     exact this
    ·have q:jK X pins H2 b:=by
      rcases List.mem_cons.mp hb with rfl | z
      ·exact fD
      ·exact f2 b z
     obtain ⟨f0,f1,f2',f3,f4,f5⟩:=q
     exact ⟨f3,f1,f4,f5⟩
   have dC:upd H4 s2.heap.objs.size (.lst ys) s3.heap.objs.size=none:=by rw [aK (Ne.symm hDne)];exact hHC
   exact hend _ _ s5 _ m I6 (I3.fpOk (Nat.le_refl _) dC) hn (qn _ dn4)
  ·have hitem:=T.item XC eP eW eK eC i _ s4 _ H4 (fun _ _=>False) P4 (stat fr4) st4 go
   rw [eA] at hitem
   refine wpAny_mono hitem (fun r s5 ⟨u,hr,h5⟩=>?_) fun _ _ z=>z
   subst hr
   dsimp only
   refine wpAny_mono h5 (fun _ s6 ⟨x,H6,I6,r6,y6,st6,fr6⟩=>?_) fun _ _ z=>z
   have P6:=I6.pinned (stat fr6) (T.obj _ _ st6)
   rw [← eE,← eP,← eW,← eA]
   refine wpAny_mono (hgC _ s6 _ H6 x u _ P6 r6 (step x H6 y6)) (fun _ s7 ⟨σ7,H7,I7,kp7,q7⟩=>?_) fun _ _ z=>by rw [eX] at z;exact z
   refine wpAny_mono (htC _ s7 σ7 H7 _ I7 q7) (fun ok s8 ⟨H8,I8,q8⟩=>?_) fun _ _ z=>by rw [eX] at z;exact z
   have fin:∀ {H9:Hp} {s9:Shared},Inv XC ([(s2.heap.objs.size,({cls:=.type "list",data:=.seq its.toArray nn}:Obj))] ++ mJ fp s6.heap) σ7 H9 s9->Inv XC [] (cF sub U) H9 s9/\tn (i+1) s9.heap/\(∀ b∈fp,H9 b=none)/\H9 s2.heap.objs.size=none/\
     s9.heap.get? s2.heap.objs.size=some {cls:=.type "list",data:=.seq its.toArray nn}:=fun {H9 s9} J=>by
    have pD:=J.pin (s2.heap.objs.size,({cls:=.type "list",data:=.seq its.toArray nn}:Obj)) (by rw [ePn];simp)
    have pF:∀ b∈fp,∀ o,s6.heap.get? b=some o->s9.heap.get? b=some o/\H9 b=none:=fun b hb o e=>by
     have q:=J.pin (b,o) (by rw [ePn];exact List.mem_append_right _ (List.mem_append_right _ (iZ hb e)))
     exact ⟨q.1,q.2.1⟩
    refine ⟨?_,T.keep _ _ _ st6 fun b hb o e=>(pF b hb o e).1,fun b hb=>?_,pD.2.1,pD.1⟩
    ·have J0:Inv XC [] σ7 H9 s9:=J.pins_of fun p hp=>nomatch hp
     exact J0.weak kp7.1.symm fun j v e=>kp7.2 j v e
    ·obtain ⟨o,e,_⟩:=T.obj _ _ st6 b hb
     exact (pF b hb o e).2
   cases ok with
   | false=>
    rw [if_neg (by simp)]
    rw [if_neg (by simp)] at q8
    obtain ⟨m',hm,w8⟩:=hN _ _ q8
    obtain ⟨a1,a2,a3,a4,a5⟩:=fin I8
    exact ⟨m',hm,i+1,ys,its,nn,H8,a1,a2,a3,a4,a5,rv4,w8⟩
   | true=>
    rw [if_pos rfl]
    rw [if_pos rfl] at q8
    refine wpAny_mono (heC _ s8 σ7 H8 _ I8 q8) (fun xv s9 ⟨y,H9,I9,r9,n9⟩=>?_) fun _ _ z=>by rw [eX] at z;exact z
    obtain ⟨m',hm,w9⟩:=hN _ _ n9
    obtain ⟨a1,a2,a3,a4,a5⟩:=fin I9
    refine wpAny_list_append_plain (items:=its.toArray) ⟨nn,a5⟩ (fun h' ⟨n',hp'⟩ sb=>?_) (by simp;rw [← rv4.length];omega)
    obtain ⟨q1,q2⟩:=I4.ok.exf s2.heap.objs.size (by rw [eEx];exact List.mem_cons_self)
    have a1':Inv XC [] (cF sub U) H9 {s9 with heap:=h'}:=a1.turned (t':=s9.toks) (fun b o hb e=>(sb.2 b hb).trans e) a4 q1 (.inl (by rw [eEx];exact List.mem_cons_self)) q2 (fun p hp=>by rw [ePn] at hp;exact nomatch hp)
    refine ⟨m',hm,i+1,ys ++ [y],its ++ [xv],n',H9,a1',T.keep _ _ _ a2 fun b hb o e=>(sb.2 b (fun z=>hDfp (by rw [← z];exact hb))).trans e,a3,a4,?_,rv4.append (.cons r9 .nil),w9⟩
    rw [hp']
    simp
 subst hs3
 exact codeAny_compStart_list loop (T.self _ 0 _ _ _ (T.keep _ _ _ st2 fun b _ o e=>hk31 b o (k23 b o e)) loop)
theorem uO {N:List Str} {sc:Scope} {i:Nat} {x:Str} {pos' spos:Pos} (hNd:X.N.Nodup) (hxi:X.N[i]?=some x) (hx:Loc X.env.scope x) (hf:X.fn x=true) (S:kj N sc N' scope sub) (hc:X.calm=true) (hN:X.N=N) (hsc:X.env.scope=sc) (hi:PI X tg iter wi)
  (hg:∀ (C:Addr) (s₀:Shared) (H₀:Hp) (ex:List Addr),PG (j7 X N' scope C s₀ H₀ ex) tg g)
  (ht:∀ (C:Addr) (s₀:Shared) (H₀:Hp) (ex:List Addr),sX (j7 X N' scope C s₀ H₀ ex) ifs tt)
  (he:∀ (C:Addr) (s₀:Shared) (H₀:Hp) (ex:List Addr),PE (j7 X N' scope C s₀ H₀ ex) elt te)
  (hs:∀ x,foldedSetIterable iter X.env x=pure x):PS X (.Assign [.Name x pos'] (.ListComp elt [⟨tg,iter,ifs,0⟩] scope pos) spos) (v6 (o5 sub wi g tt te) (j9 i)):=by
 intro pins s U H D I h
 have hsw:∃ b,swapsWith (.ListComp elt [⟨tg,iter,ifs,0⟩] scope pos) (some (.Name x pos')) spos.line X.env=pure b:=⟨_,rfl⟩
 obtain ⟨b,hsw⟩:=hsw
 cases b with
 | false=>exact xR hNd hxi hx (vA S hc hN hsc hi hg ht he hs) hsw (.inl hf) pins s U H D I h
 | true=>
  rw [exec_Assign_Name_used _ _ _ _ hsw]
  refine wpAny_bind (wpAny_standAt (wpAny_bind ?_))
  show wpAny _ X.A (do let _ ← comprehension (.ListComp elt [⟨tg,iter,ifs,0⟩] scope pos) scope X.env _ (newList []) false (eval iter X.env) (some (assign (.Name x pos') X.env))) _ _ s
  refine wpAny_bind (wpAny_mono (yJ (use:=some (assign (.Name x pos') X.env)) (R:=fun _ s'=>SP X pins D .next s') S hc hN hsc hi hg ht he hs pins s U H _ I h ?_) (fun _ s' hq=>wpAny_pure (wpAny_pure hq)) fun _ _ e=>e)
  intro Da C s5 H5 m I5 fC hn q
  show wpAny _ X.A (assign (.Name x pos') X.env (.ref Da)) _ _ _
  refine wpAny_assign_Name (qj I5 hNd hxi hx (v:=.ref Da) rfl (fun s6 I6 qq0=>?_) (.inl hf))
  obtain ⟨a,sb,ha⟩:=qq0
  obtain ⟨f0,f1,f2,f3,f4,f5⟩:=fC
  have hCa:C≠a:=fun z=>by
   rcases ha with e | e
   ·exact f1 (z.trans e)
   ·exact f4 x a e z.symm
  exact ⟨m,hn.sameBut sb hCa,fun h' hs'=>⟨_,H5,I6.turned (t':=s6.toks) (fun b o hb e=>hs'.extBut b o hb e) f0 f1 f3 f4 f5,q⟩⟩
end
section
variable {X:Cx} {tg iter elt:Expr} {ifs:List Expr} {scope:Scope} {pos:Pos} {N':List Str} {sub:List (Option Nat)} {wi:TI} {g:TG} {tt:TT} {te:TE} {N:List Str} {sc:Scope}
theorem Bc {i:Nat} {x:Str} {pos' spos:Pos} (hNd:X.N.Nodup) (hxi:X.N[i]?=some x) (hx:Loc X.env.scope x) (S:kj N sc N' scope sub) (hc:X.calm=true) (hN:X.N=N) (hsc:X.env.scope=sc) (hi:JI X tg iter wi)
  (hg:∀ (C:Addr) (s₀:Shared) (H₀:Hp) (ex:List Addr),JG (j7 X N' scope C s₀ H₀ ex) tg g)
  (ht:∀ (C:Addr) (s₀:Shared) (H₀:Hp) (ex:List Addr),FQ (j7 X N' scope C s₀ H₀ ex) ifs tt)
  (he:∀ (C:Addr) (s₀:Shared) (H₀:Hp) (ex:List Addr),JE (j7 X N' scope C s₀ H₀ ex) elt te) (hf:X.fn x=true) (h:autoParam (mL iter=true) L2.auto4._auto_1):
  JS X (.Assign [.Name x pos'] (.ListComp elt [⟨tg,iter,ifs,0⟩] scope pos) spos) (v6 (o5 sub wi g tt te) (j9 i)):=
 ⟨uO hNd hxi hx hf S hc hN hsc hi.run (fun C s₀ H₀ ex=>(hg C s₀ H₀ ex).run) (fun C s₀ H₀ ex=>(ht C s₀ H₀ ex).run) (fun C s₀ H₀ ex=>(he C s₀ H₀ ex).run) (yF h)⟩
end
section
variable {X:Cx} {pins:List (Addr×Obj)} {U:St} {H:Hp} {s:Shared}
theorem Inv.newtup {wr:List Addr} {T:Addr} {vals:Array Value} {xs:List V} {h'':Heap} {tk:Nat} (I:Inv X pins U H s) (hf:∀ b∈wr,jK X pins H b) (hT:s.heap.objs.size<=T)
  (kall:∀ b o,b ∉ wr->s.heap.get? b=some o->h''.get? b=some o) (isT':h''.IsTuple T vals) (hv:Vals xs vals.toList) (hx:xs.length<=sizeLine):Inv X pins U (upd H T (.tup xs)) {s with heap:=h'',toks:=tk}:=by
 have hTn:H T=none:=I.hok.fresh hT
 have nT:∀ b o,s.heap.get? b=some o->b≠T:=fun b o e=>Nat.ne_of_lt (Nat.lt_of_lt_of_le (Heap.lt_size e) hT)
 have nTH:∀ b u,H b=some u->b≠T:=fun b u e z=>by rw [z,hTn] at e;cases e
 have nW:∀ b u,H b=some u->b ∉ wr:=fun b u e hb=>by rw [(hf b hb).1] at e;cases e
 refine I.step (g':=s.gens) (d':=s.drawn) (ch:=wr) (fun b hb=>?_) (fun b o _ _ hc e _=>kall b o hc e) (fun b o _ _ hc e _=>⟨o.slots,kall b o hc e⟩) (fun b o _ e hn=>by rw [aK (nT b o e)];exact hn)
  (fun b o hc e=>⟨o,kall b o hc e⟩) (fun b ys e=>by rw [aK (nTH b _ e)];exact e) (fun b o u e=>by rw [aK (nTH b _ e)];exact e) (fun b ps e=>⟨#[],by rw [aK (nTH b _ e),e];simp⟩) (fun m hm=>?_) (fun b u e=>?_) I.bare
 ·obtain ⟨f0,f1,f2,f3,f4,f5⟩:=hf b hb
  exact ⟨f3,f1,f4,f5⟩
 ·obtain ⟨o,es,ep,ho,r⟩:=hm
  exact ⟨o,es,ep,kall _ o (fun hb=>(hf _ hb).2.1 rfl) ho,r⟩
 ·by_cases hb:b=T
  ·subst hb
   rw [aq] at e;cases e
   obtain ⟨o,ho,hcl,nn,hd⟩:=isT'
   exact ⟨hx,vals.toList,hv,o,ho,hcl,nn,by simpa using hd⟩
  ·rw [aK hb] at e
   refine (I.hok b u e).stay (fun c v hc' q=>kall c v ?_ q) (fun c q=>by rw [aK (nTH c _ q)];exact q) fun c ys q=>by rw [aK (nTH c _ q)];exact q
   rcases hc' with z | z
   ·rw [z];exact nW b u e
   ·exact nW c _ z
theorem Inv.only {wr:List Addr} {h':Heap} {tk:Nat} (I:Inv X pins U H s) (hf:∀ b∈wr,jK X pins H b) (kk:∀ b o,b ∉ wr->s.heap.get? b=some o->h'.get? b=some o):Inv X pins U H {s with heap:=h',toks:=tk}:=by
 have nW:∀ b u,H b=some u->b ∉ wr:=fun b u e hb=>by rw [(hf b hb).1] at e;cases e
 refine I.step (g':=s.gens) (d':=s.drawn) (ch:=wr) (fun b hb=>?_) (fun b o _ _ hc e _=>kk b o hc e) (fun b o _ _ hc e _=>⟨o.slots,kk b o hc e⟩) (fun b o _ e hn=>hn)
   (fun b o hc e=>⟨o,kk b o hc e⟩) (fun b ys e=>e) (fun b o u e=>e) (fun b ps e=>⟨#[],by rw [e];simp⟩) (fun m hm=>?_) (fun b u e=>?_) I.bare
 ·obtain ⟨f0,f1,f2,f3,f4,f5⟩:=hf b hb
  exact ⟨f3,f1,f4,f5⟩
 ·obtain ⟨o,es,ep,ho,r⟩:=hm
  exact ⟨o,es,ep,kk _ o (fun hb=>(hf _ hb).2.1 rfl) ho,r⟩
 ·refine (I.hok b u e).stay (fun c v hc' q=>kk c v ?_ q) (fun c q=>q) fun c ys q=>q
  rcases hc' with z | z
  ·rw [z];exact nW b u e
  ·exact nW c _ z
end
def Hz (K:W.Frag) (a:Addr):It:=
 ⟨fun i H=>∃ xs x,SqL K H a xs/\xs[i]?=some x,
  fun i H v H'=>∃ T x,H T=none/\v= .ref T/\(∀ xs,SqL K H a xs->xs[i]?=some x)/\H'=upd H T (.tup [.int i,x]),
  fun i H=>∃ xs,SqL K H a xs/\xs.length<=i⟩
theorem uP {P:Program} {w:World} {K:W.Frag} {elts:List Expr} {k:Nat} {pos:Pos} {e it a:Addr} (hne:e≠it):
  Turn P w K (.Tuple elts k pos) (Hz K a) [e,it] e (fun i h=>(∃ old,IsEnum h e it i old)/\h.IsListIter it a i) where
 mem:=by simp
 obj:=fun i h st c hc=>by
  obtain ⟨⟨old,he⟩,⟨o1,e1,c1,d1⟩⟩:=st
  simp only [List.mem_cons,List.mem_nil_iff,or_false] at hc
  rcases hc with rfl | rfl
  ·exact ⟨_,he,fun v z=>by cases z⟩
  ·exact ⟨_,e1,fun v z=>by rw [d1] at z;cases z⟩
 keep:=fun i h h' st kk=>by
  obtain ⟨⟨old,he⟩,h1⟩:=st
  exact ⟨⟨old,kk e (by simp) _ he⟩,h1.at fun o q=>kk it (by simp) o q⟩
 item:=by
  intro X hP hw hK hc i pins s U H E I hf st hg
  subst hP hw hK
  obtain ⟨⟨old,he⟩,h1⟩:=st
  obtain ⟨xs,x,hq,hx⟩:=hg
  obtain ⟨its,rv,p,_⟩:=I.list hq
  obtain ⟨u,hu,ru⟩:=rv.get hx
  refine wpAny_pyNext_enum_item he h1 p.isList (x:=u) (by simpa using hu) hne fun h' a1 a2 a3 a4 hk=>?_
  refine ⟨_,rfl,wpAny_letOwnedTupleGo_enum a1 fun h'' a1' sb=>?_⟩
  have lt:∀ {c o},s.heap.get? c=some o->s.heap.objs.size≠c:=fun e=>Nat.ne_of_gt (Heap.lt_size e)
  have lti:s.heap.objs.size≠it:=by obtain ⟨o,q,_⟩:=h1;exact lt q
  have isT:h''.IsTuple s.heap.objs.size #[.int i s.toks,u]:=⟨_,sb.extBut _ _ (lt he) a3,rfl,_,rfl⟩
  have kall:∀ b o,b ∉ [e,it]->s.heap.get? b=some o->h''.get? b=some o:=fun b o hb q=>by
   simp only [List.mem_cons,List.mem_nil_iff,or_false,not_or] at hb
   exact sb.extBut _ _ hb.1 (hk b o hb.1 hb.2 q)
  have hTn:H s.heap.objs.size=none:=I.hok.fresh (Nat.le_refl _)
  refine ⟨.ref s.heap.objs.size,_,I.newtup (tk:=s.toks+1) hf (Nat.le_refl _) kall isT (xs:=[.int i,x]) (.cons ⟨_,rfl⟩ (.cons ru .nil)) (by simp;decide),rfl,⟨_,x,hTn,rfl,fun zs hs=>by rw [I.list_inj hs hq];exact hx,rfl⟩,?_,fun b hb=>?_⟩
  ·exact ⟨⟨_,a1'⟩,a2.extBut sb.extBut (Ne.symm hne)⟩
  ·have:s.heap.objs.size≠b:=by
    simp only [List.mem_cons,List.mem_nil_iff,or_false] at hb
    rcases hb with rfl | rfl
    ·exact lt he
    ·exact lti
   rw [aK (Ne.symm this)]
   exact (hf b hb).1
 done:=by
  intro X hP hw hK hc i pins s U H E I hf st hg
  subst hP hw hK
  obtain ⟨⟨old,he⟩,h1⟩:=st
  obtain ⟨xs,hq,hx⟩:=hg
  obtain ⟨its,rv,p,_⟩:=I.list hq
  have l1:=rv.length
  refine wpAny_pyNext_enum_end (I.ok.hd hc) he h1 p.isList (by simp;omega) fun h' hk=>⟨rfl,I.only (tk:=s.toks) hf fun b o hb q=>?_⟩
  simp only [List.mem_cons,List.mem_nil_iff,or_false,not_or] at hb
  exact hk b o hb.2 q
 self:=fun _ _ _ _ _ st h=>let ⟨⟨_,he⟩,_⟩:=st;wpAny_pyIter_enum he h
theorem wL {X:Cx} {elts:List Expr} {k:Nat} {tp:Pos} {pins:List (Addr×Obj)} {U:St} {H1:Hp} {s1:Shared} {x:Str} {t:Tok} {R:It->Hp->Prop} (hc:X.calm=true) (I1:Inv X pins U H1 s1) (q:R (KY (tR x) x.cps.size) H1):
  wpAny (model X.prog X.w) X.A (call (.type "enumerate") [.str x t]) (fun v s1=>wpAny (model X.prog X.w) X.A (pyIter v) (PIE X pins U (.Tuple elts k tp) R) X.xe s1) X.xe s1:=by
 refine call_enumerate_str fun h' he hit hsz hk=>?_
 have J1:Inv X pins U H1 {s1 with heap:=h'}:=I1.kept (t':=s1.toks) hk
 have ne1:s1.heap.objs.size+1≠s1.heap.objs.size:=Nat.succ_ne_self _
 have nm:s1.heap.objs.size+1 ∉ [s1.heap.objs.size]:=fun z=>ne1 (List.mem_singleton.mp z)
 have hPt:∀ (i:Nat) (vals:Array Value),(∃ t y,SignAt x i y/\vals= #[.int i t,y])->Vals (tR x i) vals.toList:=by
  rintro i vals ⟨t,y,⟨c,u,e1,rfl⟩,rfl⟩
  refine .cons ⟨t,rfl⟩ (.cons ⟨u,?_⟩ .nil)
  rw [show x.cps.getD i 0=c by simp [Array.getD_eq_getD_getElem?,e1]]
 have fin:∀ (ty:String) (Dr:∀ A:Around,A.handled=none->Draws X.prog X.w A s1.heap.objs.size [s1.heap.objs.size] x.cps.size (SignAt x) fun i h=>h.IsStrIter s1.heap.objs.size ty x t i),h'.IsStrIter s1.heap.objs.size ty x t 0->
   wpAny (model X.prog X.w) X.A (pyIter (.ref (s1.heap.objs.size+1))) (PIE X pins U (.Tuple elts k tp) R) X.xe {s1 with heap:=h'}:=by
  intro ty Dr hit'
  have W:∀ A:Around,A.handled=none->WalksT X.prog X.w A (s1.heap.objs.size+1) [s1.heap.objs.size+1,s1.heap.objs.size] [s1.heap.objs.size+1,s1.heap.objs.size] x.cps.size
    (fun i vals=>∃ t y,SignAt x i y/\vals= #[.int i t,y]) (fun i h=>(∃ old,IsEnum h (s1.heap.objs.size+1) s1.heap.objs.size i old)/\h.IsStrIter s1.heap.objs.size ty x t i)
    (fun i T h=>(∃ y,IsEnumOut h (s1.heap.objs.size+1) s1.heap.objs.size ((i:Int)+1) y T)/\h.IsStrIter s1.heap.objs.size ty x t (i+1)/\T≠s1.heap.objs.size+1/\T≠s1.heap.objs.size):=
   fun A hA=>WalksT.enumerateD (Dr A.in1 hA) (s1.heap.objs.size+1) ne1 nm (by simp)
  have hself:∀ (A:Around) (i:Nat) (s:Shared) (Q:Value->Shared->Prop) (E:Value->Shared->Prop),((∃ old,IsEnum s.heap (s1.heap.objs.size+1) s1.heap.objs.size i old)/\s.heap.IsStrIter s1.heap.objs.size ty x t i)->Q (.ref (s1.heap.objs.size+1)) s->wpAny (model X.prog X.w) A (pyIter (.ref (s1.heap.objs.size+1))) Q E s:=by
   rintro A i s Q E ⟨⟨old,he⟩,_⟩ hQ
   exact wpAny_pyIter_enum he hQ
  refine hself _ 0 _ _ _ ⟨⟨_,he⟩,hit'⟩ ?_
  refine ⟨s1.heap.objs.size+1,[s1.heap.objs.size+1,s1.heap.objs.size],_,_,H1,rfl,J1,FZ W (fun i=>by simp [tR];decide) hPt (by simp) ?_ hself,⟨⟨_,he⟩,hit'⟩,fun b hb=>?_,q⟩
  ·rintro i h ⟨⟨old,he⟩,o,ho,hcl,hd⟩ b hb
   rcases List.mem_cons.mp hb with rfl | hb
   ·exact ⟨_,he,fun v z=>by cases z⟩
   ·rw [List.mem_singleton.mp hb]
    exact ⟨o,ho,fun v z=>by rw [hd] at z;cases z⟩
  ·have hb':s1.heap.objs.size<=b:=by
    rcases List.mem_cons.mp hb with rfl | hb
    ·exact Nat.le_succ _
    ·rw [List.mem_singleton.mp hb];exact Nat.le_refl _
   exact I1.fpOk hb' (I1.hok.fresh hb')
 cases hx:x.cps.all (· < 128)
 ·exact fin "str_iterator" (fun A hA=>Draws.strWide hA _ x t) (by simpa [strIterType,hx] using hit)
 ·exact fin "str_ascii_iterator" (fun A hA=>Draws.strAscii hA _ x t) (by simpa [strIterType,hx] using hit)
def CZ (K:W.Frag) (ta:TA):TI:=fun U H R=>ta U H fun vs H1=>(∃ x:Str,vs=[.str x]/\R (KY (tR x) x.cps.size) H1)\/∃ a xs,vs=[.ref a]/\SqL K H1 a xs/\R (Hz K a) H1
theorem Bd {X:Cx} {K:W.Frag} {a:Expr} {ta:TA} {elts:List Expr} {k:Nat} {tp p pos:Pos} (hK:X.K=K) (hc:X.calm=true) (hg:Gl X "enumerate") (hm:X.mg "enumerate"=none) (ha:JA X [a] ta) (h:autoParam (notStar a=true) L2.auto4._auto_1):
  JI X (.Tuple elts k tp) (.Call (.Name "enumerate" p) [a] [] pos) (CZ K ta):=⟨by
 subst hK
 intro pins s U H R I hq
 refine Call_ (mH I hg hm rE (PyProof.Rows.callWith_type1 (dz (ha.run pos pins s U H _ I hq) fun us s1 qq0=>?_) (cV h) rfl))
 obtain ⟨vs,H1,I1,r1,q1⟩:=qq0
 rcases q1 with ⟨x,e,q⟩ | ⟨l,xs,e,hl,q⟩
 ·subst e
  obtain ⟨u,rfl,t,rfl⟩:=vals1 r1
  exact wL hc I1 q
 ·subst e
  obtain ⟨u,rfl,ru⟩:=vals1 r1
  cases ru
  obtain ⟨its,rv,p1,_⟩:=I1.list hl
  refine call_enumerate_list p1.isList fun h' z1 z2 z3 hk=>?_
  have J1:Inv X pins U H1 {s1 with heap:=h'}:=I1.kept (t':=s1.toks) hk
  refine wpAny_pyIter_enum z1 ?_
  refine ⟨s1.heap.objs.size+1,_,_,_,H1,rfl,J1,uP (Nat.succ_ne_self _),⟨⟨_,z1⟩,z2⟩,fun b hb=>?_,q⟩
  have hb':s1.heap.objs.size<=b:=by
   simp only [List.mem_cons,List.mem_nil_iff,or_false] at hb
   have key:∀ n c:Nat,(c=n+1\/c=n)->n<=c:=fun n c h=>by omega
   exact key _ _ hb
  exact I1.fpOk hb' (I1.hok.fresh hb')⟩
end L2
namespace L2
open PySem PySem.Spec PyProof.Rows PySem.SeqAt
mutual
def DR (H:Hp):PyData->V->Prop
 | .none,v=>v= .non
 | .bool b,v=>v= .bl b
 | .int n,v=>v= .int n
 | .str x,v=>v= .str x
 | .list ds,v=>∃ a vs,v= .ref a/\H a=some (.lst vs)/\DRs H ds vs
 | .tuple ds,v=>∃ a vs,v= .ref a/\H a=some (.tup vs)/\DRs H ds vs
 | .dict _,_=>False
def DRs (H:Hp):List PyData->List V->Prop
 | [],vs=>vs=[]
 | d :: ds,vs=>∃ v r,vs=v :: r/\DR H d v/\DRs H ds r
end
theorem uQ {H:Hp} {n:Int} {v:V}:DR H (.int n) v↔v= .int n:=by rw [DR]
theorem yK {H:Hp} {n:Str} {v:V}:DR H (.str n) v↔v= .str n:=by rw [DR]
theorem lQ {H:Hp} {ds:List PyData} {v:V}:DR H (.list ds) v↔∃ a vs,v= .ref a/\H a=some (.lst vs)/\DRs H ds vs:=by rw [DR]
theorem tU {H:Hp} {ds:List PyData} {v:V}:DR H (.tuple ds) v↔∃ a vs,v= .ref a/\H a=some (.tup vs)/\DRs H ds vs:=by rw [DR]
theorem vK {H:Hp} {vs:List V}:DRs H [] vs↔vs=[]:=by rw [DRs]
theorem lR {H:Hp} {d:PyData} {ds:List PyData} {vs:List V}:DRs H (d :: ds) vs↔∃ v r,vs=v :: r/\DR H d v/\DRs H ds r:=by rw [DRs]
theorem Be {H:Hp} {d:PyData} {v:V} (h:DR H d v):DRs H [d] [v]:=lR.mpr ⟨v,[],rfl,h,vK.mpr rfl⟩
mutual
theorem DR.reads {P:Program} {w:World} {H:Hp} {h:Heap} (ok:HOk P w H h):∀ (d:PyData) (v:V) (u:Value),DR H d v->RelV v u->∃ as,Reads h u d as
 | .none,_,u,q,r=>by rw [DR] at q;subst q;cases r;exact ⟨_,.none⟩
 | .bool b,_,u,q,r=>by rw [DR] at q;subst q;cases r;exact ⟨_,.bool _⟩
 | .int n,_,u,q,r=>by rw [DR] at q;subst q;obtain ⟨t,rfl⟩:=r;exact ⟨_,.int _ _⟩
 | .str n,_,u,q,r=>by rw [DR] at q;subst q;obtain ⟨t,rfl⟩:=r;exact ⟨_,.str _ _⟩
 | .list ds,v,u,q,r=>by
  rw [DR] at q
  obtain ⟨a,vs,rfl,e,t⟩:=q
  cases r
  obtain ⟨_,its,n,rv,g⟩:=ok a _ e
  obtain ⟨as,ra⟩:=DRs.reads ok ds vs its t rv
  exact ⟨_,.list g rfl rfl (by simpa using ra)⟩
 | .tuple ds,v,u,q,r=>by
  rw [DR] at q
  obtain ⟨a,vs,rfl,e,t⟩:=q
  cases r
  obtain ⟨_,its,rv,g⟩:=ok a _ e
  obtain ⟨as,ra⟩:=DRs.reads ok ds vs its t rv
  obtain ⟨o,ho,hc,n,hd⟩:=g
  exact ⟨_,.tuple ho hc hd (by simpa using ra)⟩
 | .dict _,_,_,q,_=>by rw [DR] at q;exact q.elim
theorem DRs.reads {P:Program} {w:World} {H:Hp} {h:Heap} (ok:HOk P w H h):∀ (ds:List PyData) (vs:List V) (us:List Value),DRs H ds vs->Vals vs us->∃ as,ReadsAll h us ds as
 | [],_,us,q,r=>by rw [DRs] at q;subst q;cases r;exact ⟨_,.nil⟩
 | d :: ds,_,us,q,r=>by
  rw [DRs] at q
  obtain ⟨v,r',rfl,q1,q2⟩:=q
  cases r with
  | cons a b=>
   obtain ⟨as,h1⟩:=DR.reads ok d v _ q1 a
   obtain ⟨bs,h2⟩:=DRs.reads ok ds r' _ q2 b
   exact ⟨_,.cons h1 h2⟩
end
def Jq:R2:=fun x y H Q=>∃ d e,DR H d x/\DR H e y/\shaped d=true/\shaped e=true/\Q (.bl (PyData.eqv d e)) H
def Jr:R2:=fun x y H Q=>∃ d e,DR H d x/\DR H e y/\shaped d=true/\shaped e=true/\Q (.bl (!PyData.eqv d e)) H
section
variable {X:Cx}
theorem Gd (hu:X.A.units+64 < cLine):OpR X (compareOp .Eq) Jq:=by
 intro pins s U H x y v u Q I rx ry h
 obtain ⟨d,e,h1,h2,h3,h4,q⟩:=h
 obtain ⟨as,r1⟩:=DR.reads I.hok d x v h1 rx
 obtain ⟨bs,r2⟩:=DR.reads I.hok e y u h2 ry
 exact eq_dataH r1 r2 h3 h4 hu ⟨.bl _,H,I,rfl,q⟩
theorem Ge (hu:X.A.units+64 < cLine):OpR X (compareOp .NotEq) Jr:=by
 intro pins s U H x y v u Q I rx ry h
 obtain ⟨d,e,h1,h2,h3,h4,q⟩:=h
 obtain ⟨as,r1⟩:=DR.reads I.hok d x v h1 rx
 obtain ⟨bs,r2⟩:=DR.reads I.hok e y u h2 ry
 exact ne_dataH r1 r2 h3 h4 hu ⟨.bl _,H,I,rfl,q⟩
def Bf (K:W.Frag):R2:=fun x y H Q=>Fj K x y H Q\/Jq x y H Q
def Bg (K:W.Frag):R2:=fun x y H Q=>Jp K x y H Q\/Jr x y H Q
theorem Gf {K:W.Frag} (hK:X.K=K) (hu:X.A.units+64 < cLine):OpR X (compareOp .Eq) (Bf K):=(Fq hK (Nat.lt_of_le_of_lt (Nat.le_add_right _ _) hu)).or (Gd hu)
theorem lg {K:W.Frag} (hK:X.K=K) (hu:X.A.units+64 < cLine):OpR X (compareOp .NotEq) (Bg K):=(Ga hK hu).or (Ge hu)
end
section
variable {H:Hp} {Q:VK} {K:W.Frag} {U:St}
theorem eU {i j:Int} (h:Q (.bl (decide (V.int i=V.int j))) H):Bf K (.int i) (.int j) H Q:=.inl (.inl ⟨rfl,h⟩)
theorem eV {i j:Str} (h:Q (.bl (decide (V.str i=V.str j))) H):Bf K (.str i) (.str j) H Q:=.inl (.inl ⟨rfl,h⟩)
theorem eY {i j:Str} (h:Q (.bl (!decide (V.str i=V.str j))) H):Bg K (.str i) (.str j) H Q:=.inl (.inl ⟨rfl,h⟩)
theorem tV {x y:V} {d:PyData} (h1:DR H d x) (h2:DR H d y) (hs:shaped d=true) (h:Q (.bl false) H):Bg K x y H Q:=
 .inr ⟨d,d,h1,h2,hs,hs,by rw [PySem.SeqAt.eqv_refl d (canLay_of_shaped hs)];exact h⟩
theorem dI {a:TA} {R:It->Hp->Prop} (h:a U H fun vs H1=>(∃ x:Str,vs=[.str x]/\R (KY (tR x) x.cps.size) H1)\/∃ a xs,vs=[.ref a]/\SqL K H1 a xs/\R (Hz K a) H1):CZ K a U H R:=h
theorem wM {a:Addr} {xs:List V} {g:TG} {tb:TS} {D:Ends} (Pv:Nat->St->Hp->Prop) (h0:Pv 0 U H) (hq:∀ i U H,i<=xs.length->Pv i U H->SqL K H a xs)
  (hs:∀ i U H T x,xs[i]?=some x->Pv i U H->H T=none->g (.ref T) U (upd H T (.tup [.int i,x])) fun σ2 H2=>tb {D with nx:=Pv (i+1),ct:=Pv (i+1),bk:=D.nx} σ2 H2) (hd:∀ U H,Pv xs.length U H->D.nx U H):
  ∃ W:Nat->Nat->St->Hp->Prop,(∃ m,W 0 m U H)/\∀ i m U H,W i m U H->
   ((Hz K a).stop i H/\D.nx U H)\/((Hz K a).go i H/\∃ N:St->Hp->Prop,(∀ U' H',N U' H'->∃ m',m' < m/\W (i+1) m' U' H')/\∀ x H',(Hz K a).yld i H x H'->g x U H' fun σ2 H2=>tb {D with nx:=N,ct:=N,bk:=D.nx} σ2 H2):=by
 refine ⟨fun i m U H=>m=xs.length - i/\i<=xs.length/\Pv i U H,⟨xs.length,by simp,Nat.zero_le _,h0⟩,?_⟩
 rintro i m U H ⟨rfl,hi,p⟩
 have q1:=hq i U H hi p
 by_cases hlt:i < xs.length
 ·refine .inr ⟨⟨xs,xs[i],q1,List.getElem?_eq_getElem hlt⟩,Pv (i+1),fun U' H' p'=>⟨xs.length - (i+1),by omega,rfl,hlt,p'⟩,fun x H' y=>?_⟩
  obtain ⟨T,u,hT,e1,e2,e4⟩:=y
  subst e1 e4
  exact hs i U H T u (e2 xs q1) p hT
 ·have e:i=xs.length:=by omega
  subst e
  exact .inl ⟨⟨xs,q1,Nat.le_refl _⟩,hd U H p⟩
end
end L2
namespace L2
open PySem PySem.Spec PyProof.Rows
section
variable {X:Cx} {K:W.Frag} {a b c e:Expr} {ta tb tc te:TE} {pos p p2 p3:Pos}
theorem tW {op op':CmpOp} {r r':R2} (ho:OpR X (compareOp op) r) (ho':OpR X (compareOp op') r') (ha:JE X a ta) (hb:JE X b tb) (hc:JE X c tc) (hm:autoParam (lastMarks [op,op'] [b,c]=false) L2.auto5._auto_1):
  JT X (.Compare a [op,op'] [b,c] pos) (sS (uE r r' ta tb tc)):=⟨xW ho ho' ha.run hb.run hc.run hm⟩
end
def nQ (mg:Str->Option Value) (x:Str):Addr:=match mg x with
 | some (.ref a)=>a
 | _=>0
theorem Bh {mg:Str->Option Value} {x:Str} {C:Addr} (h:mg x=some (.ref C)):nQ mg x=C:=by unfold nQ;rw [h]
def wN (lo c:Int) (n:Nat):It:=⟨fun i _=>i < n,fun i H x H'=>H'=H/\x= .int (lo+i*c),fun i _=>n<=i⟩
theorem wO {P:Program} {w:World} {K:W.Frag} {tg:Expr} (it:Addr) (lo c:Int) (n:Nat):Turn P w K tg (wN lo c n) [it] it (fun i h=>IsRangeIter h it (lo+(i:Nat)*c) ((n:Int) - (i:Nat)) c) where
 mem:=by simp
 obj:=fun i h st b hb=>by
  obtain rfl:b=it:=by simpa using hb
  exact ⟨_,st,fun v z=>by
   have z2:Data.fields _=Data.cell v:=z
   cases z2⟩
 keep:=fun i h h' st k=>k it (by simp) _ st
 item:=by
  intro X hP hw hK hc i pins s U H E I hf st hg
  subst hP hw hK
  obtain ⟨f0,f1,f2,f3,f4,f5⟩:=hf it (by simp)
  have W:=Walks.range (prog:=X.prog) (w:=X.w) (I.ok.hd hc) it lo c n
  refine W.item i s _ _ hg st fun v h' tk hv st' kk=>?_
  obtain ⟨t,rfl⟩:=hv
  have I1:Inv X pins U H {s with heap:=h',toks:=tk}:=I.turned (fun b o hb e=>kk b o (by simpa using hb) e) f0 f1 f3 f4 f5
  exact ⟨_,rfl,sI (s:={s with heap:=h',toks:=tk}) (n:="range_iterator") st' rfl rfl (by decide) ⟨.int (lo+i*c),H,I1,⟨t,rfl⟩,⟨rfl,rfl⟩,st',fun b hb=>(hf b hb).1⟩⟩
 done:=by
  intro X hP hw hK hc i pins s U H E I hf st hg
  subst hP hw hK
  obtain ⟨f0,f1,f2,f3,f4,f5⟩:=hf it (by simp)
  exact wpAny_pyNext_range_end (I.ok.hd hc) st (by have:n<=i:=hg;omega) fun h' eb=>⟨rfl,I.turned (t':=s.toks) (fun b o hb e=>eb b o hb e) f0 f1 f3 f4 f5⟩
 self:=fun _ _ _ _ _ st h=>wpAny_pyIter_rangeiter st h
def yL (ta:TA):TI:=fun U H R=>ta U H fun vs H1=>∃ (i j c:Int) (n:Nat),vs=[.int i,.int j,.int c]/\c≠0/\Builtin.divisionGoesByPylong (j - i) c=false/\Builtin.Range.small i j c=true/\Builtin.Range.rangeSize i j c=(n:Int)/\R (wN i c n) H1
section
variable {X:Cx} {tg:Expr}
theorem wQ {a b c:Expr} {ta:TA} {p pos:Pos} (hg:Gl X "range") (hm:X.mg "range"=none) (ha:PA X [a,b,c] ta) (hs:starEach [a,b,c] X.env=(false,eval a X.env) :: starEach [b,c] X.env) (hs2:(backTo pos (starEach [b,c] X.env)).any (·.1)=false):
  PI X tg (.Call (.Name "range" p) [a,b,c] [] pos) (yL ta):=by
 intro pins s U H R I h
 refine Call_ (mH I hg hm boot_range (PyProof.Rows.callWith_type1 (dz (ha pos pins s U H _ I h) fun us s1 ⟨vs,H1,I1,r1,q1⟩=>?_) hs hs2))
 obtain ⟨i,j,c,n,rfl,hc,hd,hsm,hn,q⟩:=q1
 cases r1 with
 | cons r rr=>
  cases rr with
  | cons r' rr=>
   cases rr with
   | cons r'' rr=>
    cases rr
    obtain ⟨t,rfl⟩:=r
    obtain ⟨t',rfl⟩:=r'
    obtain ⟨t'',rfl⟩:=r''
    refine call_range_3 hc ?_ (.inl hd)
    refine wpAny_pyIter_range (IsRange.new ..) hsm ?_
    have I2:Inv X pins U H1 {s1 with heap:=s1.heap.push {cls:=.type "range",data:=.fields #[.int i t,.int j t',.int c t'']}}:=I1.kept (t':=s1.toks) fun b o e=>Heap.get?_push_of_some _ e
    refine ⟨(s1.heap.push {cls:=.type "range",data:=.fields #[.int i t,.int j t',.int c t'']}).objs.size,[(s1.heap.push {cls:=.type "range",data:=.fields #[.int i t,.int j t',.int c t'']}).objs.size],_,_,H1,rfl,
     I2.kept (t':=s1.toks) fun b o e=>Heap.get?_push_of_some _ e,wO _ i c n,?_,fun b hb=>?_,q⟩
    ·have e1:i+((0:Nat):Int)*c=i:=by simp
     have e2:(n:Int) - ((0:Nat):Int)=Builtin.Range.rangeSize i j c:=by rw [hn];simp
     show IsRangeIter _ _ (i+((0:Nat):Int)*c) ((n:Int) - ((0:Nat):Int)) c
     rw [e1,e2]
     exact Heap.get?_push_size _ rfl
    ·obtain rfl:b=(s1.heap.push {cls:=.type "range",data:=.fields #[.int i t,.int j t',.int c t'']}).objs.size:=by simpa using hb
     exact I2.fpOk (Nat.le_refl _) (I2.hok.fresh (Nat.le_refl _))
theorem qI {a b c:Expr} {ta:TA} {p pos:Pos} (hg:Gl X "range") (hm:X.mg "range"=none) (ha:JA X [a,b,c] ta) (h:autoParam (notStar a=true) L2.auto4._auto_1) (h2:autoParam ([b,c].all notStar=true) L2.auto4._auto_1):JI X tg (.Call (.Name "range" p) [a,b,c] [] pos) (yL ta):=
 ⟨wQ hg hm ha.run (cV h) (mO h2)⟩
end
section
variable {U:St} {H:Hp} {Q:VK}
theorem gr {a:TA} {R:It->Hp->Prop} (h:a U H fun vs H1=>∃ (i j c:Int) (n:Nat),vs=[.int i,.int j,.int c]/\c≠0/\Builtin.divisionGoesByPylong (j - i) c=false/\Builtin.Range.small i j c=true/\Builtin.Range.rangeSize i j c=(n:Int)/\R (wN i c n) H1):yL a U H R:=h
theorem tX {lo c:Int} {n:Nat} {g:TG} {tb:TS} {D:Ends} (Pv:Nat->St->Hp->Prop) (h0:Pv 0 U H)
  (hs:∀ i U H,i < n->Pv i U H->g (.int (lo+i*c)) U H fun σ2 H2=>tb {D with nx:=Pv (i+1),ct:=Pv (i+1),bk:=D.nx} σ2 H2) (hd:∀ U H,Pv n U H->D.nx U H):
  ∃ W:Nat->Nat->St->Hp->Prop,(∃ m,W 0 m U H)/\∀ i m U H,W i m U H->
   ((wN lo c n).stop i H/\D.nx U H)\/((wN lo c n).go i H/\∃ N:St->Hp->Prop,(∀ U' H',N U' H'->∃ m',m' < m/\W (i+1) m' U' H')/\∀ x H',(wN lo c n).yld i H x H'->g x U H' fun σ2 H2=>tb {D with nx:=N,ct:=N,bk:=D.nx} σ2 H2):=by
 refine ⟨fun i m U H=>m=n - i/\i<=n/\Pv i U H,⟨n,by simp,Nat.zero_le _,h0⟩,?_⟩
 rintro i m U H ⟨rfl,hi,p⟩
 by_cases hlt:i < n
 ·refine .inr ⟨hlt,Pv (i+1),fun U' H' p'=>⟨n - (i+1),by omega,rfl,hlt,p'⟩,fun x H' y=>?_⟩
  obtain ⟨rfl,rfl⟩:=y
  exact hs i U _ hlt p
 ·obtain rfl:i=n:=by omega
  exact .inl ⟨Nat.le_refl _,hd U H p⟩
end
def Js (K:W.Frag) (neg:Bool):R2:=fun x y H Q=>∃ a b xs,x= .ref a/\y= .ref b/\SqL K H a xs/\SqL K H b xs/\(∀ v∈xs,gK v=true\/∃ r,v= .ref r)/\Q (.bl (!neg)) H
theorem tY {v:V} (f:gK v=true):vy v v=true:=by
 cases v <;> first | (cases f;done) | rfl | (simp [vy])
section
variable {X:Cx}
theorem Gg (hu:X.A.units < cLine):OpR X (compareOp .Eq) (Js X.K false):=by
 intro pins s U H x y v u Q I rx ry h
 obtain ⟨a,b,xs,rfl,rfl,ha,hb,fx,q⟩:=h
 cases rx
 cases ry
 obtain ⟨its,r1,p1,z1⟩:=I.list ha
 obtain ⟨jts,r2,p2,z2⟩:=I.list hb
 have l1:its.toArray.size=xs.length:=by simpa using r1.length.symm
 have l2:jts.toArray.size=xs.length:=by simpa using r2.length.symm
 refine SeqAt.eq_listAt (e:=fun _=>true) p1.isList p2.isList (by rw [l1,l2]) hu (fun j h1 h2=>?_) ?_
 ·have hj:j < xs.length:=by omega
  obtain ⟨u1,e1,q1⟩:=r1.get (List.getElem?_eq_getElem hj)
  obtain ⟨u2,e2,q2⟩:=r2.get (List.getElem?_eq_getElem hj)
  have f1:its.toArray[j]=u1:=by
   obtain ⟨_,z⟩:=List.getElem?_eq_some_iff.mp e1
   simpa using z
  have f2:jts.toArray[j]=u2:=by
   obtain ⟨_,z⟩:=List.getElem?_eq_some_iff.mp e2
   simpa using z
  rw [f1,f2]
  rcases fx _ (List.getElem_mem hj) with f | ⟨r,f⟩
  ·rw [← tY f]
   exact qY q1 q2 f f
  ·rw [f] at q1 q2
   cases (show u1=Value.ref r from q1)
   cases (show u2=Value.ref r from q2)
   exact SeqAt.EqAt.same _
 ·have e:(List.range its.toArray.size).all (fun _=>true)=true:=by simp
  rw [e]
  exact ⟨.bl true,H,I,rfl,q⟩
def yM (K:W.Frag):R2:=fun x y H Q=>Bf K x y H Q\/Js K false x y H Q
theorem Gh {K:W.Frag} (hK:X.K=K) (hu:X.A.units+64 < cLine):OpR X (compareOp .Eq) (yM K):=by
 subst hK
 exact (Gf rfl hu).or (Gg (Nat.lt_of_le_of_lt (Nat.le_add_right _ _) hu))
end
section
variable {H:Hp} {Q:VK} {K:W.Frag}
theorem eZ {i j:Int} (h:Q (.bl (decide (V.int i=V.int j))) H):yM K (.int i) (.int j) H Q:=.inl (eU h)
theorem fc {i j:Str} (h:Q (.bl (decide (V.str i=V.str j))) H):yM K (.str i) (.str j) H Q:=.inl (eV h)
theorem Gi {a b:Addr} {xs ys:List V} (h1:SqL K H a xs) (h2:SqL K H b ys) (f1:xs.all gK=true) (f2:ys.all gK=true) (h:Q (.bl (pY xs ys)) H):yM K (.ref a) (.ref b) H Q:=.inl (.inl (.inr ⟨a,b,xs,ys,rfl,rfl,h1,h2,f1,f2,h⟩))
end
end L2
namespace L2
open PySem PySem.Spec PyProof.Rows
open AutoSeq1 (wpAny_loadPart')
theorem Gj:isSubtype (.type "dict") (.type "dict")=pure true:=by rw [isSubtype_type];kernel_rfl
theorem wR {prog:Program} {w:World} {A:Around} {E:Value->Shared->Prop} {s:Shared} {Q:Value->Shared->Prop} {a:Addr} {o:Obj} {e:DictEntry} {ep:Nat} {k:Key} (ho:s.heap.get? a=some o) (hc:o.cls= .type "dict") (hd:o.data= .dict #[e] ep)
  (hkey:(bz prog w).is k e.key=true) (hh:e.hash=(bz prog w).hash k) (hsm:(a == sysModules)=false) (hu:A.units < cLine) (h:Q (.bool true) s):wpAny (model prog w) A (compareOp .Eq (.ref a) (.ref a)) Q E s:=by
 show wpAny _ _ (richCompare .Eq (.ref a) (.ref a)) _ _ _
 refine wpAny_richCompare_same_room ⟨o,ho,hc⟩ ⟨o,ho,hc⟩ F.slot_dict_eq (wpAny_call (codeAny_call_builtin F.slot_dict_eq.plain F.entry_dict_eq (F.slot_dict_eq.check _ _ _ _ _ _ _ _ ⟨o,ho,hc⟩ (F.args_dict_eq_2 _ _) ?_))) hu
 have ko:KeysOf (bz prog w) #[e]:=fun x hx=>by
  simp at hx
  subst hx
  exact ⟨k,hkey,hh⟩
 have f2:=Gj
 obtain ⟨hp,g,d,tk,os⟩:=s
 have hT:(⟨hp,g,d,tk,os⟩:Shared).TypeIs (.ref a) "dict":=⟨_,ho,hc⟩
 unfold Builtin.«dict.__eq__»
 wp_walk using wpAny_loadPart' ho
 have en:∀ (Q:Array DictEntry->Shared->Prop) (E:Value->Shared->Prop),Q #[e] ⟨hp,g,d,tk,os⟩->wpAny (model prog w) A.in1 (dictEntries a) Q E ⟨hp,g,d,tk,os⟩:=fun Q E q=>by
  unfold dictEntries
  refine wpAny_bind (wpAny_loadPart ho ?_)
  simp only [hd]
  exact wpAny_pure q
 have eo:∀ (Q:Nat->Shared->Prop) (E:Value->Shared->Prop),Q ep ⟨hp,g,d,tk,os⟩->wpAny (model prog w) A.in1 (dictEpoch a) Q E ⟨hp,g,d,tk,os⟩:=fun Q E q=>by
  unfold dictEpoch
  refine wpAny_bind (wpAny_loadPart ho ?_)
  simp only [hd]
  exact wpAny_pure q
 simp only [hd]
 refine wpAny_pure ?_
 refine wpAny_bind (en _ _ ?_)
 rw [if_neg (by simp)]
 refine wpAny_bind (eo _ _ ?_)
 refine wpAny_bind ?_
 rw [Std.Legacy.Range.forIn_eq_forIn_range']
 simp only [Std.Legacy.Range.size,Nat.sub_zero,Nat.add_sub_cancel,Nat.div_one]
 show wpAny _ _ (forIn [0] _ _) _ _ _
 rw [List.forIn_cons]
 refine wpAny_bind (wpAny_bind (en _ _ ?_))
 show wpAny _ _ (holding [e.key,e.val] _ >>=_) _ _ _
 refine wpAny_bind (wpAny_holding ?_)
 refine wpAny_bind (show wpAny (model prog w) A.in1 (dictFind a e.key e.hash) _ _ _ from ?_)
 rw [hh]
 refine wpAny_dictFind_of hkey ho hd ko ?_
 have fi:(#[e]:Array DictEntry).findIdx? (fun e=>(bz prog w).is k e.key)=some 0:=by simp [hkey]
 rw [fi]
 refine wpAny_bind (en _ _ ?_)
 show wpAny _ _ (holding [e.val] (eqBool e.val e.val)) _ _ _
 refine wpAny_holding (SeqAt.EqAt.same e.val prog w _ _ ?_)
 rw [if_neg (by simp)]
 refine wpAny_bind (eo _ _ ?_)
 rw [if_neg (by simp)]
 refine wpAny_pure ?_
 show wpAny _ _ (forIn [] _ _) _ _ _
 rw [List.forIn_nil]
 refine wpAny_pure (wpAny_pure ?_)
 exact wpAny_pure ⟨(fun z=>nomatch z),h⟩
section
variable {X:Cx}
def Dc (K:W.Frag):R2:=fun x y H Q=>∃ a b xs,x= .ref a/\y= .ref b/\SqT K H a xs/\SqT K H b xs/\(∀ v∈xs,gK v=true\/∃ r,v= .ref r)/\Q (.bl true) H
theorem Bj (hu:X.A.units < cLine):OpR X (compareOp .Eq) (Dc X.K):=by
 intro pins s U H x y v u Q I rx ry h
 obtain ⟨a,b,xs,rfl,rfl,ha,hb,fx,q⟩:=h
 cases rx
 cases ry
 obtain ⟨its,r1,p1,z1⟩:=I.tuple ha
 obtain ⟨jts,r2,p2,z2⟩:=I.tuple hb
 have l1:its.toArray.size=xs.length:=by simpa using r1.length.symm
 have l2:jts.toArray.size=xs.length:=by simpa using r2.length.symm
 refine SeqAt.eq_tupleAt (e:=fun _=>true) p1 p2 hu (fun j h1 h2=>?_) ?_
 ·have hj:j < xs.length:=by omega
  obtain ⟨u1,e1,q1⟩:=r1.get (List.getElem?_eq_getElem hj)
  obtain ⟨u2,e2,q2⟩:=r2.get (List.getElem?_eq_getElem hj)
  have f1:its.toArray[j]=u1:=by
   obtain ⟨_,z⟩:=List.getElem?_eq_some_iff.mp e1
   simpa using z
  have f2:jts.toArray[j]=u2:=by
   obtain ⟨_,z⟩:=List.getElem?_eq_some_iff.mp e2
   simpa using z
  rw [f1,f2]
  rcases fx _ (List.getElem_mem hj) with f | ⟨r,f⟩
  ·rw [← tY f]
   exact qY q1 q2 f f
  ·rw [f] at q1 q2
   cases (show u1=Value.ref r from q1)
   cases (show u2=Value.ref r from q2)
   exact SeqAt.EqAt.same _
 ·have e:((List.range (min its.toArray.size jts.toArray.size)).all (fun _=>true) && its.toArray.size == jts.toArray.size)=true:=by rw [l1,l2];simp
  rw [e]
  exact ⟨.bl true,H,I,rfl,q⟩
def Dd:R2:=fun x y H Q=>∃ a k v,x= .ref a/\y= .ref a/\H a=some (.dK [(k,v)])/\Q (.bl true) H
theorem Bk (hu:X.A.units < cLine):OpR X (compareOp .Eq) Dd:=by
 intro pins s U H x y v u Q I rx ry h
 obtain ⟨a,k,z,rfl,rfl,ha,q⟩:=h
 cases rx
 cases ry
 obtain ⟨_,hsm,vs,kv,o,es,ep,h1,h2,h3,h4,h5,h6⟩:=(show ObjOk X.prog X.w H s.heap a (.dK [(k,z)]) from I.hok a _ ha)
 cases kv with
 | cons a1 a2=>
  cases a2
  obtain ⟨l⟩:=es
  dsimp only at h5
  cases h5 with
  | @cons en _ _ _ p1 p2 p3=>
   cases p3
   obtain ⟨k',b1,b2⟩:=h4 en (by simp)
   exact wR (e:=en) h1 h2.1 h3 b1 b2 hsm hu ⟨.bl true,H,I,rfl,q⟩
def Gk (K:W.Frag):R2:=fun x y H Q=>yM K x y H Q\/Dc K x y H Q\/Dd x y H Q
theorem aP {K:W.Frag} (hK:X.K=K) (hu:X.A.units+64 < cLine):OpR X (compareOp .Eq) (Gk K):=by
 subst hK
 exact (Gh rfl hu).or ((Bj (Nat.lt_of_le_of_lt (Nat.le_add_right _ _) hu)).or (Bk (Nat.lt_of_le_of_lt (Nat.le_add_right _ _) hu)))
end
theorem yN {sub:List (Option Nat)} {g:TG} {tt:TT} {te:TE} {U:St} {Q:VK} {H:Hp} {K:W.Frag} {a:Addr} {xs:List V} (Pv:Nat->List V->Hp->Prop) (hn:xs.length<=sizeLine) (h0:Pv 0 [] H) (hl:∀ i ys H,Pv i ys H->ys.length<=i)
  (hq:∀ i ys H,Pv i ys H->SqT K H a xs)
  (hs:∀ i ys H x,xs[i]?=some x->Pv i ys H->g x (cF sub U) H fun σ2 H2=>KeepSt (cF sub U) σ2/\tt σ2 H2 fun b H3=>if b=true then te σ2 H3 fun y H4=>Pv (i+1) (ys ++ [y]) H4 else Pv (i+1) ys H3)
  (hd:∀ ys H,Pv xs.length ys H->∀ D,H D=none->Q (.ref D) (upd H D (.lst ys))):m5 sub g tt te U Q (HN K a) H:=
 rA (n:=xs.length) Pv hn h0 hl (fun i ys H hi p=>⟨xs,xs[i],hq i ys H p,List.getElem?_eq_getElem hi⟩) (fun ys H p=>⟨xs,hq _ ys H p,Nat.le_refl _⟩) (fun i ys H x H' hi p y=>by
  obtain ⟨rfl,e2⟩:=y
  exact hs i ys _ x (e2 xs (hq i ys _ p)) p) hd
section
variable {H:Hp} {Q:VK} {K:W.Frag}
theorem dJ {U:St} {r r':R2} {ta tb tc:TE} (h:ta U H fun x H1=>tb U H1 fun y H2=>r x y H2 fun z H3=>∃ k,z= .bl k/\if k=true then tc U H3 fun w H4=>r' y w H4 Q else Q (.bl false) H3):uE r r' ta tb tc U H Q:=h
theorem gw {i j:Int} (h:Q (.bl (decide (V.int i=V.int j))) H):Gk K (.int i) (.int j) H Q:=.inl (eZ h)
theorem gA {i j:Str} (h:Q (.bl (decide (V.str i=V.str j))) H):Gk K (.str i) (.str j) H Q:=.inl (fc h)
end
end L2
namespace L2
open PySem PySem.Spec PyProof.Rows PySem.SeqAt
theorem cps_append (a b:Str):(a ++ b).cps.toList=a.cps.toList ++ b.cps.toList:=by
 show (a.cps ++ b.cps).toList=_
 rw [Array.toList_append]
theorem Bl (lo hi:Option Int) (n:Nat):Builtin.Str.strSliceIndices lo hi 1 n=(List.range (HT.sIx n n hi - HT.sIx n 0 lo)).map fun k=>HT.sIx n 0 lo+k:=by
 have c:∀ (i:Int) (d:Nat),max 0 (min (if i < 0 then i+(n:Int) else i) (n:Int))=((HT.sIx n d (some i):Nat):Int):=by
  intro i d
  rw [← HT.clip_eq]
  split <;> omega
 have key:∀ a b:Nat,(List.range (if (a:Int) < (b:Int) then ((b:Int) - a+1 - 1) / 1 else 0).toNat).map (fun k:Nat=>((a:Int)+1*(k:Int)).toNat)=(List.range (b - a)).map fun k=>a+k:=by
  intro a b
  have e3:(if (a:Int) < (b:Int) then ((b:Int) - a+1 - 1) / 1 else 0).toNat=b - a:=by split <;> omega
  rw [e3]
  refine List.map_congr_left fun k _=>?_
  omega
 unfold Builtin.Str.strSliceIndices sliceRange
 simp only [show (1:Int) > 0 by decide,if_true]
 cases lo with
 | none=>
  cases hi with
  | none=>exact key 0 n
  | some j=>rw [← key,← c j n];rfl
 | some i=>
  cases hi with
  | none=>rw [← key,← c i 0];rfl
  | some j=>rw [← key,← c i 0,← c j n]
theorem De {α β:Type} {f:α->Option β} {g:α->β}:∀ (l:List α),(∀ k∈l,f k=some (g k))->l.filterMap f=l.map g
 | [],_=>rfl
 | k :: l,h=>by rw [List.filterMap_cons,h k (by simp),List.map_cons,De l fun j hj=>h j (List.mem_cons_of_mem _ hj)]
theorem wU (l:List Nat) (a m:Nat) (h:a+m<=l.length):((List.range m).map fun k=>a+k).filterMap (fun i=>l[i]?)=(l.drop a).take m:=by
 rw [List.filterMap_map,De (g:=fun k=>l.getD (a+k) 0)]
 ·refine List.ext_getElem? fun i=>?_
  rw [List.getElem?_map,List.getElem?_take]
  by_cases hi:i < m
  ·rw [if_pos hi,List.getElem?_range hi,List.getElem?_drop,List.getElem?_eq_getElem (by omega)]
   simp [List.getElem?_eq_getElem (show a+i < l.length by omega)]
  ·rw [if_neg hi,List.getElem?_eq_none (by simp;omega)];rfl
 ·intro k hk
  have hk:=List.mem_range.mp hk
  show l[a+k]?=_
  rw [List.getD_eq_getElem?_getD,List.getElem?_eq_getElem (by omega)];rfl
theorem qJ (z:Str) (lo hi:Option Int):(Txt.slice z lo hi).cps.toList=(z.cps.toList.drop (HT.sIx z.length 0 lo)).take (HT.sIx z.length z.length hi - HT.sIx z.length 0 lo):=by
 have hn:z.cps.toList.length=z.length:=by simp [Str.length]
 have la:=HT.sIx_le z.length 0 (Nat.zero_le _) lo
 have lb:=HT.sIx_le z.length z.length (Nat.le_refl _) hi
 unfold Txt.slice
 rw [Bl]
 generalize HT.sIx z.length 0 lo=a at la ⊢
 generalize HT.sIx z.length z.length hi=b at lb ⊢
 split
 ·rename_i h
  simp at h
  have ha:a=0:=by
   rcases Nat.eq_zero_or_pos z.length with h0 | h0
   ·omega
   ·omega
  subst ha
  rw [List.drop_zero,List.take_of_length_le (by omega)]
 ·show List.filterMap (fun x=>z.cps[x]?) _=_
  have e:(fun x:Nat=>z.cps[x]?)=fun x=>z.cps.toList[x]?:=by funext x;simp
  rw [e]
  by_cases h:a<=b
  ·exact wU _ a (b - a) (by omega)
  ·rw [show b - a=0 by omega];simp
theorem yO (z:Str) (k:Nat):(Txt.slice z none (some (k:Int))).cps.toList=z.cps.toList.take k:=by
 rw [qJ,HT.sIx_none,HT.sIx_nat,List.drop_zero,Nat.sub_zero]
 have hn:z.cps.toList.length=z.length:=by simp [Str.length]
 by_cases h:k<=z.length
 ·rw [Nat.min_eq_left h]
 ·rw [Nat.min_eq_right (by omega),List.take_of_length_le (by omega),List.take_of_length_le (by omega)]
theorem pB (z:Str) (k:Nat):(Txt.slice z (some (k:Int)) none).cps.toList=z.cps.toList.drop k:=by
 rw [qJ,HT.sIx_none,HT.sIx_nat]
 have hn:z.cps.toList.length=z.length:=by simp [Str.length]
 by_cases h:k<=z.length
 ·rw [Nat.min_eq_left h,List.take_of_length_le (by rw [List.length_drop];omega)]
 ·rw [Nat.min_eq_right (by omega),List.drop_eq_nil_of_le (by omega),List.drop_eq_nil_of_le (by omega)];simp
theorem uR {n:Nat}:∀ {ds:List PyData},(∀ d∈ds,d.canLay0=true/\d.depth<=n)->PyData.canLayAll0 ds=true/\PyData.depthAll ds<=n
 | [],_=>⟨rfl,by simp [PyData.depthAll]⟩
 | d :: ds,h=>by
  obtain ⟨a,b⟩:=uR fun e he=>h e (List.mem_cons_of_mem _ he)
  obtain ⟨c,e⟩:=h d (by simp)
  rw [PyData.canLayAll0,PyData.depthAll,a,c]
  exact ⟨rfl,by omega⟩
theorem jQ {n:Nat} {ds:List PyData} (h:∀ d∈ds,d.canLay0=true/\d.depth<=n):(PyData.list ds).canLay0=true/\(PyData.list ds).depth<=n+1:=by
 obtain ⟨a,b⟩:=uR h
 rw [PyData.canLay0,PyData.depth]
 exact ⟨a,by omega⟩
theorem qK {n:Nat} {ds:List PyData} (h:∀ d∈ds,d.canLay0=true/\d.depth<=n):(PyData.tuple ds).canLay0=true/\(PyData.tuple ds).depth<=n+1:=by
 obtain ⟨a,b⟩:=uR h
 rw [PyData.canLay0,PyData.depth]
 exact ⟨a,by omega⟩
theorem vL {s:Str} (h:PyData.strOk s=true):(PyData.str s).canLay0=true/\(PyData.str s).depth<=0:=by
 rw [PyData.canLay0,PyData.depth]
 exact ⟨h,Nat.le_refl _⟩
theorem rH (s:Int):(PyData.int s).canLay0=true/\(PyData.int s).depth<=0:=by simp [PyData.canLay0,PyData.depth]
theorem jg {d:PyData} {n:Nat} (h:d.canLay0=true/\d.depth<=n) (hn:n<=64):shaped d=true:=by
 unfold shaped
 rw [h.1,decide_eq_true (by omega)];rfl
theorem Jt {xs:List V} {H:Hp} {R:Addr->Prop} (c:Nat.ble xs.length 64=true) (h:∀ p,H p=none->R p):xs.length<=sizeLine/\∀ p,H p=none->R p:=
 ⟨Nat.le_trans (Nat.le_of_ble_eq_true c) (by decide),h⟩
theorem jF {A B:Prop} (h:B):if (!true)=true then A else B:=by rw [if_neg (by simp)];exact h
theorem vM {t u:TS} {D:Ends} {U:St} {H:Hp} (M:St->Hp->Prop) (h1:∀ U H,M U H->u D U H) (h2:∀ N,(∀ U H,M U H->N U H)->t {D with nx:=N} U H):zR t u D U H:=h2 _ h1
end L2
namespace L2
open PySem PySem.Spec PyProof.Rows PySem.SeqAt
open AutoSeq1 (wpAny_loadPart')
theorem qL:∀ (l:List Str) (n:Nat),Vals (l.map V.str) (strsFrom n l)
 | [],_=>.nil
 | a :: r,n=>.cons ⟨n,rfl⟩ (qL r (n+1))
def yP:V->List V->Hp->VK->Prop:=fun x xs H Q=>∃ a b:Str,x= .str a/\xs=[.str b]/\(b.length == 0)=false/\a.length+2<=sizeLine/\∀ p,H p=none->Q (.ref p) (upd H p (.lst ((Txt.split a b).map V.str)))
section
variable {X:Cx}
theorem jR:Es X "str.split" yP:=by
 intro pins s U H x xs v us Q I rx r h
 obtain ⟨a,b,rfl,rfl,hb,hz,q⟩:=h
 obtain ⟨u,rfl,t',rfl⟩:=vals1 r
 obtain ⟨t,rfl⟩:=rx
 have one:∀ {l:List Str} (k:Nat) (tl:List Value),Vals (l.map V.str) tl->l.length<=sizeLine->Txt.split a b=l->EP X pins U Q (.ref s.heap.objs.size) {s with toks:=k,heap:=s.heap.push {cls:=.type "list",data:=.seq tl.toArray}}:=fun {l} k tl rv hl e=>by
  refine ⟨.ref s.heap.objs.size,_,I.laid (t':=k) (o:=.lst (l.map V.str)) (fun b ob q=>Heap.get?_push_of_some _ q) (Nat.le_refl _) ?_,rfl,e ▸ q _ (I.hok.fresh (Nat.le_refl _))⟩
  exact ⟨by simpa using hl,tl,0,rv,Heap.get?_push_size _ rfl⟩
 have ho:=StrLaws.occ_length_le a b 0 a.length (a.length+1)
 have hp:(Builtin.Str.partsBetween a (Builtin.Str.occurrences a b 0 a.length (a.length+1)) b.length).length=(Builtin.Str.occurrences a b 0 a.length (a.length+1)).length+1:=by simp [Builtin.Str.partsBetween]
 cases h1:(decide (a.length < b.length) || decide (Builtin.Str.strKind a < Builtin.Str.strKind b))
 ·cases hf:(Builtin.Str.occurrences a b 0 a.length (a.length+1)).isEmpty
  ·refine call_meets F.slot_str_split (typeIs_str _ _ _) F.entry_str_split (F.args_str_split_2 _ _) (meets_str_split_sep a b t t' h1 hb hf (by omega) (by omega)) ?_
   exact one _ _ (qL _ _) (by omega) ((if_neg (ne_true_of_eq_false h1)).trans (if_neg (ne_true_of_eq_false hf)))
  ·refine call_meets F.slot_str_split (typeIs_str _ _ _) F.entry_str_split (F.args_str_split_2 _ _) (meets_str_split_not_found a b t t' h1 hb hf) ?_
   exact one s.toks [.str a t] (l:=[a]) (.cons ⟨t,rfl⟩ .nil) (by show 1<=sizeLine;decide) ((if_neg (ne_true_of_eq_false h1)).trans (if_pos hf))
 ·refine call_meets F.slot_str_split (typeIs_str _ _ _) F.entry_str_split (F.args_str_split_2 _ _) (meets_str_split_cannot_occur a b t t' h1) ?_
  exact one s.toks [.str a t] (l:=[a]) (.cons ⟨t,rfl⟩ .nil) (by show 1<=sizeLine;decide) (if_pos h1)
end
section
variable {H:Hp} {Q:VK} {K:W.Frag} {U:St} {D:Ends}
theorem lU {x y:Str} (hb:(y.length == 0)=false) (hz:x.length+2<=sizeLine) (h:∀ p,H p=none->Q (.ref p) (upd H p (.lst ((Txt.split x y).map V.str)))):yP (.str x) [.str y] H Q:=⟨x,y,rfl,rfl,hb,hz,h⟩
end
end L2
namespace L2
open PySem PySem.Spec PyProof.Rows
def Ju (K:W.Frag):R2:=fun x y H Q=>Aq K x y H Q\/∃ a o,y= .ref a/\DGet H a x o/\Q (.bl o.isSome) H
section
variable {X:Cx}
theorem uT {K:W.Frag} (hK:X.K=K) (hu:X.A.units+64 < cLine):OpR X (compareOp .In) (Ju K):=(yD hK).or (by
 intro pins s U H x y v u Q I rx ry h
 obtain ⟨a,o,rfl,g,q⟩:=h
 obtain rfl:u=Value.ref a:=ry
 exact d_in (by omega) I g rx fun s3 I3=>⟨.bl o.isSome,H,I3,rfl,q⟩)
end
section
variable {U:St} {H:Hp} {Q:VK} {K:W.Frag}
theorem iD {x y:Str} (h:Q (.bl (!(Builtin.Str.occurrences y x 0 y.length 1).isEmpty)) H):Ju K (.str x) (.str y) H Q:=.inl (iR h)
end
end L2
namespace L2
open PySem PySem.Spec PyProof.Rows
open PySem.Sem (wp)
open PySem.AutoSeq1 (wpAny_loadPart')
end L2
namespace L2
open PySem PySem.Spec PyProof.Rows
end L2
namespace L2
open PySem PySem.Spec PyProof.Rows
open PySem.Sem (wp)
open PySem.AutoSeq1 (wpAny_loadPart')
end L2
namespace L2
open PySem PySem.Spec PyProof.Rows
end L2
namespace L2
open PySem PySem.Spec PyProof.Rows
open PySem.Sem (wp)
end L2
namespace L2
open PySem PySem.Spec PyProof.Rows
def Jv:List V->Hp->VK->Prop:=fun xs H Q=>∃ i:Int,xs=[.int i]/\i.natAbs.log2 < 1920/\Q (.str (toString i)) H
theorem gF {X:Cx}:CallR X (.type "str") Jv:=by
 intro pins s U H xs us Q I r h
 obtain ⟨i,rfl,hi,q⟩:=h
 obtain ⟨u,rfl,t,rfl⟩:=vals1 r
 exact P.str_of_int hi ⟨.str _,H,I.tok _,⟨_,rfl⟩,q⟩
end L2
namespace L2
open PySem PySem.Spec PyProof.Rows
open PySem.Sem (wp)
end L2
namespace L2
open PySem PySem.Spec PyProof.Rows
open PySem.Sem (wp)
open AutoSeq1 (wpAny_loadPart')
end L2
namespace L2
open PySem PySem.W PySem.Spec PyProof.Rows
end L2
namespace L2
open PySem PySem.Spec PyProof.Rows
open PySem.Sem (wp)
end L2
namespace L2
open PySem PySem.Spec PyProof.Rows
open PySem.Sem (wp)
open PySem.AutoSeq1 (wpAny_loadPart')
end L2
namespace L2
open PySem PySem.Spec PyProof.Rows
open PySem.Sem (wp)
end L2
namespace L2
open PySem PySem.Spec PyProof.Rows
section
variable {U:St} {H:Hp} {Q:VK}
def Gm (o:HO) (n:Nat) (H:Hp) (Q:VK):Prop:=n<=sizeLine/\∀ p,H p=none->Q (.ref p) (upd H p o)
theorem jT {a:TA} (h:a U H fun xs H1=>Gm (.lst xs) xs.length H1 Q):El a U H Q:=h
theorem jU {a:TA} (h:a U H fun xs H1=>Gm (.tup xs) xs.length H1 Q):Ek a U H Q:=h
theorem dw {o:HO} {n:Nat} (c:Nat.ble n 64=true) (h:∀ p H',H p=none->Same H H'->H' p=some o->Q (.ref p) H'):Gm o n H Q:=
 ⟨Nat.le_trans (Nat.le_of_ble_eq_true c) (by decide),fun p np=>h p _ np ((Same.refl H).upd np) aq⟩
end
section
variable {sub:List (Option Nat)} {g:TG} {tt:TT} {te:TE} {U:St} {Q:VK} {H:Hp} {K:W.Frag} {a:Addr} {xs:List V} {lo:Int} {n:Nat} {z:Str}
theorem aH (Pv:Nat->List V->Hp->Prop) (hn:xs.length<=sizeLine) (h0:Pv 0 [] H) (hl:∀ i ys H,Pv i ys H->ys.length<=i) (hq:∀ i ys H,Pv i ys H->SqL K H a xs)
  (hs:∀ i ys H x,xs[i]?=some x->Pv i ys H->g x (cF sub U) H fun σ2 H2=>KeepSt (cF sub U) σ2/\tt σ2 H2 fun b H3=>if b=true then te σ2 H3 fun y H4=>Pv (i+1) (ys ++ [y]) H4 else Pv (i+1) ys H3)
  (hd:∀ ys H D H',Pv xs.length ys H->H D=none->Same H H'->H' D=some (.lst ys)->Q (.ref D) H'):m5 sub g tt te U Q (CP K a) H:=
 wJ Pv hn h0 hl hq hs fun ys H p D nD=>hd ys H D _ p nD ((Same.refl H).upd nD) aq
theorem qM (Pv:Nat->List V->Hp->Prop) (hn:xs.length<=sizeLine) (h0:Pv 0 [] H) (hl:∀ i ys H,Pv i ys H->ys.length<=i) (hq:∀ i ys H,Pv i ys H->SqT K H a xs)
  (hs:∀ i ys H x,xs[i]?=some x->Pv i ys H->g x (cF sub U) H fun σ2 H2=>KeepSt (cF sub U) σ2/\tt σ2 H2 fun b H3=>if b=true then te σ2 H3 fun y H4=>Pv (i+1) (ys ++ [y]) H4 else Pv (i+1) ys H3)
  (hd:∀ ys H D H',Pv xs.length ys H->H D=none->Same H H'->H' D=some (.lst ys)->Q (.ref D) H'):m5 sub g tt te U Q (HN K a) H:=
 yN Pv hn h0 hl hq hs fun ys H p D nD=>hd ys H D _ p nD ((Same.refl H).upd nD) aq
theorem wV (Pv:Nat->List V->Hp->Prop) (hn:z.cps.size<=sizeLine) (h0:Pv 0 [] H) (hl:∀ i ys H,Pv i ys H->ys.length<=i)
  (hs:∀ i ys H c,z.cps.toList[i]?=some c->Pv i ys H->g (.str ⟨#[c]⟩) (cF sub U) H fun σ2 H2=>KeepSt (cF sub U) σ2/\tt σ2 H2 fun b H3=>if b=true then te σ2 H3 fun y H4=>Pv (i+1) (ys ++ [y]) H4 else Pv (i+1) ys H3)
  (hd:∀ ys H D H',Pv z.cps.size ys H->H D=none->Same H H'->H' D=some (.lst ys)->Q (.ref D) H'):m5 sub g tt te U Q (Hy z) H:=
 tO Pv hn h0 hl hs fun ys H p D nD=>hd ys H D _ p nD ((Same.refl H).upd nD) aq
end
end L2
set_option maxHeartbeats 8000000
namespace L2
open PySem PySem.Spec PyProof.Rows
end L2
namespace L2
open PySem PySem.W PySem.Spec PyProof.Rows
end L2
namespace L2
open PySem PySem.Spec PyProof.Rows
end L2
namespace L2
open PySem PySem.W PySem.Spec PyProof.Rows
end L2
namespace L2
open PySem PySem.Spec PyProof.Rows
theorem yQ {N:List Str} {sc:Scope} {N':List Str} {scope:Scope} {sub:List (Option Nat)} {env:Env} (S:kj N sc N' scope sub):kj N (relabel sc env) N' scope sub:=
 ⟨S.kind,S.cel,S.loc,fun x hx hk=>(S.free x hx hk).elim (fun h=>.inl (rn h)) (fun h=>jb h),S.len,S.at_⟩
end L2
namespace HT
open PySem PySem.Spec PyProof.Rows
section
variable {prog:Program} {w:World} {A:Around} {E:Value->Shared->Prop} {s:Shared}
theorem getItem_tuple_whole {t sl:Addr} {items:Array Value} {vl vu:Value} {lo hi:Option Int} {Q:Value->Shared->Prop} (ht:IsTup s.heap t items) (hs:s.heap.IsSliceOf sl vl vu .none) (pl:IsPart vl lo) (pu:IsPart vu hi)
  (hw:sIx items.size 0 lo=0/\sIx items.size items.size hi=items.size) (h:Q (.ref t) s):wpAny (model prog w) A (getItem (.ref t) (.ref sl)) Q E s:=by
 obtain ⟨os,hos,hcs,hds⟩:=id hs
 have hTs:s.TypeIs (.ref sl) "slice":=⟨os,hos,hcs⟩
 unfold getItem
 try with_reducible refine wpAny_holding ?_
 first | refine wpAny_bind (wpAny_pure ?_) | skip
 refine wpAny_bind (wpAny_sequenceKey ht.typeIs (by decide) ?_)
 refine wpAny_bind (wpAny_callSpecial?_slot (name:=Str.ofString "__getitem__") ht.typeIs PyProof.Rows.slot_tuple_getitem
  (wpAny_call_entry PyProof.Rows.slot_tuple_getitem ht.typeIs entry_tuple_getitem ?_ (args_tuple_getitem _ _)))
 show wpAny _ _ (Builtin.Tuple.tupleItemsOf (.ref t) >>=_) _ _ s
 refine wpAny_bind (tupleItemsOf_ ht ?_)
 refine wpAny_bind (wpAny_typeOf hTs ?_)
 rw [if_pos (by decide)]
 refine wpAny_bind (iQ hs pl pu ?_)
 have hyes:((((sIx items.size 0 lo:Nat):Int) == 0 && (1:Int) == 1 && (sIx items.size items.size hi - sIx items.size 0 lo) == items.size)=true):=by
  rw [hw.1,hw.2];simp
 show wpAny _ _ (if (((sIx items.size 0 lo:Nat):Int) == 0 && (1:Int) == 1 && (sIx items.size items.size hi - sIx items.size 0 lo) == items.size)=true then _ else _) _ _ s
 rw [if_pos hyes]
 unfold Builtin.Tuple.tupleIsExact
 refine wpAny_bind (wpAny_bind (wpAny_typeOf ht.typeIs (wpAny_pure ?_)))
 rw [if_pos (by decide)]
 exact wpAny_bind (wpAny_rule (wpAny_pure ⟨_,rfl,wpAny_pure h⟩))
end
end HT
namespace L2
open PySem PySem.Spec PyProof.Rows
section
variable {X:Cx}
def Jw (K:W.Frag):V->Option Int->Option Int->Hp->VK->Prop:=fun x lo hi H Q=>∃ a xs,x= .ref a/\SqT K H a xs/\(HT.sIx xs.length 0 lo=0/\HT.sIx xs.length xs.length hi=xs.length)/\Q (.ref a) H
theorem Bm:SlR X (Jw X.K):=by
 intro pins s U H x v vl vu lo hi sl Q I rx hs pl pu h
 obtain ⟨a,xs,rfl,hx,hw,q⟩:=h
 cases rx
 obtain ⟨its,r,ht,hz⟩:=I.tuple hx
 have hlen:its.toArray.size=xs.length:=by rw [List.size_toArray];exact r.length.symm
 refine ⟨"tuple",_,PyProof.Rows.slot_tuple_getitem.lookup,ht.typeIs,?_⟩
 exact HT.getItem_tuple_whole ht hs pl pu (by rw [hlen];exact hw) ⟨.ref a,H,I,rfl,q⟩
def Bo (K:W.Frag):V->Option Int->Option Int->Hp->VK->Prop:=fun x lo hi H Q=>KN K x lo hi H Q\/Jw K x lo hi H Q
theorem jh {K:W.Frag} (hK:X.K=K):SlR X (Bo K):=by
 subst hK
 exact Fo.or Bm
end
section
variable {H:Hp} {Q:VK} {K:W.Frag} {p:Addr} {xs:List V} {lo hi:Option Int}
theorem yR {x:Str} (hz:x.length<=sizeLine) (h:Q (.str (Txt.slice x lo hi)) H):Bo K (.str x) lo hi H Q:=.inl (Ji hz h)
theorem yS (hp:H p=some (.lst xs)) (h:∀ q H',H q=none->Same H H'->H' q=some (.lst (lG xs lo hi))->Q (.ref q) H'):Bo K (.ref p) lo hi H Q:=.inl (Jj (SqL.of hp) fun q nq=>h q _ nq ((Same.refl H).upd nq) aq)
theorem uU (hp:H p=some (.tup xs)) (h:∀ q H',Same H H'->H' q=some (.tup (lG xs lo hi))->Q (.ref q) H'):Bo K (.ref p) lo hi H Q:=by
 by_cases hw:HT.sIx xs.length 0 lo=0/\HT.sIx xs.length xs.length hi=xs.length
 ·refine .inr ⟨p,xs,rfl,SqT.of hp,hw,h p H (Same.refl H) ?_⟩
  unfold lG
  rw [hw.1,hw.2,List.drop_zero,Nat.sub_zero,List.take_length];exact hp
 ·exact .inl (.inr (.inl ⟨p,xs,rfl,SqT.of hp,hw,fun q nq=>h q _ ((Same.refl H).upd nq) aq⟩))
end
theorem lq {xs:List V} {k:Nat}:lG xs (some (k:Int)) none=xs.drop k:=by
 unfold lG
 rw [HT.sIx_none,HT.sIx_nat]
 by_cases h:k<=xs.length
 ·rw [Nat.min_eq_left h,List.take_of_length_le (by rw [List.length_drop];omega)]
 ·rw [Nat.min_eq_right (by omega),List.drop_eq_nil_of_le (by omega),List.drop_eq_nil_of_le (by omega)];simp
section
variable {X:Cx} {K:W.Frag} {a b e f o:Expr} {ta tb tc:TE} {pos apos cpos:Pos} {H:Hp} {Q:VK} {U:St}
theorem Gn (hu:X.A.units+64 < cLine) (ha:JE X a ta) (hb:JE X b tb) (h:autoParam (jM b=true) L2.auto4._auto_1):JE X (.Subscript a b pos) (yp ta tb):=⟨Al (by omega) ha.run hb.run (pix h)⟩
theorem yU (h:ta U H fun x H1=>tb U H1 fun y H2=>∃ a v,x= .ref a/\DGet H2 a y (some v)/\Q v H2):yp ta tb U H Q:=h
end
def vN (w:World):List DictEntry->List (Str×Str)->Prop
 | [],[]=>True
 | e :: es,kv :: kvs=>e.hash=PyData.keyHash w.params kv.1/\(∃ t,e.key= .str kv.1 t)/\(∃ t,e.val= .str kv.2 t)/\vN w es kvs
 | _,_=>False
structure DKc (w:World) (K:W.Frag) (a:Addr) (kvs:List (Str×Str)):Prop where
 at_:∃ es n,K.lookup a=some {cls:=.type "dict",data:=.dict es n}/\vN w es.toList kvs
 ns:(a == sysModules)=false
 nd:(kvs.map (·.1)).Nodup
def Gp (w:World) (K:W.Frag) (mg:Str->Option Value) (x:Str) (kvs:List (Str×Str)):Prop:=mg x=some (.ref (nQ mg x))/\DKc w K (nQ mg x) kvs
theorem qN {P:Program} {w:World}:∀ {es:List DictEntry} {kvs:List (Str×Str)},vN w es kvs->∃ vs:List (Key×Value),Pairs (bz P w) es vs/\vs.map (·.1)=kvs.map (fun kv=>Sum.inr kv.1)/\(∀ e∈es,∃ k,(bz P w).is k e.key=true/\e.hash=(bz P w).hash k)/\∀ k:Str,RelO ((kvs.lookup k).map V.str) (valueAt vs (Sum.inr k))
 | [],[],_=>⟨[],.nil,rfl,(fun e h=>by cases h),fun k=>(show True from trivial)⟩
 | e :: es,kv :: kvs,h=>by
  obtain ⟨h1,⟨t,h2⟩,⟨u,h3⟩,h4⟩:=h
  obtain ⟨vs,p1,p2,p3,p4⟩:=qN h4
  have his:(bz P w).is (Sum.inr kv.1) e.key=true:=by rw [h2];exact qi kv.1 t
  refine ⟨(Sum.inr kv.1,e.val) :: vs,.cons his rfl p1,by rw [List.map_cons,List.map_cons,p2],fun f hf=>?_,fun k=>?_⟩
  ·rcases List.mem_cons.mp hf with rfl | hf
   ·exact ⟨Sum.inr kv.1,his,h1⟩
   ·exact p3 f hf
  ·unfold valueAt
   rw [List.find?_cons]
   by_cases hk:k=kv.1
   ·subst hk
    rw [show decide ((Sum.inr kv.1:Key)=Sum.inr kv.1)=true from decide_eq_true rfl]
    rw [show ((kv :: kvs).lookup kv.1)=some kv.2 by cases kv;simp [List.lookup]]
    rw [h3]
    exact ⟨u,rfl⟩
   ·rw [show decide ((Sum.inr kv.1:Key)=Sum.inr k)=false from decide_eq_false fun q=>hk (Sum.inr.inj q).symm]
    rw [show ((kv :: kvs).lookup k)=kvs.lookup k by cases kv;simp only [List.lookup];rw [show (k == _)=false from beq_eq_false_iff_ne.mpr hk]]
    exact p4 k
section
variable {X:Cx} {pins:List (Addr×Obj)} {U:St} {H:Hp} {s:Shared} {a:Addr} {kvs:List (Str×Str)}
theorem DKc.of (I:Inv X pins U H s) (d:DKc X.w X.K a kvs):∃ vs,s.heap.DictOf (bz X.prog X.w) a vs/\∀ k:Str,RelO ((kvs.lookup k).map V.str) (valueAt vs (Sum.inr k)):=by
 obtain ⟨⟨es,n,hl,he⟩,_,nd⟩:=d
 obtain ⟨vs,p1,p2,p3,p4⟩:=qN (P:=X.prog) he
 refine ⟨vs,⟨_,es,n,I.kIn a _ hl,⟨rfl,rfl,rfl⟩,rfl,(fun e h=>p3 e (by simpa using h)),p1,?_⟩,p4⟩
 rw [p2,show (kvs.map fun kv=>(Sum.inr kv.1:Key))=(kvs.map (·.1)).map Sum.inr by rw [List.map_map];rfl]
 exact List.Pairwise.map Sum.inr (fun a b h q=>h (Sum.inr.inj q)) nd
end
def Df (kvs:List (Str×Str)) (tb:TE):TE:=fun U H Q=>tb U H fun y H1=>∃ k v,y= .str k/\kvs.lookup k=some v/\Q (.str v) H1
def yV (kvs:List (Str×Str)) (tb tc:TE):TE:=fun U H Q=>tb U H fun y H1=>tc U H1 fun z H2=>∃ k,y= .str k/\Q (((kvs.lookup k).map V.str).getD z) H2
section
variable {X:Cx} {K:W.Frag} {x:Str} {b e f:Expr} {tb tc:TE} {p pos apos cpos:Pos} {kvs:List (Str×Str)} {U:St} {H:Hp} {Q:VK}
theorem Gq (D:Gp X.w X.K X.mg x kvs) (hg:Gl X x) (hb:JE X b tb) (hd:(x == ("__debug__":Str))=false) (h:autoParam (jM b=true) L2.auto4._auto_1):JE X (.Subscript (.Name x p) b pos) (Df kvs tb):=⟨by
 intro pins s U H Q I h0
 refine vC PySem.F.slot_dict_getitem.lookup (pix h) (dz ((oK hg D.1 (show RelV (.ref (nQ X.mg x)) (Value.ref (nQ X.mg x)) from rfl) hd) pins s U H (fun v H1=>v= .ref (nQ X.mg x)/\tb U H1 fun y H2=>∃ k v,y= .str k/\kvs.lookup k=some v/\Q (.str v) H2) I ⟨rfl,h0⟩) fun u s1 ⟨v0,H1,I1,rx,ev,q1⟩=>dz (hb.run pins s1 U H1 _ I1 q1) fun iv s2 qq0=>?_)
 obtain ⟨y,H2,I2,ry,k,v,ey,hk,q2⟩:=qq0
 subst ev
 obtain rfl:u=Value.ref (nQ X.mg x):=rx
 obtain ⟨vs,dd,rel⟩:=D.2.of I2
 subst ey
 refine ⟨dd.typeIs,?_⟩
 obtain ⟨w',hw,rw'⟩:=RelO.some_of (v:=V.str v) (o:=valueAt vs (Sum.inr k)) (by have:=rel k;rw [hk] at this;exact this)
 exact wpAny_getItem_of (qC (k:=Sum.inr k) ry) dd.mapOf hw ⟨.str v,H2,I2.tok _,rw',q2⟩⟩
theorem gB (h:tb U H fun y H1=>∃ k v,y= .str k/\kvs.lookup k=some v/\Q (.str v) H1):Df kvs tb U H Q:=h
theorem Bp (D:Gp X.w X.K X.mg x kvs) (hg:Gl X x) (he:JE X e tb) (hf:JE X f tc) (hd:(x == ("__debug__":Str))=false) (hline:autoParam ((apos.endLine == cpos.line)=true) L2.auto4._auto_1) (h:autoParam (notStar e=true) L2.auto4._auto_1) (h2:autoParam (notStar f=true) L2.auto4._auto_1):JE X (.Call (.Attribute (.Name x p) "get" apos) [e,f] [] cpos) (yV kvs tb tc):=⟨by
 intro pins s U H Q I h0
 have m:M2 X (.Name x p) "get" apos e f cpos:=⟨rfl,by rw [cV h,cV h2];rfl,hline,by rw [cV h,cV h2];rfl⟩
 refine wpAny_Call_method m.base m.few m.line PySem.F.plainAttrs_dict PySem.F.slot_dict_get PySem.F.type_dict_get (dz ((oK hg D.1 (show RelV (.ref (nQ X.mg x)) (Value.ref (nQ X.mg x)) from rfl) hd) pins s U H (fun v H1=>v= .ref (nQ X.mg x)/\tb U H1 fun y H2=>tc U H2 fun z H3=>∃ k,y= .str k/\Q (((kvs.lookup k).map V.str).getD z) H3) I ⟨rfl,h0⟩) fun u s1 qq0=>?_)
 obtain ⟨v0,H1,I1,rx,ev,q1⟩:=qq0
 subst ev
 obtain rfl:u=Value.ref (nQ X.mg x):=rx
 obtain ⟨vs,dd,rel⟩:=D.2.of I1
 refine ⟨dd.typeIs,fun b q=>?_,?_⟩
 ·cases q
  obtain ⟨ob,_,_,h1,h2,_⟩:=dd
  exact ⟨ob,h1,h2.2.1⟩
 rw [m.trees]
 refine Calls.callWith_builtin rfl (Calls.evalArgs_plain (Calls.spliced_cons (dz (he.run pins s1 U H1 _ I1 q1) fun iv s2 ⟨y,H2,I2,ry,q2⟩=>
  Calls.spliced_cons (dz (hf.run pins s2 U H2 _ I2 q2) fun fv s3 ⟨z,H3,I3,rz,k,ey,q3⟩=>Calls.spliced_nil ?_))))
 subst ey
 obtain ⟨vs,dd,rel⟩:=D.2.of I3
 exact call_meetsIn PySem.F.slot_dict_get dd.typeIs PySem.F.entry_dict_get (PySem.F.args_dict_get_3 _ _ _) (meets_dict_get_default (bz X.prog X.w) _ (qC (k:=Sum.inr k) ry) D.2.ns fv) ⟨_,dd.mapOf,_,H3,I3.tok _,(rel k).getD rz,q3⟩⟩
theorem dM (h:tb U H fun y H1=>tc U H1 fun z H2=>∃ k,y= .str k/\Q (((kvs.lookup k).map V.str).getD z) H2):yV kvs tb tc U H Q:=h
end
theorem Dg {w:World} {K:W.Frag} {mg:Str->Option Value} {h:Heap} (X:K.In h) (G:h.Ns mainGlobals mg) {x:Str} {C:Addr} {kvs:List (Str×Str)} {es:Array DictEntry} {n:Nat} (a:PySem.W.nsIn K mainGlobals x=some (some (.ref C)))
  (l:K.lookup C=some {cls:=.type "dict",data:=.dict es n}) (e:vN w es.toList kvs) (s:(C == sysModules)=false) (d:(kvs.map (·.1)).Nodup):Gp w K mg x kvs:=by
 have e0:=PySem.W.mg_of X G a
 have ec:=Bh e0
 exact ⟨by rw [ec];exact e0,by rw [ec];exact ⟨⟨es,n,l,e⟩,s,d⟩⟩
def Dh:List V->Hp->VK->Prop:=fun xs H Q=>((∃ i,xs=[.int i]/\Q (.int i) H)\/∃ k,xs=[.bl k]/\Q (.int (if k then 1 else 0)) H)\/∃ x n,xs=[.str x]/\intText? x=some n/\x.length<=640/\Q (.int n) H
theorem j4 {X:Cx}:CallR X (.type "int") Dh:=by
 intro pins s U H xs us Q I r h
 rcases h with h | ⟨x,n,rfl,hn,hl,q⟩
 ·exact wu pins s U H xs us Q I r h
 ·obtain ⟨u,rfl,t,rfl⟩:=vals1 r
  exact PySem.W.KIN.call_text hn hl ⟨.int n,H,I.tok _,⟨_,rfl⟩,q⟩
theorem rJ {H:Hp} {Q:VK} {x:Str} {n:Int} (hn:intText? x=some n) (hl:x.length<=640) (h:Q (.int n) H):Dh [.str x] H Q:=.inr ⟨x,n,rfl,hn,hl,h⟩
def Gr (K:W.Frag):V->List V->Hp->VK->Prop:=fun x xs H Q=>∃ (sep:Str) (p:Addr) (ys:List Str),x= .str sep/\xs=[.ref p]/\SqT K H p (ys.map V.str)/\(ys.map (·.length)).sum+ys.length*sep.length<=16777216/\Q (.str (Txt.join sep ys)) H
def uV (K:W.Frag):V->List V->Hp->VK->Prop:=fun x xs H Q=>rJoin x xs H Q\/Gr K x xs H Q
theorem iU {X:Cx} {K:W.Frag} (hK:X.K=K):Es X "str.join" (uV K):=by
 subst hK
 intro pins s U H x xs v us Q I rx r h
 rcases h with h | ⟨sep,p,ys,rfl,rfl,hp,hz,q⟩
 ·exact Ao pins s U H x xs v us Q I rx r h
 ·obtain ⟨u,rfl,ru⟩:=vals1 r
  cases ru
  obtain ⟨t,rfl⟩:=rx
  obtain ⟨its,rv,e,_⟩:=I.tuple hp
  exact join_tuple (items:=its.toArray) e (by simpa using kW rv) hz fun t' k=>⟨.str _,H,I.tok _,⟨_,rfl⟩,q⟩
section
variable {K:W.Frag} {H:Hp} {Q:VK}
theorem lV {sep:Str} {p:Addr} {ys:List Str} (hp:H p=some (.lst (ys.map V.str))) (hz:(ys.map (·.length)).sum+ys.length*sep.length<=16777216) (h:Q (.str (Txt.join sep ys)) H):uV K (.str sep) [.ref p] H Q:=.inl (FN hp hz h)
theorem Bq {sep:Str} {p:Addr} {ys:List Str} (hp:H p=some (.tup (ys.map V.str))) (hz:(ys.map (·.length)).sum+ys.length*sep.length<=16777216) (h:Q (.str (Txt.join sep ys)) H):uV K (.str sep) [.ref p] H Q:=.inr ⟨sep,p,ys,rfl,rfl,SqT.of hp,hz,h⟩
end
end L2
namespace My
open PySem L2
local macro_rules | `(tactic| walk_at "p") => `(tactic| first | exact aF _ | with_unfolding_all rfl)
local macro_rules | `(tactic| walk_at "0") => `(tactic| (first | refine nF ?_ | refine mK ?_ | refine lH ?_ | refine jF ?_ | (refine' jA ?hz0 ?_; (case hz0 => with_unfolding_all rfl)) | refine xr ?_ | refine nM ?_ | refine gh ?_ | refine fW ?_ | refine jB ?_ | refine jt ?_ | refine fO ?_ | refine ju ?_ | refine fM ?_ | refine nj ?_ | refine fQ ?_ | refine nO ?_ | refine nG ?_ | refine fX ?_ | refine nu ?_ | refine jw ?_ | refine jx ?_ | refine nA ?_ | refine fU ?_ | refine jy ?_ | refine fV ?_ | refine jz ?_ | refine fP ?_ | refine nH ?_ | refine nJ ?_ | refine jC ?_ | refine fY ?_ | refine fZ ?_ | refine f9 ?_ | refine gb ?_ | refine gf ?_ | refine jD ?_ | refine dH ?_ | refine gq ?_ | (refine' dO (SqT.of ?hz0) ?hz1 ?_; (case hz0 => first | assumption | exact aq); (case hz1 => rfl)) | refine dJ ?_ | refine gr ?_ | refine eZ ?_ | refine fc ?_ | refine gw ?_ | refine gA ?_ | refine nP ?_ | refine eU ?_ | refine eV ?_ | refine eY ?_ | refine dI ?_ | refine iR ?_ | refine gk ?_ | (refine' xu ?hz0 ?_; (case hz0 => with_unfolding_all first | assumption | omega | (dsimp only <;> omega) | exact ⟨by omega, by omega⟩ | exact .inl ⟨by omega, by omega⟩ | exact .inr ⟨by omega, by omega⟩ | exact ⟨by decide, by decide, by decide⟩)) | (refine' gj ?hz0 ?_; (case hz0 => with_unfolding_all first | assumption | omega | (dsimp only <;> omega) | exact ⟨by omega, by omega⟩ | exact .inl ⟨by omega, by omega⟩ | exact .inr ⟨by omega, by omega⟩ | exact ⟨by decide, by decide, by decide⟩)) | (refine' eN (SqL.of ?hz0) ?hz1 ?_; (case hz0 => first | assumption | exact aq); (case hz1 => with_unfolding_all rfl)) | (refine' gM (SqT.of ?hz0) ?hz1 ?_; (case hz0 => first | assumption | exact aq); (case hz1 => with_unfolding_all rfl)) | refine gB ?_ | refine dM ?_ | refine iD ?_))
local macro_rules | `(tactic| walk_at "1") => `(tactic| (first | refine nF ?_ | refine mK ?_ | refine lH ?_ | refine jF ?_ | (refine' jA ?hz0 ?_; (case hz0 => with_unfolding_all rfl)) | refine xr ?_ | refine nM ?_ | refine gh ?_ | refine fW ?_ | refine jB ?_ | refine jt ?_ | refine fO ?_ | refine ju ?_ | refine fM ?_ | refine nj ?_ | refine fQ ?_ | refine nO ?_ | refine nG ?_ | refine fX ?_ | refine nu ?_ | refine jw ?_ | refine jx ?_ | refine nA ?_ | refine fU ?_ | refine jy ?_ | refine fV ?_ | refine jz ?_ | refine fP ?_ | refine jU ?_ | refine jT ?_ | refine nH ?_ | refine nJ ?_ | refine jC ?_ | refine fY ?_ | refine fZ ?_ | refine f9 ?_ | refine gb ?_ | refine gf ?_ | refine jD ?_ | refine dH ?_ | refine gq ?_ | (refine' dO (SqT.of ?hz0) ?hz1 ?_; (case hz0 => first | assumption | exact aq); (case hz1 => rfl)) | refine dJ ?_ | refine gr ?_ | refine eZ ?_ | refine fc ?_ | refine gw ?_ | refine gA ?_ | refine nP ?_ | refine eU ?_ | refine eV ?_ | refine eY ?_ | refine dI ?_ | refine iR ?_ | refine gk ?_ | (refine' xu ?hz0 ?_; (case hz0 => with_unfolding_all first | assumption | omega | (dsimp only <;> omega) | exact ⟨by omega, by omega⟩ | exact .inl ⟨by omega, by omega⟩ | exact .inr ⟨by omega, by omega⟩ | exact ⟨by decide, by decide, by decide⟩)) | (refine' gj ?hz0 ?_; (case hz0 => with_unfolding_all first | assumption | omega | (dsimp only <;> omega) | exact ⟨by omega, by omega⟩ | exact .inl ⟨by omega, by omega⟩ | exact .inr ⟨by omega, by omega⟩ | exact ⟨by decide, by decide, by decide⟩)) | (refine' eN (SqL.of ?hz0) ?hz1 ?_; (case hz0 => first | assumption | exact aq); (case hz1 => with_unfolding_all rfl)) | (refine' gM (SqT.of ?hz0) ?hz1 ?_; (case hz0 => first | assumption | exact aq); (case hz1 => with_unfolding_all rfl)) | refine gB ?_ | refine dM ?_ | refine iD ?_))
local macro_rules | `(tactic| walk_at "2") => `(tactic| (first | refine nF ?_ | refine mK ?_ | refine lH ?_ | refine jF ?_ | (refine' jA ?hz0 ?_; (case hz0 => with_unfolding_all rfl)) | refine xr ?_ | refine nM ?_ | refine gh ?_ | refine fW ?_ | refine jB ?_ | refine jt ?_ | refine fO ?_ | refine ju ?_ | refine fM ?_ | refine nj ?_ | refine fQ ?_ | refine nO ?_ | refine nG ?_ | refine fX ?_ | refine nu ?_ | refine jw ?_ | refine jx ?_ | refine nA ?_ | refine fU ?_ | refine jy ?_ | refine fV ?_ | refine jz ?_ | refine fP ?_ | refine nH ?_ | refine nJ ?_ | refine jC ?_ | refine fY ?_ | refine fZ ?_ | refine f9 ?_ | refine gb ?_ | refine gf ?_ | refine jD ?_ | refine dH ?_ | refine gq ?_ | (refine' dO (SqT.of ?hz0) ?hz1 ?_; (case hz0 => first | assumption | exact aq); (case hz1 => rfl)) | refine dJ ?_ | refine gr ?_ | refine eZ ?_ | refine fc ?_ | refine gw ?_ | refine gA ?_ | refine nP ?_ | refine eU ?_ | refine eV ?_ | refine eY ?_ | refine dI ?_ | refine iR ?_ | refine gk ?_ | (refine' xu ?hz0 ?_; (case hz0 => with_unfolding_all first | assumption | omega | (dsimp only <;> omega) | exact ⟨by omega, by omega⟩ | exact .inl ⟨by omega, by omega⟩ | exact .inr ⟨by omega, by omega⟩ | exact ⟨by decide, by decide, by decide⟩)) | (refine' gj ?hz0 ?_; (case hz0 => with_unfolding_all first | assumption | omega | (dsimp only <;> omega) | exact ⟨by omega, by omega⟩ | exact .inl ⟨by omega, by omega⟩ | exact .inr ⟨by omega, by omega⟩ | exact ⟨by decide, by decide, by decide⟩)) | (refine' eN (SqL.of ?hz0) ?hz1 ?_; (case hz0 => first | assumption | exact aq); (case hz1 => with_unfolding_all rfl)) | (refine' gM (SqT.of ?hz0) ?hz1 ?_; (case hz0 => first | assumption | exact aq); (case hz1 => with_unfolding_all rfl)) | refine gB ?_ | refine dM ?_))
local macro_rules | `(tactic| walk_at "3") => `(tactic| (first | refine nF ?_ | refine mK ?_ | refine lH ?_ | refine jF ?_ | (refine' jA ?hz0 ?_; (case hz0 => with_unfolding_all rfl)) | refine xr ?_ | refine nM ?_ | refine gh ?_ | refine fW ?_ | refine jB ?_ | refine jt ?_ | refine fO ?_ | refine ju ?_ | refine fM ?_ | refine nj ?_ | refine fQ ?_ | refine nO ?_ | refine nG ?_ | refine fX ?_ | refine nu ?_ | refine jw ?_ | refine jx ?_ | refine nA ?_ | refine fU ?_ | refine jy ?_ | refine fV ?_ | refine jz ?_ | refine fP ?_ | refine jU ?_ | refine jT ?_ | refine nH ?_ | refine nJ ?_ | refine jC ?_ | refine fY ?_ | refine fZ ?_ | refine f9 ?_ | refine gb ?_ | refine gf ?_ | refine jD ?_ | refine dH ?_ | refine gq ?_ | (refine' dO (SqT.of ?hz0) ?hz1 ?_; (case hz0 => first | assumption | exact aq); (case hz1 => rfl)) | refine dJ ?_ | refine gr ?_ | refine eZ ?_ | refine fc ?_ | refine gw ?_ | refine gA ?_ | refine nP ?_ | refine eU ?_ | refine eV ?_ | refine eY ?_ | refine dI ?_ | refine iR ?_ | refine gk ?_ | (refine' xu ?hz0 ?_; (case hz0 => with_unfolding_all first | assumption | omega | (dsimp only <;> omega) | exact ⟨by omega, by omega⟩ | exact .inl ⟨by omega, by omega⟩ | exact .inr ⟨by omega, by omega⟩ | exact ⟨by decide, by decide, by decide⟩)) | (refine' gj ?hz0 ?_; (case hz0 => with_unfolding_all first | assumption | omega | (dsimp only <;> omega) | exact ⟨by omega, by omega⟩ | exact .inl ⟨by omega, by omega⟩ | exact .inr ⟨by omega, by omega⟩ | exact ⟨by decide, by decide, by decide⟩)) | (refine' eN (SqL.of ?hz0) ?hz1 ?_; (case hz0 => first | assumption | exact aq); (case hz1 => with_unfolding_all rfl)) | (refine' gM (SqT.of ?hz0) ?hz1 ?_; (case hz0 => first | assumption | exact aq); (case hz1 => with_unfolding_all rfl)) | refine yU ?_ | refine gB ?_ | refine dM ?_ | refine iD ?_))
abbrev cG (d:Stmt) (x:Str):Prop:=(ak d).names.lookup x=some NameKind.local
abbrev KCc (d:Stmt) (x:Str):Prop:=(ak d).names.lookup x=some NameKind.cell
abbrev bH (d:Stmt) (x:Str):Prop:=(ak d).names.lookup x=some NameKind.globalImplicit
def top (i:Nat):Stmt:=PySem.Challenge.pw_panethread_k83_written_and_read.main.body.getD i (.Pass ⟨0,0,0,0⟩)
abbrev cM:Stmt:=top 9
abbrev dB:Stmt:=top 11
abbrev gR:Stmt:=top 12
abbrev bw:Stmt:=top 19
abbrev bJ:Stmt:=top 20
abbrev cY:Stmt:=top 21
abbrev iV:Stmt:=top 28
abbrev d8:Stmt:=top 29
abbrev fj:Stmt:=top 30
abbrev cI:Stmt:=top 31
abbrev cR:Stmt:=top 32
abbrev d9:Stmt:=top 33
abbrev cO:Stmt:=top 34
abbrev dD:Stmt:=top 35
abbrev bV:Stmt:=top 36
abbrev iy:Stmt:=top 37
abbrev bx:Stmt:=top 38
abbrev bO:Stmt:=top 39
abbrev cZ:Stmt:=top 40
abbrev dW:Stmt:=top 41
abbrev dR:Stmt:=top 42
abbrev bK:Stmt:=top 43
abbrev bh:Stmt:=top 44
abbrev bL:Stmt:=top 45
abbrev bD:Stmt:=top 46
abbrev bM:Stmt:=top 47
abbrev cA:Stmt:=top 48
abbrev bF:Stmt:=top 49
abbrev fu:Stmt:=top 51
abbrev bC:Stmt:=top 52
abbrev c7:Stmt:=top 53
abbrev bT:Stmt:=top 54
abbrev bj:Stmt:=top 55
abbrev gD:Stmt:=top 56
abbrev cg:Stmt:=top 57
abbrev bU:Stmt:=top 58
abbrev aU:Stmt:=top 59
abbrev cB:Stmt:=top 60
abbrev cC:Stmt:=top 61
abbrev aZ:Stmt:=top 62
abbrev dh:Stmt:=top 63
abbrev cJ:Stmt:=top 64
local macro_rules | `(tactic| walk_at "s") => `(tactic| (with_reducible repeat (first | refine m7 ?_ | walk_at "0")))
local macro_rules | `(tactic| walk_at "n") => `(tactic| (with_reducible repeat (walk_at "0")))
structure Txt (w:World) (K:W.Frag) (mg:Str->Option Value):Prop where
 b_all:mg "all"=none
 b_bool:mg "bool"=none
 b_enumerate:mg "enumerate"=none
 b_int:mg "int"=none
 b_isinstance:mg "isinstance"=none
 b_len:mg "len"=none
 b_list:mg "list"=none
 b_max:mg "max"=none
 b_min:mg "min"=none
 b_range:mg "range"=none
 b_str:mg "str"=none
 b_tuple:mg "tuple"=none
 c_CHANGE:∃ t,mg "CHANGE"=some (.str "change" t)
 c_FIGURES:∃ t,mg "FIGURES"=some (.str "0123456789" t)
 c_IN:∃ t,mg "IN"=some (.str "in" t)
 c_KEEP:∃ t,mg "KEEP"=some (.str "keep" t)
 c_LETTERS:∃ t,mg "LETTERS"=some (.str "abcdefghijklmnopqrstuvwxyz" t)
 c_MOST_CHANGES:∃ t,mg "MOST_CHANGES"=some (.int 48 t)
 c_MOST_FIGURES:∃ t,mg "MOST_FIGURES"=some (.int 4 t)
 c_MOST_SIGNS:∃ t,mg "MOST_SIGNS"=some (.int 48 t)
 c_NOTHING:∃ t,mg "NOTHING"=some (.str "-" t)
 c_OUT:∃ t,mg "OUT"=some (.str "out" t)
 c_POINT:∃ t,mg "POINT"=some (.str "." t)
 e_MARKED:Gp w K mg "MARKED" [("=","keep"),("!","change"),("<","out"),(">","in")]
 e_MARKS:Gp w K mg "MARKS" [("keep","="),("change","!"),("out","<"),("in",">")]
 d_is_letter:cj K mg "is_letter" cM
 d_is_row:cj K mg "is_row" dB
 d_need_row:cj K mg "need_row" gR
 d_is_change:cj K mg "is_change" bw
 d_is_changes:cj K mg "is_changes" bJ
 d_need_changes:cj K mg "need_changes" cY
 d_listed:cj K mg "listed" iV
 d_tuple_word:cj K mg "tuple_word" d8
 d_row_word:cj K mg "row_word" fj
 d_numbers_word:cj K mg "numbers_word" cI
 d_tuples_word:cj K mg "tuples_word" cR
 d_pairs_word:cj K mg "pairs_word" d9
 d_heaps_word:cj K mg "heaps_word" cO
 d_change_word:cj K mg "change_word" dD
 d_changes_word:cj K mg "changes_word" bV
 d_need_word:cj K mg "need_word" iy
 d_is_number_word:cj K mg "is_number_word" bx
 d_is_pair_word:cj K mg "is_pair_word" bO
 d_parts_of:cj K mg "parts_of" cZ
 d_pair_read:cj K mg "pair_read" dW
 d_read_row:cj K mg "read_row" dR
 d_read_number:cj K mg "read_number" bK
 d_read_numbers:cj K mg "read_numbers" bh
 d_read_pairs:cj K mg "read_pairs" bL
 d_heaps_parted:cj K mg "heaps_parted" bD
 d_read_heaps:cj K mg "read_heaps" bM
 d_change_read:cj K mg "change_read" cA
 d_read_changes:cj K mg "read_changes" bF
 d_law_cell:cj K mg "_law_cell" fu
 d_law_numbers:cj K mg "_law_numbers" bC
 d_law_whole:cj K mg "_law_whole" c7
 d_law_joined:cj K mg "_law_joined" bT
 d_law_written:cj K mg "_law_written" bj
 d_law_number:cj K mg "_law_number" gD
 d_law_pairs:cj K mg "_law_pairs" cg
 d_law_changes:cj K mg "_law_changes" bU
 d_law_thing:cj K mg "_law_thing" aU
 d_law_word:cj K mg "_law_word" cB
 d_law_read:cj K mg "_law_read" cC
 d_law_alike:cj K mg "_law_alike" aZ
 d_law_longer:cj K mg "_law_longer" dh
 d_law:cj K mg "law" cJ
def glue (c:Nat):List (List Nat)->List Nat
 | []=>[]
 | q :: r=>q ++ c :: glue c r
theorem vO {c:Nat}:∀ {q q' r r':List Nat},c ∉ q->c ∉ q'->q ++ c :: r=q' ++ c :: r'->q=q'/\r=r'
 | [],[],_,_,_,_,h=>⟨rfl,by simpa using h⟩
 | [],x :: q',_,_,_,h2,h=>by
  have:c=x:=by simpa using congrArg List.head? h
  exact absurd (by rw [this];simp) h2
 | x :: q,[],_,_,h1,_,h=>by
  have:x=c:=by simpa using congrArg List.head? h
  exact absurd (by rw [this];simp) h1
 | x :: q,y :: q',_,_,h1,h2,h=>by
  simp only [List.cons_append,List.cons.injEq] at h
  obtain ⟨a,b⟩:=vO (fun z=>h1 (List.mem_cons_of_mem _ z)) (fun z=>h2 (List.mem_cons_of_mem _ z)) h.2
  exact ⟨by rw [h.1,a],b⟩
theorem tZ {c:Nat}:∀ {a b:List (List Nat)},(∀ q∈a,c ∉ q)->(∀ q∈b,c ∉ q)->glue c a=glue c b->a=b
 | [],[],_,_,_=>rfl
 | [],q :: r,_,_,h=>by simp [glue] at h
 | q :: r,[],_,_,h=>by simp [glue] at h
 | q :: r,q' :: r',h1,h2,h=>by
  obtain ⟨a,b⟩:=vO (h1 q (by simp)) (h2 q' (by simp)) (show q ++ c :: glue c r=q' ++ c :: glue c r' from h)
  rw [a,tZ (fun x hx=>h1 x (List.mem_cons_of_mem _ hx)) (fun x hx=>h2 x (List.mem_cons_of_mem _ hx)) b]
theorem gG (c:Nat):∀ (ps:List Str),ps≠[]->(Str.join ⟨#[c]⟩ ps).cps.toList ++ [c]=glue c (ps.map fun p=>p.cps.toList)
 | [],h=>absurd rfl h
 | [p],_=>rfl
 | p :: q :: r,_=>by
  have ih:=gG c (q :: r) (by simp)
  show ((p ++ ⟨#[c]⟩) ++ Str.join ⟨#[c]⟩ (q :: r)).cps.toList ++ [c]=p.cps.toList ++ c :: glue c ((q :: r).map fun p=>p.cps.toList)
  rw [← ih,cps_append,cps_append]
  simp
theorem yW (z:Str) (c:Nat):Txt.split z ⟨#[c]⟩≠[]:=by
 unfold Txt.split
 split
 ·simp
 ·split
  ·simp
  ·intro h
   have:=congrArg List.length h
   simp [Builtin.Str.partsBetween] at this
theorem Br {a b:List Str} (h:(a.map fun p=>p.cps.toList)=b.map fun p=>p.cps.toList):a=b:=by
 have hi:Function.Injective (fun p:Str=>p.cps.toList):=fun x y e=>by
  cases x;cases y;congr;exact Array.ext' e
 exact List.map_inj_right (fun x y e=>hi e) |>.mp h
theorem ji {c:Nat} {ys:List Str} (hn:ys≠[]) (hf:∀ y∈ys,c ∉ y.cps.toList):Txt.split (Str.join ⟨#[c]⟩ ys) ⟨#[c]⟩=ys:=by
 refine Br (tZ (c:=c) ?_ ?_ ?_)
 ·intro q hq
  obtain ⟨p,hp,rfl⟩:=List.mem_map.mp hq
  exact StrLaws.split_free _ c p hp
 ·intro q hq
  obtain ⟨p,hp,rfl⟩:=List.mem_map.mp hq
  exact hf p hp
 ·rw [← gG c _ (yW _ c),StrLaws.join_split,gG c _ hn]
local macro_rules | `(tactic| walk_at "s") => `(tactic| (with_reducible repeat (first | refine m7 ?_ | walk_at "1")))
local macro_rules | `(tactic| walk_at "n") => `(tactic| (with_reducible repeat (walk_at "1")))
section
variable {P:Program} {w:World} {K:W.Frag} {mg:Str->Option Value} {base:Heap}
theorem nR:(["number"]:List Str).Nodup:=by trivial
theorem kz00:bH iV "len":=by trivial
theorem Jx:cG iV "parts":=by trivial
theorem kz02:bH iV "NOTHING":=by trivial
theorem kz03:cG d8 "numbers":=by trivial
def nW (n:Nat):Str:=Str.ofString (toString (n:Int))
def lW (c:Nat) (ys:List Str):Str:=if ys=[] then Str.ofString "-" else Str.join ⟨#[c]⟩ ys
theorem comma:Str.ofString ","=⟨#[44]⟩:=by trivial
theorem colon:Str.ofString ":"=⟨#[58]⟩:=by trivial
theorem slash:Str.ofString "/"=⟨#[47]⟩:=by trivial
def Bs (K:W.Frag):Sp:=fun vs H Q _=>∃ (p:Addr) (ys:List Str),vs=[.ref p]/\H p=some (.lst (ys.map V.str))/\(ys.map (·.length)).sum+ys.length<=1000000/\Q (.str (lW 44 ys)) H
theorem wW:aD ["parts"] ["parts"] (ak iV):=⟨rfl,rfl,rfl,by trivial,rfl,by trivial,by trivial⟩
theorem eG (T:Txt w K mg):Has P w K mg base 1 "listed" ["parts"] (Bs K):=by
 refine cz T.d_listed wW (fun _ _ _ _ _ _ us hl=>L2.dq (fun _=>rfl) us hl) ?_ fun f cdv A outer s H vs Q E hr h=>?_
 ·rintro vs H Q E ⟨p,ys,rfl,_⟩;rfl
 obtain ⟨p,ys,rfl,hp,hl,q⟩:=h
 have hu:=hr.units0
 have hu64:=hr.units
 refine ⟨_,(az (aB (wK (aM (aP (K:=K) rfl hu64) (aJ (bQ (K:=K) rfl) (bc kz00) T.b_len d7 (aa (ao 0 Jx) aj) (by trivial) (by trivial)) aA (by walk_at "p")) (dN (bc kz02) T.c_NOTHING (by trivial)) (cU (K:=K) rfl PySem.F.plainAttrs_str PySem.F.slot_str_join PySem.F.type_str_join (iU (K:=K) rfl) bB (aa (ao 0 Jx) aj))))),?_⟩
 walk_at "s"
 refine jO (SqL.of hp) ?_
 walk_at "s"
 rw [List.length_map]
 by_cases h:ys=[]
 ·subst h
  rw [decide_eq_true (show V.int (([]:List Str).length:Int)=V.int 0 from rfl)]
  walk_at "s"
  exact q
 ·have hpos:ys.length≠0:=fun z=>h (List.eq_nil_of_length_eq_zero z)
  rw [decide_eq_false (show ¬ V.int (ys.length:Int)=V.int 0 from fun z=>hpos (by have:=V.int.inj z;omega))]
  walk_at "s"
  refine ⟨rfl,?_⟩
  walk_at "s"
  refine lV hp (by rw [show (Str.ofString ",").length=1 by trivial];omega) ?_
  walk_at "s"
  rw [je,comma]
  unfold lW at q
  rw [if_neg h] at q
  exact q
theorem fB {n:Nat} (h:n < 10000):(n:Int).natAbs.log2 < 1920:=by
 rw [Int.natAbs_natCast]
 have:n.log2<=13:=by
  by_cases h0:n=0
  ·rw [h0];decide
  ·exact Nat.le_of_lt_succ ((Nat.log2_lt h0).mpr (by omega))
 omega
theorem fG {n:Nat} (h:n < 10000):(nW n).length<=5:=by
 have:=int_text_length_le10 (a:=(n:Int)) (k:=4) (by omega) (by rw [Int.natAbs_natCast];omega)
 unfold nW
 rw [ofString_length];omega
def pW (p:Nat×Nat):Str:=Str.join ⟨#[58]⟩ [nW p.1,nW p.2]
def Gs (K:W.Frag):Sp:=fun vs H Q _=>∃ (t:Addr) (p:Nat×Nat),vs=[.ref t]/\H t=some (.tup [.int (p.1:Int),.int (p.2:Int)])/\p.1 < 10000/\p.2 < 10000/\∀ H',Same H H'->Q (.str (pW p)) H'
theorem p6:aD ["numbers"] ["numbers"] (ak d8):=⟨rfl,rfl,rfl,by trivial,rfl,by trivial,by trivial⟩
theorem jj (T:Txt w K mg):Has P w K mg base 1 "tuple_word" ["numbers"] (Gs K):=by
 refine cz T.d_tuple_word p6 (fun _ _ _ _ _ _ us hl=>L2.dq (fun _=>rfl) us hl) ?_ fun f cdv A outer s H vs Q E hr h=>?_
 ·rintro vs H Q E ⟨t,p,rfl,_⟩;rfl
 obtain ⟨t,p,rfl,ht,h1,h2,q⟩:=h
 have hu:=hr.units0
 have hu64:=hr.units
 refine ⟨_,(az (aB (cU (K:=K) rfl PySem.F.plainAttrs_str PySem.F.slot_str_join PySem.F.type_str_join (iU (K:=K) rfl) bB (aa (bA (sub:=[none]) (aL (N:=["numbers"]) (sc:=ak d8) (N':=["number"]) (by trivial)) rfl rfl rfl (aX (K:=K) rfl (ao 0 kz03)) (fun C s₀ H₀ ex=>(du 0 (by trivial) nR)) (fun C s₀ H₀ ex=>aR) (fun C s₀ H₀ ex=>(b8 gF (jL (by trivial)) T.b_str fL (aa (bI 0 (by trivial)) aj) (by trivial) (by trivial)))) aj)))),?_⟩
 walk_at "s"
 have hs:20000<=sizeLine:=by decide
 refine ⟨rfl,?_⟩
 walk_at "s"
 refine .inr (.inl ⟨t,rfl,⟨_,SqT.of ht⟩,?_⟩)
 refine qM (xs:=[.int (p.1:Int),.int (p.2:Int)]) (fun i zs G=>G=H/\zs=(([nW p.1,nW p.2]:List Str).take i).map V.str) (by show 2<=_;omega) ⟨rfl,rfl⟩ ?_ ?_ ?_ ?_
 ·rintro i zs G ⟨_,rfl⟩
  rw [List.length_map,List.length_take];omega
 ·rintro i zs G ⟨rfl,_⟩
  exact SqT.of ht
 ·rintro i zs G v hv ⟨rfl,rfl⟩
  walk_at "s"
  refine ⟨KeepSt.set rfl,?_⟩
  walk_at "s"
  match i,hv with
  | 0,hv=>cases hv;exact ⟨p.1,rfl,fB h1,rfl,rfl⟩
  | 1,hv=>cases hv;exact ⟨p.2,rfl,fB h2,rfl,rfl⟩
  | i+2,hv=>cases hv
 ·rintro zs G D H' ⟨rfl,rfl⟩ nD S hD
  replace hD:H' D=some (.lst (([nW p.1,nW p.2]:List Str).map V.str)):=hD
  try walk_at "s"
  refine lV hD (by have:=fG h1;have:=fG h2;rw [show (Str.ofString ":").length=1 by trivial];simp;omega) ?_
  walk_at "s"
  rw [je,colon]
  exact q H' S
theorem lX:(["number"]:List Str).Nodup:=by trivial
theorem mR:(["numbers"]:List Str).Nodup:=by trivial
theorem kz04:bH cI "listed":=by trivial
theorem kz05:cG cI "numbers":=by trivial
theorem kz06:bH cR "listed":=by trivial
theorem kz07:cG cR "tuples":=by trivial
theorem kz08:bH d9 "tuples_word":=by trivial
theorem kz09:cG d9 "pairs":=by trivial
theorem jk {ys:List Str} {m:Nat} (h:∀ y∈ys,y.length<=m):(ys.map (·.length)).sum<=ys.length*m:=by
 induction ys with
 | nil=>simp
 | cons y ys ih=>
  have h1:=h y (by simp)
  have h2:=ih fun z hz=>h z (List.mem_cons_of_mem _ hz)
  rw [List.map_cons,List.sum_cons,List.length_cons,Nat.succ_mul];omega
def Bt (K:W.Frag):Sp:=fun vs H Q _=>∃ (p:Addr) (ns:List Nat),vs=[.ref p]/\H p=some (.lst (ns.map fun n:Nat=>V.int (n:Int)))/\ns.length<=1000/\(∀ n∈ns,n < 10000)/\∀ H',Same H H'->Q (.str (lW 44 (ns.map nW))) H'
theorem nU:aD ["numbers"] ["numbers"] (ak cI):=⟨rfl,rfl,rfl,by trivial,rfl,by trivial,by trivial⟩
theorem gU (T:Txt w K mg):Has P w K mg base 2 "numbers_word" ["numbers"] (Bt K):=by
 have eG:=eG (P:=P) (w:=w) (base:=base) T
 refine cz T.d_numbers_word nU (fun _ _ _ _ _ _ us hl=>L2.dq (fun _=>rfl) us hl) ?_ fun f cdv A outer s H vs Q E hr h=>?_
 ·rintro vs H Q E ⟨p,ns,rfl,_⟩;rfl
 obtain ⟨p,ns,rfl,hp,hl,hn,q⟩:=h
 have hu:=hr.units0
 have hu64:=hr.units
 refine ⟨_,(az (aB (aC eG (hr.mono (by decide)) (bc kz04) (aa (bA (sub:=[none]) (aL (N:=["numbers"]) (sc:=ak cI) (N':=["number"]) (by trivial)) rfl rfl rfl (aX (K:=K) rfl (ao 0 kz05)) (fun C s₀ H₀ ex=>(du 0 (by trivial) lX)) (fun C s₀ H₀ ex=>aR) (fun C s₀ H₀ ex=>(b8 gF (jL (by trivial)) T.b_str fL (aa (bI 0 (by trivial)) aj) (by trivial) (by trivial)))) aj) (by trivial)))),?_⟩
 walk_at "s"
 have hs:20000<=sizeLine:=by decide
 refine .inl ⟨p,rfl,⟨_,SqL.of hp⟩,?_⟩
 refine aH (xs:=ns.map fun n:Nat=>V.int (n:Int)) (fun i zs G=>G=H/\zs=((ns.take i).map nW).map V.str) (by rw [List.length_map];omega) ⟨rfl,rfl⟩ ?_ ?_ ?_ ?_
 ·rintro i zs G ⟨_,rfl⟩
  rw [List.length_map,List.length_map,List.length_take];omega
 ·rintro i zs G ⟨rfl,_⟩
  exact SqL.of hp
 ·rintro i zs G v hv ⟨rfl,rfl⟩
  rw [List.getElem?_map] at hv
  obtain ⟨n,en,rfl⟩:=Option.map_eq_some_iff.mp hv
  walk_at "s"
  refine ⟨KeepSt.set rfl,?_⟩
  walk_at "s"
  refine ⟨n,rfl,fB (hn n (List.mem_of_getElem? en)),rfl,?_⟩
  rw [List.take_add_one,en,List.map_append,List.map_append]
  rfl
 ·rintro zs G D H' ⟨rfl,rfl⟩ nD S hD
  rw [List.length_map,List.take_length] at hD
  try walk_at "s"
  refine ⟨D,ns.map nW,rfl,hD,?_,q H' S⟩
  have:=jk (ys:=ns.map nW) (m:=5) fun y hy=>by obtain ⟨n,h,rfl⟩:=List.mem_map.mp hy;exact fG (hn n h)
  rw [List.length_map] at this ⊢
  omega
def RP (H:Hp) (vs:List V) (ps:List (Nat×Nat)):Prop:=vs.length=ps.length/\∀ (i:Nat) (v:V) (p:Nat×Nat),vs[i]?=some v->ps[i]?=some p->∃ t,v= .ref t/\H t=some (.tup [.int (p.1:Int),.int (p.2:Int)])
theorem RP.same {H H':Hp} {vs:List V} {ps:List (Nat×Nat)} (h:RP H vs ps) (s:Same H H'):RP H' vs ps:=⟨h.1,fun i v p e1 e2=>let ⟨t,a,b⟩:=h.2 i v p e1 e2;⟨t,a,s _ _ b⟩⟩
def xx (ps:List (Nat×Nat)):Prop:=ps.length<=1000/\∀ p∈ps,p.1 < 10000/\p.2 < 10000
theorem lr {p:Nat×Nat} (h:p.1 < 10000/\p.2 < 10000):(pW p).length<=12:=by
 have:=StrLaws.join_length_le ⟨#[58]⟩ [nW p.1,nW p.2]
 have h1:=fG h.1
 have h2:=fG h.2
 have e:(⟨#[58]⟩:Str).length=1:=rfl
 unfold pW
 simp only [List.map_cons,List.map_nil,List.sum_cons,List.sum_nil,List.length_cons,List.length_nil,e] at this
 omega
def vP (K:W.Frag):Sp:=fun vs H Q _=>∃ (p:Addr) (us:List V) (ps:List (Nat×Nat)),vs=[.ref p]/\H p=some (.lst us)/\RP H us ps/\xx ps/\∀ H',Same H H'->Q (.str (lW 44 (ps.map pW))) H'
theorem pC:aD ["tuples"] ["tuples"] (ak cR):=⟨rfl,rfl,rfl,by trivial,rfl,by trivial,by trivial⟩
theorem iG (T:Txt w K mg):Has P w K mg base 2 "tuples_word" ["tuples"] (vP K):=by
 have eG:=eG (P:=P) (w:=w) (base:=base) T
 have jj:=jj (P:=P) (w:=w) (base:=base) T
 refine cz T.d_tuples_word pC (fun _ _ _ _ _ _ us hl=>L2.dq (fun _=>rfl) us hl) ?_ fun f cdv A outer s H vs Q E hr h=>?_
 ·rintro vs H Q E ⟨p,us,ps,rfl,_⟩;rfl
 obtain ⟨p,us,ps,rfl,hp,hR,hk,q⟩:=h
 have hu:=hr.units0
 have hu64:=hr.units
 refine ⟨_,(az (aB (aC eG (hr.mono (by decide)) (bc kz06) (aa (bA (sub:=[none]) (aL (N:=["tuples"]) (sc:=ak cR) (N':=["numbers"]) (by trivial)) rfl rfl rfl (aX (K:=K) rfl (ao 0 kz07)) (fun C s₀ H₀ ex=>(du 0 (by trivial) mR)) (fun C s₀ H₀ ex=>aR) (fun C s₀ H₀ ex=>(aC jj (hr.mono (by decide)) (jL (by trivial)) (aa (bI 0 (by trivial)) aj) (by trivial)))) aj) (by trivial)))),?_⟩
 walk_at "s"
 have hs:20000<=sizeLine:=by decide
 have hul:=hR.1
 have hl:=hk.1
 refine .inl ⟨p,rfl,⟨_,SqL.of hp⟩,?_⟩
 refine aH (xs:=us) (fun i zs G=>Same H G/\zs=((ps.take i).map pW).map V.str) (by omega) ⟨Same.refl H,rfl⟩ ?_ ?_ ?_ ?_
 ·rintro i zs G ⟨_,rfl⟩
  rw [List.length_map,List.length_map,List.length_take];omega
 ·rintro i zs G ⟨s,_⟩
  exact SqL.of (s _ _ hp)
 ·rintro i zs G v hv ⟨s,rfl⟩
  have hi:i < ps.length:=by rw [← hul];exact (List.getElem?_eq_some_iff.mp hv).1
  obtain ⟨pp,ep⟩:∃ pp,ps[i]?=some pp:=⟨_,List.getElem?_eq_getElem hi⟩
  obtain ⟨t,rfl,ht⟩:=(hR.same s).2 i v pp hv ep
  obtain ⟨k1,k2⟩:=hk.2 pp (List.mem_of_getElem? ep)
  walk_at "s"
  refine ⟨KeepSt.set rfl,?_⟩
  walk_at "s"
  refine ⟨t,pp,rfl,ht,k1,k2,fun G2 S2=>?_⟩
  walk_at "s"
  refine ⟨s.trans S2,?_⟩
  rw [List.take_add_one,ep,List.map_append,List.map_append]
  rfl
 ·rintro zs G D H' ⟨s,rfl⟩ nD S hD
  rw [hul,List.take_length] at hD
  try walk_at "s"
  refine ⟨D,ps.map pW,rfl,hD,?_,q H' (s.trans S)⟩
  have:=jk (ys:=ps.map pW) (m:=12) fun y hy=>by obtain ⟨n,h,rfl⟩:=List.mem_map.mp hy;exact lr (hk.2 n h)
  rw [List.length_map] at this ⊢
  omega
theorem p7:aD ["pairs"] ["pairs"] (ak d9):=⟨rfl,rfl,rfl,by trivial,rfl,by trivial,by trivial⟩
theorem di (T:Txt w K mg):Has P w K mg base 3 "pairs_word" ["pairs"] (vP K):=by
 have iG:=iG (P:=P) (w:=w) (base:=base) T
 refine cz T.d_pairs_word p7 (fun _ _ _ _ _ _ us hl=>L2.dq (fun _=>rfl) us hl) ?_ fun f cdv A outer s H vs Q E hr h=>?_
 ·rintro vs H Q E ⟨p,us,ps,rfl,_⟩;rfl
 obtain ⟨p,us,ps,rfl,hp,hR,hk,q⟩:=h
 have hu:=hr.units0
 have hu64:=hr.units
 refine ⟨_,(az (aB (aC iG (hr.mono (by decide)) (bc kz08) (aa (ao 0 kz09) aj) (by trivial)))),?_⟩
 walk_at "s"
 exact ⟨p,us,ps,rfl,hp,hR,hk,q⟩
theorem nY:(["heap"]:List Str).Nodup:=by trivial
theorem kz0a:bH cO "len":=by trivial
theorem Jy:cG cO "heaps":=by trivial
theorem kz0c:bH cO "NOTHING":=by trivial
theorem mU {c:Nat} {ys:List Str} {m:Nat} (h:∀ y∈ys,y.length<=m):(lW c ys).length<=ys.length*m+ys.length+1:=by
 unfold lW
 split
 ·rw [show (Str.ofString "-").length=1 by trivial];omega
 ·have h1:=StrLaws.join_length_le ⟨#[c]⟩ ys
  have h2:=jk h
  have e:(⟨#[c]⟩:Str).length=1:=rfl
  rw [e,Nat.mul_one] at h1
  omega
def RH (H:Hp) (vs:List V) (hs:List (List (Nat×Nat))):Prop:=vs.length=hs.length/\∀ (i:Nat) (v:V) (ps:List (Nat×Nat)),vs[i]?=some v->hs[i]?=some ps->∃ q us,v= .ref q/\H q=some (.lst us)/\RP H us ps
theorem RH.same {H H':Hp} {vs:List V} {hs:List (List (Nat×Nat))} (h:RH H vs hs) (s:Same H H'):RH H' vs hs:=⟨h.1,fun i v p e1 e2=>let ⟨q,us,a,b,c⟩:=h.2 i v p e1 e2;⟨q,us,a,s _ _ b,c.same s⟩⟩
def okH (hs:List (List (Nat×Nat))):Prop:=hs.length<=100/\∀ ps∈hs,xx ps
def jl (ps:List (Nat×Nat)):Str:=lW 44 (ps.map pW)
theorem Bu {ps:List (Nat×Nat)} (h:xx ps):(jl ps).length<=13001:=by
 have:=mU (c:=44) (ys:=ps.map pW) (m:=12) fun y hy=>by obtain ⟨n,hn,rfl⟩:=List.mem_map.mp hy;exact lr (h.2 n hn)
 rw [List.length_map] at this
 have:=h.1
 unfold jl
 omega
def yX (K:W.Frag):Sp:=fun vs H Q _=>∃ (p:Addr) (us:List V) (hs:List (List (Nat×Nat))),vs=[.ref p]/\H p=some (.lst us)/\RH H us hs/\okH hs/\∀ H',Same H H'->Q (.str (lW 47 (hs.map jl))) H'
theorem p8:aD ["heaps"] ["heaps"] (ak cO):=⟨rfl,rfl,rfl,by trivial,rfl,by trivial,by trivial⟩
theorem jm (T:Txt w K mg):Has P w K mg base 4 "heaps_word" ["heaps"] (yX K):=by
 have di:=di (P:=P) (w:=w) (base:=base) T
 refine cz T.d_heaps_word p8 (fun _ _ _ _ _ _ us hl=>L2.dq (fun _=>rfl) us hl) ?_ fun f cdv A outer s H vs Q E hr h=>?_
 ·rintro vs H Q E ⟨p,us,hs,rfl,_⟩;rfl
 obtain ⟨p,us,hs,rfl,hp,hR,hk,q⟩:=h
 have hu:=hr.units0
 have hu64:=hr.units
 refine ⟨_,(az (aB (wK (aM (aP (K:=K) rfl hu64) (aJ (bQ (K:=K) rfl) (bc kz0a) T.b_len d7 (aa (ao 0 Jy) aj) (by trivial) (by trivial)) aA (by walk_at "p")) (dN (bc kz0c) T.c_NOTHING (by trivial)) (cU (K:=K) rfl PySem.F.plainAttrs_str PySem.F.slot_str_join PySem.F.type_str_join (iU (K:=K) rfl) bB (aa (bA (sub:=[none]) (aL (N:=["heaps"]) (sc:=ak cO) (N':=["heap"]) (by trivial)) rfl rfl rfl (aX (K:=K) rfl (ao 0 Jy)) (fun C s₀ H₀ ex=>(du 0 (by trivial) nY)) (fun C s₀ H₀ ex=>aR) (fun C s₀ H₀ ex=>(aC di (hr.mono (by decide)) (jL (by trivial)) (aa (bI 0 (by trivial)) aj) (by trivial)))) aj))))),?_⟩
 walk_at "s"
 have hz:20000<=sizeLine:=by decide
 have hul:=hR.1
 have hl:=hk.1
 refine jO (SqL.of hp) ?_
 walk_at "s"
 by_cases h:hs=[]
 ·subst h
  obtain rfl:us=[]:=List.eq_nil_of_length_eq_zero hul
  rw [decide_eq_true (show V.int (([]:List V).length:Int)=V.int 0 from rfl)]
  walk_at "s"
  exact q H (Same.refl H)
 ·have hpos:us.length≠0:=fun z=>h (List.eq_nil_of_length_eq_zero (by omega))
  rw [decide_eq_false (show ¬ V.int (us.length:Int)=V.int 0 from fun z=>hpos (by have:=V.int.inj z;omega))]
  walk_at "s"
  refine ⟨rfl,?_⟩
  walk_at "s"
  refine .inl ⟨p,rfl,⟨_,SqL.of hp⟩,?_⟩
  refine aH (xs:=us) (fun i zs G=>Same H G/\zs=((hs.take i).map jl).map V.str) (by omega) ⟨Same.refl H,rfl⟩ ?_ ?_ ?_ ?_
  ·rintro i zs G ⟨_,rfl⟩
   rw [List.length_map,List.length_map,List.length_take];omega
  ·rintro i zs G ⟨s,_⟩
   exact SqL.of (s _ _ hp)
  ·rintro i zs G v hv ⟨s,rfl⟩
   have hi:i < hs.length:=by rw [← hul];exact (List.getElem?_eq_some_iff.mp hv).1
   obtain ⟨pp,ep⟩:∃ pp,hs[i]?=some pp:=⟨_,List.getElem?_eq_getElem hi⟩
   obtain ⟨t,vs,rfl,ht,hP⟩:=(hR.same s).2 i v pp hv ep
   walk_at "s"
   refine ⟨KeepSt.set rfl,?_⟩
   walk_at "s"
   refine ⟨t,vs,pp,rfl,ht,hP,hk.2 pp (List.mem_of_getElem? ep),fun G2 S2=>?_⟩
   walk_at "s"
   refine ⟨s.trans S2,?_⟩
   rw [List.take_add_one,ep,List.map_append,List.map_append]
   rfl
  ·rintro zs G D H' ⟨s,rfl⟩ nD S hD
   rw [hul,List.take_length] at hD
   try walk_at "s"
   have h1:=jk (ys:=hs.map jl) (m:=13001) fun y hy=>by obtain ⟨n,hn,rfl⟩:=List.mem_map.mp hy;exact Bu (hk.2 n hn)
   rw [List.length_map] at h1
   refine lV hD (by rw [show (Str.ofString "/").length=1 by trivial,List.length_map];omega) ?_
   walk_at "s"
   rw [je,slash]
   have q':=q H' (s.trans S)
   unfold lW at q'
   rw [if_neg (by simpa using h)] at q'
   exact q'
end
local macro_rules | `(tactic| walk_at "s") => `(tactic| (with_reducible repeat (first | refine m7 ?_ | walk_at "2")))
local macro_rules | `(tactic| walk_at "n") => `(tactic| (with_reducible repeat (walk_at "2")))
section
variable {P:Program} {w:World} {K:W.Frag} {mg:Str->Option Value} {base:Heap}
theorem t6:(["sign"]:List Str).Nodup:=by trivial
theorem Gu:cG fj "row":=by trivial
theorem kz0e:bH fj "NOTHING":=by trivial
theorem kz0f:bH fj "need_row":=by trivial
theorem kz0g:bH dB "all":=by trivial
theorem Gv:cG dB "thing":=by trivial
theorem kz0i:bH dB "len":=by trivial
theorem kz0j:bH dB "MOST_SIGNS":=by trivial
theorem kz0k:bH dB "isinstance":=by trivial
theorem kz0l:bH dB "str":=by trivial
theorem kz0m:bH gR "is_row":=by trivial
theorem kz0n:cG gR "thing":=by trivial
def nZ:Str:=Str.ofString "abcdefghijklmnopqrstuvwxyz"
def GOOD:List Nat:=(nZ ++ Str.ofString ".").cps.toList
def Row (z:Str):Prop:=z.length<=48/\∀ c∈z.cps.toList,c∈GOOD
def wX (l:Str) (c:Nat):Bool:=(Builtin.Str.occurrences l ⟨#[c]⟩ 0 l.length 1).isEmpty
theorem Bv:∀ c∈GOOD,wX (nZ ++ Str.ofString ".") c=false:=by trivial
def Bw:Sp:=fun vs H Q _=>∃ z:Str,vs=[.str z]/\Row z/\∀ H',Same H H'->Q (.bl true) H'
def Gw:Sp:=fun vs H Q _=>∃ z:Str,vs=[.str z]/\Row z/\∀ H',Same H H'->Q .non H'
theorem wY:aD ["thing"] ["thing"] (ak dB):=⟨rfl,rfl,rfl,by trivial,rfl,by trivial,by trivial⟩
theorem iW (T:Txt w K mg):Has P w K mg base 1 "is_row" ["thing"] Bw:=by
 refine cz T.d_is_row wY (fun _ _ _ _ _ _ us hl=>L2.dq (fun _=>rfl) us hl) ?_ fun f cdv A outer s H vs Q E hr h=>?_
 ·rintro vs H Q E ⟨p,rfl,_⟩;rfl
 obtain ⟨z,rfl,⟨hz,hg⟩,q⟩:=h
 have hu:=hr.units0
 have hu64:=hr.units
 refine ⟨_,(au (aV (m8 (qG (gm (gn (aJ (bR (K:=K) rfl) (bc kz0k) T.b_isinstance aQ (aa (ao 0 Gv) (aa (lO (bc kz0l) T.b_str fL (by trivial) (by trivial)) aj)) (by trivial) (by trivial)))) (mQ (aM sO (aJ (bQ (K:=K) rfl) (bc kz0i) T.b_len d7 (aa (ao 0 Gv) aj) (by trivial) (by trivial)) (uM (bc kz0j) T.c_MOST_SIGNS (by trivial)) (by walk_at "p"))))) (az (aB pZ)) aN) (az (aB (aJ (cH rfl) (bc kz0g) T.b_all eQ (aa (bA (sub:=[none]) (aL (N:=["thing"]) (sc:=ak dB) (N':=["sign"]) (by trivial)) rfl rfl rfl (aX (K:=K) rfl (ao 0 Gv)) (fun C s₀ H₀ ex=>(du 0 (by trivial) t6)) (fun C s₀ H₀ ex=>aR) (fun C s₀ H₀ ex=>(ir (yD (K:=K) rfl) (bI 0 (by trivial)) (bG bY (dN (jL (by trivial)) T.c_LETTERS (by trivial)) (dN (jL (by trivial)) T.c_POINT (by trivial))) (by walk_at "p")))) aj) (by trivial) (by trivial))))),?_⟩
 walk_at "s"
 have hz1:z.length<=sizeLine:=Nat.le_trans hz (by decide)
 refine gO (.str z) rfl ?_
 walk_at "s"
 try with_reducible refine lH ?_
 walk_at "s"
 refine rF hz1 ?_
 walk_at "s"
 refine uL (fun h1=>?_) (fun h1=>?_)
 ·omega
 walk_at "s"
 refine .inr (.inr ⟨z,rfl,?_⟩)
 refine tO (fun i us H'=>H'=H/\us=((z.cps.toList.take i).map fun c=>!wX (nZ ++ Str.ofString ".") c).map V.bl) hz1 ⟨rfl,rfl⟩ ?_ ?_ ?_
 ·rintro i us H' ⟨rfl,rfl⟩
  simp;omega
 ·rintro i us H' c hc ⟨rfl,rfl⟩
  walk_at "s"
  refine ⟨KeepSt.set rfl,?_⟩
  walk_at "s"
  try with_reducible refine mK ?_
  walk_at "s"
  refine jN (Nat.le_trans (show (Str.ofString "abcdefghijklmnopqrstuvwxyz").length+(Str.ofString ".").length<=1000 by trivial) (by decide)) ?_
  walk_at "s"
  refine ⟨rfl,?_⟩
  rw [List.take_add_one,hc]
  simp [nZ,wX]
 ·rintro us H' ⟨rfl,rfl⟩ D hD
  walk_at "s"
  refine ⟨D,_,rfl,aq,?_⟩
  have e2:(List.map (fun c=>!wX (nZ ++ Str.ofString ".") c) (z.cps.toList.take z.cps.size)).all id=true:=by
   rw [List.all_map,List.all_eq_true]
   intro c hc
   have:=Bv c (hg c (List.mem_of_mem_take hc))
   simp [this]
  rw [e2]
  exact q _ ((Same.refl H').upd hD)
theorem t7:aD ["thing"] ["thing"] (ak gR):=⟨rfl,rfl,rfl,by trivial,rfl,by trivial,by trivial⟩
theorem lu (T:Txt w K mg):Has P w K mg base 2 "need_row" ["thing"] Gw:=by
 have iW:=iW (P:=P) (w:=w) (base:=base) T
 refine cz T.d_need_row t7 (fun _ _ _ _ _ _ us hl=>L2.dq (fun _=>rfl) us hl) ?_ fun f cdv A outer s H vs Q E hr h=>?_
 ·rintro vs H Q E ⟨p,rfl,_⟩;rfl
 obtain ⟨z,rfl,hz,q⟩:=h
 refine ⟨_,(az (aV (gm (gn (aC iW (hr.mono (by decide)) (bc kz0m) (aa (ao 0 kz0n) aj) (by trivial)))) (az pA) aN)),?_⟩
 walk_at "s"
 refine ⟨z,rfl,hz,fun H1 S1=>?_⟩
 walk_at "s"
 try with_reducible refine lH ?_
 walk_at "s"
 exact q _ S1
theorem j5 {z:Str}:z=Str.ofString ""↔z.cps.size=0:=⟨fun h=>by rw [h];trivial,fun h=>by
 cases z with
 | mk a=>
  have:a= #[]:=Array.eq_empty_of_size_eq_zero h
  subst this;trivial⟩
def rW (z:Str):Str:=if z.cps.size=0 then Str.ofString "-" else z
def Gx:Sp:=fun vs H Q _=>∃ z:Str,vs=[.str z]/\Row z/\∀ H',Same H H'->Q (.str (rW z)) H'
theorem t8:aD ["row"] ["row"] (ak fj):=⟨rfl,rfl,rfl,by trivial,rfl,by trivial,by trivial⟩
theorem lA (T:Txt w K mg):Has P w K mg base 4 "row_word" ["row"] Gx:=by
 have lu:=lu (P:=P) (w:=w) (base:=base) T
 refine cz T.d_row_word t8 (fun _ _ _ _ _ _ us hl=>L2.dq (fun _=>rfl) us hl) ?_ fun f cdv A outer s H vs Q E hr h=>?_
 ·rintro vs H Q E ⟨z,rfl,_⟩;rfl
 obtain ⟨z,rfl,hz,q⟩:=h
 have hu:=hr.units0
 have hu64:=hr.units
 refine ⟨_,(au (bZ (aC lu (hr.mono (by decide)) (bc kz0f) (aa (ao 0 Gu) aj) (by trivial))) (az (aB (wK (aM (aP (K:=K) rfl hu64) (ao 0 Gu) bB (by walk_at "p")) (dN (bc kz0e) T.c_NOTHING (by trivial)) (ao 0 Gu))))),?_⟩
 walk_at "s"
 refine ⟨z,rfl,hz,fun H1 S1=>?_⟩
 walk_at "s"
 have q':=q H1 S1
 unfold rW at q'
 by_cases h:z.cps.size=0
 ·rw [decide_eq_true (show V.str z=V.str (Str.ofString "") by rw [j5.mpr h])]
  rw [if_pos h] at q'
  walk_at "s"
  exact q'
 ·rw [decide_eq_false (show ¬ V.str z=V.str (Str.ofString "") from fun e=>h (j5.mp (V.str.inj e)))]
  rw [if_neg h] at q'
  walk_at "s"
  exact q'
end
local macro_rules | `(tactic| walk_at "s") => `(tactic| (with_reducible repeat (first | refine m7 ?_ | walk_at "1")))
local macro_rules | `(tactic| walk_at "n") => `(tactic| (with_reducible repeat (walk_at "1")))
section
variable {P:Program} {w:World} {K:W.Frag} {mg:Str->Option Value} {base:Heap}
theorem pG:(["letter"]:List Str).Nodup:=by trivial
theorem n6:(["change"]:List Str).Nodup:=by trivial
theorem Gy:cG cM "thing":=by trivial
theorem kz0p:bH cM "LETTERS":=by trivial
theorem kz0q:bH cM "len":=by trivial
theorem kz0r:bH cM "isinstance":=by trivial
theorem kz0s:bH cM "str":=by trivial
theorem uc:cG bw "thing":=by trivial
theorem kz0u:bH bw "CHANGE":=by trivial
theorem Jz:bH bw "len":=by trivial
theorem kz0w:bH bw "IN":=by trivial
theorem kz0x:bH bw "OUT":=by trivial
theorem kz0y:bH bw "KEEP":=by trivial
theorem kz0z:bH bw "all":=by trivial
theorem kz10:bH bw "isinstance":=by trivial
theorem kz11:bH bw "tuple":=by trivial
theorem kz12:bH bJ "all":=by trivial
theorem Gz:cG bJ "thing":=by trivial
theorem kz14:bH bJ "len":=by trivial
theorem kz15:bH bJ "MOST_CHANGES":=by trivial
theorem kz16:bH bJ "isinstance":=by trivial
theorem kz17:bH bJ "list":=by trivial
theorem kz18:bH cY "is_changes":=by trivial
theorem kz19:cG cY "thing":=by trivial
def GC:Sp:=fun vs H Q _=>∃ c:Nat,vs=[.str ⟨#[c]⟩]/\97<=c/\c < 123/\Q (.bl true) H
theorem Bx:∀ k∈List.range 26,wX nZ (97+k)=false:=by trivial
theorem rK:aD ["thing"] ["thing"] (ak cM):=⟨rfl,rfl,rfl,by trivial,rfl,by trivial,by trivial⟩
theorem jV (T:Txt w K mg):Has P w K mg base 1 "is_letter" ["thing"] GC:=by
 refine cz T.d_is_letter rK (fun _ _ _ _ _ _ us hl=>L2.dq (fun _=>rfl) us hl) ?_ fun f cdv A outer s H vs Q E hr h=>?_
 ·rintro vs H Q E ⟨c,rfl,_⟩;rfl
 obtain ⟨c,rfl,h1,h2,q⟩:=h
 have hu:=hr.units0
 have hu64:=hr.units
 refine ⟨_,(az (aB (kE (aJ (bR (K:=K) rfl) (bc kz0r) T.b_isinstance aQ (aa (ao 0 Gy) (aa (lO (bc kz0s) T.b_str fL (by trivial) (by trivial)) aj)) (by trivial) (by trivial)) (kE (ir (aP (K:=K) rfl hu64) (aJ (bQ (K:=K) rfl) (bc kz0q) T.b_len d7 (aa (ao 0 Gy) aj) (by trivial) (by trivial)) aA (by walk_at "p")) (jP (ir (uT (K:=K) rfl hu64) (ao 0 Gy) (dN (bc kz0p) T.c_LETTERS (by trivial)) (by walk_at "p"))))))),?_⟩
 walk_at "s"
 refine gO (.str _) rfl ?_
 walk_at "s"
 refine rF (by rw [FJ];decide) ?_
 walk_at "s"
 rw [FJ,decide_eq_true (show V.int ((1:Nat):Int)=V.int 1 from rfl)]
 walk_at "s"
 have:=Bx (c - 97) (List.mem_range.mpr (by omega))
 rw [show 97+(c - 97)=c by omega] at this
 unfold wX nZ at this
 rw [this]
 exact q
structure Cg where
 k:Str
 ls:List Nat
def okC (c:Cg):Prop:=(∀ x∈c.ls,97<=x/\x < 123)/\(((c.k=Str.ofString "keep"\/c.k=Str.ofString "out"\/c.k=Str.ofString "in")/\c.ls.length=1)\/(c.k=Str.ofString "change"/\∃ a b,c.ls=[a,b]/\a≠b))
def vQ (c:Cg):List V:=.str c.k :: c.ls.map fun x=>.str ⟨#[x]⟩
theorem yZ (a b:Nat):decide (V.str ⟨#[a]⟩=V.str ⟨#[b]⟩)=decide (a=b):=by
 refine decide_eq_decide.mpr ⟨fun h=>?_,fun h=>by rw [h]⟩
 have:=Str.mk.inj (V.str.inj h)
 simpa using this
theorem okC.len {c:Cg} (h:okC c):c.ls.length=1\/c.ls.length=2:=by
 rcases h.2 with ⟨_,h⟩ | ⟨_,a,b,h,_⟩
 ·exact .inl h
 ·rw [h];exact .inr rfl
def GD (K:W.Frag):Sp:=fun vs H Q _=>∃ (t:Addr) (c:Cg),vs=[.ref t]/\H t=some (.tup (vQ c))/\okC c/\∀ H',Same H H'->Q (.bl true) H'
theorem rM:aD ["thing"] ["thing"] (ak bw):=⟨rfl,rfl,rfl,by trivial,rfl,by trivial,by trivial⟩
theorem jW (T:Txt w K mg):Has P w K mg base 2 "is_change" ["thing"] (GD K):=by
 have jV:=jV (P:=P) (w:=w) (base:=base) T
 refine cz T.d_is_change rM (fun _ _ _ _ _ _ us hl=>L2.dq (fun _=>rfl) us hl) ?_ fun f cdv A outer s H vs Q E hr h=>?_
 ·rintro vs H Q E ⟨t,c,rfl,_⟩;rfl
 obtain ⟨t,c,rfl,ht,hk,q⟩:=h
 have hu:=hr.units0
 have hu64:=hr.units
 refine ⟨_,(au (aV (m8 (qG (gm (gn (aJ (bR (K:=K) rfl) (bc kz10) T.b_isinstance aQ (aa (ao 0 uc) (aa (lO (bc kz11) T.b_tuple o9 (by trivial) (by trivial)) aj)) (by trivial) (by trivial)))) (mQ (gm (tW vm vm aA (aJ (bQ (K:=K) rfl) (bc Jz) T.b_len d7 (aa (ao 0 uc) aj) (by trivial) (by trivial)) aA))))) (az (aB pZ)) aN) (au (aV (gm (gn (aJ (cH rfl) (bc kz0z) T.b_all eQ (aa (bA (sub:=[none]) (aL (N:=["thing"]) (sc:=ak bw) (N':=["letter"]) (by trivial)) rfl rfl rfl (aX (K:=K) rfl (jf (jh (K:=K) rfl) (ao 0 uc) (iu aA) j0)) (fun C s₀ H₀ ex=>(du 0 (by trivial) pG)) (fun C s₀ H₀ ex=>aR) (fun C s₀ H₀ ex=>(aC jV (hr.mono (by decide)) (jL (by trivial)) (aa (bI 0 (by trivial)) aj) (by trivial)))) aj) (by trivial) (by trivial)))) (az (aB pZ)) aN) (au (aV (aM (aP (K:=K) rfl hu64) (aJ (bQ (K:=K) rfl) (bc Jz) T.b_len d7 (aa (ao 0 uc) aj) (by trivial) (by trivial)) aA (by walk_at "p")) (az (aB (ir (uT (K:=K) rfl hu64) (gP (K:=K) rfl (ao 0 uc) aA) (tQ (aa (dN (bc kz0y) T.c_KEEP (by trivial)) (aa (dN (bc kz0x) T.c_OUT (by trivial)) (aa (dN (bc kz0w) T.c_IN (by trivial)) aj)))) (by walk_at "p")))) aN) (az (aB (kE (ir (aP (K:=K) rfl hu64) (gP (K:=K) rfl (ao 0 uc) aA) (dN (bc kz0u) T.c_CHANGE (by trivial)) (by walk_at "p")) (jP (ir (lg (K:=K) rfl hu64) (gP (K:=K) rfl (ao 0 uc) aA) (gP (K:=K) rfl (ao 0 uc) aA) (by walk_at "p"))))))))),?_⟩
 walk_at "s"
 have hz:20000<=sizeLine:=by decide
 have hln:(vQ c).length=2\/(vQ c).length=3:=by
  unfold vQ;rw [List.length_cons,List.length_map];rcases hk.len with h | h <;> omega
 refine gO (.tup ht) rfl ?_
 walk_at "s"
 refine yH (SqT.of ht) ?_
 walk_at "s"
 rw [decide_eq_true (show (2:Int)<=((vQ c).length:Int) by omega)]
 walk_at "s"
 rw [decide_eq_true (show ((vQ c).length:Int)<=3 by omega)]
 walk_at "s"
 refine uU ht fun t2 H1 S1 h1=>?_
 walk_at "s"
 replace h1:H1 t2=some (.tup (c.ls.map fun x=>V.str ⟨#[x]⟩)):=by
  rw [h1,show (some (1:Int))=some ((1:Nat):Int) from rfl,lq];rfl
 refine .inr (.inl ⟨t2,rfl,⟨_,SqT.of h1⟩,?_⟩)
 refine qM (xs:=c.ls.map fun x=>V.str ⟨#[x]⟩) (fun i zs G=>G=H1/\zs=(List.replicate i true).map V.bl) (by rw [List.length_map];rcases hk.len with h | h <;> omega) ⟨rfl,rfl⟩ ?_ ?_ ?_ ?_
 ·rintro i zs G ⟨_,rfl⟩
  simp
 ·rintro i zs G ⟨rfl,_⟩
  exact SqT.of h1
 ·rintro i zs G v hv ⟨rfl,rfl⟩
  rw [List.getElem?_map] at hv
  obtain ⟨x,ex,rfl⟩:=Option.map_eq_some_iff.mp hv
  obtain ⟨a1,a2⟩:=hk.1 x (List.mem_of_getElem? ex)
  walk_at "s"
  refine ⟨KeepSt.set rfl,?_⟩
  walk_at "s"
  refine ⟨x,rfl,a1,a2,?_⟩
  walk_at "s"
  refine ⟨rfl,?_⟩
  rw [List.replicate_succ',List.map_append]
  rfl
 rintro zs G D H2 ⟨rfl,rfl⟩ nD S2 hD
 try walk_at "s"
 refine ⟨D,_,rfl,hD,?_⟩
 rw [show (List.replicate (c.ls.map fun x=>V.str ⟨#[x]⟩).length true).all id=true by simp]
 walk_at "s"
 have U2:=S1.trans S2
 have ht2:=U2 _ _ ht
 refine yH (SqT.of ht2) ?_
 walk_at "s"
 rcases hk.2 with ⟨hkk,hl1⟩ | ⟨hkk,a,b,hab,hne⟩
 ·rw [decide_eq_true (show V.int ((vQ c).length:Int)=V.int 2 by unfold vQ;rw [List.length_cons,List.length_map,hl1];rfl)]
  walk_at "s"
  refine gM (SqT.of ht2) (dZ (j:=0) (by rfl)) ?_
  walk_at "s"
  refine dw rfl fun w H3 nw S3 hw=>?_
  walk_at "s"
  refine .inl (.inr ⟨w,_,rfl,.inr (SqT.of hw),rfl,rfl,?_⟩)
  have e:(if false=true then !inV (.str c.k) [.str (Str.ofString "keep"),.str (Str.ofString "out"),.str (Str.ofString "in")] else inV (.str c.k) [.str (Str.ofString "keep"),.str (Str.ofString "out"),.str (Str.ofString "in")])=true:=by
   rcases hkk with h | h | h <;> rw [h] <;> trivial
  rw [e]
  exact q H3 (U2.trans S3)
 ·rw [decide_eq_false (show ¬ V.int ((vQ c).length:Int)=V.int 2 from fun z=>by have:=V.int.inj z;unfold vQ at this;rw [List.length_cons,List.length_map,hab] at this;simp at this)]
  have ht3:H2 t=some (.tup [.str (Str.ofString "change"),.str ⟨#[a]⟩,.str ⟨#[b]⟩]):=by rw [ht2];unfold vQ;rw [hkk,hab];rfl
  walk_at "s"
  rw [decide_eq_true (rfl:V.str (Str.ofString "change")=V.str (Str.ofString "change"))]
  walk_at "s"
  rw [yZ,decide_eq_false hne]
  exact q H2 U2
def RC (H:Hp) (vs:List V) (cs:List Cg):Prop:=vs.length=cs.length/\∀ (i:Nat) (v:V) (c:Cg),vs[i]?=some v->cs[i]?=some c->∃ t,v= .ref t/\H t=some (.tup (vQ c))
theorem RC.same {H H':Hp} {vs:List V} {cs:List Cg} (h:RC H vs cs) (s:Same H H'):RC H' vs cs:=⟨h.1,fun i v p e1 e2=>let ⟨t,a,b⟩:=h.2 i v p e1 e2;⟨t,a,s _ _ b⟩⟩
def ud (cs:List Cg):Prop:=cs.length<=48/\∀ c∈cs,okC c
def By (K:W.Frag):Sp:=fun vs H Q _=>∃ (p:Addr) (us:List V) (cs:List Cg),vs=[.ref p]/\H p=some (.lst us)/\RC H us cs/\ud cs/\∀ H',Same H H'->Q (.bl true) H'
theorem qb:aD ["thing"] ["thing"] (ak bJ):=⟨rfl,rfl,rfl,by trivial,rfl,by trivial,by trivial⟩
theorem dj (T:Txt w K mg):Has P w K mg base 3 "is_changes" ["thing"] (By K):=by
 have jW:=jW (P:=P) (w:=w) (base:=base) T
 refine cz T.d_is_changes qb (fun _ _ _ _ _ _ us hl=>L2.dq (fun _=>rfl) us hl) ?_ fun f cdv A outer s H vs Q E hr h=>?_
 ·rintro vs H Q E ⟨p,us,cs,rfl,_⟩;rfl
 obtain ⟨p,us,cs,rfl,hp,hR,hk,q⟩:=h
 have hu:=hr.units0
 have hu64:=hr.units
 refine ⟨_,(au (aV (m8 (qG (gm (gn (aJ (bR (K:=K) rfl) (bc kz16) T.b_isinstance aQ (aa (ao 0 Gz) (aa (lO (bc kz17) T.b_list jd (by trivial) (by trivial)) aj)) (by trivial) (by trivial)))) (mQ (aM sO (aJ (bQ (K:=K) rfl) (bc kz14) T.b_len d7 (aa (ao 0 Gz) aj) (by trivial) (by trivial)) (uM (bc kz15) T.c_MOST_CHANGES (by trivial)) (by walk_at "p"))))) (az (aB pZ)) aN) (az (aB (aJ (cH rfl) (bc kz12) T.b_all eQ (aa (bA (sub:=[none]) (aL (N:=["thing"]) (sc:=ak bJ) (N':=["change"]) (by trivial)) rfl rfl rfl (aX (K:=K) rfl (ao 0 Gz)) (fun C s₀ H₀ ex=>(du 0 (by trivial) n6)) (fun C s₀ H₀ ex=>aR) (fun C s₀ H₀ ex=>(aC jW (hr.mono (by decide)) (jL (by trivial)) (aa (bI 0 (by trivial)) aj) (by trivial)))) aj) (by trivial) (by trivial))))),?_⟩
 walk_at "s"
 have hz:20000<=sizeLine:=by decide
 have hul:=hR.1
 have hl:=hk.1
 refine gO (.lst hp) rfl ?_
 walk_at "s"
 refine jO (SqL.of hp) ?_
 walk_at "s"
 rw [decide_eq_false (show ¬ (48:Int) < (us.length:Int) by omega)]
 walk_at "s"
 refine .inl ⟨p,rfl,⟨_,SqL.of hp⟩,?_⟩
 refine aH (xs:=us) (fun i zs G=>Same H G/\zs=(List.replicate i true).map V.bl) (by omega) ⟨Same.refl H,rfl⟩ ?_ ?_ ?_ ?_
 ·rintro i zs G ⟨_,rfl⟩
  simp
 ·rintro i zs G ⟨s,_⟩
  exact SqL.of (s _ _ hp)
 ·rintro i zs G v hv ⟨s,rfl⟩
  have hi:i < cs.length:=by rw [← hul];exact (List.getElem?_eq_some_iff.mp hv).1
  obtain ⟨c,ec⟩:∃ c,cs[i]?=some c:=⟨_,List.getElem?_eq_getElem hi⟩
  obtain ⟨t,rfl,ht⟩:=(hR.same s).2 i v c hv ec
  walk_at "s"
  refine ⟨KeepSt.set rfl,?_⟩
  walk_at "s"
  refine ⟨t,c,rfl,ht,hk.2 c (List.mem_of_getElem? ec),fun G2 S2=>?_⟩
  walk_at "s"
  refine ⟨s.trans S2,?_⟩
  rw [List.replicate_succ',List.map_append]
  rfl
 rintro zs G D H2 ⟨s,rfl⟩ nD S2 hD
 try walk_at "s"
 refine ⟨D,_,rfl,hD,?_⟩
 rw [show (List.replicate us.length true).all id=true by simp]
 exact q H2 (s.trans S2)
def wZ (K:W.Frag):Sp:=fun vs H Q _=>∃ (p:Addr) (us:List V) (cs:List Cg),vs=[.ref p]/\H p=some (.lst us)/\RC H us cs/\ud cs/\∀ H',Same H H'->Q .non H'
theorem n8:aD ["thing"] ["thing"] (ak cY):=⟨rfl,rfl,rfl,by trivial,rfl,by trivial,by trivial⟩
theorem gW (T:Txt w K mg):Has P w K mg base 4 "need_changes" ["thing"] (wZ K):=by
 have dj:=dj (P:=P) (w:=w) (base:=base) T
 refine cz T.d_need_changes n8 (fun _ _ _ _ _ _ us hl=>L2.dq (fun _=>rfl) us hl) ?_ fun f cdv A outer s H vs Q E hr h=>?_
 ·rintro vs H Q E ⟨p,us,cs,rfl,_⟩;rfl
 obtain ⟨p,us,cs,rfl,hp,hR,hk,q⟩:=h
 have hu:=hr.units0
 have hu64:=hr.units
 refine ⟨_,(az (aV (gm (gn (aC dj (hr.mono (by decide)) (bc kz18) (aa (ao 0 kz19) aj) (by trivial)))) (az pA) aN)),?_⟩
 walk_at "s"
 refine ⟨p,us,cs,rfl,hp,hR,hk,fun H1 S1=>?_⟩
 walk_at "s"
 exact q H1 S1
theorem lY:(["change"]:List Str).Nodup:=by trivial
theorem kz1a:bH dD "MARKS":=by trivial
theorem JC:cG dD "change":=by trivial
theorem kz1c:bH bV "listed":=by trivial
theorem JD:cG bV "changes":=by trivial
theorem kz1e:bH bV "need_changes":=by trivial
def MKS:List (Str×Str):=[("keep","="),("change","!"),("out","<"),("in",">")]
def uW (k:Str):Str:=((MKS.lookup k).getD (Str.ofString ""))
theorem rN {c:Cg} (h:okC c):MKS.lookup c.k=some (uW c.k)/\(uW c.k).length=1:=by
 rcases h.2 with ⟨h1 | h1 | h1,_⟩ | ⟨h1,_⟩ <;> rw [h1] <;> trivial
def cW (c:Cg):Str:=uW c.k ++ Txt.join (Str.ofString "") (c.ls.map fun x=>⟨#[x]⟩)
def JF (K:W.Frag):Sp:=fun vs H Q _=>∃ (t:Addr) (c:Cg),vs=[.ref t]/\H t=some (.tup (vQ c))/\okC c/\∀ H',Same H H'->Q (.str (cW c)) H'
theorem gY (l:List Nat):∀ y∈l.map (fun x=>(⟨#[x]⟩:Str)),y.length=1:=fun y hy=>by
 obtain ⟨c,_,rfl⟩:=List.mem_map.mp hy;exact FJ c
theorem pH:aD ["change"] ["change"] (ak dD):=⟨rfl,rfl,rfl,by trivial,rfl,by trivial,by trivial⟩
theorem iH (T:Txt w K mg):Has P w K mg base 1 "change_word" ["change"] (JF K):=by
 refine cz T.d_change_word pH (fun _ _ _ _ _ _ us hl=>L2.dq (fun _=>rfl) us hl) ?_ fun f cdv A outer s H vs Q E hr h=>?_
 ·rintro vs H Q E ⟨t,c,rfl,_⟩;rfl
 obtain ⟨t,c,rfl,ht,hk,q⟩:=h
 have hu:=hr.units0
 have hu64:=hr.units
 refine ⟨_,(az (aB (bG bY (Gq T.e_MARKS (bc kz1a) (gP (K:=K) rfl (ao 0 JC) aA) (by trivial)) (cU (K:=K) rfl PySem.F.plainAttrs_str PySem.F.slot_str_join PySem.F.type_str_join (iU (K:=K) rfl) bB (aa (jf (jh (K:=K) rfl) (ao 0 JC) (iu aA) j0) aj))))),?_⟩
 walk_at "s"
 have hz:20000<=sizeLine:=by decide
 obtain ⟨m1,m2⟩:=rN hk
 refine gM (SqT.of ht) (dZ (j:=0) (by rfl)) ?_
 walk_at "s"
 refine ⟨c.k,uW c.k,rfl,m1,?_⟩
 walk_at "s"
 refine ⟨rfl,?_⟩
 walk_at "s"
 refine uU ht fun t2 H1 S1 h1=>?_
 walk_at "s"
 replace h1:H1 t2=some (.tup ((c.ls.map fun x=>(⟨#[x]⟩:Str)).map V.str)):=by
  rw [h1,show (some (1:Int))=some ((1:Nat):Int) from rfl,lq,List.map_map];rfl
 have hl2:c.ls.length<=2:=by rcases hk.len with h | h <;> omega
 refine Bq h1 (by rw [pq (gY _),show (Str.ofString "").length=0 by trivial,List.length_map];omega) ?_
 walk_at "s"
 refine jN (by rw [m2,lN (gY _),List.length_map];omega) ?_
 walk_at "s"
 exact q H1 S1
theorem rO {c:Cg} (h:okC c):(cW c).length<=3:=by
 have hl2:c.ls.length<=2:=by rcases h.len with h | h <;> omega
 unfold cW
 rw [show (uW c.k ++ Txt.join (Str.ofString "") (c.ls.map fun x=>(⟨#[x]⟩:Str))).length=(uW c.k).length+(Txt.join (Str.ofString "") (c.ls.map fun x=>(⟨#[x]⟩:Str))).length by show (_ ++ _:Array Nat).size=_;simp [Str.length],(rN h).2,lN (gY _),List.length_map]
 omega
def GF (K:W.Frag):Sp:=fun vs H Q _=>∃ (p:Addr) (us:List V) (cs:List Cg),vs=[.ref p]/\H p=some (.lst us)/\RC H us cs/\ud cs/\∀ H',Same H H'->Q (.str (lW 44 (cs.map cW))) H'
theorem oh:aD ["changes"] ["changes"] (ak bV):=⟨rfl,rfl,rfl,by trivial,rfl,by trivial,by trivial⟩
theorem gZ (T:Txt w K mg):Has P w K mg base 5 "changes_word" ["changes"] (GF K):=by
 have gW:=gW (P:=P) (w:=w) (base:=base) T
 have eG:=eG (P:=P) (w:=w) (base:=base) T
 have iH:=iH (P:=P) (w:=w) (base:=base) T
 refine cz T.d_changes_word oh (fun _ _ _ _ _ _ us hl=>L2.dq (fun _=>rfl) us hl) ?_ fun f cdv A outer s H vs Q E hr h=>?_
 ·rintro vs H Q E ⟨p,us,cs,rfl,_⟩;rfl
 obtain ⟨p,us,cs,rfl,hp,hR,hk,q⟩:=h
 have hu:=hr.units0
 have hu64:=hr.units
 refine ⟨_,(au (bZ (aC gW (hr.mono (by decide)) (bc kz1e) (aa (ao 0 JD) aj) (by trivial))) (az (aB (aC eG (hr.mono (by decide)) (bc kz1c) (aa (bA (sub:=[none]) (aL (N:=["changes"]) (sc:=ak bV) (N':=["change"]) (by trivial)) rfl rfl rfl (aX (K:=K) rfl (ao 0 JD)) (fun C s₀ H₀ ex=>(du 0 (by trivial) lY)) (fun C s₀ H₀ ex=>aR) (fun C s₀ H₀ ex=>(aC iH (hr.mono (by decide)) (jL (by trivial)) (aa (bI 0 (by trivial)) aj) (by trivial)))) aj) (by trivial))))),?_⟩
 walk_at "s"
 have hz:20000<=sizeLine:=by decide
 have hul:=hR.1
 have hl:=hk.1
 refine ⟨p,us,cs,rfl,hp,hR,hk,fun H1 S1=>?_⟩
 walk_at "s"
 have hp1:=S1 _ _ hp
 have hR1:=hR.same S1
 refine .inl ⟨p,rfl,⟨_,SqL.of hp1⟩,?_⟩
 refine aH (xs:=us) (fun i zs G=>Same H1 G/\zs=((cs.take i).map cW).map V.str) (by omega) ⟨Same.refl H1,rfl⟩ ?_ ?_ ?_ ?_
 ·rintro i zs G ⟨_,rfl⟩
  rw [List.length_map,List.length_map,List.length_take];omega
 ·rintro i zs G ⟨s,_⟩
  exact SqL.of (s _ _ hp1)
 ·rintro i zs G v hv ⟨s,rfl⟩
  have hi:i < cs.length:=by rw [← hul];exact (List.getElem?_eq_some_iff.mp hv).1
  obtain ⟨c,ec⟩:∃ c,cs[i]?=some c:=⟨_,List.getElem?_eq_getElem hi⟩
  obtain ⟨t,rfl,ht⟩:=(hR1.same s).2 i v c hv ec
  walk_at "s"
  refine ⟨KeepSt.set rfl,?_⟩
  walk_at "s"
  refine ⟨t,c,rfl,ht,hk.2 c (List.mem_of_getElem? ec),fun G2 S2=>?_⟩
  walk_at "s"
  refine ⟨s.trans S2,?_⟩
  rw [List.take_add_one,ec,List.map_append,List.map_append]
  rfl
 ·rintro zs G D H' ⟨s,rfl⟩ nD S hD
  rw [hul,List.take_length] at hD
  try walk_at "s"
  refine ⟨D,cs.map cW,rfl,hD,?_,q H' (S1.trans (s.trans S))⟩
  have:=jk (ys:=cs.map cW) (m:=3) fun y hy=>by obtain ⟨n,h,rfl⟩:=List.mem_map.mp hy;exact rO (hk.2 n h)
  rw [List.length_map] at this ⊢
  omega
def za (m:Nat):List Nat:=(Nat.toDigits 10 m).map Char.toNat
theorem rP (m:Nat):(nW m).cps.toList=za m:=PySem.W.KIN.signs_num m
theorem gH {m:Nat} (h:m < 10):za m=[48+m]:=by
 have key:∀ k∈List.range 10,za k=[48+k]:=by trivial
 exact key m (List.mem_range.mpr h)
theorem oN {m:Nat} (h:10<=m):za m=za (m / 10) ++ [48+m % 10]:=by
 have t:Nat.toDigits 10 (m / 10) ++ Nat.toDigits 10 (m % 10)=Nat.toDigits 10 (10*(m / 10)+m % 10):=Nat.toDigits_append_toDigits (by decide) (by omega) (by omega)
 rw [Nat.div_add_mod] at t
 unfold za
 rw [← t,List.map_append]
 congr 1
 exact gH (by omega)
theorem vR:∀ (m c:Nat),c∈za m->48<=c/\c < 58:=by
 intro m
 induction m using Nat.strongRecOn with
 | _ m ih=>
  intro c hc
  by_cases h:m < 10
  ·rw [gH h] at hc
   have:=List.mem_singleton.mp hc
   omega
  ·rw [oN (by omega)] at hc
   rcases List.mem_append.mp hc with hc | hc
   ·exact ih (m / 10) (by omega) c hc
   ·have:=List.mem_singleton.mp hc
    omega
theorem zb:∀ m:Nat,∃ c r,za m=c :: r/\(c=48->r=[]):=by
 intro m
 induction m using Nat.strongRecOn with
 | _ m ih=>
  by_cases h:m < 10
  ·exact ⟨_,[],gH h,fun _=>rfl⟩
  ·obtain ⟨c,r,e,k⟩:=ih (m / 10) (by omega)
   refine ⟨c,r ++ [48+m % 10],by rw [oN (by omega),e];rfl,fun hc=>?_⟩
   subst hc
   have hr:=k rfl
   subst hr
   exfalso
   by_cases h2:m / 10 < 10
   ·rw [gH h2] at e
    have:=(List.cons.inj e).1
    omega
   ·rw [oN (by omega)] at e
    have:=congrArg List.length e
    obtain ⟨c',r',e',_⟩:=ih (m / 10 / 10) (by omega)
    rw [e'] at this
    simp at this
theorem vU:∀ (k m:Nat),m < 10 ^ (k+1)->(za m).length<=k+1
 | 0,m,h=>by rw [gH (by simpa using h)];simp
 | k+1,m,h=>by
  by_cases h2:m < 10
  ·rw [gH h2];simp
  ·rw [oN (by omega),List.length_append]
   have:=vU k (m / 10) (by rw [Nat.pow_succ] at h;omega)
   simp;omega
theorem j8:(["sign"]:List Str).Nodup:=by trivial
theorem kz1f:cG iy "right":=by trivial
theorem BJ:cG bx "word":=by trivial
theorem JH:bH bx "len":=by trivial
theorem kz1i:bH bx "all":=by trivial
theorem kz1j:bH bx "MOST_FIGURES":=by trivial
def JK:Sp:=fun vs H Q _=>∃ v:V,vs=[.bl true,v]/\Q .non H
theorem rQ:aD ["right","word"] ["right","word"] (ak iy):=⟨rfl,rfl,rfl,by trivial,rfl,by trivial,by trivial⟩
theorem aG (T:Txt w K mg):Has P w K mg base 3 "need_word" ["right","word"] JK:=by
 refine cz T.d_need_word rQ (fun _ _ _ _ _ _ us hl=>L2.sr (fun _ _=>rfl) us hl) ?_ fun f cdv A outer s H vs Q E hr h=>?_
 ·rintro vs H Q E ⟨v,rfl,_⟩;rfl
 obtain ⟨v,rfl,q⟩:=h
 have hu:=hr.units0
 have hu64:=hr.units
 refine ⟨_,(az (aV (gm (gn (ao 0 kz1f))) (az pA) aN)),?_⟩
 walk_at "s"
 exact q
theorem GJ:∀ k∈List.range 10,(Builtin.Str.occurrences (Str.ofString "0123456789") ⟨#[48+k]⟩ 0 (Str.ofString "0123456789").length 1).isEmpty=false:=by trivial
theorem BK (m:Nat):(nW m).length=(za m).length:=by rw [← rP];simp [Str.length]
def JL (K:W.Frag):Sp:=fun vs H Q _=>∃ n:Nat,vs=[.str (nW n)]/\n < 10000/\∀ H',Same H H'->Q (.bl true) H'
theorem lZ:aD ["word"] ["word"] (ak bx):=⟨rfl,rfl,rfl,by trivial,rfl,by trivial,by trivial⟩
theorem aW (T:Txt w K mg):Has P w K mg base 1 "is_number_word" ["word"] (JL K):=by
 refine cz T.d_is_number_word lZ (fun _ _ _ _ _ _ us hl=>L2.dq (fun _=>rfl) us hl) ?_ fun f cdv A outer s H vs Q E hr h=>?_
 ·rintro vs H Q E ⟨n,rfl,_⟩;rfl
 obtain ⟨n,rfl,hn,q⟩:=h
 have hu:=hr.units0
 have hu64:=hr.units
 refine ⟨_,(au (aV (m8 (qG (gm (tW vm vm aA (aJ (bQ (K:=K) rfl) (bc JH) T.b_len d7 (aa (ao 0 BJ) aj) (by trivial) (by trivial)) (uM (bc kz1j) T.c_MOST_FIGURES (by trivial)))) (mQ (gm (gn (aJ (cH rfl) (bc kz1i) T.b_all eQ (aa (bA (sub:=[none]) (aL (N:=["word"]) (sc:=ak bx) (N':=["sign"]) (by trivial)) rfl rfl rfl (aX (K:=K) rfl (ao 0 BJ)) (fun C s₀ H₀ ex=>(du 0 (by trivial) j8)) (fun C s₀ H₀ ex=>aR) (fun C s₀ H₀ ex=>(ir (uT (K:=K) rfl hu64) (bI 0 (by trivial)) (dN (jL (by trivial)) T.c_FIGURES (by trivial)) (by walk_at "p")))) aj) (by trivial) (by trivial))))))) (az (aB pZ)) aN) (az (aB (Jl (ir (aP (K:=K) rfl hu64) (aJ (bQ (K:=K) rfl) (bc JH) T.b_len d7 (aa (ao 0 BJ) aj) (by trivial) (by trivial)) aA (by walk_at "p")) (jP (ir (lg (K:=K) rfl hu64) (gP (K:=K) rfl (ao 0 BJ) aA) bB (by walk_at "p"))))))),?_⟩
 walk_at "s"
 have hz:20000<=sizeLine:=by decide
 obtain ⟨c,r,ec,kc⟩:=zb n
 have l4:=vU 3 n (by omega)
 have sz:=BK n
 have l1:1<=(za n).length:=by rw [ec];simp
 have lz:(nW n).length<=sizeLine:=by omega
 refine rF lz ?_
 walk_at "s"
 rw [decide_eq_true (show (1:Int)<=((nW n).length:Int) by omega)]
 walk_at "s"
 rw [decide_eq_true (show ((nW n).length:Int)<=4 by omega)]
 walk_at "s"
 refine .inr (.inr ⟨nW n,rfl,?_⟩)
 refine wV (fun i zs G=>G=H/\zs=(List.replicate i true).map V.bl) lz ⟨rfl,rfl⟩ ?_ ?_ ?_
 ·rintro i zs G ⟨_,rfl⟩
  simp
 ·rintro i zs G d hd ⟨rfl,rfl⟩
  rw [rP] at hd
  have hm:=vR n d (List.mem_of_getElem? hd)
  have:=GJ (d - 48) (List.mem_range.mpr (by omega))
  rw [show 48+(d - 48)=d by omega] at this
  walk_at "s"
  refine ⟨KeepSt.set rfl,?_⟩
  walk_at "s"
  rw [this]
  refine ⟨rfl,?_⟩
  rw [List.replicate_succ',List.map_append]
  rfl
 rintro zs G D H2 ⟨rfl,rfl⟩ nD S2 hD
 try walk_at "s"
 refine ⟨D,_,rfl,hD,?_⟩
 rw [show (List.replicate (nW n).cps.size true).all id=true by simp]
 walk_at "s"
 refine rF lz ?_
 walk_at "s"
 by_cases h1:(nW n).length=1
 ·rw [decide_eq_true (show V.int ((nW n).length:Int)=V.int 1 by rw [h1];rfl)]
  show if true=true then _ else _
  walk_at "s"
  exact q H2 S2
 ·rw [decide_eq_false (show ¬ V.int ((nW n).length:Int)=V.int 1 from fun z=>h1 (by have:=V.int.inj z;omega))]
  show if false=true then _ else _
  walk_at "s"
  refine vG lz (dZ (j:=0) (by rw [rP,ec];rfl)) ?_
  walk_at "s"
  have hc:c≠48:=fun z=>h1 (by rw [sz,ec,kc z];rfl)
  rw [show decide (V.str ⟨#[c]⟩=V.str (Str.ofString "0"))=false by rw [show Str.ofString "0"=⟨#[48]⟩ by trivial,yZ];exact decide_eq_false hc]
  exact q H2 S2
theorem BL:cG cZ "word":=by trivial
theorem kz1l:bH cZ "NOTHING":=by trivial
theorem kz1m:bH cZ "need_word":=by trivial
theorem kz1n:bH cZ "isinstance":=by trivial
theorem kz1o:bH cZ "str":=by trivial
theorem vV {ys:List Str} {c:Nat} (hf:∀ y∈ys,45 ∉ y.cps.toList) (hc:c≠45) (hn:ys≠[]):Str.join ⟨#[c]⟩ ys≠Str.ofString "-":=fun e=>by
 have h:=gG c ys hn
 rw [e,show (Str.ofString "-").cps.toList=[45] by trivial] at h
 cases ys with
 | nil=>exact hn rfl
 | cons y ys=>
  have h':[45] ++ [c]=y.cps.toList ++ c :: glue c (ys.map fun p=>p.cps.toList):=h
  have h1:=hf y (by simp)
  cases hy:y.cps.toList with
  | nil=>rw [hy] at h';simp at h';exact hc h'.1.symm
  | cons a b=>rw [hy] at h' h1;simp at h';exact h1 (by rw [← h'.1];simp)
def BP (K:W.Frag):Sp:=fun vs H Q _=>∃ ys:List Str,vs=[.str (lW 44 ys)]/\(∀ y∈ys,44 ∉ y.cps.toList/\45 ∉ y.cps.toList)/\(lW 44 ys).length+2<=sizeLine/\∀ q H',H q=none->Same H H'->H' q=some (.lst (ys.map V.str))->Q (.ref q) H'
theorem ue:aD ["word"] ["word"] (ak cZ):=⟨rfl,rfl,rfl,by trivial,rfl,by trivial,by trivial⟩
theorem cP (T:Txt w K mg):Has P w K mg base 4 "parts_of" ["word"] (BP K):=by
 have aG:=aG (P:=P) (w:=w) (base:=base) T
 refine cz T.d_parts_of ue (fun _ _ _ _ _ _ us hl=>L2.dq (fun _=>rfl) us hl) ?_ fun f cdv A outer s H vs Q E hr h=>?_
 ·rintro vs H Q E ⟨ys,rfl,_⟩;rfl
 obtain ⟨ys,rfl,hf,hl,q⟩:=h
 have hu:=hr.units0
 have hu64:=hr.units
 refine ⟨_,(au (bZ (aC aG (hr.mono (by decide)) (bc kz1m) (aa (aJ (bR (K:=K) rfl) (bc kz1n) T.b_isinstance aQ (aa (ao 0 BL) (aa (lO (bc kz1o) T.b_str fL (by trivial) (by trivial)) aj)) (by trivial) (by trivial)) (aa (ao 0 BL) aj)) (by trivial))) (az (aB (wK (aM (aP (K:=K) rfl hu64) (ao 0 BL) (dN (bc kz1l) T.c_NOTHING (by trivial)) (by walk_at "p")) (jE aj) (cU (K:=K) rfl PySem.F.plainAttrs_str PySem.F.slot_str_split PySem.F.type_str_split jR (ao 0 BL) (aa bB aj)))))),?_⟩
 walk_at "s"
 refine gO (.str _) rfl ?_
 walk_at "s"
 refine ⟨_,rfl,?_⟩
 walk_at "s"
 by_cases h:ys=[]
 ·subst h
  rw [decide_eq_true (show V.str (lW 44 [])=V.str (Str.ofString "-") from rfl)]
  walk_at "s"
  refine dw rfl fun p H1 np S1 hp=>?_
  walk_at "s"
  exact q p H1 np S1 hp
 ·have e:lW 44 ys=Str.join ⟨#[44]⟩ ys:=by unfold lW;rw [if_neg h]
  rw [decide_eq_false (show ¬ V.str (lW 44 ys)=V.str (Str.ofString "-") from fun z=>vV (fun y hy=>(hf y hy).2) (by decide) h (e ▸ V.str.inj z))]
  walk_at "s"
  refine ⟨rfl,?_⟩
  walk_at "s"
  refine lU (by trivial) hl fun p np=>?_
  walk_at "s"
  rw [comma,e,ji h fun y hy=>(hf y hy).1]
  exact q p _ np ((Same.refl H).upd np) aq
theorem mj:(["part"]:List Str).Nodup:=by trivial
theorem mq:(["part"]:List Str).Nodup:=by trivial
theorem GK:cG bh "parts":=by trivial
theorem kz1q:bH bh "need_word":=by trivial
theorem JM:cG bh "word":=by trivial
theorem kz1s:bH bh "all":=by trivial
theorem kz1t:bH bh "parts_of":=by trivial
theorem kz1u:bH bK "int":=by trivial
theorem BR:cG bK "word":=by trivial
theorem kz1w:bH bK "need_word":=by trivial
theorem kz1x:bH bK "is_number_word":=by trivial
theorem kz1y:bH bK "isinstance":=by trivial
theorem kz1z:bH bK "str":=by trivial
theorem Same.put {H H':Hp} {p:Addr} {o:HO} (s:Same H H') (hn:H p=none):Same H (upd H' p o):=fun b u e=>by
 rw [aK (fun z=>by rw [z,hn] at e;cases e)]
 exact s b u e
theorem Same.back {H H':Hp} {p:Addr} (s:Same H H') (h:H' p=none):H p=none:=by
 cases e:H p with
 | none=>rfl
 | some o=>rw [s _ _ e] at h;cases h
theorem j6 {n c:Nat} (h:c < 48\/58<=c):c ∉ (nW n).cps.toList:=fun z=>by
 rw [rP] at z
 have:=vR n c z
 omega
theorem zc {ns:List Nat}:∀ y∈ns.map nW,44 ∉ y.cps.toList/\45 ∉ y.cps.toList:=fun y hy=>by
 obtain ⟨n,_,rfl⟩:=List.mem_map.mp hy
 exact ⟨j6 (.inl (by omega)),j6 (.inl (by omega))⟩
theorem rR {n:Nat} (h:n < 10000):intText? (nW n)=some (n:Int):=PySem.W.KIN.num_reads (by omega) (by omega)
theorem BV {ns:List Nat} (h:∀ n∈ns,n < 10000) (hl:ns.length<=1000):(lW 44 (ns.map nW)).length+2<=sizeLine:=by
 have:=mU (c:=44) (ys:=ns.map nW) (m:=5) fun y hy=>by obtain ⟨n,hn,rfl⟩:=List.mem_map.mp hy;exact fG (h n hn)
 rw [List.length_map] at this
 have:20000<=sizeLine:=by decide
 omega
def BW (K:W.Frag):Sp:=fun vs H Q _=>∃ ns:List Nat,vs=[.str (lW 44 (ns.map nW))]/\ns.length<=1000/\(∀ n∈ns,n < 10000)/\∀ q H',H q=none->Same H H'->H' q=some (.lst (ns.map fun n:Nat=>V.int (n:Int)))->Q (.ref q) H'
theorem jG:aD ["word","parts"] ["word"] (ak bh):=⟨rfl,rfl,rfl,by trivial,rfl,by trivial,by trivial⟩
theorem g8 (T:Txt w K mg):Has P w K mg base 5 "read_numbers" ["word"] (BW K):=by
 have cP:=cP (P:=P) (w:=w) (base:=base) T
 have aG:=aG (P:=P) (w:=w) (base:=base) T
 have aW:=aW (P:=P) (w:=w) (base:=base) T
 refine cz T.d_read_numbers jG (fun _ _ _ _ _ _ us hl=>L2.dq (fun _=>rfl) us hl) ?_ fun f cdv A outer s H vs Q E hr h=>?_
 ·rintro vs H Q E ⟨ns,rfl,_⟩;rfl
 obtain ⟨ns,rfl,hl,hn,q⟩:=h
 have hu:=hr.units0
 have hu64:=hr.units
 refine ⟨_,(au (aY (i:=1) jG.nd rfl (Or.inl GK) (aC cP (hr.mono (by decide)) (bc kz1t) (aa (ao 0 JM) aj) (by trivial)) rfl) (au (bZ (aC aG (hr.mono (by decide)) (bc kz1q) (aa (aJ (cH rfl) (bc kz1s) T.b_all eQ (aa (bA (sub:=[none]) (aL (N:=["word","parts"]) (sc:=ak bh) (N':=["part"]) (by trivial)) rfl rfl rfl (aX (K:=K) rfl (ao 1 GK)) (fun C s₀ H₀ ex=>(du 0 (by trivial) mq)) (fun C s₀ H₀ ex=>aR) (fun C s₀ H₀ ex=>(aC aW (hr.mono (by decide)) (jL (by trivial)) (aa (bI 0 (by trivial)) aj) (by trivial)))) aj) (by trivial) (by trivial)) (aa (ao 0 JM) aj)) (by trivial))) (az (aB (bA (sub:=[none]) (aL (N:=["word","parts"]) (sc:=ak bh) (N':=["part"]) (by trivial)) rfl rfl rfl (aX (K:=K) rfl (ao 1 GK)) (fun C s₀ H₀ ex=>(du 0 (by trivial) mj)) (fun C s₀ H₀ ex=>aR) (fun C s₀ H₀ ex=>(b8 j4 (jL (by trivial)) T.b_int ph (aa (bI 0 (by trivial)) aj) (by trivial) (by trivial)))))))),?_⟩
 walk_at "s"
 have hz:20000<=sizeLine:=by decide
 refine ⟨ns.map nW,rfl,zc,BV hn hl,fun p H1 np S1 hp=>?_⟩
 walk_at "s"
 refine .inl ⟨p,rfl,⟨_,SqL.of hp⟩,?_⟩
 refine aH (xs:=(ns.map nW).map V.str) (fun i zs G=>Same H1 G/\zs=(List.replicate i true).map V.bl) (by rw [List.length_map,List.length_map];omega) ⟨Same.refl H1,rfl⟩ ?_ ?_ ?_ ?_
 ·rintro i zs G ⟨_,rfl⟩
  simp
 ·rintro i zs G ⟨s,_⟩
  exact SqL.of (s _ _ hp)
 ·rintro i zs G v hv ⟨s,rfl⟩
  rw [List.map_map,List.getElem?_map] at hv
  obtain ⟨n,en,rfl⟩:=Option.map_eq_some_iff.mp hv
  walk_at "s"
  refine ⟨KeepSt.set rfl,?_⟩
  walk_at "s"
  refine ⟨n,rfl,hn n (List.mem_of_getElem? en),fun G2 S2=>?_⟩
  walk_at "s"
  refine ⟨s.trans S2,?_⟩
  rw [List.replicate_succ',List.map_append]
  rfl
 rintro zs G D H2 ⟨s,rfl⟩ nD S2 hD
 try walk_at "s"
 refine ⟨D,_,rfl,hD,?_⟩
 rw [show (List.replicate ((ns.map nW).map V.str).length true).all id=true by simp]
 walk_at "s"
 refine ⟨_,rfl,?_⟩
 walk_at "s"
 have hp2:=(s.trans S2) _ _ hp
 have U2:=S1.trans (s.trans S2)
 refine .inl ⟨p,rfl,⟨_,SqL.of hp2⟩,?_⟩
 refine aH (xs:=(ns.map nW).map V.str) (fun i zs G=>G=H2/\zs=(ns.take i).map fun n:Nat=>V.int (n:Int)) (by rw [List.length_map,List.length_map];omega) ⟨rfl,rfl⟩ ?_ ?_ ?_ ?_
 ·rintro i zs G ⟨_,rfl⟩
  rw [List.length_map,List.length_take];omega
 ·rintro i zs G ⟨rfl,_⟩
  exact SqL.of hp2
 ·rintro i zs G v hv ⟨rfl,rfl⟩
  rw [List.map_map,List.getElem?_map] at hv
  obtain ⟨n,en,rfl⟩:=Option.map_eq_some_iff.mp hv
  have hnn:=hn n (List.mem_of_getElem? en)
  walk_at "s"
  refine ⟨KeepSt.set rfl,?_⟩
  walk_at "s"
  refine rJ (rR hnn) (Nat.le_trans (fG hnn) (by omega)) ?_
  walk_at "s"
  refine ⟨rfl,?_⟩
  rw [List.take_add_one,en,List.map_append]
  rfl
 ·rintro zs G D2 H3 ⟨rfl,rfl⟩ nD2 S3 hD2
  rw [List.length_map,List.length_map,List.take_length] at hD2
  exact q D2 H3 (Same.back U2 nD2) (U2.trans S3) hD2
def GP (K:W.Frag):Sp:=fun vs H Q _=>∃ n:Nat,vs=[.str (nW n)]/\n < 10000/\∀ H',Same H H'->Q (.int (n:Int)) H'
theorem pI:aD ["word"] ["word"] (ak bK):=⟨rfl,rfl,rfl,by trivial,rfl,by trivial,by trivial⟩
theorem iI (T:Txt w K mg):Has P w K mg base 4 "read_number" ["word"] (GP K):=by
 have aG:=aG (P:=P) (w:=w) (base:=base) T
 have aW:=aW (P:=P) (w:=w) (base:=base) T
 refine cz T.d_read_number pI (fun _ _ _ _ _ _ us hl=>L2.dq (fun _=>rfl) us hl) ?_ fun f cdv A outer s H vs Q E hr h=>?_
 ·rintro vs H Q E ⟨n,rfl,_⟩;rfl
 obtain ⟨n,rfl,hn,q⟩:=h
 have hu:=hr.units0
 have hu64:=hr.units
 refine ⟨_,(au (bZ (aC aG (hr.mono (by decide)) (bc kz1w) (aa (kE (aJ (bR (K:=K) rfl) (bc kz1y) T.b_isinstance aQ (aa (ao 0 BR) (aa (lO (bc kz1z) T.b_str fL (by trivial) (by trivial)) aj)) (by trivial) (by trivial)) (jP (aC aW (hr.mono (by decide)) (bc kz1x) (aa (ao 0 BR) aj) (by trivial)))) (aa (ao 0 BR) aj)) (by trivial))) (az (aB (b8 j4 (bc kz1u) T.b_int ph (aa (ao 0 BR) aj) (by trivial) (by trivial))))),?_⟩
 walk_at "s"
 refine gO (.str _) rfl ?_
 walk_at "s"
 refine ⟨n,rfl,hn,fun H1 S1=>?_⟩
 walk_at "s"
 refine ⟨_,rfl,?_⟩
 walk_at "s"
 refine rJ (rR hn) (Nat.le_trans (fG hn) (by omega)) ?_
 walk_at "s"
 exact q H1 S1
theorem my:(["number"]:List Str).Nodup:=by trivial
theorem kz20:bH bO "all":=by trivial
theorem GQ:cG bO "numbers":=by trivial
theorem kz22:bH bO "len":=by trivial
theorem kz23:cG bO "word":=by trivial
theorem JN:bH dW "int":=by trivial
theorem GR:cG dW "numbers":=by trivial
theorem kz26:cG dW "word":=by trivial
theorem uf (p:Nat×Nat):Txt.split (pW p) ⟨#[58]⟩=[nW p.1,nW p.2]:=by
 unfold pW
 rw [ji (by simp)]
 intro y hy
 rcases List.mem_cons.mp hy with rfl | hy
 ·exact j6 (.inr (by omega))
 ·rw [List.mem_singleton.mp hy]
  exact j6 (.inr (by omega))
def JP (K:W.Frag):Sp:=fun vs H Q _=>∃ p:Nat×Nat,vs=[.str (pW p)]/\p.1 < 10000/\p.2 < 10000/\∀ H',Same H H'->Q (.bl true) H'
theorem jH:aD ["word","numbers"] ["word"] (ak bO):=⟨rfl,rfl,rfl,by trivial,rfl,by trivial,by trivial⟩
theorem cL (T:Txt w K mg):Has P w K mg base 2 "is_pair_word" ["word"] (JP K):=by
 have aW:=aW (P:=P) (w:=w) (base:=base) T
 refine cz T.d_is_pair_word jH (fun _ _ _ _ _ _ us hl=>L2.dq (fun _=>rfl) us hl) ?_ fun f cdv A outer s H vs Q E hr h=>?_
 ·rintro vs H Q E ⟨p,rfl,_⟩;rfl
 obtain ⟨p,rfl,h1,h2,q⟩:=h
 have hu:=hr.units0
 have hu64:=hr.units
 refine ⟨_,(au (aY (i:=1) jH.nd rfl (Or.inl GQ) (cU (K:=K) rfl PySem.F.plainAttrs_str PySem.F.slot_str_split PySem.F.type_str_split jR (ao 0 kz23) (aa bB aj)) rfl) (az (aB (kE (ir (aP (K:=K) rfl hu64) (aJ (bQ (K:=K) rfl) (bc kz22) T.b_len d7 (aa (ao 1 GQ) aj) (by trivial) (by trivial)) aA (by walk_at "p")) (jP (aJ (cH rfl) (bc kz20) T.b_all eQ (aa (bA (sub:=[none]) (aL (N:=["word","numbers"]) (sc:=ak bO) (N':=["number"]) (by trivial)) rfl rfl rfl (aX (K:=K) rfl (ao 1 GQ)) (fun C s₀ H₀ ex=>(du 0 (by trivial) my)) (fun C s₀ H₀ ex=>aR) (fun C s₀ H₀ ex=>(aC aW (hr.mono (by decide)) (jL (by trivial)) (aa (bI 0 (by trivial)) aj) (by trivial)))) aj) (by trivial) (by trivial))))))),?_⟩
 walk_at "s"
 have hz:20000<=sizeLine:=by decide
 refine ⟨rfl,?_⟩
 walk_at "s"
 refine lU (by trivial) (by have:=lr ⟨h1,h2⟩;omega) fun a na=>?_
 walk_at "s"
 rw [colon,uf]
 walk_at "s"
 have S1:=(Same.refl H).upd (o:=.lst ([nW p.1,nW p.2].map V.str)) na
 have hp:upd H a (.lst ([nW p.1,nW p.2].map V.str)) a=_:=aq
 revert S1 hp
 generalize upd H a (.lst ([nW p.1,nW p.2].map V.str))=H1
 intro S1 hp
 refine jO (SqL.of hp) ?_
 walk_at "s"
 rw [decide_eq_true (show V.int ((([nW p.1,nW p.2].map V.str).length:Nat):Int)=V.int 2 from rfl)]
 show if true=true then _ else _
 walk_at "s"
 refine .inl ⟨a,rfl,⟨_,SqL.of hp⟩,?_⟩
 refine aH (xs:=[nW p.1,nW p.2].map V.str) (fun i zs G=>Same H1 G/\zs=(List.replicate i true).map V.bl) (by simp;omega) ⟨Same.refl H1,rfl⟩ ?_ ?_ ?_ ?_
 ·rintro i zs G ⟨_,rfl⟩
  simp
 ·rintro i zs G ⟨s,_⟩
  exact SqL.of (s _ _ hp)
 ·rintro i zs G v hv ⟨s,rfl⟩
  have hv':∃ n:Nat,n < 10000/\v= .str (nW n):=by
   rw [List.getElem?_map] at hv
   obtain ⟨y,ey,rfl⟩:=Option.map_eq_some_iff.mp hv
   rcases List.mem_cons.mp (List.mem_of_getElem? ey) with rfl | hy
   ·exact ⟨_,h1,rfl⟩
   ·rw [List.mem_singleton.mp hy]
    exact ⟨_,h2,rfl⟩
  obtain ⟨n,hn,rfl⟩:=hv'
  walk_at "s"
  refine ⟨KeepSt.set rfl,?_⟩
  walk_at "s"
  refine ⟨n,rfl,hn,fun G2 S2=>?_⟩
  walk_at "s"
  refine ⟨s.trans S2,?_⟩
  rw [List.replicate_succ',List.map_append]
  rfl
 rintro zs G D H2 ⟨s,rfl⟩ nD S2 hD
 try walk_at "s"
 refine ⟨D,_,rfl,hD,?_⟩
 rw [show (List.replicate ([nW p.1,nW p.2].map V.str).length true).all id=true by simp]
 exact q H2 (S1.trans (s.trans S2))
def JQ (K:W.Frag):Sp:=fun vs H Q _=>∃ p:Nat×Nat,vs=[.str (pW p)]/\p.1 < 10000/\p.2 < 10000/\∀ t H',H t=none->Same H H'->H' t=some (.tup [.int (p.1:Int),.int (p.2:Int)])->Q (.ref t) H'
theorem mz:aD ["word","numbers"] ["word"] (ak dW):=⟨rfl,rfl,rfl,by trivial,rfl,by trivial,by trivial⟩
theorem dX (T:Txt w K mg):Has P w K mg base 1 "pair_read" ["word"] (JQ K):=by
 refine cz T.d_pair_read mz (fun _ _ _ _ _ _ us hl=>L2.dq (fun _=>rfl) us hl) ?_ fun f cdv A outer s H vs Q E hr h=>?_
 ·rintro vs H Q E ⟨p,rfl,_⟩;rfl
 obtain ⟨p,rfl,h1,h2,q⟩:=h
 have hu:=hr.units0
 have hu64:=hr.units
 refine ⟨_,(au (aY (i:=1) mz.nd rfl (Or.inl GR) (cU (K:=K) rfl PySem.F.plainAttrs_str PySem.F.slot_str_split PySem.F.type_str_split jR (ao 0 kz26) (aa bB aj)) rfl) (az (aB (tQ (aa (b8 j4 (bc JN) T.b_int ph (aa (gP (K:=K) rfl (ao 1 GR) aA) aj) (by trivial) (by trivial)) (aa (b8 j4 (bc JN) T.b_int ph (aa (gP (K:=K) rfl (ao 1 GR) aA) aj) (by trivial) (by trivial)) aj)))))),?_⟩
 walk_at "s"
 have hz:20000<=sizeLine:=by decide
 refine ⟨rfl,?_⟩
 walk_at "s"
 refine lU (by trivial) (by have:=lr ⟨h1,h2⟩;omega) fun a na=>?_
 walk_at "s"
 rw [colon,uf]
 walk_at "s"
 refine rJ (rR h1) (Nat.le_trans (fG h1) (by omega)) ?_
 walk_at "s"
 refine rJ (rR h2) (Nat.le_trans (fG h2) (by omega)) ?_
 walk_at "s"
 refine dw rfl fun t H1 nt S1 ht=>?_
 walk_at "s"
 have S0:=(Same.refl H).upd (o:=.lst ([nW p.1,nW p.2].map V.str)) na
 exact q t H1 (Same.back S0 nt) (S0.trans S1) ht
theorem ou:(["part"]:List Str).Nodup:=by trivial
theorem oA:(["part"]:List Str).Nodup:=by trivial
theorem GX:cG bL "parts":=by trivial
theorem kz28:bH bL "need_word":=by trivial
theorem JR:cG bL "word":=by trivial
theorem kz2a:bH bL "all":=by trivial
theorem kz2b:bH bL "parts_of":=by trivial
theorem oO {p:Nat×Nat} {c:Nat} (h:c < 48\/59<=c):c ∉ (pW p).cps.toList:=fun z=>by
 have h':=gG 58 [nW p.1,nW p.2] (by simp)
 have z':c∈(pW p).cps.toList ++ [58]:=List.mem_append.mpr (.inl z)
 unfold pW at z'
 rw [h'] at z'
 have z2:c∈(nW p.1).cps.toList ++ 58 :: ((nW p.2).cps.toList ++ 58 :: []):=z'
 rcases List.mem_append.mp z2 with z3 | z3
 ·exact j6 (by omega) z3
 ·rcases List.mem_cons.mp z3 with z4 | z4
  ·omega
  ·rcases List.mem_append.mp z4 with z5 | z5
   ·exact j6 (by omega) z5
   ·have:=List.mem_singleton.mp z5;omega
theorem ug {ps:List (Nat×Nat)}:∀ y∈ps.map pW,44 ∉ y.cps.toList/\45 ∉ y.cps.toList:=fun y hy=>by
 obtain ⟨n,_,rfl⟩:=List.mem_map.mp hy
 exact ⟨oO (.inl (by omega)),oO (.inl (by omega))⟩
theorem BX {ps:List (Nat×Nat)} (h:xx ps):(lW 44 (ps.map pW)).length+2<=sizeLine:=by
 have:=mU (c:=44) (ys:=ps.map pW) (m:=12) fun y hy=>by obtain ⟨n,hn,rfl⟩:=List.mem_map.mp hy;exact lr (h.2 n hn)
 rw [List.length_map] at this
 have:20000<=sizeLine:=by decide
 have:=h.1
 omega
def zf (K:W.Frag):Sp:=fun vs H Q _=>∃ ps:List (Nat×Nat),vs=[.str (lW 44 (ps.map pW))]/\xx ps/\∀ q us H',H q=none->Same H H'->H' q=some (.lst us)->RP H' us ps->Q (.ref q) H'
theorem kI:aD ["word","parts"] ["word"] (ak bL):=⟨rfl,rfl,rfl,by trivial,rfl,by trivial,by trivial⟩
theorem jn (T:Txt w K mg):Has P w K mg base 5 "read_pairs" ["word"] (zf K):=by
 have cP:=cP (P:=P) (w:=w) (base:=base) T
 have aG:=aG (P:=P) (w:=w) (base:=base) T
 have cL:=cL (P:=P) (w:=w) (base:=base) T
 have dX:=dX (P:=P) (w:=w) (base:=base) T
 refine cz T.d_read_pairs kI (fun _ _ _ _ _ _ us hl=>L2.dq (fun _=>rfl) us hl) ?_ fun f cdv A outer s H vs Q E hr h=>?_
 ·rintro vs H Q E ⟨ps,rfl,_⟩;rfl
 obtain ⟨ps,rfl,ok,q⟩:=h
 have hu:=hr.units0
 have hu64:=hr.units
 refine ⟨_,(au (aY (i:=1) kI.nd rfl (Or.inl GX) (aC cP (hr.mono (by decide)) (bc kz2b) (aa (ao 0 JR) aj) (by trivial)) rfl) (au (bZ (aC aG (hr.mono (by decide)) (bc kz28) (aa (aJ (cH rfl) (bc kz2a) T.b_all eQ (aa (bA (sub:=[none]) (aL (N:=["word","parts"]) (sc:=ak bL) (N':=["part"]) (by trivial)) rfl rfl rfl (aX (K:=K) rfl (ao 1 GX)) (fun C s₀ H₀ ex=>(du 0 (by trivial) oA)) (fun C s₀ H₀ ex=>aR) (fun C s₀ H₀ ex=>(aC cL (hr.mono (by decide)) (jL (by trivial)) (aa (bI 0 (by trivial)) aj) (by trivial)))) aj) (by trivial) (by trivial)) (aa (ao 0 JR) aj)) (by trivial))) (az (aB (bA (sub:=[none]) (aL (N:=["word","parts"]) (sc:=ak bL) (N':=["part"]) (by trivial)) rfl rfl rfl (aX (K:=K) rfl (ao 1 GX)) (fun C s₀ H₀ ex=>(du 0 (by trivial) ou)) (fun C s₀ H₀ ex=>aR) (fun C s₀ H₀ ex=>(aC dX (hr.mono (by decide)) (jL (by trivial)) (aa (bI 0 (by trivial)) aj) (by trivial)))))))),?_⟩
 walk_at "s"
 have hz:20000<=sizeLine:=by decide
 have hl:=ok.1
 refine ⟨ps.map pW,rfl,ug,BX ok,fun p H1 np S1 hp=>?_⟩
 walk_at "s"
 refine .inl ⟨p,rfl,⟨_,SqL.of hp⟩,?_⟩
 refine aH (xs:=(ps.map pW).map V.str) (fun i zs G=>Same H1 G/\zs=(List.replicate i true).map V.bl) (by rw [List.length_map,List.length_map];omega) ⟨Same.refl H1,rfl⟩ ?_ ?_ ?_ ?_
 ·rintro i zs G ⟨_,rfl⟩
  simp
 ·rintro i zs G ⟨s,_⟩
  exact SqL.of (s _ _ hp)
 ·rintro i zs G v hv ⟨s,rfl⟩
  rw [List.map_map,List.getElem?_map] at hv
  obtain ⟨n,en,rfl⟩:=Option.map_eq_some_iff.mp hv
  have hn:=ok.2 n (List.mem_of_getElem? en)
  walk_at "s"
  refine ⟨KeepSt.set rfl,?_⟩
  walk_at "s"
  refine ⟨n,rfl,hn.1,hn.2,fun G2 S2=>?_⟩
  walk_at "s"
  refine ⟨s.trans S2,?_⟩
  rw [List.replicate_succ',List.map_append]
  rfl
 rintro zs G D H2 ⟨s,rfl⟩ nD S2 hD
 try walk_at "s"
 refine ⟨D,_,rfl,hD,?_⟩
 rw [show (List.replicate ((ps.map pW).map V.str).length true).all id=true by simp]
 walk_at "s"
 refine ⟨_,rfl,?_⟩
 walk_at "s"
 have hp2:=(s.trans S2) _ _ hp
 have U2:=S1.trans (s.trans S2)
 refine .inl ⟨p,rfl,⟨_,SqL.of hp2⟩,?_⟩
 refine aH (xs:=(ps.map pW).map V.str) (fun i zs G=>Same H2 G/\i<=ps.length/\RP G zs (ps.take i)) (by rw [List.length_map,List.length_map];omega) ⟨Same.refl H2,Nat.zero_le _,rfl,fun i v p e=>by cases e⟩ ?_ ?_ ?_ ?_
 ·rintro i zs G ⟨_,hi,r⟩
  rw [r.1,List.length_take];omega
 ·rintro i zs G ⟨s,_⟩
  exact SqL.of (s _ _ hp2)
 ·rintro i zs G v hv ⟨s,hi,r⟩
  rw [List.map_map,List.getElem?_map] at hv
  obtain ⟨n,en,rfl⟩:=Option.map_eq_some_iff.mp hv
  have hn:=ok.2 n (List.mem_of_getElem? en)
  have hlt:=(List.getElem?_eq_some_iff.mp en).1
  walk_at "s"
  refine ⟨KeepSt.set rfl,?_⟩
  walk_at "s"
  refine ⟨n,rfl,hn.1,hn.2,fun t G2 nt S2 ht=>?_⟩
  walk_at "s"
  refine ⟨s.trans S2,hlt,?_⟩
  have r2:=r.same S2
  have lz:zs.length=i:=by rw [r.1,List.length_take];omega
  rw [List.take_add_one,en]
  refine ⟨by rw [List.length_append,List.length_append,r.1];rfl,fun j v p e1 e2=>?_⟩
  by_cases hj:j < i
  ·rw [List.getElem?_append_left (by omega)] at e1
   rw [List.getElem?_append_left (by rw [List.length_take];omega)] at e2
   exact r2.2 j v p e1 e2
  ·have hj2:j=i:=by
    have:=(List.getElem?_eq_some_iff.mp e1).1
    rw [List.length_append,lz] at this
    simp at this;omega
   subst hj2
   rw [List.getElem?_append_right (by omega),lz,Nat.sub_self] at e1
   rw [List.getElem?_append_right (by rw [List.length_take];omega),List.length_take,Nat.min_eq_left (by omega),Nat.sub_self] at e2
   cases e1;cases e2
   exact ⟨t,rfl,ht⟩
 ·rintro zs G D2 H3 ⟨s3,hi,r⟩ nD2 S3 hD2
  rw [List.length_map,List.length_map,List.take_length] at r
  exact q D2 zs H3 (Same.back (U2.trans s3) nD2) ((U2.trans s3).trans S3) hD2 (r.same S3)
theorem w5:cG dR "word":=by trivial
theorem JV:bH dR "NOTHING":=by trivial
theorem kz2e:bH dR "need_word":=by trivial
theorem kz2f:bH dR "is_row":=by trivial
theorem BZ:∀ c∈GOOD,c≠45:=by trivial
def GZ (K:W.Frag):Sp:=fun vs H Q _=>∃ z:Str,vs=[.str (rW z)]/\Row z/\∀ H',Same H H'->Q (.str z) H'
theorem uh:aD ["word"] ["word"] (ak dR):=⟨rfl,rfl,rfl,by trivial,rfl,by trivial,by trivial⟩
theorem lB (T:Txt w K mg):Has P w K mg base 4 "read_row" ["word"] (GZ K):=by
 have aG:=aG (P:=P) (w:=w) (base:=base) T
 have iW:=iW (P:=P) (w:=w) (base:=base) T
 refine cz T.d_read_row uh (fun _ _ _ _ _ _ us hl=>L2.dq (fun _=>rfl) us hl) ?_ fun f cdv A outer s H vs Q E hr h=>?_
 ·rintro vs H Q E ⟨z,rfl,_⟩;rfl
 obtain ⟨z,rfl,hrw,q⟩:=h
 have hu:=hr.units0
 have hu64:=hr.units
 refine ⟨_,(au (bZ (aC aG (hr.mono (by decide)) (bc kz2e) (aa (Jl (ir (aP (K:=K) rfl hu64) (ao 0 w5) (dN (bc JV) T.c_NOTHING (by trivial)) (by walk_at "p")) (jP (kE (aC iW (hr.mono (by decide)) (bc kz2f) (aa (ao 0 w5) aj) (by trivial)) (jP (ir (lg (K:=K) rfl hu64) (ao 0 w5) bB (by walk_at "p")))))) (aa (ao 0 w5) aj)) (by trivial))) (az (aB (wK (aM (aP (K:=K) rfl hu64) (ao 0 w5) (dN (bc JV) T.c_NOTHING (by trivial)) (by walk_at "p")) bB (ao 0 w5))))),?_⟩
 walk_at "s"
 by_cases h:z.cps.size=0
 ·have e:rW z=Str.ofString "-":=if_pos h
  have ez:z=Str.ofString "":=j5.mpr h
  rw [e]
  rw [decide_eq_true (show V.str (Str.ofString "-")=V.str (Str.ofString "-") from rfl)]
  walk_at "s"
  refine ⟨_,rfl,?_⟩
  walk_at "s"
  rw [decide_eq_true (show V.str (Str.ofString "-")=V.str (Str.ofString "-") from rfl)]
  walk_at "s"
  rw [ez] at q
  exact q H (Same.refl H)
 ·have e:rW z=z:=if_neg h
  have nd:z≠Str.ofString "-":=fun x=>by
   have:=hrw.2 45 (by rw [x];trivial)
   exact BZ 45 this rfl
  rw [e]
  rw [decide_eq_false (show ¬ V.str z=V.str (Str.ofString "-") from fun x=>nd (V.str.inj x))]
  walk_at "s"
  refine ⟨z,rfl,hrw,fun H1 S1=>?_⟩
  walk_at "s"
  rw [decide_eq_false (show ¬ V.str z=V.str (Str.ofString "") from fun x=>h (j5.mp (V.str.inj x)))]
  walk_at "s"
  refine ⟨_,rfl,?_⟩
  walk_at "s"
  rw [decide_eq_false (show ¬ V.str z=V.str (Str.ofString "-") from fun x=>nd (V.str.inj x))]
  walk_at "s"
  exact q H1 S1
theorem vW {ps:List (Nat×Nat)} (hn:ps≠[]) {c:Nat} (h:c∈(jl ps).cps.toList):c=44\/∃ p∈ps,c∈(pW p).cps.toList:=by
 have hn':ps.map pW≠[]:=by simpa using hn
 have e:jl ps=Str.join ⟨#[44]⟩ (ps.map pW):=by unfold jl lW;rw [if_neg hn']
 have g:=gG 44 (ps.map pW) hn'
 have z:c∈(jl ps).cps.toList ++ [44]:=List.mem_append.mpr (.inl h)
 rw [e,g] at z
 clear g e h hn hn'
 induction ps with
 | nil=>cases z
 | cons p ps ih=>
  have z2:c∈(pW p).cps.toList ++ 44 :: glue 44 ((ps.map pW).map fun p=>p.cps.toList):=z
  rcases List.mem_append.mp z2 with z3 | z3
  ·exact .inr ⟨p,by simp,z3⟩
  ·rcases List.mem_cons.mp z3 with z4 | z4
   ·exact .inl z4
   ·rcases ih z4 with r | ⟨q,hq,r⟩
    ·exact .inl r
    ·exact .inr ⟨q,by simp [hq],r⟩
theorem qO {hs:List (List (Nat×Nat))} (hn:∀ ps∈hs,ps≠[]):∀ y∈hs.map jl,47 ∉ y.cps.toList/\45 ∉ y.cps.toList:=fun y hy=>by
 obtain ⟨ps,hp,rfl⟩:=List.mem_map.mp hy
 refine ⟨fun z=>?_,fun z=>?_⟩
 ·rcases vW (hn _ hp) z with r | ⟨q,_,r⟩
  ·omega
  ·exact oO (.inl (by omega)) r
 ·rcases vW (hn _ hp) z with r | ⟨q,_,r⟩
  ·omega
  ·exact oO (.inl (by omega)) r
theorem w6 {ps:List (Nat×Nat)} (hn:ps≠[]):Txt.split (jl ps) ⟨#[44]⟩=ps.map pW:=by
 have hn':ps.map pW≠[]:=by simpa using hn
 have e:jl ps=Str.join ⟨#[44]⟩ (ps.map pW):=by unfold jl lW;rw [if_neg hn']
 rw [e,ji hn' fun y hy=>(ug y hy).1]
theorem ul {hs:List (List (Nat×Nat))} (h:hs≠[]) (hn:∀ ps∈hs,ps≠[]):Txt.split (lW 47 (hs.map jl)) ⟨#[47]⟩=hs.map jl:=by
 have hn':hs.map jl≠[]:=by simpa using h
 have e:lW 47 (hs.map jl)=Str.join ⟨#[47]⟩ (hs.map jl):=by unfold lW;rw [if_neg hn']
 rw [e,ji hn' fun y hy=>(qO hn y hy).1]
theorem uX {hs:List (List (Nat×Nat))} (h:hs≠[]) (hn:∀ ps∈hs,ps≠[]):lW 47 (hs.map jl)≠Str.ofString "-":=by
 have hn':hs.map jl≠[]:=by simpa using h
 have e:lW 47 (hs.map jl)=Str.join ⟨#[47]⟩ (hs.map jl):=by unfold lW;rw [if_neg hn']
 rw [e]
 exact vV (fun y hy=>(qO hn y hy).2) (by decide) hn'
theorem mC:(["heap"]:List Str).Nodup:=by trivial
theorem oE:(["heap"]:List Str).Nodup:=by trivial
theorem oF:(["part"]:List Str).Nodup:=by trivial
theorem oG:(["heap"]:List Str).Nodup:=by trivial
theorem oH:(["part"]:List Str).Nodup:=by trivial
theorem Ca:cG bD "word":=by trivial
theorem kz2h:bH bD "NOTHING":=by trivial
theorem kz2i:bH bD "need_word":=by trivial
theorem kz2j:bH bD "isinstance":=by trivial
theorem kz2k:bH bD "str":=by trivial
theorem G9:cG bM "heaps":=by trivial
theorem kz2m:bH bM "need_word":=by trivial
theorem JX:cG bM "word":=by trivial
theorem kz2o:bH bM "all":=by trivial
theorem kz2p:bH bM "heaps_parted":=by trivial
theorem iz {α:Type} {R:V->α->Prop} {zs:List V} {xs:List α} {v:V} {x:α} (h:zs.length=xs.length/\∀ (i:Nat) (v:V) (p:α),zs[i]?=some v->xs[i]?=some p->R v p) (hx:R v x):
  (zs ++ [v]).length=(xs ++ [x]).length/\∀ (i:Nat) (w:V) (p:α),(zs ++ [v])[i]?=some w->(xs ++ [x])[i]?=some p->R w p:=by
 obtain ⟨h1,h2⟩:=h
 refine ⟨by rw [List.length_append,List.length_append,h1];rfl,fun j w p e1 e2=>?_⟩
 by_cases hj:j < zs.length
 ·rw [List.getElem?_append_left hj] at e1
  rw [List.getElem?_append_left (by omega)] at e2
  exact h2 j w p e1 e2
 ·have hj2:j=zs.length:=by
   have:=(List.getElem?_eq_some_iff.mp e1).1
   rw [List.length_append] at this
   simp at this;omega
  subst hj2
  rw [List.getElem?_append_right (Nat.le_refl _),Nat.sub_self] at e1
  rw [List.getElem?_append_right (by omega),h1,Nat.sub_self] at e2
  cases e1;cases e2
  exact hx
def RS (H:Hp) (vs:List V) (hs:List (List (Nat×Nat))):Prop:=vs.length=hs.length/\∀ (i:Nat) (v:V) (ps:List (Nat×Nat)),vs[i]?=some v->hs[i]?=some ps->∃ q,v= .ref q/\H q=some (.lst ((ps.map pW).map V.str))
theorem RS.same {H H':Hp} {vs:List V} {hs:List (List (Nat×Nat))} (h:RS H vs hs) (s:Same H H'):RS H' vs hs:=⟨h.1,fun i v p e1 e2=>let ⟨q,a,b⟩:=h.2 i v p e1 e2;⟨q,a,s _ _ b⟩⟩
def okG (hs:List (List (Nat×Nat))):Prop:=hs.length<=10/\∀ ps∈hs,ps≠[]/\ps.length<=10/\xx ps
theorem okG.h {hs:List (List (Nat×Nat))} (h:okG hs):okH hs:=⟨by have:=h.1;omega,fun ps hp=>(h.2 ps hp).2.2⟩
theorem mV {ps:List (Nat×Nat)} (h:xx ps) (hl:ps.length<=10):(jl ps).length<=131:=by
 have:=mU (c:=44) (ys:=ps.map pW) (m:=12) fun y hy=>by obtain ⟨n,hn,rfl⟩:=List.mem_map.mp hy;exact lr (h.2 n hn)
 rw [List.length_map] at this
 unfold jl
 omega
theorem zg {hs:List (List (Nat×Nat))} (h:okG hs):(lW 47 (hs.map jl)).length<=2000:=by
 have:=mU (c:=47) (ys:=hs.map jl) (m:=131) fun y hy=>by obtain ⟨n,hn,rfl⟩:=List.mem_map.mp hy;exact mV (h.2 n hn).2.2 (h.2 n hn).2.1
 rw [List.length_map] at this
 have:=h.1
 omega
def JZ (K:W.Frag):Sp:=fun vs H Q _=>∃ hs:List (List (Nat×Nat)),vs=[.str (lW 47 (hs.map jl))]/\okG hs/\∀ q us H',H q=none->Same H H'->H' q=some (.lst us)->RS H' us hs->Q (.ref q) H'
theorem oJ:aD ["word"] ["word"] (ak bD):=⟨rfl,rfl,rfl,by trivial,rfl,by trivial,by trivial⟩
theorem ie (T:Txt w K mg):Has P w K mg base 4 "heaps_parted" ["word"] (JZ K):=by
 have aG:=aG (P:=P) (w:=w) (base:=base) T
 refine cz T.d_heaps_parted oJ (fun _ _ _ _ _ _ us hl=>L2.dq (fun _=>rfl) us hl) ?_ fun f cdv A outer s H vs Q E hr h=>?_
 ·rintro vs H Q E ⟨hs,rfl,_⟩;rfl
 obtain ⟨hs,rfl,ok,q⟩:=h
 have hu:=hr.units0
 have hu64:=hr.units
 refine ⟨_,(au (bZ (aC aG (hr.mono (by decide)) (bc kz2i) (aa (aJ (bR (K:=K) rfl) (bc kz2j) T.b_isinstance aQ (aa (ao 0 Ca) (aa (lO (bc kz2k) T.b_str fL (by trivial) (by trivial)) aj)) (by trivial) (by trivial)) (aa (ao 0 Ca) aj)) (by trivial))) (az (aB (wK (aM (aP (K:=K) rfl hu64) (ao 0 Ca) (dN (bc kz2h) T.c_NOTHING (by trivial)) (by walk_at "p")) (jE aj) (bA (sub:=[none]) (aL (N:=["word"]) (sc:=ak bD) (N':=["heap"]) (by trivial)) rfl rfl rfl (aX (K:=K) rfl (cU (K:=K) rfl PySem.F.plainAttrs_str PySem.F.slot_str_split PySem.F.type_str_split jR (ao 0 Ca) (aa bB aj))) (fun C s₀ H₀ ex=>(du 0 (by trivial) mC)) (fun C s₀ H₀ ex=>aR) (fun C s₀ H₀ ex=>(cU (K:=K) rfl PySem.F.plainAttrs_str PySem.F.slot_str_split PySem.F.type_str_split jR (bI 0 (by trivial)) (aa bB aj)))))))),?_⟩
 walk_at "s"
 have hz:20000<=sizeLine:=by decide
 have hl:=ok.1
 have hn:∀ ps∈hs,ps≠[]:=fun ps h=>(ok.2 ps h).1
 have hw:=zg ok
 refine gO (.str _) rfl ?_
 walk_at "s"
 refine ⟨_,rfl,?_⟩
 walk_at "s"
 by_cases h:hs=[]
 ·subst h
  rw [decide_eq_true (show V.str (lW 47 (([]:List (List (Nat×Nat))).map jl))=V.str (Str.ofString "-") from rfl)]
  walk_at "s"
  refine dw rfl fun p H1 np S1 hp=>?_
  walk_at "s"
  exact q p [] H1 np S1 hp ⟨rfl,fun i v p e=>by cases e⟩
 ·rw [decide_eq_false (show ¬ V.str (lW 47 (hs.map jl))=V.str (Str.ofString "-") from fun z=>uX h hn (V.str.inj z))]
  walk_at "s"
  refine ⟨rfl,?_⟩
  walk_at "s"
  refine lU (by trivial) (by omega) fun p np=>?_
  walk_at "s"
  rw [slash,ul h hn]
  have S1:=(Same.refl H).upd (o:=.lst ((hs.map jl).map V.str)) np
  have hp:upd H p (.lst ((hs.map jl).map V.str)) p=_:=aq
  revert S1 hp
  generalize upd H p (.lst ((hs.map jl).map V.str))=H1
  intro S1 hp
  try walk_at "s"
  refine .inl ⟨p,rfl,⟨_,SqL.of hp⟩,?_⟩
  refine aH (xs:=(hs.map jl).map V.str) (fun i zs G=>Same H1 G/\i<=hs.length/\RS G zs (hs.take i)) (by rw [List.length_map,List.length_map];omega) ⟨Same.refl H1,Nat.zero_le _,rfl,fun i v p e=>by cases e⟩ ?_ ?_ ?_ ?_
  ·rintro i zs G ⟨_,hi,r⟩
   rw [r.1,List.length_take];omega
  ·rintro i zs G ⟨s,_⟩
   exact SqL.of (s _ _ hp)
  ·rintro i zs G v hv ⟨s,hi,r⟩
   rw [List.map_map,List.getElem?_map] at hv
   obtain ⟨ps,en,rfl⟩:=Option.map_eq_some_iff.mp hv
   have hpm:=ok.2 ps (List.mem_of_getElem? en)
   have hlt:=(List.getElem?_eq_some_iff.mp en).1
   have hps:=mV hpm.2.2 hpm.2.1
   walk_at "s"
   refine ⟨KeepSt.set rfl,?_⟩
   walk_at "s"
   refine ⟨rfl,?_⟩
   walk_at "s"
   refine lU (by trivial) (by show (jl ps).length+2<=sizeLine;omega) fun t nt=>?_
   walk_at "s"
   rw [comma,w6 hpm.1]
   have S2:=(Same.refl G).upd (o:=.lst ((ps.map pW).map V.str)) nt
   refine ⟨s.trans S2,hlt,?_⟩
   rw [List.take_add_one,en]
   exact iz (r.same S2) ⟨t,rfl,aq⟩
  ·rintro zs G D2 H3 ⟨s3,hi,r⟩ nD2 S3 hD2
   rw [List.length_map,List.length_map,List.take_length] at r
   exact q D2 zs H3 (Same.back (S1.trans s3) nD2) ((S1.trans s3).trans S3) hD2 (r.same S3)
def zj (K:W.Frag):Sp:=fun vs H Q _=>∃ hs:List (List (Nat×Nat)),vs=[.str (lW 47 (hs.map jl))]/\okG hs/\∀ q us H',H q=none->Same H H'->H' q=some (.lst us)->RH H' us hs->Q (.ref q) H'
theorem kJ:aD ["word","heaps"] ["word"] (ak bM):=⟨rfl,rfl,rfl,by trivial,rfl,by trivial,by trivial⟩
theorem jo (T:Txt w K mg):Has P w K mg base 5 "read_heaps" ["word"] (zj K):=by
 have ie:=ie (P:=P) (w:=w) (base:=base) T
 have aG:=aG (P:=P) (w:=w) (base:=base) T
 have cL:=cL (P:=P) (w:=w) (base:=base) T
 have dX:=dX (P:=P) (w:=w) (base:=base) T
 refine cz T.d_read_heaps kJ (fun _ _ _ _ _ _ us hl=>L2.dq (fun _=>rfl) us hl) ?_ fun f cdv A outer s H vs Q E hr h=>?_
 ·rintro vs H Q E ⟨hs,rfl,_⟩;rfl
 obtain ⟨hs,rfl,ok,q⟩:=h
 have hu:=hr.units0
 have hu64:=hr.units
 refine ⟨_,(au (aY (i:=1) kJ.nd rfl (Or.inl G9) (aC ie (hr.mono (by decide)) (bc kz2p) (aa (ao 0 JX) aj) (by trivial)) rfl) (au (bZ (aC aG (hr.mono (by decide)) (bc kz2m) (aa (aJ (cH rfl) (bc kz2o) T.b_all eQ (aa (bA (sub:=[none]) (aL (N:=["word","heaps"]) (sc:=ak bM) (N':=["heap"]) (by trivial)) rfl rfl rfl (aX (K:=K) rfl (ao 1 G9)) (fun C s₀ H₀ ex=>(du 0 (by trivial) oG)) (fun C s₀ H₀ ex=>aR) (fun C s₀ H₀ ex=>(aJ (cH rfl) (jL (by trivial)) T.b_all eQ (aa (bA (sub:=[none]) (yQ (aL (N:=["heap"]) (N':=["part"]) (by trivial))) rfl rfl rfl (aX (K:=K) rfl (bI 0 (by trivial))) (fun C s₀ H₀ ex=>(du 0 (by trivial) oH)) (fun C s₀ H₀ ex=>aR) (fun C s₀ H₀ ex=>(aC cL (hr.mono (by decide)) (jL (by trivial)) (aa (bI 0 (by trivial)) aj) (by trivial)))) aj) (by trivial) (by trivial)))) aj) (by trivial) (by trivial)) (aa (ao 0 JX) aj)) (by trivial))) (az (aB (bA (sub:=[none]) (aL (N:=["word","heaps"]) (sc:=ak bM) (N':=["heap"]) (by trivial)) rfl rfl rfl (aX (K:=K) rfl (ao 1 G9)) (fun C s₀ H₀ ex=>(du 0 (by trivial) oE)) (fun C s₀ H₀ ex=>aR) (fun C s₀ H₀ ex=>(bA (sub:=[none]) (yQ (aL (N:=["heap"]) (N':=["part"]) (by trivial))) rfl rfl rfl (aX (K:=K) rfl (bI 0 (by trivial))) (fun C s₀ H₀ ex=>(du 0 (by trivial) oF)) (fun C s₀ H₀ ex=>aR) (fun C s₀ H₀ ex=>(aC dX (hr.mono (by decide)) (jL (by trivial)) (aa (bI 0 (by trivial)) aj) (by trivial)))))))))),?_⟩
 walk_at "s"
 have hz:20000<=sizeLine:=by decide
 have hl:=ok.1
 refine ⟨hs,rfl,ok,fun p us H1 np S1 hp r=>?_⟩
 walk_at "s"
 have hul:=r.1
 refine .inl ⟨p,rfl,⟨_,SqL.of hp⟩,?_⟩
 refine aH (xs:=us) (fun i zs G=>Same H1 G/\zs=(List.replicate i true).map V.bl) (by omega) ⟨Same.refl H1,rfl⟩ ?_ ?_ ?_ ?_
 ·rintro i zs G ⟨_,rfl⟩
  simp
 ·rintro i zs G ⟨s,_⟩
  exact SqL.of (s _ _ hp)
 ·rintro i zs G v hv ⟨s,rfl⟩
  have hi:i < hs.length:=by rw [← hul];exact (List.getElem?_eq_some_iff.mp hv).1
  obtain ⟨ps,ep⟩:∃ pp,hs[i]?=some pp:=⟨_,List.getElem?_eq_getElem hi⟩
  obtain ⟨a,rfl,ha⟩:=(r.same s).2 i v ps hv ep
  have hpm:=ok.2 ps (List.mem_of_getElem? ep)
  have hpl:=hpm.2.1
  walk_at "s"
  refine ⟨KeepSt.set rfl,?_⟩
  walk_at "s"
  refine .inl ⟨a,rfl,⟨_,SqL.of ha⟩,?_⟩
  refine aH (xs:=(ps.map pW).map V.str) (fun i zs G'=>Same G G'/\zs=(List.replicate i true).map V.bl) (by rw [List.length_map,List.length_map];omega) ⟨Same.refl G,rfl⟩ ?_ ?_ ?_ ?_
  ·rintro i zs G' ⟨_,rfl⟩
   simp
  ·rintro i zs G' ⟨s,_⟩
   exact SqL.of (s _ _ ha)
  ·rintro i zs G' v hv ⟨s,rfl⟩
   rw [List.map_map,List.getElem?_map] at hv
   obtain ⟨n,en,rfl⟩:=Option.map_eq_some_iff.mp hv
   have hn:=hpm.2.2.2 n (List.mem_of_getElem? en)
   walk_at "s"
   refine ⟨KeepSt.set rfl,?_⟩
   walk_at "s"
   refine ⟨n,rfl,hn.1,hn.2,fun G2 S2=>?_⟩
   walk_at "s"
   refine ⟨s.trans S2,?_⟩
   rw [List.replicate_succ',List.map_append]
   rfl
  rintro zs G' D H2 ⟨s2,rfl⟩ nD S2 hD
  try walk_at "s"
  refine ⟨D,_,rfl,hD,?_⟩
  rw [show (List.replicate ((ps.map pW).map V.str).length true).all id=true by simp]
  refine ⟨s.trans (s2.trans S2),?_⟩
  rw [List.replicate_succ',List.map_append]
  rfl
 rintro zs G D H2 ⟨s,rfl⟩ nD S2 hD
 try walk_at "s"
 refine ⟨D,_,rfl,hD,?_⟩
 rw [show (List.replicate us.length true).all id=true by simp]
 walk_at "s"
 refine ⟨_,rfl,?_⟩
 walk_at "s"
 have hp2:=(s.trans S2) _ _ hp
 have r2:=r.same (s.trans S2)
 have U2:=S1.trans (s.trans S2)
 refine .inl ⟨p,rfl,⟨_,SqL.of hp2⟩,?_⟩
 refine aH (xs:=us) (fun i zs G=>Same H2 G/\i<=hs.length/\RH G zs (hs.take i)) (by omega) ⟨Same.refl H2,Nat.zero_le _,rfl,fun i v p e=>by cases e⟩ ?_ ?_ ?_ ?_
 ·rintro i zs G ⟨_,hi,r⟩
  rw [r.1,List.length_take];omega
 ·rintro i zs G ⟨s,_⟩
  exact SqL.of (s _ _ hp2)
 ·rintro i zs G v hv ⟨s,hi,rr⟩
  have hi:i < hs.length:=by rw [← hul];exact (List.getElem?_eq_some_iff.mp hv).1
  obtain ⟨ps,ep⟩:∃ pp,hs[i]?=some pp:=⟨_,List.getElem?_eq_getElem hi⟩
  obtain ⟨a,rfl,ha⟩:=(r2.same s).2 i v ps hv ep
  have hpm:=ok.2 ps (List.mem_of_getElem? ep)
  have hpl:=hpm.2.1
  walk_at "s"
  refine ⟨KeepSt.set rfl,?_⟩
  walk_at "s"
  refine .inl ⟨a,rfl,⟨_,SqL.of ha⟩,?_⟩
  refine aH (xs:=(ps.map pW).map V.str) (fun i zs G'=>Same G G'/\i<=ps.length/\RP G' zs (ps.take i)) (by rw [List.length_map,List.length_map];omega) ⟨Same.refl G,Nat.zero_le _,rfl,fun i v p e=>by cases e⟩ ?_ ?_ ?_ ?_
  ·rintro i zs G' ⟨_,hi,r⟩
   rw [r.1,List.length_take];omega
  ·rintro i zs G' ⟨s,_⟩
   exact SqL.of (s _ _ ha)
  ·rintro i zs G' v hv ⟨s,hi,r⟩
   rw [List.map_map,List.getElem?_map] at hv
   obtain ⟨n,en,rfl⟩:=Option.map_eq_some_iff.mp hv
   have hn:=hpm.2.2.2 n (List.mem_of_getElem? en)
   have hlt:=(List.getElem?_eq_some_iff.mp en).1
   walk_at "s"
   refine ⟨KeepSt.set rfl,?_⟩
   walk_at "s"
   refine ⟨n,rfl,hn.1,hn.2,fun t G2 nt S2 ht=>?_⟩
   walk_at "s"
   refine ⟨s.trans S2,hlt,?_⟩
   rw [List.take_add_one,en]
   exact iz (r.same S2) ⟨t,rfl,ht⟩
  ·rintro zz G' D2 H3 ⟨s3,hi3,r3⟩ nD2 S3 hD2
   rw [List.length_map,List.length_map,List.take_length] at r3
   refine ⟨s.trans (s3.trans S3),hi,?_⟩
   rw [List.take_add_one,ep]
   exact iz (rr.same (s3.trans S3)) ⟨D2,zz,rfl,hD2,r3.same S3⟩
 ·rintro zs G D2 H3 ⟨s3,hi,r⟩ nD2 S3 hD2
  rw [hul,List.take_length] at r
  exact q D2 zs H3 (Same.back (U2.trans s3) nD2) ((U2.trans s3).trans S3) hD2 (r.same S3)
theorem mD:(["part"]:List Str).Nodup:=by trivial
theorem kz2q:bH cA "tuple":=by trivial
theorem kz2r:bH cA "MARKED":=by trivial
theorem J2:cG cA "part":=by trivial
theorem kz2t:bH cA "list":=by trivial
theorem Ha:cG bF "changes":=by trivial
theorem kz2v:bH bF "need_word":=by trivial
theorem J3:cG bF "word":=by trivial
theorem kz2x:bH bF "is_changes":=by trivial
theorem kz2y:bH bF "parts_of":=by trivial
theorem rT {a b:Str} (h:a.cps.toList=b.cps.toList):a=b:=by
 cases a;cases b;congr 1;exact Array.toList_inj.mp h
theorem um (l:List Nat):(Txt.join (Str.ofString "") (l.map fun x=>(⟨#[x]⟩:Str))).cps.toList=l:=by
 rw [tM]
 induction l with
 | nil=>rfl
 | cons x l ih=>rw [List.map_cons,List.map_cons,List.flatten_cons,ih];rfl
def MKD:List (Str×Str):=[("=","keep"),("!","change"),("<","out"),(">","in")]
theorem oR {c:Cg} (h:okC c):MKD.lookup (uW c.k)=some c.k/\∃ m,uW c.k=⟨#[m]⟩/\m < 97/\m≠44/\m≠45:=by
 rcases h.2 with ⟨h1 | h1 | h1,_⟩ | ⟨h1,_⟩ <;> rw [h1]
 ·exact ⟨by trivial,61,by trivial,by decide,by decide,by decide⟩
 ·exact ⟨by trivial,60,by trivial,by decide,by decide,by decide⟩
 ·exact ⟨by trivial,62,by trivial,by decide,by decide,by decide⟩
 ·exact ⟨by trivial,33,by trivial,by decide,by decide,by decide⟩
theorem uY (c:Cg):(cW c).cps.toList=(uW c.k).cps.toList ++ c.ls:=by
 unfold cW
 rw [show (uW c.k ++ Txt.join (Str.ofString "") (c.ls.map fun x=>(⟨#[x]⟩:Str))).cps=(uW c.k).cps ++ (Txt.join (Str.ofString "") (c.ls.map fun x=>(⟨#[x]⟩:Str))).cps from rfl,Array.toList_append,um]
theorem J5 {c:Cg} (h:okC c):Txt.slice (cW c) none (some 1)=uW c.k:=by
 obtain ⟨_,m,hm,_⟩:=oR h
 refine rT ?_
 rw [show (some (1:Int))=some ((1:Nat):Int) from rfl,yO,uY,hm]
 rfl
theorem Cd {c:Cg} (h:okC c):sgn (Txt.slice (cW c) (some 1) none)=c.ls.map fun x=>.str ⟨#[x]⟩:=by
 obtain ⟨_,m,hm,_⟩:=oR h
 unfold sgn
 rw [show (some (1:Int))=some ((1:Nat):Int) from rfl,pB,uY,hm]
 rfl
theorem Ce {c:Cg} (h:okC c):44 ∉ (cW c).cps.toList/\45 ∉ (cW c).cps.toList:=by
 obtain ⟨_,m,hm,m1,m2,m3⟩:=oR h
 have:∀ x∈(cW c).cps.toList,x=m\/97<=x:=fun x hx=>by
  rw [uY,hm] at hx
  rcases List.mem_append.mp hx with z | z
  ·exact .inl (List.mem_singleton.mp z)
  ·exact .inr (h.1 x z).1
 exact ⟨fun z=>by rcases this _ z with e | e <;> omega,fun z=>by rcases this _ z with e | e <;> omega⟩
def J6 (K:W.Frag):Sp:=fun vs H Q _=>∃ c:Cg,vs=[.str (cW c)]/\okC c/\∀ t H',H t=none->Same H H'->H' t=some (.tup (vQ c))->Q (.ref t) H'
theorem pJ:aD ["part"] ["part"] (ak cA):=⟨rfl,rfl,rfl,by trivial,rfl,by trivial,by trivial⟩
theorem iJ (T:Txt w K mg):Has P w K mg base 1 "change_read" ["part"] (J6 K):=by
 refine cz T.d_change_read pJ (fun _ _ _ _ _ _ us hl=>L2.dq (fun _=>rfl) us hl) ?_ fun f cdv A outer s H vs Q E hr h=>?_
 ·rintro vs H Q E ⟨c,rfl,_⟩;rfl
 obtain ⟨c,rfl,ok,q⟩:=h
 have hu:=hr.units0
 have hu64:=hr.units
 refine ⟨_,(az (aB (b8 (tL (K:=K) rfl rfl) (bc kz2q) T.b_tuple o9 (aa (bG bY (jE (aa (Bp T.e_MARKED (bc kz2r) (jf (jh (K:=K) rfl) (ao 0 J2) j0 (iu aA)) bB (by trivial)) aj)) (b8 (kY (K:=K) rfl rfl) (bc kz2t) T.b_list jd (aa (jf (jh (K:=K) rfl) (ao 0 J2) (iu aA) j0) aj) (by trivial) (by trivial))) aj) (by trivial) (by trivial)))),?_⟩
 walk_at "s"
 have hz:20000<=sizeLine:=by decide
 have lw:=rO ok
 have l1:=ok.len
 refine yR (by omega) ?_
 walk_at "s"
 refine ⟨_,rfl,?_⟩
 walk_at "s"
 rw [J5 ok,show ([("=","keep"),("!","change"),("<","out"),(">","in")]:List (Str×Str)).lookup (uW c.k)=some c.k from (oR ok).1]
 refine dw rfl fun p H1 np S1 hp=>?_
 walk_at "s"
 refine yR (by omega) ?_
 walk_at "s"
 refine Bb (by rw [show (Txt.slice (cW c) (some 1) none).length=(Txt.slice (cW c) (some ((1:Nat):Int)) none).cps.toList.length by simp [Str.length],pB,List.length_drop,Array.length_toList];have:(cW c).cps.size=(cW c).length:=rfl;omega) fun l nl=>?_
 walk_at "s"
 rw [Cd ok]
 refine Fz (vH nl hp) aq (by simp;omega) fun m nm=>?_
 walk_at "s"
 refine .inl ⟨m,_,rfl,.inl ⟨SqL.of aq,fun t nt=>?_⟩⟩
 walk_at "s"
 exact q t _ (Same.back ((S1.upd nl).upd nm) nt) (((S1.upd nl).upd nm).upd nt) aq
theorem Ci {cs:List Cg} (h:ud cs):(lW 44 (cs.map cW)).length+2<=sizeLine:=by
 have:=mU (c:=44) (ys:=cs.map cW) (m:=3) fun y hy=>by obtain ⟨n,hn,rfl⟩:=List.mem_map.mp hy;exact rO (h.2 n hn)
 rw [List.length_map] at this
 have:20000<=sizeLine:=by decide
 have:=h.1
 omega
def Hb (K:W.Frag):Sp:=fun vs H Q _=>∃ cs:List Cg,vs=[.str (lW 44 (cs.map cW))]/\ud cs/\∀ q us H',H q=none->Same H H'->H' q=some (.lst us)->RC H' us cs->Q (.ref q) H'
theorem jJ:aD ["word","changes"] ["word"] (ak bF):=⟨rfl,rfl,rfl,by trivial,rfl,by trivial,by trivial⟩
theorem ig (T:Txt w K mg):Has P w K mg base 5 "read_changes" ["word"] (Hb K):=by
 have iJ:=iJ (P:=P) (w:=w) (base:=base) T
 have cP:=cP (P:=P) (w:=w) (base:=base) T
 have aG:=aG (P:=P) (w:=w) (base:=base) T
 have dj:=dj (P:=P) (w:=w) (base:=base) T
 refine cz T.d_read_changes jJ (fun _ _ _ _ _ _ us hl=>L2.dq (fun _=>rfl) us hl) ?_ fun f cdv A outer s H vs Q E hr h=>?_
 ·rintro vs H Q E ⟨cs,rfl,_⟩;rfl
 obtain ⟨cs,rfl,ok,q⟩:=h
 have hu:=hr.units0
 have hu64:=hr.units
 refine ⟨_,(au (Bc (i:=1) jJ.nd rfl (Or.inl Ha) (sub:=[none]) (aL (N:=["word","changes"]) (sc:=ak bF) (N':=["part"]) (by trivial)) rfl rfl rfl (aX (K:=K) rfl (aC cP (hr.mono (by decide)) (bc kz2y) (aa (ao 0 J3) aj) (by trivial))) (fun C s₀ H₀ ex=>(du 0 (by trivial) mD)) (fun C s₀ H₀ ex=>aR) (fun C s₀ H₀ ex=>(aC iJ (hr.mono (by decide)) (jL (by trivial)) (aa (bI 0 (by trivial)) aj) (by trivial))) rfl) (au (bZ (aC aG (hr.mono (by decide)) (bc kz2v) (aa (aC dj (hr.mono (by decide)) (bc kz2x) (aa (ao 1 Ha) aj) (by trivial)) (aa (ao 0 J3) aj)) (by trivial))) (az (aB (ao 1 Ha))))),?_⟩
 walk_at "s"
 have hz:20000<=sizeLine:=by decide
 have hl:=ok.1
 refine ⟨cs.map cW,rfl,(fun y hy=>by obtain ⟨c,hc,rfl⟩:=List.mem_map.mp hy;exact Ce (ok.2 c hc)),Ci ok,fun p H1 np S1 hp=>?_⟩
 walk_at "s"
 refine .inl ⟨p,rfl,⟨_,SqL.of hp⟩,?_⟩
 refine aH (xs:=(cs.map cW).map V.str) (fun i zs G=>Same H1 G/\i<=cs.length/\RC G zs (cs.take i)) (by rw [List.length_map,List.length_map];omega) ⟨Same.refl H1,Nat.zero_le _,rfl,fun i v p e=>by cases e⟩ ?_ ?_ ?_ ?_
 ·rintro i zs G ⟨_,hi,r⟩
  rw [r.1,List.length_take];omega
 ·rintro i zs G ⟨s,_⟩
  exact SqL.of (s _ _ hp)
 ·rintro i zs G v hv ⟨s,hi,r⟩
  rw [List.map_map,List.getElem?_map] at hv
  obtain ⟨c,en,rfl⟩:=Option.map_eq_some_iff.mp hv
  have hc:=ok.2 c (List.mem_of_getElem? en)
  have hlt:=(List.getElem?_eq_some_iff.mp en).1
  walk_at "s"
  refine ⟨KeepSt.set rfl,?_⟩
  walk_at "s"
  refine ⟨c,rfl,hc,fun t G2 nt S2 ht=>?_⟩
  walk_at "s"
  refine ⟨s.trans S2,hlt,?_⟩
  rw [List.take_add_one,en]
  exact iz (r.same S2) ⟨t,rfl,ht⟩
 ·rintro zs G D2 H3 ⟨s3,hi,r⟩ nD2 S3 hD2
  rw [List.length_map,List.length_map,List.take_length] at r
  try walk_at "s"
  refine ⟨D2,zs,cs,rfl,hD2,r.same S3,ok,fun H4 S4=>?_⟩
  walk_at "s"
  refine ⟨_,rfl,?_⟩
  walk_at "s"
  exact q D2 zs H4 (Same.back (S1.trans s3) nD2) ((S1.trans s3).trans (S3.trans S4)) (S4 _ _ hD2) (r.same (S3.trans S4))
theorem Hc:cG fu "_law_script":=by trivial
theorem kz30:cG fu "_law_k":=by trivial
theorem J7:bH fu "len":=by trivial
theorem Cj:cG bC "_law_found":=by trivial
theorem kz33:cG bC "_law_bases":=by trivial
theorem Ck:cG bC "_law_base":=by trivial
theorem J8:cG bC "_law_great":=by trivial
theorem zm:cG bC "_law_cell_here":=by trivial
theorem zp:cG bC "_law_number_here":=by trivial
theorem Hd:cG bC "_law_prime":=by trivial
theorem J9:bH c7 "isinstance":=by trivial
theorem kz3a:bH c7 "bool":=by trivial
theorem Ka:cG c7 "_law_thing_here":=by trivial
theorem kz3c:bH c7 "int":=by trivial
theorem xf:cG bT "_law_found":=by trivial
theorem Kc:cG bT "_law_words":=by trivial
theorem kz3f:bH bT "enumerate":=by trivial
theorem Kd:cG bT "_law_word_here":=by trivial
theorem Ke:cG bT "_law_k":=by trivial
theorem kz3i:cG bT "_law_mark":=by trivial
def Kf (K:W.Frag):Sp:=fun vs H Q _=>∃ (a:Addr) (ns:List Int) (k:Nat),vs=[.ref a,.int k]/\SqL K H a (ns.map V.int)/\∀ n,Q (.int n) H
theorem uo:aD ["_law_script","_law_k"] ["_law_script","_law_k"] (ak fu):=⟨rfl,rfl,rfl,by trivial,rfl,by trivial,by trivial⟩
theorem lC (T:Txt w K mg):Has P w K mg base 1 "_law_cell" ["_law_script","_law_k"] (Kf K):=by
 refine cz T.d_law_cell uo (fun _ _ _ _ _ _ us hl=>L2.sr (fun _ _=>rfl) us hl) ?_ fun f cdv A outer s H vs Q E hr h=>?_
 ·rintro vs H Q E ⟨a,ns,k,rfl,_⟩;rfl
 obtain ⟨a,ns,k,rfl,hS,q⟩:=h
 have hu:=hr.units0
 have hu64:=hr.units
 refine ⟨_,(au (aV (aM (aP (K:=K) rfl hu64) (aJ (bQ (K:=K) rfl) (bc J7) T.b_len d7 (aa (ao 0 Hc) aj) (by trivial) (by trivial)) aA (by walk_at "p")) (az (aB aA)) aN) (az (aB (gP (K:=K) rfl (ao 0 Hc) (bG cN (ao 1 kz30) (aJ (bQ (K:=K) rfl) (bc J7) T.b_len d7 (aa (ao 0 Hc) aj) (by trivial) (by trivial))))))),?_⟩
 walk_at "s"
 refine jO hS ?_
 walk_at "s"
 rw [List.length_map]
 refine uL (fun h=>?_) (fun h=>?_)
 ·walk_at "s"
  exact q _
 ·have hl:0 < ns.length:=by
   have:¬ (ns.length:Int)=0:=fun z=>h (by rw [z])
   omega
  walk_at "s"
  refine jO hS ?_
  walk_at "s"
  rw [List.length_map]
  refine ⟨_,_,rfl,rfl,(show (0:Int) < (ns.length:Int) by omega),?_⟩
  walk_at "s"
  obtain ⟨v,hv,e⟩:=CW (vs:=ns.map V.int) (d:=(k:Int) % (ns.length:Int)) (Int.emod_nonneg _ (by omega)) (by rw [List.length_map];exact Int.emod_lt_of_pos _ (by omega))
  obtain ⟨n,_,rfl⟩:=List.mem_map.mp hv
  refine eN hS e ?_
  walk_at "s"
  exact q _
def Fits (ms bs:List Int):Prop:=ms.length=bs.length/\∀ (i:Nat) (m b:Int),ms[i]?=some m->bs[i]?=some b->0<=m/\m < b
theorem Fits.push {ms bs:List Int} {k:Nat} {m b:Int} (h:Fits ms (bs.take k)) (hb:bs[k]?=some b) (h0:0<=m) (h1:m < b):Fits (ms ++ [m]) (bs.take (k+1)):=by
 have hk:k < bs.length:=(List.getElem?_eq_some_iff.mp hb).1
 have hl:ms.length=k:=by rw [h.1,List.length_take];omega
 refine ⟨by simp;omega,fun i m' b' e1 e2=>?_⟩
 by_cases hi:i < k
 ·rw [List.getElem?_append_left (by omega)] at e1
  rw [List.getElem?_take_of_lt (by omega)] at e2
  exact h.2 i m' b' e1 (by rw [List.getElem?_take_of_lt hi];exact e2)
 ·have hi2:i < k+1:=by have:=(List.getElem?_eq_some_iff.mp e1).1;simp at this;omega
  obtain rfl:i=k:=by omega
  rw [List.getElem?_append_right (by omega),hl,Nat.sub_self] at e1
  rw [List.getElem?_take_of_lt (by omega),hb] at e2
  cases e1;cases e2
  exact ⟨h0,h1⟩
def Hf:Sp:=fun vs H Q _=>∃ (n:Int) (b:Addr) (bs:List Int) (pr:Int),vs=[.int n,.ref b,.int pr]/\H b=some (.lst (bs.map V.int))/\bs.length<=1000/\(∀ x∈bs,0 < x/\x < 1073741824)/\2147000000 < pr/\pr < 2147490000/\
 ∀ (q:Addr) (ms:List Int) (H':Hp),H q=none->Same H H'->H' q=some (.lst (ms.map V.int))->Fits ms bs->Q (.ref q) H'
theorem bW:aD ["_law_cell_here","_law_bases","_law_prime","_law_great","_law_number_here","_law_found","_law_base"] ["_law_cell_here","_law_bases","_law_prime"] (ak bC):=⟨rfl,rfl,rfl,by trivial,rfl,by trivial,by trivial⟩
theorem fH (T:Txt w K mg):Has P w K mg base 1 "_law_numbers" ["_law_cell_here","_law_bases","_law_prime"] Hf:=by
 refine cz T.d_law_numbers bW (fun _ _ _ _ _ _ us hl=>L2.Dk (fun _ _ _=>rfl) us hl) ?_ fun f cdv A outer s H vs Q E hr h=>?_
 ·rintro vs H Q E ⟨n,b,bs,pr,rfl,_⟩;rfl
 obtain ⟨n,b,bs,pr,rfl,hb,hlen,hbs,hp0,hp1,q⟩:=h
 have hu:=hr.units0
 have hu64:=hr.units
 refine ⟨_,(au (aY (i:=3) bW.nd rfl (Or.inl J8) (ir Ia (ao 0 zm) (bG Eh aA aA) (by walk_at "p")) rfl) (au (aY (i:=4) bW.nd rfl (Or.inl zp) (bG bY (bG cN (bG jc (bG cN (ao 0 zm) (ao 2 Hd)) aA) (ao 2 Hd)) aA) rfl) (au (aY (i:=5) bW.nd rfl (Or.inl Cj) (jE aj) rfl) (au (kZ PassesOwn.never rfl (aX (K:=K) rfl (ao 1 kz33)) (iw (i:=6) bW.nd rfl (Or.inl Ck) rfl) (au (aY (i:=4) bW.nd rfl (Or.inl zp) (bG cN (bG bY (bG jc (ao 4 zp) aA) aA) (ao 2 Hd)) rfl) (az (aV (gn (ao 3 J8)) (au (bZ (cU (K:=K) rfl PySem.F.plainAttrs_list PySem.F.slot_list_append PySem.F.type_list_append eO (ao 5 Cj) (aa (bG cN (ao 0 zm) (ao 6 Ck)) aj))) (az (aY (i:=0) bW.nd rfl (Or.inl zm) (bG dY (ao 0 zm) (ao 6 Ck)) rfl))) (az (bZ (cU (K:=K) rfl PySem.F.plainAttrs_list PySem.F.slot_list_append PySem.F.type_list_append eO (ao 5 Cj) (aa (bG cN (bG cN (bG jc (ao 4 zp) (bG bY (bG dY (ao 4 zp) aA) aA)) aA) (ao 6 Ck)) aj)))))))) (az (aB (ao 5 Cj))))))),?_⟩
 walk_at "s"
 have hs:20000<=sizeLine:=by decide
 refine Jt rfl fun f nf=>?_
 walk_at "s"
 have hb1:upd H f (.lst []) b=some (.lst (bs.map V.int)):=vH nf hb
 have bf:b≠f:=fun e=>by rw [e,nf] at hb;cases hb
 refine .inl ⟨b,rfl,⟨_,SqL.of hb1⟩,?_⟩
 generalize hg:decide ((10:Int) ^ (18:Int).toNat<=n)=g
 have hm0:=Int.emod_nonneg (n % pr*48271) (show pr≠0 by omega)
 have hm1:=Int.emod_lt_of_pos (n % pr*48271) (show 0 < pr by omega)
 refine sJ (xs:=bs.map V.int) (fun k U H'=>∃ (n' N:Int) (ms:List Int) (x6:Option V),U=[some (.int n'),some (.ref b),some (.int pr),some (.bl g),some (.int N),some (.ref f),x6]/\0<=N/\N < 2147500000/\Same H H'/\H' f=some (.lst (ms.map V.int))/\Fits ms (bs.take k))
  ⟨n,_,[],none,rfl,by omega,by omega,(Same.refl H).upd nf,aq,rfl,fun i m b e=>by simp at e⟩ (fun i U H' _ h=>?_) ?_ ?_
 ·obtain ⟨_,_,_,_,_,_,_,s,_⟩:=h
  exact SqL.of (s _ _ hb)
 ·rintro k v U H' hk ⟨n',N,ms,x6,rfl,hN0,hN1,s,hf,hF⟩
  rw [List.getElem?_map] at hk
  obtain ⟨bb,hbb,rfl⟩:∃ y,bs[k]?=some y/\v=V.int y:=by
   cases e:bs[k]? with
   | none=>rw [e] at hk;cases hk
   | some y=>rw [e] at hk;exact ⟨y,rfl,(Option.some.inj hk).symm⟩
  obtain ⟨p0,p1⟩:=hbs bb (List.mem_of_getElem? hbb)
  have hml:ms.length<=1000:=by rw [hF.1,List.length_take];omega
  walk_at "s"
  obtain ⟨M,eM⟩:∃ M,(N*69621+4099) % pr=M:=⟨_,rfl⟩
  have hM0:0<=M:=by rw [← eM];exact Int.emod_nonneg _ (by omega)
  have hM1:M < pr:=by rw [← eM];exact Int.emod_lt_of_pos _ (by omega)
  rw [eM]
  cases g with
  | true=>
   walk_at "s"
   refine ⟨.inl ⟨rfl,_,SqL.of hf⟩,?_⟩
   walk_at "s"
   refine gQ hf (by simp;omega) ?_
   walk_at "s"
   refine ⟨_,M,ms ++ [n' % bb],_,rfl,hM0,by omega,Same.put s nf,?_,hF.push hbb (Int.emod_nonneg _ (by omega)) (Int.emod_lt_of_pos _ p0)⟩
   rw [List.map_append];exact aq
  | false=>
   walk_at "s"
   refine ⟨.inl ⟨rfl,_,SqL.of hf⟩,?_⟩
   walk_at "s"
   refine gQ hf (by simp;omega) ?_
   walk_at "s"
   refine ⟨_,M,ms ++ [M*(M / 977+3) % 2147483629 % bb],_,rfl,hM0,by omega,Same.put s nf,?_,hF.push hbb (Int.emod_nonneg _ (by omega)) (Int.emod_lt_of_pos _ p0)⟩
   rw [List.map_append];exact aq
 ·rintro U H' ⟨n',N,ms,x6,rfl,_,_,s,hf,hF⟩
  walk_at "s"
  refine q f ms H' nf s hf ?_
  rw [List.length_map,List.take_length] at hF
  exact hF
def Kg:Sp:=fun vs H Q _=>∃ n:Int,vs=[.int n]/\Q (.bl true) H
theorem rU:aD ["_law_thing_here"] ["_law_thing_here"] (ak c7):=⟨rfl,rfl,rfl,by trivial,rfl,by trivial,by trivial⟩
theorem fJ (T:Txt w K mg):Has P w K mg base 1 "_law_whole" ["_law_thing_here"] Kg:=by
 refine cz T.d_law_whole rU (fun _ _ _ _ _ _ us hl=>L2.dq (fun _=>rfl) us hl) ?_ fun f cdv A outer s H vs Q E hr h=>?_
 ·rintro vs H Q E ⟨n,rfl,_⟩;rfl
 obtain ⟨n,rfl,q⟩:=h
 have hu:=hr.units0
 have hu64:=hr.units
 refine ⟨_,(az (aB (kE (aJ (bR (K:=K) rfl) (bc J9) T.b_isinstance aQ (aa (ao 0 Ka) (aa (lO (bc kz3c) T.b_int ph (by trivial) (by trivial)) aj)) (by trivial) (by trivial)) (jP (Jm (aJ (bR (K:=K) rfl) (bc J9) T.b_isinstance aQ (aa (ao 0 Ka) (aa (lO (bc kz3a) T.b_bool Az (by trivial) (by trivial)) aj)) (by trivial) (by trivial))))))),?_⟩
 walk_at "s"
 refine gO (.int _) rfl ?_
 walk_at "s"
 refine gO (.int _) rfl ?_
 walk_at "s"
 exact q
theorem join_snoc (s:Str):∀ (l:List Str) (y:Str),l≠[]->Str.join s (l ++ [y])=Str.join s l ++ s ++ y
 | [],_,h=>absurd rfl h
 | [p],y,_=>rfl
 | p :: q :: r,y,_=>by
  have ih:=join_snoc s (q :: r) y (by simp)
  show (p ++ s) ++ Str.join s ((q :: r) ++ [y])=(p ++ s) ++ Str.join s (q :: r) ++ s ++ y
  rw [ih]
  refine rT ?_
  simp [cps_append]
theorem zq (ys:List Str) (k:Nat):((ys.take k).map (·.length)).sum<=(ys.map (·.length)).sum:=by
 induction ys generalizing k with
 | nil=>simp
 | cons y ys ih=>
  cases k with
  | zero=>simp
  | succ k=>rw [List.take_succ_cons,List.map_cons,List.map_cons,List.sum_cons,List.sum_cons];have:=ih k;omega
theorem zr (c:Nat) (ys:List Str) (k:Nat):(Str.join ⟨#[c]⟩ (ys.take k)).length<=(ys.map (·.length)).sum+ys.length:=by
 have h1:=StrLaws.join_length_le ⟨#[c]⟩ (ys.take k)
 have h2:=zq ys k
 have e:(⟨#[c]⟩:Str).length=1:=rfl
 rw [e,Nat.mul_one,List.length_take] at h1
 omega
theorem Cm {ys:List Str} {y:Str} (h:y∈ys):y.length<=(ys.map (·.length)).sum:=by
 induction ys with
 | nil=>cases h
 | cons z ys ih=>
  rw [List.map_cons,List.sum_cons]
  rcases List.mem_cons.mp h with rfl | h
  ·omega
  ·have:=ih h;omega
theorem pK (a b:Str):(a ++ b).length=a.length+b.length:=by
 show (_ ++ _:Array Nat).size=_;simp [Str.length]
def Kh (K:W.Frag):Sp:=fun vs H Q _=>∃ (p:Addr) (ys:List Str) (c:Nat),vs=[.ref p,.str ⟨#[c]⟩]/\H p=some (.lst (ys.map V.str))/\(ys.map (·.length)).sum+ys.length<=15000/\∀ H',Same H H'->Q (.str (lW c ys)) H'
theorem cT:aD ["_law_words","_law_mark","_law_found","_law_k","_law_word_here"] ["_law_words","_law_mark"] (ak bT):=⟨rfl,rfl,rfl,by trivial,rfl,by trivial,by trivial⟩
theorem dm (T:Txt w K mg):Has P w K mg base 1 "_law_joined" ["_law_words","_law_mark"] (Kh K):=by
 refine cz T.d_law_joined cT (fun _ _ _ _ _ _ us hl=>L2.sr (fun _ _=>rfl) us hl) ?_ fun f cdv A outer s H vs Q E hr h=>?_
 ·rintro vs H Q E ⟨p,ys,c,rfl,_⟩;rfl
 obtain ⟨p,ys,c,rfl,hp,hl,q⟩:=h
 have hu:=hr.units0
 have hu64:=hr.units
 refine ⟨_,(au (aY (i:=2) cT.nd rfl (Or.inl xf) bB rfl) (au (kZ PassesOwn.never rfl (Bd (K:=K) rfl rfl (bc kz3f) T.b_enumerate (aa (ao 0 Kc) aj)) (uN (K:=K) rfl rfl (iT (iw (i:=3) cT.nd rfl (Or.inl Ke) rfl) (iT (iw (i:=4) cT.nd rfl (Or.inl Kd) rfl) rG))) (au (aV (aM sO (ao 3 Ke) aA (by walk_at "p")) (az (aY (i:=2) cT.nd rfl (Or.inl xf) (bG bY (ao 2 xf) (ao 1 kz3i)) rfl)) aN) (az (aY (i:=2) cT.nd rfl (Or.inl xf) (bG bY (ao 2 xf) (ao 4 Kd)) rfl)))) (au (aV (aM (aP (K:=K) rfl hu64) (ao 0 Kc) (jE aj) (by walk_at "p")) (az (aB bB)) aN) (az (aB (ao 2 xf)))))),?_⟩
 walk_at "s"
 have hz:40000<=sizeLine:=by decide
 refine .inr ⟨p,_,rfl,SqL.of hp,?_⟩
 refine wM (xs:=ys.map V.str) (fun k U G=>Same H G/\∃ x3 x4,U=[some (.ref p),some (.str ⟨#[c]⟩),some (.str (Str.join ⟨#[c]⟩ (ys.take k))),x3,x4]) ⟨Same.refl H,_,_,rfl⟩ (fun i U G _ h=>SqL.of (h.1 _ _ hp)) ?_ ?_
 ·rintro k U G T' v hv ⟨s,x3,x4,rfl⟩ nT
  rw [List.getElem?_map] at hv
  obtain ⟨y,ey,rfl⟩:=Option.map_eq_some_iff.mp hv
  have hk:=(List.getElem?_eq_some_iff.mp ey).1
  have l1:=zr c ys k
  have l2:=Cm (List.mem_of_getElem? ey)
  have s2:=(Same.refl G).upd nT (o:=.tup [.int (k:Int),.str y])
  have f2:=aq (H:=G) (a:=T') (o:=.tup [.int (k:Int),.str y])
  generalize upd G T' (.tup [.int (k:Int),.str y])=G2 at s2 f2 ⊢
  refine dO (SqT.of f2) rfl ?_
  walk_at "s"
  by_cases h0:k=0
  ·subst h0
   rw [decide_eq_false (show ¬ (0:Int) < ((0:Nat):Int) by omega)]
   walk_at "s"
   refine jN (by omega) ?_
   walk_at "s"
   refine ⟨s.trans s2,some (.int ((0:Nat):Int)),some (.str y),?_⟩
   rw [List.take_add_one,ey,List.take_zero,show Str.join ⟨#[c]⟩ [] ++ y=y from rT (by rw [cps_append];rfl)]
   rfl
  ·rw [decide_eq_true (show (0:Int) < (k:Int) by omega)]
   walk_at "s"
   refine jN (by rw [show (⟨#[c]⟩:Str).length=1 from rfl];omega) ?_
   walk_at "s"
   refine jN (by rw [pK,show (⟨#[c]⟩:Str).length=1 from rfl];omega) ?_
   walk_at "s"
   refine ⟨s.trans s2,some (.int (k:Int)),some (.str y),?_⟩
   rw [List.take_add_one,ey,show (some y).toList=[y] from rfl,join_snoc _ _ _ (by intro z;have:=congrArg List.length z;rw [List.length_take,List.length_nil] at this;omega)]
   rfl
 ·rintro U G ⟨s,x3,x4,rfl⟩
  rw [List.length_map,List.take_length]
  walk_at "s"
  refine dw rfl fun e H1 ne S1 he=>?_
  walk_at "s"
  have hp1:=(s.trans S1) _ _ hp
  refine .inl (Gi (SqL.of hp1) (SqL.of he) (by rw [List.all_eq_true];intro v hv;obtain ⟨y,_,rfl⟩:=List.mem_map.mp hv;rfl) rfl ?_)
  walk_at "s"
  have q':=q H1 (s.trans S1)
  unfold lW at q'
  cases ys with
  | nil=>
   rw [show pY (([]:List Str).map V.str) []=true from rfl]
   walk_at "s"
   exact q'
  | cons y ys=>
   rw [show pY ((y :: ys).map V.str) []=false from rfl]
   rw [if_neg (by simp)] at q'
   walk_at "s"
   exact q'
end
local macro_rules | `(tactic| walk_at "s") => `(tactic| (with_reducible repeat (first | refine m7 ?_ | walk_at "3")))
local macro_rules | `(tactic| walk_at "n") => `(tactic| (with_reducible repeat (walk_at "3")))
section
variable {P:Program} {w:World} {K:W.Frag} {mg:Str->Option Value} {base:Heap}
theorem mW:(["_law_part","_law_marks"]:List Str).Nodup:=by trivial
theorem mX:(["_law_heap"]:List Str).Nodup:=by trivial
theorem iY:(["_law_i","_law_j"]:List Str).Nodup:=by trivial
theorem mY:(["_law_number_here"]:List Str).Nodup:=by trivial
theorem Cp:bH bj "_law_joined":=by trivial
theorem xg:cG bj "_law_thing_here":=by trivial
theorem kz3l:KCc bj "_law_marks":=by trivial
theorem Cq:cG bj "_law_kind":=by trivial
inductive Th where
 | row (z:Str)
 | nums (ns:List Nat)
 | prs (ps:List (Nat×Nat))
 | hps (hs:List (List (Nat×Nat)))
 | cgs (cs:List Cg)
def Th.kd:Th->Int
 | .row _=>0
 | .nums _=>1
 | .prs _=>2
 | .hps _=>3
 | .cgs _=>4
def Th.wd:Th->Str
 | .row z=>rW z
 | .nums ns=>lW 44 (ns.map nW)
 | .prs ps=>lW 44 (ps.map pW)
 | .hps hs=>lW 47 (hs.map jl)
 | .cgs cs=>lW 44 (cs.map cW)
def Th.ok:Th->Prop
 | .row z=>Row z
 | .nums ns=>ns.length<=1000/\∀ n∈ns,n < 10000
 | .prs ps=>xx ps
 | .hps hs=>okG hs
 | .cgs cs=>ud cs
def Th.vs (H:Hp) (us:List V):Th->Prop
 | .row _=>False
 | .nums ns=>us=ns.map fun n:Nat=>V.int (n:Int)
 | .prs ps=>RP H us ps
 | .hps hs=>RH H us hs
 | .cgs cs=>RC H us cs
def Th.at (H:Hp) (v:V) (th:Th):Prop:=(∃ z,th= .row z/\v= .str z)\/∃ p us,v= .ref p/\H p=some (.lst us)/\th.vs H us
theorem Th.vs_same {H H':Hp} {us:List V} {th:Th} (h:th.vs H us) (s:Same H H'):th.vs H' us:=by
 cases th with
 | row z=>exact h
 | nums ns=>exact h
 | prs ps=>exact RP.same h s
 | hps hs=>exact RH.same h s
 | cgs cs=>exact RC.same h s
theorem Th.at_same {H H':Hp} {v:V} {th:Th} (h:th.at H v) (s:Same H H'):th.at H' v:=by
 rcases h with h | ⟨p,us,e,hp,hv⟩
 ·exact .inl h
 ·exact .inr ⟨p,us,e,s _ _ hp,Th.vs_same hv s⟩
theorem qP {th:Th} {v:V} {H:Hp} (h:th.at H v):(∃ z,th= .row z/\v= .str z)\/(th.kd≠0/\∃ p us,v= .ref p/\H p=some (.lst us)/\th.vs H us):=by
 rcases h with h | ⟨p,us,e,hp,hv⟩
 ·exact .inl h
 ·refine .inr ⟨fun z=>?_,p,us,e,hp,hv⟩
  cases th with
  | row z=>exact hv
  | nums ns=>cases z
  | prs ps=>cases z
  | hps hs=>cases z
  | cgs cs=>cases z
theorem Hg {ps:List (Nat×Nat)} (h:xx ps):((ps.map pW).map (·.length)).sum+(ps.map pW).length<=15000:=by
 have:=jk (ys:=ps.map pW) (m:=12) fun y hy=>by obtain ⟨n,hn,rfl⟩:=List.mem_map.mp hy;exact lr (h.2 n hn)
 have:=h.1
 rw [List.length_map] at*
 omega
theorem Hh {c:Cg} (h:okC c):o6 (iC [] [(Sum.inr (Str.ofString "keep"),.str (Str.ofString "=")),(Sum.inr (Str.ofString "change"),.str (Str.ofString "!")),(Sum.inr (Str.ofString "out"),.str (Str.ofString "<")),(Sum.inr (Str.ofString "in"),.str (Str.ofString ">"))]) (Sum.inr c.k)=some (.str (uW c.k)):=by
 rcases h.2 with ⟨h1 | h1 | h1,_⟩ | ⟨h1,_⟩ <;> rw [h1] <;> trivial
def zu (K:W.Frag) (d:Nat):Sp:=fun vs H Q _=>∃ (th:Th) (k:Int) (v:V),vs=[.int k,v]/\th.kd=k/\th.at H v/\th.ok/\(k=3->d≠0)/\∀ H',Same H H'->Q (.str th.wd) H'
def Kl (K:W.Frag):Nat->Sp
 | 0=>fun _ _ _ _=>False
 | d+1=>zu K d
theorem ik:aD ["_law_kind","_law_thing_here","_law_marks"] ["_law_kind","_law_thing_here"] (ak bj):=⟨rfl,rfl,rfl,by trivial,rfl,by trivial,by trivial⟩
theorem pL (T:Txt w K mg):Has P w K mg base 1 "_law_written" ["_law_kind","_law_thing_here"] (fun _ _ _ _=>False):=cz (k:=0) T.d_law_written ik (fun _ _ _ _ _ _ us hl=>L2.sr (fun _ _=>rfl) us hl) (fun _ _ _ _ h=>h.elim) (fun _ _ _ _ _ _ _ _ _ _ h=>h.elim)
theorem jX (T:Txt w K mg) (d:Nat) (dF:Has P w K mg base (1+d) "_law_written" ["_law_kind","_law_thing_here"] (Kl K d)):Has P w K mg base (1+d+1) "_law_written" ["_law_kind","_law_thing_here"] (zu K d):=by
 have dm:=dm (P:=P) (w:=w) (base:=base) T
 refine cz T.d_law_written ik (fun _ _ _ _ _ _ us hl=>L2.sr (fun _ _=>rfl) us hl) ?_ fun f cdv A outer s H vs Q E hr h=>?_
 ·rintro vs H Q E ⟨th,k,v,rfl,_⟩;rfl
 obtain ⟨th,k,v,rfl,hk,hv,ok,hd,q⟩:=h
 have hu:=hr.units0
 have hu64:=hr.units
 refine ⟨_,(au (aV (aM (aP (K:=K) rfl hu64) (ao 0 Cq) aA (by walk_at "p")) (au (aV (aM (aP (K:=K) rfl hu64) (ao 1 xg) bB (by walk_at "p")) (az (aB bB)) aN) (az (aB (ao 1 xg)))) aN) (au (aV (aM (aP (K:=K) rfl hu64) (ao 0 Cq) aA (by walk_at "p")) (az (aB (aC dm (hr.mono (by omega)) (bc Cp) (aa (bA (sub:=[none]) (aL (N:=["_law_kind","_law_thing_here","_law_marks"]) (sc:=ak bj) (N':=["_law_number_here"]) (by trivial)) rfl rfl rfl (aX (K:=K) rfl (ao 1 xg)) (fun C s₀ H₀ ex=>(du 0 (by trivial) mY)) (fun C s₀ H₀ ex=>aR) (fun C s₀ H₀ ex=>(b8 gF (jL (by trivial)) T.b_str fL (aa (bI 0 (by trivial)) aj) (by trivial) (by trivial)))) (aa bB aj)) (by trivial)))) aN) (au (aV (aM (aP (K:=K) rfl hu64) (ao 0 Cq) aA (by walk_at "p")) (az (aB (aC dm (hr.mono (by omega)) (bc Cp) (aa (bA (sub:=[none,none]) (aL (N:=["_law_kind","_law_thing_here","_law_marks"]) (sc:=ak bj) (N':=["_law_i","_law_j"]) (by trivial)) rfl rfl rfl (aX (K:=K) rfl (ao 1 xg)) (fun C s₀ H₀ ex=>(uN (K:=K) (n:=2) rfl rfl (iT (du 0 (by trivial) iY) (iT (du 1 (by trivial) iY) rG)))) (fun C s₀ H₀ ex=>aR) (fun C s₀ H₀ ex=>(bG bY (bG bY (b8 gF (jL (by trivial)) T.b_str fL (aa (bI 0 (by trivial)) aj) (by trivial) (by trivial)) bB) (b8 gF (jL (by trivial)) T.b_str fL (aa (bI 1 (by trivial)) aj) (by trivial) (by trivial))))) (aa bB aj)) (by trivial)))) aN) (au (aV (aM (aP (K:=K) rfl hu64) (ao 0 Cq) aA (by walk_at "p")) (az (aB (aC dm (hr.mono (by omega)) (bc Cp) (aa (bA (sub:=[none]) (aL (N:=["_law_kind","_law_thing_here","_law_marks"]) (sc:=ak bj) (N':=["_law_heap"]) (by trivial)) rfl rfl rfl (aX (K:=K) rfl (ao 1 xg)) (fun C s₀ H₀ ex=>(du 0 (by trivial) mX)) (fun C s₀ H₀ ex=>aR) (fun C s₀ H₀ ex=>(aC dF (hr.mono (by omega)) (jL (by trivial)) (aa aA (aa (bI 0 (by trivial)) aj)) (by trivial)))) (aa bB aj)) (by trivial)))) aN) (au (aY (i:=2) ik.nd rfl (Or.inr kz3l) (FW (oM bB bB (oM bB bB (oM bB bB (oM bB bB FT)))) rfl rfl (by simp) (by decide)) rfl) (az (aB (aC dm (hr.mono (by omega)) (bc Cp) (aa (bA (sub:=[none,some 2]) (aL (N:=["_law_kind","_law_thing_here","_law_marks"]) (sc:=ak bj) (N':=["_law_part","_law_marks"]) (by trivial)) rfl rfl rfl (aX (K:=K) rfl (ao 1 xg)) (fun C s₀ H₀ ex=>(du 0 (by trivial) mW)) (fun C s₀ H₀ ex=>aR) (fun C s₀ H₀ ex=>(bG bY (Gn hu64 (Jk 1 (by trivial)) (gP (K:=K) rfl (bI 0 (by trivial)) aA)) (cU (K:=K) rfl PySem.F.plainAttrs_str PySem.F.slot_str_join PySem.F.type_str_join (iU (K:=K) rfl) bB (aa (b8 (kY (K:=K) rfl rfl) (jL (by trivial)) T.b_list jd (aa (jf (jh (K:=K) rfl) (bI 0 (by trivial)) (iu aA) j0) aj) (by trivial) (by trivial)) aj))))) (aa bB aj)) (by trivial))))))))),?_⟩
 walk_at "s"
 have hz:40000<=sizeLine:=by decide
 cases th with
 | row z=>
  obtain rfl:k=0:=hk.symm
  obtain rfl:v= .str z:=by
   rcases hv with ⟨z',e,h⟩ | ⟨p,us,_,_,h⟩
   ·cases e;exact h
   ·exact h.elim
  rw [decide_eq_true (rfl:V.int 0=V.int 0)]
  walk_at "s"
  have q':=q H (Same.refl H)
  unfold Th.wd rW at q'
  by_cases h:z.cps.size=0
  ·rw [decide_eq_true (show V.str z=V.str (Str.ofString "") by rw [j5.mpr h])]
   simp only [if_pos h] at q'
   walk_at "s"
   exact q'
  ·rw [decide_eq_false (show ¬ V.str z=V.str (Str.ofString "") from fun e=>h (j5.mp (V.str.inj e)))]
   simp only [if_neg h] at q'
   walk_at "s"
   exact q'
 | nums ns=>
  obtain rfl:k=1:=hk.symm
  obtain ⟨p,rfl,hp⟩:∃ p,v= .ref p/\H p=some (.lst (ns.map fun n:Nat=>V.int (n:Int))):=by
   rcases hv with ⟨z',e,h⟩ | ⟨p,us,e,hp,h⟩
   ·cases e
   ·cases h;exact ⟨p,e,hp⟩
  obtain ⟨hl,hn⟩:=ok
  clear hv
  rw [decide_eq_false (show ¬ V.int 1=V.int 0 by decide)]
  walk_at "s"
  rw [decide_eq_true (rfl:V.int 1=V.int 1)]
  walk_at "s"
  refine .inl ⟨p,rfl,⟨_,SqL.of hp⟩,?_⟩
  refine aH (xs:=ns.map fun n:Nat=>V.int (n:Int)) (fun i zs G=>G=H/\zs=((ns.take i).map nW).map V.str) (by rw [List.length_map];omega) ⟨rfl,rfl⟩ ?_ ?_ ?_ ?_
  ·rintro i zs G ⟨_,rfl⟩
   rw [List.length_map,List.length_map,List.length_take];omega
  ·rintro i zs G ⟨rfl,_⟩
   exact SqL.of hp
  ·rintro i zs G v hv ⟨rfl,rfl⟩
   rw [List.getElem?_map] at hv
   obtain ⟨n,en,rfl⟩:=Option.map_eq_some_iff.mp hv
   walk_at "s"
   refine ⟨KeepSt.set rfl,?_⟩
   walk_at "s"
   refine ⟨n,rfl,fB (hn n (List.mem_of_getElem? en)),rfl,?_⟩
   rw [List.take_add_one,en,List.map_append,List.map_append]
   rfl
  ·rintro zs G D H' ⟨rfl,rfl⟩ nD S hD
   rw [List.length_map,List.take_length] at hD
   try walk_at "s"
   refine ⟨D,ns.map nW,44,by rw [comma],hD,?_,fun H2 S2=>q H2 (S.trans S2)⟩
   have:=jk (ys:=ns.map nW) (m:=5) fun y hy=>by obtain ⟨n,h,rfl⟩:=List.mem_map.mp hy;exact fG (hn n h)
   rw [List.length_map] at this ⊢
   omega
 | prs ps=>
  obtain rfl:k=2:=hk.symm
  obtain ⟨p,us,rfl,hp,hR⟩:∃ p us,v= .ref p/\H p=some (.lst us)/\RP H us ps:=by
   rcases hv with ⟨z',e,h⟩ | ⟨p,us,e,hp,h⟩
   ·cases e
   ·exact ⟨p,us,e,hp,h⟩
  have hul:=hR.1
  have ok:xx ps:=ok
  have hl:=ok.1
  rw [decide_eq_false (show ¬ V.int 2=V.int 0 by decide)]
  walk_at "s"
  rw [decide_eq_false (show ¬ V.int 2=V.int 1 by decide)]
  walk_at "s"
  rw [decide_eq_true (rfl:V.int 2=V.int 2)]
  walk_at "s"
  refine .inl ⟨p,rfl,⟨_,SqL.of hp⟩,?_⟩
  refine aH (xs:=us) (fun i zs G=>Same H G/\zs=((ps.take i).map pW).map V.str) (by omega) ⟨Same.refl H,rfl⟩ ?_ ?_ ?_ ?_
  ·rintro i zs G ⟨_,rfl⟩
   rw [List.length_map,List.length_map,List.length_take];omega
  ·rintro i zs G ⟨s,_⟩
   exact SqL.of (s _ _ hp)
  ·rintro i zs G v hv ⟨s,rfl⟩
   have hi:i < ps.length:=by rw [← hul];exact (List.getElem?_eq_some_iff.mp hv).1
   obtain ⟨pp,ep⟩:∃ pp,ps[i]?=some pp:=⟨_,List.getElem?_eq_getElem hi⟩
   obtain ⟨t,rfl,ht⟩:=(hR.same s).2 i v pp hv ep
   obtain ⟨k1,k2⟩:=ok.2 pp (List.mem_of_getElem? ep)
   have n1:=fG k1
   have n2:=fG k2
   refine dO (SqT.of ht) rfl ?_
   walk_at "s"
   refine ⟨(KeepSt.set rfl).trans (KeepSt.set rfl),?_⟩
   walk_at "s"
   refine ⟨pp.1,rfl,fB k1,?_⟩
   walk_at "s"
   refine jN (show (nW pp.1).length+(Str.ofString ":").length<=sizeLine by rw [show (Str.ofString ":").length=1 by trivial];omega) ?_
   walk_at "s"
   refine ⟨pp.2,rfl,fB k2,?_⟩
   walk_at "s"
   refine jN (show (nW pp.1 ++ Str.ofString ":").length+(nW pp.2).length<=sizeLine by rw [pK,show (Str.ofString ":").length=1 by trivial];omega) ?_
   walk_at "s"
   refine ⟨s,?_⟩
   rw [List.take_add_one,ep,List.map_append,List.map_append,colon]
   rfl
  ·rintro zs G D H' ⟨s,rfl⟩ nD S hD
   rw [hul,List.take_length] at hD
   try walk_at "s"
   refine ⟨D,ps.map pW,44,by rw [comma],hD,Hg ok,fun H2 S2=>q H2 ((s.trans S).trans S2)⟩
 | hps hs=>
  obtain rfl:k=3:=hk.symm
  obtain ⟨d,rfl⟩:∃ e,d=e+1:=⟨d - 1,by have:=hd rfl;omega⟩
  obtain ⟨p,us,rfl,hp,hR⟩:∃ p us,v= .ref p/\H p=some (.lst us)/\RH H us hs:=by
   rcases hv with ⟨z',e,h⟩ | ⟨p,us,e,hp,h⟩
   ·cases e
   ·exact ⟨p,us,e,hp,h⟩
  have hul:=hR.1
  have ok:okG hs:=ok
  have hl:=ok.1
  rw [decide_eq_false (show ¬ V.int 3=V.int 0 by decide)]
  walk_at "s"
  rw [decide_eq_false (show ¬ V.int 3=V.int 1 by decide)]
  walk_at "s"
  rw [decide_eq_false (show ¬ V.int 3=V.int 2 by decide)]
  walk_at "s"
  rw [decide_eq_true (rfl:V.int 3=V.int 3)]
  walk_at "s"
  refine .inl ⟨p,rfl,⟨_,SqL.of hp⟩,?_⟩
  refine aH (xs:=us) (fun i zs G=>Same H G/\zs=((hs.take i).map jl).map V.str) (by omega) ⟨Same.refl H,rfl⟩ ?_ ?_ ?_ ?_
  ·rintro i zs G ⟨_,rfl⟩
   rw [List.length_map,List.length_map,List.length_take];omega
  ·rintro i zs G ⟨s,_⟩
   exact SqL.of (s _ _ hp)
  ·rintro i zs G v hv ⟨s,rfl⟩
   have hi:i < hs.length:=by rw [← hul];exact (List.getElem?_eq_some_iff.mp hv).1
   obtain ⟨pp,ep⟩:∃ pp,hs[i]?=some pp:=⟨_,List.getElem?_eq_getElem hi⟩
   obtain ⟨t,ws,rfl,ht,hP⟩:=(hR.same s).2 i v pp hv ep
   walk_at "s"
   refine ⟨KeepSt.set rfl,?_⟩
   walk_at "s"
   refine ⟨.prs pp,2,.ref t,rfl,rfl,.inr ⟨t,ws,rfl,ht,hP⟩,(ok.2 pp (List.mem_of_getElem? ep)).2.2,(fun z=>by cases z),fun G2 S2=>?_⟩
   refine ⟨s.trans S2,?_⟩
   rw [List.take_add_one,ep,List.map_append,List.map_append]
   rfl
  ·rintro zs G D H' ⟨s,rfl⟩ nD S hD
   rw [hul,List.take_length] at hD
   try walk_at "s"
   refine ⟨D,hs.map jl,47,by rw [slash],hD,?_,fun H2 S2=>q H2 ((s.trans S).trans S2)⟩
   have:=jk (ys:=hs.map jl) (m:=131) fun y hy=>by obtain ⟨n,hn,rfl⟩:=List.mem_map.mp hy;exact mV (ok.2 n hn).2.2 (ok.2 n hn).2.1
   rw [List.length_map] at this ⊢
   omega
 | cgs cs=>
  obtain rfl:k=4:=hk.symm
  obtain ⟨p,us,rfl,hp,hR⟩:∃ p us,v= .ref p/\H p=some (.lst us)/\RC H us cs:=by
   rcases hv with ⟨z',e,h⟩ | ⟨p,us,e,hp,h⟩
   ·cases e
   ·exact ⟨p,us,e,hp,h⟩
  have hul:=hR.1
  have ok:ud cs:=ok
  have hl:=ok.1
  rw [decide_eq_false (show ¬ V.int 4=V.int 0 by decide)]
  walk_at "s"
  rw [decide_eq_false (show ¬ V.int 4=V.int 1 by decide)]
  walk_at "s"
  rw [decide_eq_false (show ¬ V.int 4=V.int 2 by decide)]
  walk_at "s"
  rw [decide_eq_false (show ¬ V.int 4=V.int 3 by decide)]
  walk_at "s"
  refine FP fun m nm=>?_
  refine ⟨aq,[(Sum.inr (Str.ofString "keep"),.str (Str.ofString "=")),(Sum.inr (Str.ofString "change"),.str (Str.ofString "!")),(Sum.inr (Str.ofString "out"),.str (Str.ofString "<")),(Sum.inr (Str.ofString "in"),.str (Str.ofString ">"))],rfl,by decide,?_⟩
  have S1:Same H (upd (upd H m (.dK [])) m (.dK (iC [] [(Sum.inr (Str.ofString "keep"),.str (Str.ofString "=")),(Sum.inr (Str.ofString "change"),.str (Str.ofString "!")),(Sum.inr (Str.ofString "out"),.str (Str.ofString "<")),(Sum.inr (Str.ofString "in"),.str (Str.ofString ">"))]))):=Same.put ((Same.refl H).upd nm) nm
  have hm:=aq (H:=upd H m (.dK [])) (a:=m) (o:=.dK (iC [] [(Sum.inr (Str.ofString "keep"),.str (Str.ofString "=")),(Sum.inr (Str.ofString "change"),.str (Str.ofString "!")),(Sum.inr (Str.ofString "out"),.str (Str.ofString "<")),(Sum.inr (Str.ofString "in"),.str (Str.ofString ">"))]))
  generalize upd (upd H m (.dK [])) m (.dK (iC [] [(Sum.inr (Str.ofString "keep"),.str (Str.ofString "=")),(Sum.inr (Str.ofString "change"),.str (Str.ofString "!")),(Sum.inr (Str.ofString "out"),.str (Str.ofString "<")),(Sum.inr (Str.ofString "in"),.str (Str.ofString ">"))]))=H1 at S1 hm ⊢
  walk_at "s"
  have hp1:=S1 _ _ hp
  have hR1:=hR.same S1
  refine .inl ⟨p,rfl,⟨_,SqL.of hp1⟩,?_⟩
  refine aH (xs:=us) (fun i zs G=>Same H1 G/\zs=((cs.take i).map cW).map V.str) (by omega) ⟨Same.refl H1,rfl⟩ ?_ ?_ ?_ ?_
  ·rintro i zs G ⟨_,rfl⟩
   rw [List.length_map,List.length_map,List.length_take];omega
  ·rintro i zs G ⟨s,_⟩
   exact SqL.of (s _ _ hp1)
  ·rintro i zs G v hv ⟨s,rfl⟩
   have hi:i < cs.length:=by rw [← hul];exact (List.getElem?_eq_some_iff.mp hv).1
   obtain ⟨c,ec⟩:∃ c,cs[i]?=some c:=⟨_,List.getElem?_eq_getElem hi⟩
   obtain ⟨t,rfl,ht⟩:=(hR1.same s).2 i v c hv ec
   have hkc:=ok.2 c (List.mem_of_getElem? ec)
   have hl2:c.ls.length<=2:=by rcases hkc.len with h | h <;> omega
   obtain ⟨m1,m2⟩:=rN hkc
   have hg:=DGet.k (k:=Sum.inr c.k) (s _ _ hm)
   rw [Hh hkc] at hg
   walk_at "s"
   refine ⟨KeepSt.set rfl,?_⟩
   walk_at "s"
   refine gM (SqT.of ht) (dZ (j:=0) (by rfl)) ?_
   walk_at "s"
   refine ⟨m,.str (uW c.k),rfl,hg,?_⟩
   walk_at "s"
   refine ⟨rfl,?_⟩
   walk_at "s"
   refine uU ht fun t2 G1 S2 h1=>?_
   walk_at "s"
   replace h1:G1 t2=some (.tup ((c.ls.map fun x=>(⟨#[x]⟩:Str)).map V.str)):=by
    rw [h1,show (some (1:Int))=some ((1:Nat):Int) from rfl,lq,List.map_map];rfl
   refine .inl ⟨t2,_,rfl,.inr (SqT.of h1),fun l nl=>?_⟩
   walk_at "s"
   refine lV aq (by rw [pq (gY _),show (Str.ofString "").length=0 by trivial,List.length_map];omega) ?_
   walk_at "s"
   refine jN (by rw [m2,lN (gY _),List.length_map];omega) ?_
   walk_at "s"
   refine ⟨(s.trans S2).upd nl,?_⟩
   rw [List.take_add_one,ec,List.map_append,List.map_append]
   rfl
  ·rintro zs G D H' ⟨s,rfl⟩ nD S hD
   rw [hul,List.take_length] at hD
   try walk_at "s"
   refine ⟨D,cs.map cW,44,by rw [comma],hD,?_,fun H2 S2=>q H2 ((S1.trans (s.trans S)).trans S2)⟩
   have:=jk (ys:=cs.map cW) (m:=3) fun y hy=>by obtain ⟨n,h,rfl⟩:=List.mem_map.mp hy;exact rO (ok.2 n h)
   rw [List.length_map] at this ⊢
   omega
theorem uZ (T:Txt w K mg):∀ d:Nat,Has P w K mg base (2+d) "_law_written" ["_law_kind","_law_thing_here"] (zu K d):=fun d=>by
 have key:∀ d:Nat,Has P w K mg base (2 - 1+d+1) "_law_written" ["_law_kind","_law_thing_here"] (zu K d):=fun d=>by
  induction d with
  | zero=>exact jX T 0 ((pL T).mono (by decide))
  | succ d ih=>exact jX T (d+1) (ih.mono (by omega))
 exact (key d).mono (by omega)
theorem dF (T:Txt w K mg):Has P w K mg base (2+1) "_law_written" ["_law_kind","_law_thing_here"] (zu K 1):=uZ T 1
end
local macro_rules | `(tactic| walk_at "s") => `(tactic| (with_reducible repeat (first | refine m7 ?_ | walk_at "1")))
local macro_rules | `(tactic| walk_at "n") => `(tactic| (with_reducible repeat (walk_at "1")))
section
variable {P:Program} {w:World} {K:W.Frag} {mg:Str->Option Value} {base:Heap}
theorem Cr:cG gD "_law_cell_here":=by trivial
theorem Hi:cG cg "_law_found":=by trivial
theorem kz3p:bH cg "range":=by trivial
theorem kz3q:bH cg "len":=by trivial
theorem Hj:cG cg "_law_numbers_here":=by trivial
theorem Hk:cG cg "_law_k":=by trivial
theorem Km:bH cg "_law_number":=by trivial
theorem Cu:cG bU "_law_found":=by trivial
theorem kz3v:cG bU "_law_numbers_here":=by trivial
theorem xj:cG bU "_law_number_here":=by trivial
theorem Hl:cG bU "_law_signs":=by trivial
theorem Hm:cG bU "_law_one":=by trivial
def Hx (p:Addr) (H:Hp):Hp:=fun b=>if b=p then none else H b
theorem oU (p:Addr) (H:Hp):Same (Hx p H) H:=fun b o e=>by
 unfold Hx at e
 split at e
 ·cases e
 ·exact e
theorem uq {p b:Addr} {H:Hp} {o:HO} (h:H b=some o) (n:b≠p):Hx p H b=some o:=by unfold Hx;rw [if_neg n];exact h
theorem vX {p:Addr} {H H':Hp} (c:Same H H'):Same (Hx p H) (Hx p H'):=fun b o e=>by
 unfold Hx at e ⊢
 split at e
 ·cases e
 ·rename_i h
  rw [if_neg h];exact c b o e
theorem rY {p:Addr} {H:Hp} {o:HO}:Hx p (upd H p o)=Hx p H:=by
 funext b
 unfold Hx
 split
 ·rfl
 ·rename_i h;exact aK h
def Ko (K:W.Frag):Sp:=fun vs H Q _=>∃ n:Int,vs=[.int n]/\∀ (m:Nat) H',m < 10000->Same H H'->Q (.int (m:Int)) H'
theorem qd:aD ["_law_cell_here"] ["_law_cell_here"] (ak gD):=⟨rfl,rfl,rfl,by trivial,rfl,by trivial,by trivial⟩
theorem cQ (T:Txt w K mg):Has P w K mg base 1 "_law_number" ["_law_cell_here"] (Ko K):=by
 refine cz T.d_law_number qd (fun _ _ _ _ _ _ us hl=>L2.dq (fun _=>rfl) us hl) ?_ fun f cdv A outer s H vs Q E hr h=>?_
 ·rintro vs H Q E ⟨n,rfl,_⟩;rfl
 obtain ⟨n,rfl,q⟩:=h
 have hu:=hr.units0
 have hu64:=hr.units
 refine ⟨_,(au (aV (aM (aP (K:=K) rfl hu64) (bG cN (ao 0 Cr) aA) aA (by walk_at "p")) (az (aB (bG cN (bG dY (ao 0 Cr) aA) aA))) aN) (az (aB (bG cN (bG dY (ao 0 Cr) aA) (gP (K:=K) rfl (jE (aa aA (aa aA (aa aA aj)))) (bG cN (bG dY (ao 0 Cr) aA) aA)))))),?_⟩
 walk_at "s"
 by_cases h:n % 3=0
 ·rw [decide_eq_true (show V.int (n % 3)=V.int 0 by rw [h])]
  walk_at "s"
  obtain ⟨m,em,hm⟩:∃ m:Nat,n / 3 % 10000=(m:Int)/\m < 10000:=⟨(n / 3 % 10000).toNat,by omega,by omega⟩
  rw [em]
  exact q m H hm (Same.refl H)
 ·rw [decide_eq_false (show ¬ V.int (n % 3)=V.int 0 from fun z=>h (V.int.inj z))]
  walk_at "s"
  refine dw rfl fun l H1 nl S1 hl=>?_
  walk_at "s"
  obtain ⟨v,hv,e⟩:=CW (vs:=[V.int 11,V.int 101,V.int 1001]) (d:=n / 7 % 3) (by omega) (by simp;omega)
  obtain ⟨x,rfl,x0,x1⟩:∃ x:Int,v= .int x/\0 < x/\x < 10000:=by
   simp at hv
   rcases hv with rfl | rfl | rfl <;> exact ⟨_,rfl,by decide,by decide⟩
  refine eN (SqL.of hl) e ?_
  walk_at "s"
  have a1:=Int.emod_nonneg (n / 3) (show x≠0 by omega)
  have a2:=Int.emod_lt_of_pos (n / 3) x0
  obtain ⟨m,em,hm⟩:∃ m:Nat,n / 3 % x=(m:Int)/\m < 10000:=⟨(n / 3 % x).toNat,by omega,by omega⟩
  rw [em]
  exact q m H1 hm S1
theorem xm {j:Int} (h0: -1<=j) (h1:j < 2 ^ 60):Builtin.Range.small 0 j 2=true:=by
 unfold Builtin.Range.small Builtin.Range.rangeSize
 simp only [Builtin.Range.rangeFitsLong,Bool.and_eq_true,Bool.or_eq_true,decide_eq_true_eq,beq_iff_eq,show (2:Int) > 0 by decide,if_true]
 split <;> omega
theorem zx {m:Nat}:Builtin.Range.rangeSize 0 (((2*m:Nat):Int) - 1) 2=(m:Int):=by
 unfold Builtin.Range.rangeSize
 simp only [show (2:Int) > 0 by decide,if_true]
 split <;> omega
def Kp (K:W.Frag):Sp:=fun vs H Q _=>∃ (p:Addr) (ms:List Int) (m:Nat),vs=[.ref p]/\H p=some (.lst (ms.map V.int))/\ms.length=2*m/\m<=300/\
 ∀ q us ps H',H q=none->Same H H'->H' q=some (.lst us)->RP (Hx q H') us ps->ps.length=m->xx ps->Q (.ref q) H'
theorem jq:aD ["_law_numbers_here","_law_found","_law_k"] ["_law_numbers_here"] (ak cg):=⟨rfl,rfl,rfl,by trivial,rfl,by trivial,by trivial⟩
theorem iB (T:Txt w K mg):Has P w K mg base 2 "_law_pairs" ["_law_numbers_here"] (Kp K):=by
 have cQ:=cQ (P:=P) (w:=w) (base:=base) T
 refine cz T.d_law_pairs jq (fun _ _ _ _ _ _ us hl=>L2.dq (fun _=>rfl) us hl) ?_ fun f cdv A outer s H vs Q E hr h=>?_
 ·rintro vs H Q E ⟨p,ms,m,rfl,_⟩;rfl
 obtain ⟨p,ms,m,rfl,hp,hl,hm,q⟩:=h
 have hu:=hr.units0
 have hu64:=hr.units
 refine ⟨_,(au (aY (i:=1) jq.nd rfl (Or.inl Hi) (jE aj) rfl) (au (kZ PassesOwn.never rfl (qI (bc kz3p) T.b_range (aa aA (aa (bG Ef (aJ (bQ (K:=K) rfl) (bc kz3q) T.b_len d7 (aa (ao 0 Hj) aj) (by trivial) (by trivial)) aA) (aa aA aj)))) (iw (i:=2) jq.nd rfl (Or.inl Hk) rfl) (az (bZ (cU (K:=K) rfl PySem.F.plainAttrs_list PySem.F.slot_list_append PySem.F.type_list_append eO (ao 1 Hi) (aa (tQ (aa (aC cQ (hr.mono (by decide)) (bc Km) (aa (gP (K:=K) rfl (ao 0 Hj) (ao 2 Hk)) aj) (by trivial)) (aa (aC cQ (hr.mono (by decide)) (bc Km) (aa (gP (K:=K) rfl (ao 0 Hj) (bG bY (ao 2 Hk) aA)) aj) (by trivial)) aj))) aj))))) (az (aB (ao 1 Hi))))),?_⟩
 walk_at "s"
 have hz:20000<=sizeLine:=by decide
 refine dw rfl fun f H1 nf S1 hf=>?_
 walk_at "s"
 refine jO (SqL.of (S1 _ _ hp)) ?_
 walk_at "s"
 rw [List.length_map,hl]
 refine ⟨0,((2*m:Nat):Int) - 1,2,m,rfl,by decide,PyProof.noPylong_small (by decide),xm (by omega) (by omega),zx,?_⟩
 refine tX (n:=m) (fun i U G=>Same H G/\(∃ us ps,G f=some (.lst us)/\RP (Hx f G) us ps/\ps.length=i/\∀ p∈ps,p.1 < 10000/\p.2 < 10000)/\∃ x2,U=[some (.ref p),some (.ref f),x2]) ⟨S1,⟨[],[],hf,⟨rfl,fun i v p e=>by cases e⟩,rfl,fun p h=>by cases h⟩,_,rfl⟩ ?_ ?_
 ·rintro i U G hi ⟨s,⟨us,ps,hfG,hR,hpl,hps⟩,x2,rfl⟩
  rw [show (0+(i:Int)*2)=((2*i:Nat):Int) by omega]
  have hul:=hR.1
  have h1:(ms.map V.int)[2*i]?=some (.int (ms[2*i]'(by omega))):=by rw [List.getElem?_map,List.getElem?_eq_getElem (by omega)];rfl
  have h2:(ms.map V.int)[2*i+1]?=some (.int (ms[2*i+1]'(by omega))):=by rw [List.getElem?_map,List.getElem?_eq_getElem (by omega)];rfl
  walk_at "s"
  refine ⟨.inl ⟨rfl,_,SqL.of hfG⟩,?_⟩
  walk_at "s"
  refine eN (SqL.of (s _ _ hp)) (dZ h1) ?_
  walk_at "s"
  refine ⟨_,rfl,fun a G1 ha S2=>?_⟩
  walk_at "s"
  refine eN (SqL.of ((s.trans S2) _ _ hp)) (dZ (j:=2*i+1) h2) ?_
  walk_at "s"
  refine ⟨_,rfl,fun b G2 hb S3=>?_⟩
  walk_at "s"
  refine dw rfl fun t G3 nt S4 ht=>?_
  walk_at "s"
  have U:=S2.trans (S3.trans S4)
  have tf:t≠f:=fun z=>by rw [z,(S2.trans S3) _ _ hfG] at nt;cases nt
  refine gQ (U _ _ hfG) (by omega) ?_
  walk_at "s"
  refine ⟨Same.put (s.trans U) nf,⟨_,ps ++ [(a,b)],aq,?_,by rw [List.length_append,hpl];rfl,fun p hp=>?_⟩,_,rfl⟩
  ·rw [rY]
   exact iz (hR.same (vX U)) ⟨t,rfl,uq ht tf⟩
  ·rcases List.mem_append.mp hp with h | h
   ·exact hps p h
   ·rw [List.mem_singleton.mp h];exact ⟨ha,hb⟩
 ·rintro U G ⟨s,⟨us,ps,hfG,hR,hpl,hps⟩,x2,rfl⟩
  walk_at "s"
  exact q f us ps G nf s hfG hR hpl ⟨by omega,hps⟩
theorem vY {k:Nat} (h:k < 26):nZ.cps.toList[k]?=some (97+k):=by
 have:∀ k∈List.range 26,nZ.cps.toList[k]?=some (97+k):=by trivial
 exact this k (List.mem_range.mpr h)
def Kq (K:W.Frag):Sp:=fun vs H Q _=>∃ (p:Addr) (ms:List Int),vs=[.ref p]/\H p=some (.lst (ms.map V.int))/\ms.length<=48/\
 ∀ q us cs H',H q=none->Same H H'->H' q=some (.lst us)->RC (Hx q H') us cs->ud cs->Q (.ref q) H'
theorem dg:aD ["_law_numbers_here","_law_signs","_law_found","_law_number_here","_law_one"] ["_law_numbers_here"] (ak bU):=⟨rfl,rfl,rfl,by trivial,rfl,by trivial,by trivial⟩
theorem iK (T:Txt w K mg):Has P w K mg base 1 "_law_changes" ["_law_numbers_here"] (Kq K):=by
 refine cz T.d_law_changes dg (fun _ _ _ _ _ _ us hl=>L2.dq (fun _=>rfl) us hl) ?_ fun f cdv A outer s H vs Q E hr h=>?_
 ·rintro vs H Q E ⟨p,ms,rfl,_⟩;rfl
 obtain ⟨p,ms,rfl,hp,hl,q⟩:=h
 have hu:=hr.units0
 have hu64:=hr.units
 refine ⟨_,(au (aY (i:=1) dg.nd rfl (Or.inl Hl) bB rfl) (au (aY (i:=2) dg.nd rfl (Or.inl Cu) (jE aj) rfl) (au (kZ PassesOwn.never rfl (aX (K:=K) rfl (ao 0 kz3v)) (iw (i:=3) dg.nd rfl (Or.inl xj) rfl) (au (aY (i:=4) dg.nd rfl (Or.inl Hm) (gP (K:=K) rfl (ao 1 Hl) (bG cN (bG dY (ao 3 xj) aA) aA)) rfl) (az (aV (aM (aP (K:=K) rfl hu64) (bG cN (ao 3 xj) aA) aA (by walk_at "p")) (az (bZ (cU (K:=K) rfl PySem.F.plainAttrs_list PySem.F.slot_list_append PySem.F.type_list_append eO (ao 2 Cu) (aa (tQ (aa bB (aa (ao 4 Hm) (aa (gP (K:=K) rfl (ao 1 Hl) (bG cN (bG bY (bG bY (bG dY (ao 3 xj) aA) aA) (bG cN (bG dY (ao 3 xj) aA) aA)) aA)) aj)))) aj)))) (az (bZ (cU (K:=K) rfl PySem.F.plainAttrs_list PySem.F.slot_list_append PySem.F.type_list_append eO (ao 2 Cu) (aa (tQ (aa (gP (K:=K) rfl (jE (aa bB (aa bB (aa bB (aa bB aj))))) (bG cN (ao 3 xj) aA)) (aa (ao 4 Hm) aj))) aj)))))))) (az (aB (ao 2 Cu)))))),?_⟩
 walk_at "s"
 have hz:20000<=sizeLine:=by decide
 refine dw rfl fun f H1 nf S1 hf=>?_
 walk_at "s"
 refine .inl ⟨p,rfl,⟨_,SqL.of (S1 _ _ hp)⟩,?_⟩
 refine sJ (xs:=ms.map V.int) (fun i U G=>Same H G/\(∃ us cs,G f=some (.lst us)/\RC (Hx f G) us cs/\cs.length=i/\∀ c∈cs,okC c)/\∃ x3 x4,U=[some (.ref p),some (.str nZ),some (.ref f),x3,x4]) ⟨S1,⟨[],[],hf,⟨rfl,fun i v p e=>by cases e⟩,rfl,fun p h=>by cases h⟩,_,_,rfl⟩ (fun i U G _ h=>SqL.of (h.1 _ _ hp)) ?_ ?_
 ·rintro i v U G hv ⟨s,⟨us,cs,hfG,hR,hpl,hcs⟩,x3,x4,rfl⟩
  rw [List.getElem?_map] at hv
  obtain ⟨n,en,rfl⟩:=Option.map_eq_some_iff.mp hv
  have hi:i < ms.length:=(List.getElem?_eq_some_iff.mp en).1
  have hul:=hR.1
  walk_at "s"
  obtain ⟨a,ea,ha⟩:∃ a:Nat,n / 4 % 26=(a:Int)/\a < 26:=⟨(n / 4 % 26).toNat,by omega,by omega⟩
  rw [ea]
  refine vG (x:=nZ) (by trivial) (dZ (vY ha)) ?_
  walk_at "s"
  by_cases h:n % 4=1
  ·rw [decide_eq_true (show V.int (n % 4)=V.int 1 by rw [h])]
   walk_at "s"
   refine ⟨.inl ⟨rfl,_,SqL.of hfG⟩,?_⟩
   walk_at "s"
   obtain ⟨b,eb,hb,hab⟩:∃ b:Nat,(n / 4+1+n / 104 % 25) % 26=(b:Int)/\b < 26/\a≠b:=⟨((n / 4+1+n / 104 % 25) % 26).toNat,by omega,by omega,by omega⟩
   rw [eb]
   refine vG (x:=nZ) (by trivial) (dZ (vY hb)) ?_
   walk_at "s"
   refine dw rfl fun t G1 nt S2 ht=>?_
   walk_at "s"
   have tf:t≠f:=fun z=>by rw [z,hfG] at nt;cases nt
   refine gQ (S2 _ _ hfG) (by omega) ?_
   walk_at "s"
   refine ⟨Same.put (s.trans S2) nf,⟨_,cs ++ [⟨Str.ofString "change",[97+a,97+b]⟩],aq,?_,by rw [List.length_append,hpl];rfl,fun c hc=>?_⟩,_,_,rfl⟩
   ·rw [rY]
    exact iz (hR.same (vX S2)) ⟨t,rfl,uq ht tf⟩
   ·rcases List.mem_append.mp hc with h | h
    ·exact hcs c h
    ·rw [List.mem_singleton.mp h]
     exact ⟨fun x hx=>by simp at hx;omega,.inr ⟨rfl,_,_,rfl,by omega⟩⟩
  ·rw [decide_eq_false (show ¬ V.int (n % 4)=V.int 1 from fun z=>h (V.int.inj z))]
   walk_at "s"
   refine ⟨.inl ⟨rfl,_,SqL.of hfG⟩,?_⟩
   walk_at "s"
   obtain ⟨kk,ek,hk⟩:∃ kk:Str,vp [V.str (Str.ofString "keep"),V.str (Str.ofString "change"),V.str (Str.ofString "out"),V.str (Str.ofString "in")] (n % 4)=some (.str kk)/\(kk=Str.ofString "keep"\/kk=Str.ofString "out"\/kk=Str.ofString "in"):=by
    have:n % 4=0\/n % 4=2\/n % 4=3:=by omega
    rcases this with z | z | z <;> rw [z]
    ·exact ⟨_,rfl,.inl rfl⟩
    ·exact ⟨_,rfl,.inr (.inl rfl)⟩
    ·exact ⟨_,rfl,.inr (.inr rfl)⟩
   refine dw rfl fun l G1 nl S2 hl2=>?_
   walk_at "s"
   refine eN (SqL.of hl2) ek ?_
   walk_at "s"
   refine dw rfl fun t G2 nt S3 ht=>?_
   walk_at "s"
   have U:=S2.trans S3
   have tf:t≠f:=fun z=>by rw [z,S2 _ _ hfG] at nt;cases nt
   refine gQ (U _ _ hfG) (by omega) ?_
   walk_at "s"
   refine ⟨Same.put (s.trans U) nf,⟨_,cs ++ [⟨kk,[97+a]⟩],aq,?_,by rw [List.length_append,hpl];rfl,fun c hc=>?_⟩,_,_,rfl⟩
   ·rw [rY]
    exact iz (hR.same (vX U)) ⟨t,rfl,uq ht tf⟩
   ·rcases List.mem_append.mp hc with h | h
    ·exact hcs c h
    ·rw [List.mem_singleton.mp h]
     exact ⟨fun x hx=>by simp at hx;omega,.inl ⟨hk,rfl⟩⟩
 ·rintro U G ⟨s,⟨us,cs,hfG,hR,hpl,hcs⟩,x3,x4,rfl⟩
  walk_at "s"
  rw [List.length_map] at hpl
  exact q f us cs G nf s hfG hR ⟨by omega,hcs⟩
theorem pM:(["_law_number_here"]:List Str).Nodup:=by trivial
theorem pN:(["_law_number_here"]:List Str).Nodup:=by trivial
theorem kz3z:bH aU "_law_changes":=by trivial
theorem u0:cG aU "_law_numbers_here":=by trivial
theorem ur:cG aU "_law_kind":=by trivial
theorem Hn:cG aU "_law_heaps":=by trivial
theorem kz43:bH aU "range":=by trivial
theorem ut:cG aU "_law_many":=by trivial
theorem Cv:cG aU "_law_k":=by trivial
theorem Kr:bH aU "_law_pairs":=by trivial
theorem Ks:bH aU "_law_numbers":=by trivial
theorem Ku:cG aU "_law_cell_here":=by trivial
theorem xn:cG aU "_law_sizes":=by trivial
theorem zy (m:Nat) (x:Int):(List.replicate m [V.int x]).flatten=(List.replicate m x).map V.int:=by
 induction m with
 | zero=>rfl
 | succ m ih=>rw [List.replicate_succ,List.flatten_cons,ih];rfl
theorem uv {j:Int} (h0:0<=j) (h1:j < 2 ^ 60):Builtin.Range.small 0 j 8=true:=by
 unfold Builtin.Range.small Builtin.Range.rangeSize
 simp only [Builtin.Range.rangeFitsLong,Bool.and_eq_true,Bool.or_eq_true,decide_eq_true_eq,beq_iff_eq,show (8:Int) > 0 by decide,if_true]
 split <;> omega
theorem u5 {m:Nat}:Builtin.Range.rangeSize 0 ((8*m:Nat):Int) 8=(m:Int):=by
 unfold Builtin.Range.rangeSize
 simp only [show (8:Int) > 0 by decide,if_true]
 split <;> omega
def chr (x:Int):Nat:=GOOD.getD (x % 27).toNat 97
theorem zA (x:Int):vp (Str.ofString "abcdefghijklmnopqrstuvwxyz.").cps.toList (x % 27)=some (chr x)/\chr x∈GOOD:=by
 obtain ⟨a,ea,ha⟩:∃ a:Nat,x % 27=(a:Int)/\a < 27:=⟨(x % 27).toNat,by omega,by omega⟩
 have:∀ k∈List.range 27,(Str.ofString "abcdefghijklmnopqrstuvwxyz.").cps.toList[k]?=some (GOOD.getD k 97)/\GOOD.getD k 97∈GOOD:=by trivial
 obtain ⟨t1,t2⟩:=this a (List.mem_range.mpr ha)
 unfold chr
 rw [ea,show ((a:Int)).toNat=a by omega]
 exact ⟨dZ t1,t2⟩
theorem RP.hx {H:Hp} {us:List V} {ps:List (Nat×Nat)} {f:Addr} {zs:List V} (h:RP H us ps) (hf:H f=some (.lst zs)):RP (Hx f H) us ps:=⟨h.1,fun i v p e1 e2=>let ⟨t,a,b⟩:=h.2 i v p e1 e2;⟨t,a,uq b fun z=>by rw [z,hf] at b;cases b⟩⟩
theorem zB {xs:List V} {a b:Nat} (ha:a<=xs.length) (hb:b<=xs.length):lG xs (some (a:Int)) (some (b:Int))=(xs.drop a).take (b - a):=by
 unfold lG
 rw [HT.sIx_nat,HT.sIx_nat,Nat.min_eq_left ha,Nat.min_eq_left hb]
def Kv (K:W.Frag):Sp:=fun vs H Q _=>∃ (k n:Int),vs=[.int k,.int n]/\0<=k/\k < 5/\∀ (th:Th) v H',th.kd=k->th.ok->Same H H'->th.at H' v->Q v H'
theorem bN:aD ["_law_kind","_law_cell_here","_law_sizes","_law_many","_law_numbers_here","_law_heaps","_law_k"] ["_law_kind","_law_cell_here"] (ak aU):=⟨rfl,rfl,rfl,by trivial,rfl,by trivial,by trivial⟩
theorem jY (T:Txt w K mg):Has P w K mg base 3 "_law_thing" ["_law_kind","_law_cell_here"] (Kv K):=by
 have fH:=fH (P:=P) (w:=w) (base:=base) T
 have cQ:=cQ (P:=P) (w:=w) (base:=base) T
 have iB:=iB (P:=P) (w:=w) (base:=base) T
 have iK:=iK (P:=P) (w:=w) (base:=base) T
 refine cz T.d_law_thing bN (fun _ _ _ _ _ _ us hl=>L2.sr (fun _ _=>rfl) us hl) ?_ fun f cdv A outer s H vs Q E hr h=>?_
 ·rintro vs H Q E ⟨k,n,rfl,_⟩;rfl
 obtain ⟨k,n,rfl,hk0,hk1,q⟩:=h
 have hu:=hr.units0
 have hu64:=hr.units
 refine ⟨_,(au (aY (i:=2) bN.nd rfl (Or.inl xn) (aC fH (hr.mono (by decide)) (bc Ks) (aa (bG dY (ao 1 Ku) aA) (aa (jE (aa aA (aa aA (aa aA (aa aA (aa aA aj)))))) (aa aA aj))) (by trivial)) rfl) (au (aY (i:=3) bN.nd rfl (Or.inl ut) (gP (K:=K) rfl (ao 2 xn) aA) rfl) (au (aV (m8 (yI (aM sO (ao 0 ur) aA (by walk_at "p")) (vJ (aM HY (ao 0 ur) aA (by walk_at "p"))))) (au (aY (i:=3) bN.nd rfl (Or.inl ut) (gP (K:=K) rfl (ao 2 xn) aA) rfl) (az (aV (aM (aP (K:=K) rfl hu64) (gP (K:=K) rfl (ao 2 xn) aA) aA (by walk_at "p")) (az (aY (i:=3) bN.nd rfl (Or.inl ut) (gP (K:=K) rfl (ao 2 xn) aA) rfl)) aN))) aN) (au (aV (aM (aP (K:=K) rfl hu64) (ao 0 ur) aA (by walk_at "p")) (az (aY (i:=3) bN.nd rfl (Or.inl ut) (bG jc aA (ao 3 ut)) rfl)) aN) (au (aV (aM (aP (K:=K) rfl hu64) (ao 0 ur) aA (by walk_at "p")) (az (aY (i:=3) bN.nd rfl (Or.inl ut) (bG jc aA (gP (K:=K) rfl (ao 2 xn) aA)) rfl)) aN) (au (aY (i:=4) bN.nd rfl (Or.inl u0) (aC fH (hr.mono (by decide)) (bc Ks) (aa (bG dY (ao 1 Ku) aA) (aa (bG jc (jE (aa aA aj)) (ao 3 ut)) (aa aA aj))) (by trivial)) rfl) (au (aV (aM (aP (K:=K) rfl hu64) (ao 0 ur) aA (by walk_at "p")) (az (aB (cU (K:=K) rfl PySem.F.plainAttrs_str PySem.F.slot_str_join PySem.F.type_str_join (iU (K:=K) rfl) bB (aa (bA (sub:=[none]) (aL (N:=["_law_kind","_law_cell_here","_law_sizes","_law_many","_law_numbers_here","_law_heaps","_law_k"]) (sc:=ak aU) (N':=["_law_number_here"]) (by trivial)) rfl rfl rfl (aX (K:=K) rfl (ao 4 u0)) (fun C s₀ H₀ ex=>(du 0 (by trivial) pN)) (fun C s₀ H₀ ex=>aR) (fun C s₀ H₀ ex=>(gP (K:=K) rfl bB (bG cN (bI 0 (by trivial)) aA)))) aj)))) aN) (au (aV (aM (aP (K:=K) rfl hu64) (ao 0 ur) aA (by walk_at "p")) (az (aB (bA (sub:=[none]) (aL (N:=["_law_kind","_law_cell_here","_law_sizes","_law_many","_law_numbers_here","_law_heaps","_law_k"]) (sc:=ak aU) (N':=["_law_number_here"]) (by trivial)) rfl rfl rfl (aX (K:=K) rfl (ao 4 u0)) (fun C s₀ H₀ ex=>(du 0 (by trivial) pM)) (fun C s₀ H₀ ex=>aR) (fun C s₀ H₀ ex=>(aC cQ (hr.mono (by decide)) (jL (by trivial)) (aa (bI 0 (by trivial)) aj) (by trivial)))))) aN) (au (aV (aM (aP (K:=K) rfl hu64) (ao 0 ur) aA (by walk_at "p")) (az (aB (aC iB (hr.mono (by decide)) (bc Kr) (aa (ao 4 u0) aj) (by trivial)))) aN) (au (aV (aM (aP (K:=K) rfl hu64) (ao 0 ur) aA (by walk_at "p")) (au (aY (i:=5) bN.nd rfl (Or.inl Hn) (jE aj) rfl) (au (kZ PassesOwn.never rfl (qI (bc kz43) T.b_range (aa aA (aa (ao 3 ut) (aa aA aj)))) (iw (i:=6) bN.nd rfl (Or.inl Cv) rfl) (az (bZ (cU (K:=K) rfl PySem.F.plainAttrs_list PySem.F.slot_list_append PySem.F.type_list_append eO (ao 5 Hn) (aa (aC iB (hr.mono (by decide)) (bc Kr) (aa (jf (jh (K:=K) rfl) (ao 4 u0) (iu (ao 6 Cv)) (iu (bG bY (bG bY (ao 6 Cv) aA) (bG jc aA (bG cN (gP (K:=K) rfl (ao 4 u0) (ao 6 Cv)) aA))))) aj) (by trivial)) aj))))) (az (aB (ao 5 Hn))))) aN) (az (aB (aC iK (hr.mono (by decide)) (bc kz3z) (aa (ao 4 u0) aj) (by trivial)))))))))))))),?_⟩
 walk_at "s"
 have hz:20000<=sizeLine:=by decide
 refine dw rfl fun l H1 nl S1 hl=>?_
 walk_at "s"
 refine ⟨_,l,[49,21,8,301,7],2147483629,rfl,hl,by decide,by decide,by decide,by decide,fun sz ms H2 nsz S2 hsz hF=>?_⟩
 walk_at "n"
 obtain ⟨m0,m1,m2,m3,m4,rfl⟩:∃ m0 m1 m2 m3 m4:Int,ms=[m0,m1,m2,m3,m4]:=by
  match ms,hF.1 with
  | [a,b,c,d,e],_=>exact ⟨a,b,c,d,e,rfl⟩
 have b0:=hF.2 0 m0 49 rfl rfl
 have b1:=hF.2 1 m1 21 rfl rfl
 have b2:=hF.2 2 m2 8 rfl rfl
 have b3:=hF.2 3 m3 301 rfl rfl
 have b4:=hF.2 4 m4 7 rfl rfl
 have U2:=S1.trans S2
 replace hsz:H2 sz=some (.lst [.int m0,.int m1,.int m2,.int m3,.int m4]):=hsz
 clear hF hl nl S1 S2
 walk_at "n"
 with_reducible refine m7 ?_
 walk_at "n"
 with_reducible refine vM (fun U G=>G=H2/\∃ M:Nat,U=[some (.int k),some (.int n),some (.ref sz),some (.int (M:Int)),none,none,none]/\M<=300/\(k=0\/k=4->M<=48)) ?_ ?_
 rotate_left
 ·intro N hN
  walk_at "s"
  refine uL (fun h0=>?_) (fun h0=>?_)
  ·walk_at "s"
   refine uL (fun h1=>?_) (fun h1=>?_)
   ·walk_at "s"
    refine uL (fun h2=>?_) (fun h2=>?_)
    ·walk_at "s"
     refine hN _ _ ⟨rfl,m3.toNat,?_,by omega,fun z=>by omega⟩
     rw [show ((m3.toNat:Nat):Int)=m3 by omega];rfl
    ·walk_at "s"
     refine hN _ _ ⟨rfl,m1.toNat,?_,by omega,fun z=>by omega⟩
     rw [show ((m1.toNat:Nat):Int)=m1 by omega];rfl
   ·walk_at "s"
    refine hN _ _ ⟨rfl,m0.toNat,?_,by omega,fun z=>by omega⟩
    rw [show ((m0.toNat:Nat):Int)=m0 by omega];rfl
  ·walk_at "s"
   refine hN _ _ ⟨rfl,m0.toNat,?_,by omega,fun z=>by omega⟩
   rw [show ((m0.toNat:Nat):Int)=m0 by omega];rfl
 rintro U G ⟨rfl,M,rfl,hM,hM4⟩
 walk_at "n"
 with_reducible refine vM (fun U G'=>G'=G/\∃ M':Nat,U=[some (.int k),some (.int n),some (.ref sz),some (.int (M':Int)),none,none,none]/\(k=2->M'=2*M)/\(k≠2->M'=M)) ?_ ?_
 rotate_left
 ·intro N hN
  walk_at "s"
  refine uL (fun h0=>?_) (fun h0=>?_)
  ·have e0:k=2:=V.int.inj h0
   walk_at "s"
   exact hN _ _ ⟨rfl,2*M,rfl,fun _=>rfl,fun z=>absurd e0 z⟩
  ·have e0:k≠2:=fun z=>h0 (by rw [z])
   walk_at "s"
   exact hN _ _ ⟨rfl,M,rfl,fun z=>absurd z e0,fun _=>rfl⟩
 rintro U G ⟨rfl,M',rfl,g1,g2⟩
 walk_at "n"
 with_reducible refine vM (fun U G'=>G'=G/\∃ J:Nat,U=[some (.int k),some (.int n),some (.ref sz),some (.int (J:Int)),none,none,none]/\(k=3->J=8*m4.toNat)/\(k≠3->J=M')) ?_ ?_
 rotate_left
 ·intro N hN
  walk_at "s"
  refine uL (fun h0=>?_) (fun h0=>?_)
  ·have e0:k=3:=V.int.inj h0
   walk_at "s"
   refine hN _ _ ⟨rfl,8*m4.toNat,?_,fun _=>rfl,fun z=>absurd e0 z⟩
   rw [show ((8*m4.toNat:Nat):Int)=8*m4 by omega];rfl
  ·have e0:k≠3:=fun z=>h0 (by rw [z])
   walk_at "s"
   exact hN _ _ ⟨rfl,M',rfl,fun z=>absurd z e0,fun _=>rfl⟩
 rintro U G ⟨rfl,J,rfl,g3,g4⟩
 have hJ:J<=600:=by
  by_cases z:k=3
  ·have:=g3 z;omega
  ·have:=g4 z
   by_cases z2:k=2
   ·have:=g1 z2;omega
   ·have:=g2 z2;omega
 walk_at "s"
 refine dw rfl fun l2 H3 nl2 S3 hl2=>?_
 walk_at "s"
 refine Gb hl2 (by omega) (by omega) (by simp;omega) fun b3' nb3=>?_
 walk_at "s"
 rw [show ((J:Int)).toNat=J by omega,zy]
 have S4:=(Same.refl H3).upd nb3 (o:=.lst ((List.replicate J (30011:Int)).map V.int))
 have hb3:=aq (H:=H3) (a:=b3') (o:=.lst ((List.replicate J (30011:Int)).map V.int))
 generalize upd H3 b3' (.lst ((List.replicate J (30011:Int)).map V.int))=H4 at S4 hb3 ⊢
 walk_at "s"
 refine ⟨_,b3',List.replicate J 30011,2147483587,rfl,hb3,by rw [List.length_replicate];omega,(fun x hx=>by rw [(List.mem_replicate.mp hx).2];decide),by decide,by decide,fun nm ms H5 nnm S5 hnm hF2=>?_⟩
 walk_at "s"
 have hml:ms.length=J:=by rw [hF2.1,List.length_replicate]
 have U5:=U2.trans (S3.trans (S4.trans S5))
 clear hF2 hb3 S4 S5 S3 nl2 hl2 nb3 nnm
 obtain rfl | rfl | rfl | rfl | rfl:k=0\/k=1\/k=2\/k=3\/k=4:=by omega
 ·have hJ48:J<=48:=by have:=g4 (by decide);have:=g2 (by decide);have:=hM4 (.inl rfl);omega
  rw [decide_eq_true (rfl:V.int 0=V.int 0)]
  walk_at "s"
  refine ⟨rfl,?_⟩
  walk_at "s"
  refine .inl ⟨nm,rfl,⟨_,SqL.of hnm⟩,?_⟩
  refine aH (xs:=ms.map V.int) (fun i zs G'=>G'=H5/\zs=(((ms.take i).map chr).map fun x=>(⟨#[x]⟩:Str)).map V.str) (by rw [List.length_map];omega) ⟨rfl,rfl⟩ ?_ ?_ ?_ ?_
  ·rintro i zs G' ⟨_,rfl⟩
   rw [List.length_map,List.length_map,List.length_map,List.length_take];omega
  ·rintro i zs G' ⟨rfl,_⟩
   exact SqL.of hnm
  ·rintro i zs G' v hv ⟨rfl,rfl⟩
   rw [List.getElem?_map] at hv
   obtain ⟨x,ex,rfl⟩:=Option.map_eq_some_iff.mp hv
   walk_at "s"
   refine ⟨KeepSt.set rfl,?_⟩
   walk_at "s"
   refine vG (x:=Str.ofString "abcdefghijklmnopqrstuvwxyz.") (Nat.le_trans (show (Str.ofString "abcdefghijklmnopqrstuvwxyz.").length<=100 by trivial) (by omega)) (zA x).1 ?_
   walk_at "s"
   refine ⟨rfl,?_⟩
   rw [List.take_add_one,ex,List.map_append,List.map_append,List.map_append]
   rfl
  ·rintro zs G' D H' ⟨rfl,rfl⟩ nD S hD
   rw [List.length_map,List.take_length] at hD
   try walk_at "s"
   refine lV hD (by rw [pq (gY _),show (Str.ofString "").length=0 by trivial,List.length_map,List.length_map];omega) ?_
   walk_at "s"
   refine q (.row _) _ H' rfl ⟨?_,fun c hc=>?_⟩ (U5.trans S) (.inl ⟨_,rfl,rfl⟩)
   ·rw [lN (gY _),List.length_map,List.length_map];omega
   ·rw [um] at hc
    obtain ⟨x,_,rfl⟩:=List.mem_map.mp hc
    exact (zA x).2
 ·have hJ1:J<=300:=by have:=g4 (by decide);have:=g2 (by decide);omega
  rw [decide_eq_false (show ¬ V.int 1=V.int 0 by decide)]
  walk_at "s"
  rw [decide_eq_true (rfl:V.int 1=V.int 1)]
  walk_at "s"
  refine .inl ⟨nm,rfl,⟨_,SqL.of hnm⟩,?_⟩
  refine aH (xs:=ms.map V.int) (fun i zs G'=>Same H5 G'/\∃ ns:List Nat,ns.length=i/\zs=(ns.map fun n:Nat=>V.int (n:Int))/\∀ n∈ns,n < 10000) (by rw [List.length_map];omega) ⟨Same.refl H5,[],rfl,rfl,fun n h=>by cases h⟩ ?_ ?_ ?_ ?_
  ·rintro i zs G' ⟨_,ns,e,rfl,_⟩
   rw [List.length_map];omega
  ·rintro i zs G' ⟨s,_⟩
   exact SqL.of (s _ _ hnm)
  ·rintro i zs G' v hv ⟨s,ns,e,rfl,hn⟩
   rw [List.getElem?_map] at hv
   obtain ⟨x,ex,rfl⟩:=Option.map_eq_some_iff.mp hv
   walk_at "s"
   refine ⟨KeepSt.set rfl,?_⟩
   walk_at "s"
   refine ⟨x,rfl,fun m G2 hm S2=>?_⟩
   walk_at "s"
   refine ⟨s.trans S2,ns ++ [m],by rw [List.length_append,e];rfl,by rw [List.map_append];rfl,fun n h=>?_⟩
   rcases List.mem_append.mp h with h | h
   ·exact hn n h
   ·rw [List.mem_singleton.mp h];exact hm
  ·rintro zs G' D H' ⟨s,ns,e,rfl,hn⟩ nD S hD
   rw [List.length_map] at e
   try walk_at "s"
   exact q (.nums ns) (.ref D) H' rfl ⟨by omega,hn⟩ (U5.trans (s.trans S)) (.inr ⟨D,_,rfl,hD,rfl⟩)
 ·have hJ2:J=2*M:=by have:=g4 (by decide);have:=g1 rfl;omega
  rw [decide_eq_false (show ¬ V.int 2=V.int 0 by decide)]
  walk_at "s"
  rw [decide_eq_false (show ¬ V.int 2=V.int 1 by decide)]
  walk_at "s"
  rw [decide_eq_true (rfl:V.int 2=V.int 2)]
  walk_at "s"
  refine ⟨nm,ms,M,rfl,hnm,by omega,hM,fun q' us ps H6 nq S6 hq hR hpl ok=>?_⟩
  walk_at "s"
  exact q (.prs ps) _ H6 rfl ok (U5.trans S6) (.inr ⟨_,us,rfl,hq,hR.same (oU _ _)⟩)
 ·obtain ⟨m,em,hm⟩:∃ m:Nat,J=8*m/\m<=6:=⟨m4.toNat,g3 rfl,by omega⟩
  subst em
  rw [decide_eq_false (show ¬ V.int 3=V.int 0 by decide)]
  walk_at "s"
  rw [decide_eq_false (show ¬ V.int 3=V.int 1 by decide)]
  walk_at "s"
  rw [decide_eq_false (show ¬ V.int 3=V.int 2 by decide)]
  walk_at "s"
  rw [decide_eq_true (rfl:V.int 3=V.int 3)]
  walk_at "s"
  refine dw rfl fun f H6 nf S6 hf=>?_
  walk_at "s"
  refine ⟨0,((8*m:Nat):Int),8,m,rfl,by decide,PyProof.noPylong_small (by decide),uv (by omega) (by omega),u5,?_⟩
  refine tX (n:=m) (fun i U G'=>Same H5 G'/\(∃ us hs,G' f=some (.lst us)/\RH (Hx f G') us hs/\hs.length=i/\∀ ps∈hs,ps≠[]/\ps.length<=10/\xx ps)/\∃ x6,U=[some (.int 3),some (.int n),some (.ref sz),some (.int ((8*m:Nat):Int)),some (.ref nm),some (.ref f),x6]) ⟨S6,⟨[],[],hf,⟨rfl,fun i v p e=>by cases e⟩,rfl,fun p h=>by cases h⟩,_,rfl⟩ ?_ ?_
  ·rintro i U G' hi ⟨s,⟨us,hs,hfG,hR,hpl,hps⟩,x6,rfl⟩
   rw [show (0+(i:Int)*8)=((8*i:Nat):Int) by omega]
   have hul:=hR.1
   have h1:(ms.map V.int)[8*i]?=some (.int (ms[8*i]'(by omega))):=by rw [List.getElem?_map,List.getElem?_eq_getElem (by omega)];rfl
   obtain ⟨x,ex⟩:∃ x,ms[8*i]'(by omega)=x:=⟨_,rfl⟩
   rw [ex] at h1
   obtain ⟨r,er,hr4⟩:∃ r:Nat,x % 4=(r:Int)/\r < 4:=⟨(x % 4).toNat,by omega,by omega⟩
   walk_at "s"
   refine ⟨.inl ⟨rfl,_,SqL.of hfG⟩,?_⟩
   walk_at "s"
   refine eN (SqL.of (s _ _ hnm)) (dZ h1) ?_
   walk_at "s"
   rw [er]
   walk_at "s"
   refine yS (s _ _ hnm) fun c G1 nc S2 hc=>?_
   walk_at "s"
   rw [show ((8*i:Nat):Int)+2+2*(r:Int)=((8*i+2+2*r:Nat):Int) by omega,zB (by rw [List.length_map];omega) (by rw [List.length_map];omega),← List.map_drop,← List.map_take] at hc
   refine ⟨c,_,1+r,rfl,hc,by rw [List.length_take,List.length_drop];omega,by omega,fun q' us' ps G2 nq S3 hq hR' hpl' ok=>?_⟩
   walk_at "s"
   have U:=S2.trans S3
   have qf:q'≠f:=fun z=>by rw [z,S2 _ _ hfG] at nq;cases nq
   refine gQ (U _ _ hfG) (by omega) ?_
   walk_at "s"
   refine ⟨Same.put (s.trans U) nf,⟨_,hs ++ [ps],aq,?_,by rw [List.length_append,hpl];rfl,fun p hp=>?_⟩,_,rfl⟩
   ·rw [rY]
    exact iz (hR.same (vX U)) ⟨q',us',rfl,uq hq qf,(hR'.same (oU _ _)).hx (U _ _ hfG)⟩
   ·rcases List.mem_append.mp hp with h | h
    ·exact hps p h
    ·rw [List.mem_singleton.mp h];exact ⟨fun z=>by rw [z] at hpl';simp at hpl';omega,by omega,ok⟩
  ·rintro U G' ⟨s,⟨us,hs,hfG,hR,hpl,hps⟩,x6,rfl⟩
   walk_at "s"
   exact q (.hps hs) _ G' rfl ⟨by omega,hps⟩ (U5.trans s) (.inr ⟨_,us,rfl,hfG,hR.same (oU _ _)⟩)
 ·have hJ48:J<=48:=by have:=g4 (by decide);have:=g2 (by decide);have:=hM4 (.inr rfl);omega
  rw [decide_eq_false (show ¬ V.int 4=V.int 0 by decide)]
  walk_at "s"
  rw [decide_eq_false (show ¬ V.int 4=V.int 1 by decide)]
  walk_at "s"
  rw [decide_eq_false (show ¬ V.int 4=V.int 2 by decide)]
  walk_at "s"
  rw [decide_eq_false (show ¬ V.int 4=V.int 3 by decide)]
  walk_at "s"
  refine ⟨nm,ms,rfl,hnm,by omega,fun q' us cs H6 nq S6 hq hR ok=>?_⟩
  walk_at "s"
  exact q (.cgs cs) _ H6 rfl ok (U5.trans S6) (.inr ⟨_,us,rfl,hq,hR.same (oU _ _)⟩)
theorem kz4a:bH cB "changes_word":=by trivial
theorem zE:cG cB "_law_thing_here":=by trivial
theorem Cw:cG cB "_law_kind":=by trivial
theorem kz4d:bH cB "heaps_word":=by trivial
theorem kz4e:bH cB "pairs_word":=by trivial
theorem kz4f:bH cB "numbers_word":=by trivial
theorem kz4g:bH cB "row_word":=by trivial
theorem kz4h:bH cC "read_changes":=by trivial
theorem zF:cG cC "_law_word_here":=by trivial
theorem Cy:cG cC "_law_kind":=by trivial
theorem kz4k:bH cC "read_heaps":=by trivial
theorem kz4l:bH cC "read_pairs":=by trivial
theorem kz4m:bH cC "read_numbers":=by trivial
theorem kz4n:bH cC "read_row":=by trivial
theorem kz4o:bH dh "isinstance":=by trivial
theorem kz4p:bH dh "list":=by trivial
theorem Ho:cG dh "_law_told":=by trivial
def spWd (K:W.Frag):Sp:=fun vs H Q _=>∃ (th:Th) (k:Int) (v:V),vs=[.int k,v]/\th.kd=k/\th.at H v/\th.ok/\∀ H',Same H H'->Q (.str th.wd) H'
theorem uw:aD ["_law_kind","_law_thing_here"] ["_law_kind","_law_thing_here"] (ak cB):=⟨rfl,rfl,rfl,by trivial,rfl,by trivial,by trivial⟩
theorem lD (T:Txt w K mg):Has P w K mg base 6 "_law_word" ["_law_kind","_law_thing_here"] (spWd K):=by
 have lA:=lA (P:=P) (w:=w) (base:=base) T
 have gU:=gU (P:=P) (w:=w) (base:=base) T
 have di:=di (P:=P) (w:=w) (base:=base) T
 have jm:=jm (P:=P) (w:=w) (base:=base) T
 have gZ:=gZ (P:=P) (w:=w) (base:=base) T
 refine cz T.d_law_word uw (fun _ _ _ _ _ _ us hl=>L2.sr (fun _ _=>rfl) us hl) ?_ fun f cdv A outer s H vs Q E hr h=>?_
 ·rintro vs H Q E ⟨th,k,v,rfl,_⟩;rfl
 obtain ⟨th,k,v,rfl,hk,hv,ok,q⟩:=h
 have hu:=hr.units0
 have hu64:=hr.units
 refine ⟨_,(au (aV (aM (aP (K:=K) rfl hu64) (ao 0 Cw) aA (by walk_at "p")) (az (aB (aC lA (hr.mono (by decide)) (bc kz4g) (aa (ao 1 zE) aj) (by trivial)))) aN) (au (aV (aM (aP (K:=K) rfl hu64) (ao 0 Cw) aA (by walk_at "p")) (az (aB (aC gU (hr.mono (by decide)) (bc kz4f) (aa (ao 1 zE) aj) (by trivial)))) aN) (au (aV (aM (aP (K:=K) rfl hu64) (ao 0 Cw) aA (by walk_at "p")) (az (aB (aC di (hr.mono (by decide)) (bc kz4e) (aa (ao 1 zE) aj) (by trivial)))) aN) (au (aV (aM (aP (K:=K) rfl hu64) (ao 0 Cw) aA (by walk_at "p")) (az (aB (aC jm (hr.mono (by decide)) (bc kz4d) (aa (ao 1 zE) aj) (by trivial)))) aN) (az (aB (aC gZ (hr.mono (by decide)) (bc kz4a) (aa (ao 1 zE) aj) (by trivial)))))))),?_⟩
 walk_at "s"
 rcases hv with ⟨z,rfl,rfl⟩ | ⟨p,us,rfl,hp,hR⟩
 ·obtain rfl:k=0:=hk.symm
  rw [decide_eq_true (rfl:V.int 0=V.int 0)]
  walk_at "s"
  exact ⟨z,rfl,ok,q⟩
 cases th with
 | row z=>exact hR.elim
 | nums ns=>
  obtain rfl:k=1:=hk.symm
  cases hR
  rw [decide_eq_false (show ¬ V.int 1=V.int 0 by decide)]
  walk_at "s"
  rw [decide_eq_true (rfl:V.int 1=V.int 1)]
  walk_at "s"
  exact ⟨p,ns,rfl,hp,ok.1,ok.2,q⟩
 | prs ps=>
  obtain rfl:k=2:=hk.symm
  rw [decide_eq_false (show ¬ V.int 2=V.int 0 by decide)]
  walk_at "s"
  rw [decide_eq_false (show ¬ V.int 2=V.int 1 by decide)]
  walk_at "s"
  rw [decide_eq_true (rfl:V.int 2=V.int 2)]
  walk_at "s"
  exact ⟨p,us,ps,rfl,hp,hR,ok,q⟩
 | hps hs=>
  obtain rfl:k=3:=hk.symm
  rw [decide_eq_false (show ¬ V.int 3=V.int 0 by decide)]
  walk_at "s"
  rw [decide_eq_false (show ¬ V.int 3=V.int 1 by decide)]
  walk_at "s"
  rw [decide_eq_false (show ¬ V.int 3=V.int 2 by decide)]
  walk_at "s"
  rw [decide_eq_true (rfl:V.int 3=V.int 3)]
  walk_at "s"
  exact ⟨p,us,hs,rfl,hp,hR,okG.h ok,q⟩
 | cgs cs=>
  obtain rfl:k=4:=hk.symm
  rw [decide_eq_false (show ¬ V.int 4=V.int 0 by decide)]
  walk_at "s"
  rw [decide_eq_false (show ¬ V.int 4=V.int 1 by decide)]
  walk_at "s"
  rw [decide_eq_false (show ¬ V.int 4=V.int 2 by decide)]
  walk_at "s"
  rw [decide_eq_false (show ¬ V.int 4=V.int 3 by decide)]
  walk_at "s"
  exact ⟨p,us,cs,rfl,hp,hR,ok,q⟩
def spRd (K:W.Frag):Sp:=fun vs H Q _=>∃ (th:Th) (k:Int),vs=[.int k,.str th.wd]/\th.kd=k/\th.ok/\∀ v H',Same H H'->th.at H' v->(∀ p,v= .ref p->H p=none)->Q v H'
theorem ux:aD ["_law_kind","_law_word_here"] ["_law_kind","_law_word_here"] (ak cC):=⟨rfl,rfl,rfl,by trivial,rfl,by trivial,by trivial⟩
theorem lE (T:Txt w K mg):Has P w K mg base 6 "_law_read" ["_law_kind","_law_word_here"] (spRd K):=by
 have lB:=lB (P:=P) (w:=w) (base:=base) T
 have g8:=g8 (P:=P) (w:=w) (base:=base) T
 have jn:=jn (P:=P) (w:=w) (base:=base) T
 have jo:=jo (P:=P) (w:=w) (base:=base) T
 have ig:=ig (P:=P) (w:=w) (base:=base) T
 refine cz T.d_law_read ux (fun _ _ _ _ _ _ us hl=>L2.sr (fun _ _=>rfl) us hl) ?_ fun f cdv A outer s H vs Q E hr h=>?_
 ·rintro vs H Q E ⟨th,k,rfl,_⟩;rfl
 obtain ⟨th,k,rfl,hk,ok,q⟩:=h
 have hu:=hr.units0
 have hu64:=hr.units
 refine ⟨_,(au (aV (aM (aP (K:=K) rfl hu64) (ao 0 Cy) aA (by walk_at "p")) (az (aB (aC lB (hr.mono (by decide)) (bc kz4n) (aa (ao 1 zF) aj) (by trivial)))) aN) (au (aV (aM (aP (K:=K) rfl hu64) (ao 0 Cy) aA (by walk_at "p")) (az (aB (aC g8 (hr.mono (by decide)) (bc kz4m) (aa (ao 1 zF) aj) (by trivial)))) aN) (au (aV (aM (aP (K:=K) rfl hu64) (ao 0 Cy) aA (by walk_at "p")) (az (aB (aC jn (hr.mono (by decide)) (bc kz4l) (aa (ao 1 zF) aj) (by trivial)))) aN) (au (aV (aM (aP (K:=K) rfl hu64) (ao 0 Cy) aA (by walk_at "p")) (az (aB (aC jo (hr.mono (by decide)) (bc kz4k) (aa (ao 1 zF) aj) (by trivial)))) aN) (az (aB (aC ig (hr.mono (by decide)) (bc kz4h) (aa (ao 1 zF) aj) (by trivial)))))))),?_⟩
 walk_at "s"
 cases th with
 | row z=>
  obtain rfl:k=0:=hk.symm
  rw [decide_eq_true (rfl:V.int 0=V.int 0)]
  walk_at "s"
  exact ⟨z,rfl,ok,fun H' S=>q _ H' S (.inl ⟨z,rfl,rfl⟩) (fun p e=>by cases e)⟩
 | nums ns=>
  obtain rfl:k=1:=hk.symm
  rw [decide_eq_false (show ¬ V.int 1=V.int 0 by decide)]
  walk_at "s"
  rw [decide_eq_true (rfl:V.int 1=V.int 1)]
  walk_at "s"
  exact ⟨ns,rfl,ok.1,ok.2,fun r H' nr S h=>q _ H' S (.inr ⟨r,_,rfl,h,rfl⟩) (fun p e=>by cases e;exact nr)⟩
 | prs ps=>
  obtain rfl:k=2:=hk.symm
  rw [decide_eq_false (show ¬ V.int 2=V.int 0 by decide)]
  walk_at "s"
  rw [decide_eq_false (show ¬ V.int 2=V.int 1 by decide)]
  walk_at "s"
  rw [decide_eq_true (rfl:V.int 2=V.int 2)]
  walk_at "s"
  exact ⟨ps,rfl,ok,fun r us H' nr S h R=>q _ H' S (.inr ⟨r,us,rfl,h,R⟩) (fun p e=>by cases e;exact nr)⟩
 | hps hs=>
  obtain rfl:k=3:=hk.symm
  rw [decide_eq_false (show ¬ V.int 3=V.int 0 by decide)]
  walk_at "s"
  rw [decide_eq_false (show ¬ V.int 3=V.int 1 by decide)]
  walk_at "s"
  rw [decide_eq_false (show ¬ V.int 3=V.int 2 by decide)]
  walk_at "s"
  rw [decide_eq_true (rfl:V.int 3=V.int 3)]
  walk_at "s"
  exact ⟨hs,rfl,ok,fun r us H' nr S h R=>q _ H' S (.inr ⟨r,us,rfl,h,R⟩) (fun p e=>by cases e;exact nr)⟩
 | cgs cs=>
  obtain rfl:k=4:=hk.symm
  rw [decide_eq_false (show ¬ V.int 4=V.int 0 by decide)]
  walk_at "s"
  rw [decide_eq_false (show ¬ V.int 4=V.int 1 by decide)]
  walk_at "s"
  rw [decide_eq_false (show ¬ V.int 4=V.int 2 by decide)]
  walk_at "s"
  rw [decide_eq_false (show ¬ V.int 4=V.int 3 by decide)]
  walk_at "s"
  exact ⟨cs,rfl,ok,fun r us H' nr S h R=>q _ H' S (.inr ⟨r,us,rfl,h,R⟩) (fun p e=>by cases e;exact nr)⟩
def Kw (K:W.Frag):Sp:=fun vs H Q _=>∃ v,vs=[v]/\(((∃ z,v= .str z)/\Q .non H)\/∃ p us,v= .ref p/\H p=some (.lst us)/\us.length<=1000/\∀ o H',Same H H'->Q .non (upd H' p o))
theorem qe:aD ["_law_told"] ["_law_told"] (ak dh):=⟨rfl,rfl,rfl,by trivial,rfl,by trivial,by trivial⟩
theorem jr (T:Txt w K mg):Has P w K mg base 1 "_law_longer" ["_law_told"] (Kw K):=by
 refine cz T.d_law_longer qe (fun _ _ _ _ _ _ us hl=>L2.dq (fun _=>rfl) us hl) ?_ fun f cdv A outer s H vs Q E hr h=>?_
 ·rintro vs H Q E ⟨v,rfl,_⟩;rfl
 obtain ⟨v,rfl,hv⟩:=h
 have hu:=hr.units0
 have hu64:=hr.units
 refine ⟨_,(az (aV (gn (aJ (bR (K:=K) rfl) (bc kz4o) T.b_isinstance aQ (aa (ao 0 Ho) (aa (lO (bc kz4p) T.b_list jd (by trivial) (by trivial)) aj)) (by trivial) (by trivial))) (az (bZ (cU (K:=K) rfl PySem.F.plainAttrs_list PySem.F.slot_list_append PySem.F.type_list_append eO (ao 0 Ho) (aa (jf (jh (K:=K) rfl) (ao 0 Ho) j0 (iu aA)) aj)))) aN)),?_⟩
 walk_at "s"
 have hz:20000<=sizeLine:=by decide
 rcases hv with ⟨⟨z,rfl⟩,q⟩ | ⟨p,us,rfl,hp,hl,q⟩
 ·refine gO (.str _) rfl ?_
  walk_at "s"
  exact q
 ·refine gO (.lst hp) rfl ?_
  walk_at "s"
  refine ⟨.inl ⟨rfl,_,SqL.of hp⟩,?_⟩
  walk_at "s"
  refine yS hp fun c H1 nc S1 hc=>?_
  walk_at "s"
  refine gQ (S1 _ _ hp) (by omega) ?_
  walk_at "s"
  exact q _ H1 S1
theorem pO:(["_law_part"]:List Str).Nodup:=by trivial
theorem pP:(["_law_heap"]:List Str).Nodup:=by trivial
theorem jZ:(["_law_i","_law_j"]:List Str).Nodup:=by trivial
theorem pQ:(["_law_number_here"]:List Str).Nodup:=by trivial
theorem Cz:bH aZ "all":=by trivial
theorem uy:cG aZ "_law_told":=by trivial
theorem CG:cG aZ "_law_kind":=by trivial
theorem Ky:cG aZ "_law_thing_here":=by trivial
theorem Kz:bH aZ "isinstance":=by trivial
theorem kz4w:bH aZ "list":=by trivial
theorem kz4x:bH aZ "str":=by trivial
theorem oV {H:Hp}:∀ (ds:List PyData) (vs:List V),ds.length=vs.length->(∀ (k:Nat) (d:PyData) (v:V),ds[k]?=some d->vs[k]?=some v->DR H d v)->DRs H ds vs
 | [],[],_,_=>vK.mpr rfl
 | [],_ :: _,h,_=>by simp at h
 | _ :: _,[],h,_=>by simp at h
 | d :: ds,v :: vs,h,g=>lR.mpr ⟨v,vs,rfl,g 0 d v rfl rfl,oV ds vs (by simpa using h) fun k d' v' e1 e2=>g (k+1) d' v' e1 e2⟩
theorem zG {α:Type} {H:Hp} {R:V->α->Prop} {g:α->PyData} {zs:List V} {xs:List α} (h:zs.length=xs.length/\∀ (i:Nat) (v:V) (p:α),zs[i]?=some v->xs[i]?=some p->R v p) (hR:∀ v x,R v x->DR H (g x) v):DRs H (xs.map g) zs:=
 oV _ _ (by rw [List.length_map,h.1]) fun k d v e1 e2=>by
  rw [List.getElem?_map] at e1
  obtain ⟨x,ex,rfl⟩:=Option.map_eq_some_iff.mp e1
  exact hR v x (h.2 k v x e2 ex)
def pD (p:Nat×Nat):PyData:=.tuple [.int (p.1:Int),.int (p.2:Int)]
def cD (c:Cg):PyData:=.tuple (.str c.k :: c.ls.map fun x=>.str ⟨#[x]⟩)
def Th.dt:Th->PyData
 | .row z=>.str z
 | .nums ns=>.list (ns.map fun n:Nat=>.int (n:Int))
 | .prs ps=>.list (ps.map pD)
 | .hps hs=>.list (hs.map fun ps=>.list (ps.map pD))
 | .cgs cs=>.list (cs.map cD)
theorem RP.dr {H:Hp} {us:List V} {ps:List (Nat×Nat)} (h:RP H us ps):DRs H (ps.map pD) us:=zG h fun v p ⟨t,e,ht⟩=>by
 subst e
 exact tU.mpr ⟨t,_,rfl,ht,lR.mpr ⟨_,_,rfl,uQ.mpr rfl,Be (uQ.mpr rfl)⟩⟩
theorem Th.dr {H:Hp} {us:List V} {th:Th} {p:Addr} (h:th.vs H us) (hp:H p=some (.lst us)):DR H th.dt (.ref p):=by
 cases th with
 | row z=>exact h.elim
 | nums ns=>
  cases h
  refine lQ.mpr ⟨p,_,rfl,hp,oV _ _ (by rw [List.length_map,List.length_map]) fun k d v e1 e2=>?_⟩
  rw [List.getElem?_map] at e1 e2
  obtain ⟨x,ex,rfl⟩:=Option.map_eq_some_iff.mp e1
  rw [ex] at e2
  cases e2
  exact uQ.mpr rfl
 | prs ps=>exact lQ.mpr ⟨p,_,rfl,hp,RP.dr h⟩
 | hps hs=>exact lQ.mpr ⟨p,_,rfl,hp,zG h fun v ps ⟨q,us,e,hq,hr⟩=>by
   subst e
   exact lQ.mpr ⟨q,us,rfl,hq,hr.dr⟩⟩
 | cgs cs=>exact lQ.mpr ⟨p,_,rfl,hp,zG h fun v c ⟨t,e,ht⟩=>by
   subst e
   refine tU.mpr ⟨t,_,rfl,ht,lR.mpr ⟨_,_,rfl,yK.mpr rfl,oV _ _ (by rw [List.length_map,List.length_map]) fun k d v e1 e2=>?_⟩⟩
   rw [List.getElem?_map] at e1 e2
   obtain ⟨x,ex,rfl⟩:=Option.map_eq_some_iff.mp e1
   rw [ex] at e2
   cases e2
   exact yK.mpr rfl⟩
theorem Hq {x:Nat} (h:97<=x/\x < 123):PyData.strOk ⟨#[x]⟩=true:=by
 have:∀ k∈List.range 26,PyData.strOk ⟨#[97+k]⟩=true:=by trivial
 have:=this (x - 97) (List.mem_range.mpr (by omega))
 rw [show 97+(x - 97)=x by omega] at this
 exact this
theorem zH (p:Nat×Nat):(pD p).canLay0=true/\(pD p).depth<=0+1:=qK fun d hd=>by
 rcases List.mem_cons.mp hd with rfl | hd
 ·exact rH _
 ·rw [List.mem_singleton.mp hd];exact rH _
theorem Th.sh {th:Th} (h:th.ok) (h0:th.kd≠0):PySem.SeqAt.shaped th.dt=true:=by
 cases th with
 | row z=>exact absurd rfl h0
 | nums ns=>
  refine jg (n:=1) (jQ (n:=0) fun d hd=>?_) (by omega)
  obtain ⟨k,_,rfl⟩:=List.mem_map.mp hd
  exact rH _
 | prs ps=>
  refine jg (n:=2) (jQ (n:=1) fun d hd=>?_) (by omega)
  obtain ⟨k,_,rfl⟩:=List.mem_map.mp hd
  exact zH k
 | hps hs=>
  refine jg (n:=3) (jQ (n:=2) fun d hd=>?_) (by omega)
  obtain ⟨k,_,rfl⟩:=List.mem_map.mp hd
  refine jQ (n:=1) fun d hd=>?_
  obtain ⟨k,_,rfl⟩:=List.mem_map.mp hd
  exact zH k
 | cgs cs=>
  refine jg (n:=2) (jQ (n:=1) fun d hd=>?_) (by omega)
  obtain ⟨c,hc,rfl⟩:=List.mem_map.mp hd
  have ok:=h.2 c hc
  refine qK (n:=0) fun e he=>?_
  rcases List.mem_cons.mp he with rfl | he
  ·refine vL ?_
   rcases ok.2 with ⟨h1 | h1 | h1,_⟩ | ⟨h1,_⟩ <;> rw [h1] <;> trivial
  ·obtain ⟨x,hx,rfl⟩:=List.mem_map.mp he
   exact vL (Hq (ok.1 x hx))
theorem Th.len {H:Hp} {us:List V} {th:Th} (h:th.vs H us) (ok:th.ok):us.length<=1000:=by
 cases th with
 | row z=>exact h.elim
 | nums ns=>cases h;rw [List.length_map];exact ok.1
 | prs ps=>have:=h.1;have:=ok.1;omega
 | hps hs=>have:=h.1;have:=ok.1;omega
 | cgs cs=>have:=h.1;have:=ok.1;omega
def zJ (K:W.Frag) (d:Nat):Sp:=fun vs H Q _=>∃ (th:Th) (k:Int) (v u:V),vs=[.int k,v,u]/\th.kd=k/\th.at H v/\th.at H u/\th.ok/\(k=3->d≠0)/\∀ H',Same H H'->Q (.bl true) H'
def KC (K:W.Frag):Nat->Sp
 | 0=>fun _ _ _ _=>False
 | d+1=>zJ K d
theorem mF:aD ["_law_kind","_law_told","_law_thing_here"] ["_law_kind","_law_told","_law_thing_here"] (ak aZ):=⟨rfl,rfl,rfl,by trivial,rfl,by trivial,by trivial⟩
theorem rZ (T:Txt w K mg):Has P w K mg base 1 "_law_alike" ["_law_kind","_law_told","_law_thing_here"] (fun _ _ _ _=>False):=cz (k:=0) T.d_law_alike mF (fun _ _ _ _ _ _ us hl=>L2.Dk (fun _ _ _=>rfl) us hl) (fun _ _ _ _ h=>h.elim) (fun _ _ _ _ _ _ _ _ _ _ h=>h.elim)
theorem mG (T:Txt w K mg) (d:Nat) (fK:Has P w K mg base (1+d) "_law_alike" ["_law_kind","_law_told","_law_thing_here"] (KC K d)):Has P w K mg base (1+d+1) "_law_alike" ["_law_kind","_law_told","_law_thing_here"] (zJ K d):=by
 have fJ:=fJ (P:=P) (w:=w) (base:=base) T
 refine cz T.d_law_alike mF (fun _ _ _ _ _ _ us hl=>L2.Dk (fun _ _ _=>rfl) us hl) ?_ fun f cdv A outer s H vs Q E hr h=>?_
 ·rintro vs H Q E ⟨th,k,v,u,rfl,_⟩;rfl
 obtain ⟨th,k,v,u,rfl,hk,hv,hw,ok,hd,q⟩:=h
 have hu:=hr.units0
 have hu64:=hr.units
 refine ⟨_,(au (aV (aM (aP (K:=K) rfl hu64) (ao 0 CG) aA (by walk_at "p")) (az (aB (kE (aJ (bR (K:=K) rfl) (bc Kz) T.b_isinstance aQ (aa (ao 1 uy) (aa (lO (bc kz4x) T.b_str fL (by trivial) (by trivial)) aj)) (by trivial) (by trivial)) (jP (ir (aP (K:=K) rfl hu64) (ao 1 uy) (ao 2 Ky) (by walk_at "p")))))) aN) (au (aV (m8 (qG (gm (gn (aJ (bR (K:=K) rfl) (bc Kz) T.b_isinstance aQ (aa (ao 1 uy) (aa (lO (bc kz4w) T.b_list jd (by trivial) (by trivial)) aj)) (by trivial) (by trivial)))) (mQ (aM (lg (K:=K) rfl hu64) (ao 1 uy) (ao 2 Ky) (by walk_at "p"))))) (az (aB pZ)) aN) (au (aV (aM (aP (K:=K) rfl hu64) (ao 0 CG) aA (by walk_at "p")) (az (aB (aJ (cH rfl) (bc Cz) T.b_all eQ (aa (bA (sub:=[none]) (aL (N:=["_law_kind","_law_told","_law_thing_here"]) (sc:=ak aZ) (N':=["_law_number_here"]) (by trivial)) rfl rfl rfl (aX (K:=K) rfl (ao 1 uy)) (fun C s₀ H₀ ex=>(du 0 (by trivial) pQ)) (fun C s₀ H₀ ex=>aR) (fun C s₀ H₀ ex=>(aC fJ (hr.mono (by omega)) (jL (by trivial)) (aa (bI 0 (by trivial)) aj) (by trivial)))) aj) (by trivial) (by trivial)))) aN) (au (aV (aM (aP (K:=K) rfl hu64) (ao 0 CG) aA (by walk_at "p")) (az (aB (aJ (cH rfl) (bc Cz) T.b_all eQ (aa (bA (sub:=[none,none]) (aL (N:=["_law_kind","_law_told","_law_thing_here"]) (sc:=ak aZ) (N':=["_law_i","_law_j"]) (by trivial)) rfl rfl rfl (aX (K:=K) rfl (ao 1 uy)) (fun C s₀ H₀ ex=>(uN (K:=K) (n:=2) rfl rfl (iT (du 0 (by trivial) jZ) (iT (du 1 (by trivial) jZ) rG)))) (fun C s₀ H₀ ex=>aR) (fun C s₀ H₀ ex=>(kE (aC fJ (hr.mono (by omega)) (jL (by trivial)) (aa (bI 0 (by trivial)) aj) (by trivial)) (jP (aC fJ (hr.mono (by omega)) (jL (by trivial)) (aa (bI 1 (by trivial)) aj) (by trivial)))))) aj) (by trivial) (by trivial)))) aN) (au (aV (aM (aP (K:=K) rfl hu64) (ao 0 CG) aA (by walk_at "p")) (az (aB (aJ (cH rfl) (bc Cz) T.b_all eQ (aa (bA (sub:=[none]) (aL (N:=["_law_kind","_law_told","_law_thing_here"]) (sc:=ak aZ) (N':=["_law_heap"]) (by trivial)) rfl rfl rfl (aX (K:=K) rfl (ao 1 uy)) (fun C s₀ H₀ ex=>(du 0 (by trivial) pP)) (fun C s₀ H₀ ex=>aR) (fun C s₀ H₀ ex=>(kE (aJ (bR (K:=K) rfl) (jL (by trivial)) T.b_isinstance aQ (aa (bI 0 (by trivial)) (aa (lO (jL (by trivial)) T.b_list jd (by trivial) (by trivial)) aj)) (by trivial) (by trivial)) (jP (aC fK (hr.mono (by omega)) (jL (by trivial)) (aa aA (aa (bI 0 (by trivial)) (aa (bI 0 (by trivial)) aj))) (by trivial)))))) aj) (by trivial) (by trivial)))) aN) (az (aB (aJ (cH rfl) (bc Cz) T.b_all eQ (aa (bA (sub:=[none]) (aL (N:=["_law_kind","_law_told","_law_thing_here"]) (sc:=ak aZ) (N':=["_law_part"]) (by trivial)) rfl rfl rfl (aX (K:=K) rfl (ao 1 uy)) (fun C s₀ H₀ ex=>(du 0 (by trivial) pO)) (fun C s₀ H₀ ex=>aR) (fun C s₀ H₀ ex=>(aJ (bR (K:=K) rfl) (jL (by trivial)) T.b_isinstance aQ (aa (bI 0 (by trivial)) (aa (lO (jL (by trivial)) T.b_tuple o9 (by trivial) (by trivial)) aj)) (by trivial) (by trivial)))) aj) (by trivial) (by trivial))))))))),?_⟩
 walk_at "s"
 have hz:40000<=sizeLine:=by decide
 rcases qP hv with ⟨z,rfl,rfl⟩ | ⟨k0,p,us,rfl,hp,hR⟩
 ·obtain rfl:u= .str z:=by
   rcases hw with ⟨z',e,h⟩ | ⟨p,us,_,_,h⟩
   ·cases e;exact h
   ·exact h.elim
  obtain rfl:k=0:=hk.symm
  rw [decide_eq_true (rfl:V.int 0=V.int 0)]
  walk_at "s"
  refine gO (.str _) rfl ?_
  walk_at "s"
  rw [decide_eq_true (rfl:V.str z=V.str z)]
  exact q H (Same.refl H)
 rcases qP hw with ⟨z,rfl,_⟩ | ⟨_,p2,us2,rfl,hp2,hR2⟩
 ·exact hR.elim
 rw [decide_eq_false (show ¬ V.int k=V.int 0 from fun z=>k0 (by rw [hk];exact V.int.inj z))]
 walk_at "s"
 refine gO (.lst hp) rfl ?_
 walk_at "s"
 refine tV (Th.dr hR hp) (Th.dr hR2 hp2) (Th.sh ok k0) ?_
 walk_at "s"
 have hul:=Th.len hR ok
 clear hR2 hp2 hw hv
 cases th with
 | row z=>exact hR.elim
 | nums ns=>
  obtain rfl:k=1:=hk.symm
  cases hR
  rw [List.length_map] at hul
  rw [decide_eq_true (rfl:V.int 1=V.int 1)]
  walk_at "s"
  refine .inl ⟨p,rfl,⟨_,SqL.of hp⟩,?_⟩
  refine aH (xs:=ns.map fun n:Nat=>V.int (n:Int)) (fun i zs G=>G=H/\zs=(List.replicate i true).map V.bl) (by rw [List.length_map];omega) ⟨rfl,rfl⟩ ?_ ?_ ?_ ?_
  ·rintro i zs G ⟨_,rfl⟩
   simp
  ·rintro i zs G ⟨rfl,_⟩
   exact SqL.of hp
  ·rintro i zs G v hv ⟨rfl,rfl⟩
   rw [List.getElem?_map] at hv
   obtain ⟨n,en,rfl⟩:=Option.map_eq_some_iff.mp hv
   walk_at "s"
   refine ⟨KeepSt.set rfl,?_⟩
   walk_at "s"
   refine ⟨_,rfl,?_⟩
   walk_at "s"
   refine ⟨rfl,?_⟩
   rw [List.replicate_succ',List.map_append]
   rfl
  rintro zs G D H2 ⟨rfl,rfl⟩ nD S2 hD
  try walk_at "s"
  refine ⟨D,_,rfl,hD,?_⟩
  rw [List.length_map,show (List.replicate ns.length true).all id=true by simp]
  exact q H2 S2
 | prs ps=>
  obtain rfl:k=2:=hk.symm
  have hR:RP H us ps:=hR
  have hl:=hR.1
  rw [decide_eq_false (show ¬ V.int 2=V.int 1 by decide)]
  walk_at "s"
  rw [decide_eq_true (rfl:V.int 2=V.int 2)]
  walk_at "s"
  refine .inl ⟨p,rfl,⟨_,SqL.of hp⟩,?_⟩
  refine aH (xs:=us) (fun i zs G=>G=H/\zs=(List.replicate i true).map V.bl) (by omega) ⟨rfl,rfl⟩ ?_ ?_ ?_ ?_
  ·rintro i zs G ⟨_,rfl⟩
   simp
  ·rintro i zs G ⟨rfl,_⟩
   exact SqL.of hp
  ·rintro i zs G v hv ⟨rfl,rfl⟩
   have hi:i < ps.length:=by rw [← hl];exact (List.getElem?_eq_some_iff.mp hv).1
   obtain ⟨pp,ep⟩:∃ pp,ps[i]?=some pp:=⟨_,List.getElem?_eq_getElem hi⟩
   obtain ⟨t,rfl,ht⟩:=hR.2 i v pp hv ep
   refine dO (SqT.of ht) rfl ?_
   walk_at "s"
   refine ⟨(KeepSt.set rfl).trans (KeepSt.set rfl),?_⟩
   walk_at "s"
   refine ⟨_,rfl,?_⟩
   walk_at "s"
   refine ⟨_,rfl,?_⟩
   walk_at "s"
   refine ⟨rfl,?_⟩
   rw [List.replicate_succ',List.map_append]
   rfl
  rintro zs G D H2 ⟨rfl,rfl⟩ nD S2 hD
  try walk_at "s"
  refine ⟨D,_,rfl,hD,?_⟩
  rw [show (List.replicate us.length true).all id=true by simp]
  exact q H2 S2
 | hps hs=>
  obtain rfl:k=3:=hk.symm
  obtain ⟨d,rfl⟩:∃ e,d=e+1:=⟨d - 1,by have:=hd rfl;omega⟩
  have hR:RH H us hs:=hR
  have ok:okG hs:=ok
  have hl:=hR.1
  rw [decide_eq_false (show ¬ V.int 3=V.int 1 by decide)]
  walk_at "s"
  rw [decide_eq_false (show ¬ V.int 3=V.int 2 by decide)]
  walk_at "s"
  rw [decide_eq_true (rfl:V.int 3=V.int 3)]
  walk_at "s"
  refine .inl ⟨p,rfl,⟨_,SqL.of hp⟩,?_⟩
  refine aH (xs:=us) (fun i zs G=>Same H G/\zs=(List.replicate i true).map V.bl) (by omega) ⟨Same.refl H,rfl⟩ ?_ ?_ ?_ ?_
  ·rintro i zs G ⟨_,rfl⟩
   simp
  ·rintro i zs G ⟨s,_⟩
   exact SqL.of (s _ _ hp)
  ·rintro i zs G v hv ⟨s,rfl⟩
   have hi:i < hs.length:=by rw [← hl];exact (List.getElem?_eq_some_iff.mp hv).1
   obtain ⟨pp,ep⟩:∃ pp,hs[i]?=some pp:=⟨_,List.getElem?_eq_getElem hi⟩
   obtain ⟨t,ws,rfl,ht,hP⟩:=(hR.same s).2 i v pp hv ep
   walk_at "s"
   refine ⟨KeepSt.set rfl,?_⟩
   walk_at "s"
   refine gO (.lst ht) rfl ?_
   walk_at "s"
   refine ⟨.prs pp,2,.ref t,.ref t,rfl,rfl,.inr ⟨t,ws,rfl,ht,hP⟩,.inr ⟨t,ws,rfl,ht,hP⟩,(ok.2 pp (List.mem_of_getElem? ep)).2.2,(fun z=>by cases z),fun G2 S2=>?_⟩
   walk_at "s"
   refine ⟨s.trans S2,?_⟩
   rw [List.replicate_succ',List.map_append]
   rfl
  rintro zs G D H2 ⟨s,rfl⟩ nD S2 hD
  try walk_at "s"
  refine ⟨D,_,rfl,hD,?_⟩
  rw [show (List.replicate us.length true).all id=true by simp]
  exact q H2 (s.trans S2)
 | cgs cs=>
  obtain rfl:k=4:=hk.symm
  have hR:RC H us cs:=hR
  have hl:=hR.1
  rw [decide_eq_false (show ¬ V.int 4=V.int 1 by decide)]
  walk_at "s"
  rw [decide_eq_false (show ¬ V.int 4=V.int 2 by decide)]
  walk_at "s"
  rw [decide_eq_false (show ¬ V.int 4=V.int 3 by decide)]
  walk_at "s"
  refine .inl ⟨p,rfl,⟨_,SqL.of hp⟩,?_⟩
  refine aH (xs:=us) (fun i zs G=>G=H/\zs=(List.replicate i true).map V.bl) (by omega) ⟨rfl,rfl⟩ ?_ ?_ ?_ ?_
  ·rintro i zs G ⟨_,rfl⟩
   simp
  ·rintro i zs G ⟨rfl,_⟩
   exact SqL.of hp
  ·rintro i zs G v hv ⟨rfl,rfl⟩
   have hi:i < cs.length:=by rw [← hl];exact (List.getElem?_eq_some_iff.mp hv).1
   obtain ⟨c,ec⟩:∃ c,cs[i]?=some c:=⟨_,List.getElem?_eq_getElem hi⟩
   obtain ⟨t,rfl,ht⟩:=hR.2 i v c hv ec
   walk_at "s"
   refine ⟨KeepSt.set rfl,?_⟩
   walk_at "s"
   refine gO (.tup ht) rfl ?_
   walk_at "s"
   refine ⟨rfl,?_⟩
   rw [List.replicate_succ',List.map_append]
   rfl
  rintro zs G D H2 ⟨rfl,rfl⟩ nD S2 hD
  try walk_at "s"
  refine ⟨D,_,rfl,hD,?_⟩
  rw [show (List.replicate us.length true).all id=true by simp]
  exact q H2 S2
theorem zK (T:Txt w K mg):∀ d:Nat,Has P w K mg base (2+d) "_law_alike" ["_law_kind","_law_told","_law_thing_here"] (zJ K d):=fun d=>by
 have key:∀ d:Nat,Has P w K mg base (2 - 1+d+1) "_law_alike" ["_law_kind","_law_told","_law_thing_here"] (zJ K d):=fun d=>by
  induction d with
  | zero=>exact mG T 0 ((rZ T).mono (by decide))
  | succ d ih=>exact mG T (d+1) (ih.mono (by omega))
 exact (key d).mono (by omega)
theorem fK (T:Txt w K mg):Has P w K mg base (2+1) "_law_alike" ["_law_kind","_law_told","_law_thing_here"] (zJ K 1):=zK T 1
theorem zL:(["_law_number_here"]:List Str).Nodup:=by trivial
theorem KD:bH cJ "range":=by trivial
theorem kz4z:bH cJ "min":=by trivial
theorem kz50:bH cJ "max":=by trivial
theorem kz51:bH cJ "len":=by trivial
theorem KH:cG cJ "_law_script":=by trivial
theorem CJ:cG cJ "_law_k":=by trivial
theorem uz:cG cJ "_law_thing_here":=by trivial
theorem uA:cG cJ "_law_kind":=by trivial
theorem kz56:cG cJ "_law_turn":=by trivial
theorem kz57:bH cJ "_law_longer":=by trivial
theorem Hr:cG cJ "_law_told":=by trivial
theorem kz59:bH cJ "_law_alike":=by trivial
theorem kz5a:bH cJ "_law_read":=by trivial
theorem Hs:cG cJ "_law_due":=by trivial
theorem CK:cG cJ "_law_given":=by trivial
theorem kz5d:bH cJ "_law_word":=by trivial
theorem kz5e:bH cJ "list":=by trivial
theorem kz5f:bH cJ "_law_written":=by trivial
theorem kz5g:bH cJ "_law_thing":=by trivial
theorem Ht:cG cJ "_law_cell_here":=by trivial
theorem kz5i:bH cJ "_law_cell":=by trivial
theorem CN {H H':Hp} {a:Addr} {xs:List V} (h:SqL K H a xs) (s:Same H H'):SqL K H' a xs:=by
 rcases h with (h | ⟨o,h⟩) | h
 ·exact .inl (.inl (s _ _ h))
 ·exact .inl (.inr ⟨o,s _ _ h⟩)
 ·exact .inr h
theorem mm20 (n:Nat):∃ j:Nat,(if (if (n:Int) > 5 then (n:Int) else 5) < 20 then (if (n:Int) > 5 then (n:Int) else 5) else 20)=(j:Int)/\j<=20:=by
 by_cases h:(n:Int) > 5
 ·rw [if_pos h]
  by_cases h2:(n:Int) < 20
  ·rw [if_pos h2];exact ⟨n,rfl,by omega⟩
  ·rw [if_neg h2];exact ⟨20,rfl,by omega⟩
 ·rw [if_neg h,if_pos (by decide)];exact ⟨5,rfl,by omega⟩
theorem Di {th:Th} {H:Hp} {v u:V} (hv:th.at H v) (hu:th.at H u) (ok:th.ok) {Q:VK} (h:Q (.bl false) H):Bg K v u H Q:=by
 rcases qP hv with ⟨z,rfl,rfl⟩ | ⟨k0,p,us,rfl,hp,hR⟩
 ·rcases hu with ⟨z',e,rfl⟩ | ⟨p,us,_,_,h⟩
  ·cases e
   refine eY ?_
   rw [decide_eq_true (rfl:V.str z=V.str z)];exact h
  ·exact h.elim
 ·rcases qP hu with ⟨z,rfl,_⟩ | ⟨_,p2,us2,rfl,hp2,hR2⟩
  ·exact hR.elim
  ·exact tV (Th.dr hR hp) (Th.dr hR2 hp2) (Th.sh ok k0) h
def Dj (K:W.Frag):Sp:=fun vs H Q _=>∃ (a:Addr) (ns:List Int),vs=[.ref a]/\SqL K H a (ns.map V.int)/\ns.length<=63/\∀ H',Q (.bl true) H'
theorem iM:aD ["_law_script","_law_k","_law_cell_here","_law_kind","_law_thing_here","_law_due","_law_given","_law_turn","_law_told"] ["_law_script"] (ak cJ):=⟨rfl,rfl,rfl,by trivial,rfl,by trivial,by trivial⟩
theorem Hu (T:Txt w K mg) {f0:Addr} {fd0:FuncData} (F0:Fun K "law" "law" cJ f0 fd0):FnOk P w K mg base yh 7 f0 fd0 ["_law_script"] (Dj K):=by
 have lC:=lC (P:=P) (w:=w) (base:=base) T
 have jY:=jY (P:=P) (w:=w) (base:=base) T
 have dF:=dF (P:=P) (w:=w) (base:=base) T
 have lE:=lE (P:=P) (w:=w) (base:=base) T
 have jr:=jr (P:=P) (w:=w) (base:=base) T
 have fK:=fK (P:=P) (w:=w) (base:=base) T
 have lD:=lD (P:=P) (w:=w) (base:=base) T
 have iI:=iI (P:=P) (w:=w) (base:=base) T
 refine okJ F0 iM ?_ fun f cdv A outer s H vs Q E hr h=>?_
 ·rintro vs H Q E ⟨a,ns,rfl,_⟩;rfl
 obtain ⟨a,ns,rfl,hS,hlen,q⟩:=h
 have hu:=hr.units0
 have hu64:=hr.units
 refine ⟨_,(au (kZ PassesOwn.never rfl (qH (bc KD) T.b_range (aa (aJ (wk rfl) (bc kz4z) T.b_min Fy (aa aA (aa (aJ (wj rfl) (bc kz50) T.b_max Fx (aa aA (aa (aJ (bQ (K:=K) rfl) (bc kz51) T.b_len d7 (aa (ao 0 KH) aj) (by trivial) (by trivial)) aj)) (by trivial) (by trivial)) aj)) (by trivial) (by trivial)) aj)) (iw (i:=1) iM.nd rfl (Or.inl CJ) rfl) (au (aY (i:=2) iM.nd rfl (Or.inl Ht) (aC lC (hr.mono (by decide)) (bc kz5i) (aa (ao 0 KH) (aa (ao 1 CJ) aj)) (by trivial)) rfl) (au (aY (i:=3) iM.nd rfl (Or.inl uA) (bG cN (bG bY (ao 2 Ht) (ao 1 CJ)) aA) rfl) (au (aY (i:=4) iM.nd rfl (Or.inl uz) (aC jY (hr.mono (by decide)) (bc kz5g) (aa (ao 3 uA) (aa (bG bY (bG dY (ao 2 Ht) aA) (ao 1 CJ)) aj)) (by trivial)) rfl) (au (aY (i:=5) iM.nd rfl (Or.inl Hs) (aC dF (hr.mono (by decide)) (bc kz5f) (aa (ao 3 uA) (aa (ao 4 uz) aj)) (by trivial)) rfl) (au (aY (i:=6) iM.nd rfl (Or.inl CK) (ao 4 uz) rfl) (au (aV (aM sO (ao 3 uA) aA (by walk_at "p")) (az (aY (i:=6) iM.nd rfl (Or.inl CK) (b8 (kY (K:=K) rfl rfl) (bc kz5e) T.b_list jd (aa (ao 4 uz) aj) (by trivial) (by trivial)) rfl)) aN) (au (kZ PassesOwn.never rfl (qH (bc KD) T.b_range (aa aA aj)) (iw (i:=7) iM.nd rfl (Or.inl kz56) rfl) (au (aV (m8 (qG (aM (lg (K:=K) rfl hu64) (aC lD (hr.mono (by decide)) (bc kz5d) (aa (ao 3 uA) (aa (ao 6 CK) aj)) (by trivial)) (ao 5 Hs) (by walk_at "p")) (mQ (aM (lg (K:=K) rfl hu64) (ao 6 CK) (ao 4 uz) (by walk_at "p"))))) (az (aB pZ)) aN) (au (aY (i:=8) iM.nd rfl (Or.inl Hr) (aC lE (hr.mono (by decide)) (bc kz5a) (aa (ao 3 uA) (aa (ao 5 Hs) aj)) (by trivial)) rfl) (au (aV (gm (gn (aC fK (hr.mono (by decide)) (bc kz59) (aa (ao 3 uA) (aa (ao 8 Hr) (aa (ao 4 uz) aj))) (by trivial)))) (az (aB pZ)) aN) (az (bZ (aC jr (hr.mono (by decide)) (bc kz57) (aa (ao 8 Hr) aj) (by trivial)))))))) (az (aV (m8 (yI (aM (aP (K:=K) rfl hu64) (ao 3 uA) aA (by walk_at "p")) (vJ (aM (lg (K:=K) rfl hu64) (bA (sub:=[none]) (aL (N:=["_law_script","_law_k","_law_cell_here","_law_kind","_law_thing_here","_law_due","_law_given","_law_turn","_law_told"]) (sc:=ak cJ) (N':=["_law_number_here"]) (by trivial)) rfl rfl rfl (aX (K:=K) rfl (ao 4 uz)) (fun C s₀ H₀ ex=>(du 0 (by trivial) zL)) (fun C s₀ H₀ ex=>aR) (fun C s₀ H₀ ex=>(aC iI (hr.mono (by decide)) (jL (by trivial)) (aa (b8 gF (jL (by trivial)) T.b_str fL (aa (bI 0 (by trivial)) aj) (by trivial) (by trivial)) aj) (by trivial)))) (ao 4 uz) (by walk_at "p"))))) (az (aB pZ)) aN)))))))))) (az (aB pZ))),?_⟩
 walk_at "s"
 have hz:20000<=sizeLine:=by decide
 refine jO hS ?_
 walk_at "s"
 rw [List.length_map]
 obtain ⟨j,ej,hj⟩:=mm20 ns.length
 rw [ej]
 refine ⟨_,rfl,by omega,by omega,?_⟩
 rw [show ((j:Int)).toNat=j by omega]
 refine ql (n:=j) (fun _ U G=>Same H G/\∃ (x1 x2 x3 x4 x5 x6 x7 x8:Option V),U=[some (.ref a),x1,x2,x3,x4,x5,x6,x7,x8]) ⟨Same.refl H,_,_,_,_,_,_,_,_,rfl⟩ ?_ ?_
 ·rintro i U G hi ⟨s,x1,x2,x3,x4,x5,x6,x7,x8,rfl⟩
  rw [Int.zero_add]
  walk_at "s"
  refine ⟨a,ns,i,rfl,CN hS s,fun c=>?_⟩
  walk_at "s"
  obtain ⟨k,ek⟩:∃ k,(c+(i:Int)) % 5=k:=⟨_,rfl⟩
  rw [ek]
  have hk0:0<=k/\k < 5:=by omega
  clear ek
  try walk_at "s"
  refine ⟨k,_,rfl,hk0.1,hk0.2,fun th v G1 hk ok S1 hv=>?_⟩
  walk_at "s"
  refine ⟨th,k,v,rfl,hk,hv,ok,(fun _=>by decide),fun G2 S2=>?_⟩
  walk_at "n"
  have hv2:=Th.at_same hv S2
  have U2:=s.trans (S1.trans S2)
  clear S1 S2 hv s
  walk_at "n"
  with_reducible refine m7 ?_
  walk_at "n"
  with_reducible refine vM (fun U G'=>Same G2 G'/\∃ g x7 x8,th.at G' g/\U=[some (.ref a),some (.int (i:Int)),some (.int c),some (.int k),some v,some (.str th.wd),some g,x7,x8]) ?_ ?_
  rotate_left
  ·intro N hN
   walk_at "s"
   rcases qP hv2 with ⟨z,rfl,rfl⟩ | ⟨k0,p,us,rfl,hp,hR⟩
   ·obtain rfl:k=0:=hk.symm
    rw [decide_eq_false (show ¬ (0:Int) < 0 by decide)]
    walk_at "s"
    exact hN _ _ ⟨Same.refl G2,_,_,_,.inl ⟨z,rfl,rfl⟩,rfl⟩
   ·rw [decide_eq_true (show (0:Int) < k by have:=hk0.1;have:k≠0:=fun z=>k0 (by rw [hk];exact z);omega)]
    walk_at "s"
    refine .inl ⟨p,us,rfl,.inl (SqL.of hp),fun l nl=>?_⟩
    walk_at "s"
    exact hN _ _ ⟨(Same.refl G2).upd nl,_,_,_,.inr ⟨l,us,rfl,aq,Th.vs_same hR ((Same.refl G2).upd nl)⟩,rfl⟩
  rintro U G3 ⟨S3,g,x7',x8',hg,rfl⟩
  walk_at "s"
  refine ⟨_,rfl,by omega,by omega,?_⟩
  rw [show Int.toNat 2=2 from rfl]
  have hv3:=Th.at_same hv2 S3
  refine ql (n:=2) (fun _ U G'=>Same G3 G'/\∃ x7 x8,U=[some (.ref a),some (.int (i:Int)),some (.int c),some (.int k),some v,some (.str th.wd),some g,x7,x8]) ⟨Same.refl G3,_,_,rfl⟩ ?_ ?_
  ·rintro t U G4 ht ⟨s4,y7,y8,rfl⟩
   rw [Int.zero_add]
   walk_at "s"
   refine ⟨th,k,g,rfl,hk,Th.at_same hg s4,ok,fun G5 S5=>?_⟩
   walk_at "s"
   rw [decide_eq_true (rfl:V.str th.wd=V.str th.wd)]
   walk_at "s"
   have U5:=s4.trans S5
   refine Di (Th.at_same hg U5) (Th.at_same hv3 U5) ok ?_
   walk_at "s"
   refine ⟨th,k,rfl,hk,ok,fun tl G6 S6 htl ntl=>?_⟩
   walk_at "s"
   refine ⟨th,k,tl,v,rfl,hk,htl,Th.at_same hv3 (U5.trans S6),ok,(fun _=>by decide),fun G7 S7=>?_⟩
   walk_at "s"
   have htl7:=Th.at_same htl S7
   have U7:=U5.trans (S6.trans S7)
   refine ⟨tl,rfl,?_⟩
   rcases qP htl7 with ⟨z,rfl,rfl⟩ | ⟨k0,p,us,rfl,hp,hR⟩
   ·refine .inl ⟨⟨z,rfl⟩,?_⟩
    walk_at "s"
    exact ⟨U7,_,_,rfl⟩
   ·refine .inr ⟨p,us,rfl,hp,Th.len hR ok,fun o G8 S8=>?_⟩
    walk_at "s"
    exact ⟨Same.put (U7.trans S8) (Same.back U5 (ntl p rfl)),_,_,rfl⟩
  ·rintro U G4 ⟨s4,y7,y8,rfl⟩
   have hv4:=Th.at_same hv3 s4
   have U4:=U2.trans (S3.trans s4)
   walk_at "s"
   by_cases hk1:k=1
   ·subst hk1
    rw [decide_eq_true (rfl:V.int 1=V.int 1)]
    walk_at "s"
    obtain ⟨ns',rfl⟩:∃ ns',th= .nums ns':=by
     cases th with
     | nums ns'=>exact ⟨ns',rfl⟩
     | row z=>cases hk
     | prs ps=>cases hk
     | hps hs=>cases hk
     | cgs cs=>cases hk
    rcases hv4 with ⟨z,e,_⟩ | ⟨p,us,rfl,hp,hR⟩
    ·cases e
    have ok:ns'.length<=1000/\∀ n∈ns',n < 10000:=ok
    obtain rfl:us=ns'.map fun n:Nat=>V.int (n:Int):=hR
    have hl':=ok.1
    refine .inl ⟨p,rfl,⟨_,SqL.of hp⟩,?_⟩
    refine aH (xs:=ns'.map fun n:Nat=>V.int (n:Int)) (fun i zs G'=>Same G4 G'/\zs=(ns'.take i).map fun n:Nat=>V.int (n:Int)) (by rw [List.length_map];omega) ⟨Same.refl G4,rfl⟩ ?_ ?_ ?_ ?_
    ·rintro i zs G' ⟨_,rfl⟩
     rw [List.length_map,List.length_take];omega
    ·rintro i zs G' ⟨s,_⟩
     exact SqL.of (s _ _ hp)
    ·rintro i zs G' v hv ⟨s,rfl⟩
     rw [List.getElem?_map] at hv
     obtain ⟨n,en,rfl⟩:=Option.map_eq_some_iff.mp hv
     have hn:=ok.2 n (List.mem_of_getElem? en)
     walk_at "s"
     refine ⟨KeepSt.set rfl,?_⟩
     walk_at "s"
     refine ⟨n,rfl,fB hn,?_⟩
     walk_at "s"
     refine ⟨n,rfl,hn,fun G5 S5=>?_⟩
     walk_at "s"
     refine ⟨s.trans S5,?_⟩
     rw [List.take_add_one,en,List.map_append]
     rfl
    ·rintro zs G' D G5 ⟨s,rfl⟩ nD S hD
     rw [List.length_map,List.take_length] at hD
     try walk_at "s"
     refine Di (th:=.nums ns') (.inr ⟨D,_,rfl,hD,rfl⟩) (.inr ⟨p,_,rfl,S _ _ (s _ _ hp),rfl⟩) ok ?_
     walk_at "s"
     exact ⟨U4.trans (s.trans S),_,_,_,_,_,_,_,_,rfl⟩
   ·rw [decide_eq_false (show ¬ V.int k=V.int 1 from fun z=>hk1 (V.int.inj z))]
    walk_at "s"
    exact ⟨U4,_,_,_,_,_,_,_,_,rfl⟩
 ·rintro U G ⟨s,x1,x2,x3,x4,x5,x6,x7,x8,rfl⟩
  walk_at "s"
  exact q G
end
end My
namespace PySem.W.Fast
def tw1502057406055263578:=0
def tw9767808452993513066:=0
def tw12957409183689144360:=0
def tw10781696972131885586:=0
def tw15138002364458868292:=0
def tw6934657410321005672:=0
def tw13759837775254311942:=0
def tw11499267042897988763:=0
def tw7223518798662844668:=0
def tw16073730594882245470:=0
def tw16639479235474576194:=0
def tw4923027287939158109:=0
def tw11600228749509794944:=0
def tw1799658623656091596:=0
def tw696032241586378741:=0
def tw13658544317094273137:=0
def tw1382635351555585081:=0
def tw3722867436313533068:=0
def tw15316612522992418551:=0
def tw5012173293402717521:=0
def tw16102963727246639372:=0
def tw16308124699892020970:=0
def tw288103238861387802:=0
def tw17992317289843725455:=0
def tw8745373330266804571:=0
def tw754159534120565713:=0
def tw14305308308621074193:=0
def tw11490671207507397120:=0
def tw2098532478062523892:=0
def tw16873297105543532753:=0
def tw11957645484408337172:=0
def tw4511930587291480018:=0
def tw5150148313713596027:=0
def tw14551949400717162099:=0
def tw6238166494717959603:=0
def tw10018442910580885278:=0
def tw7508960209716494037:=0
def tw14941101612284865225:=0
def tw11478740650800820121:=0
def tw15962937097628505933:=0
def tw11829641975413756387:=0
def tw293900850875593209:=0
def tw12495141276512203044:=0
def tw81918349486484889:=0
def tw15426657538980873777:=0
def tw12896625425896997994:=0
def tw10621220456392231836:=0
def tw7911469568193648210:=0
def tw13202887954979834189:=0
def tw6208347795025273694:=0
def tw11807019052715872319:=0
def tw6518367164650249085:=0
def tw17884057935849554011:=0
def tw11992607395487426651:=0
def tw13084608701951638473:=0
def tw4258660655986779730:=0
def tw7717496528893269798:=0
def tw65065607749499492:=0
def tw2500565654302005793:=0
def tw2530935635726499678:=0
def tw4123600363391654444:=0
def tw13007445371778801265:=0
def tw6575713959009732242:=0
def tw5277061713507858578:=0
def tw13147834068044742003:=0
def tw4499229192895725236:=0
def tw10313585798461330168:=0
def tw12145152447834014806:=0
def tw8150269047321035118:=0
def tw3564171416119119012:=0
def tw12061465853183623356:=0
def tw3581993443272698309:=0
def tw7738781656807983266:=0
def tw254829767764292469:=0
def tw1594857552920718054:=0
def tw17582536963880568743:=0
def tw15773320096238623361:=0
def tw9487700913525217432:=0
def tw6390115030690922758:=0
def tw14508925106219064100:=0
def tw16319007412519496357:=0
def tw4200869507919617188:=0
def tw6682559061778347103:=0
def tw11259279555649455370:=0
def tw6780399397596275584:=0
def tw3977739970595690380:=0
def tw9099026758981463742:=0
def tw1255752582123959038:=0
def tw12834842729178149240:=0
def tw5886417950513978341:=0
def tw13039170792246617987:=0
def tw1763544442725085016:=0
def tw12992719741525021098:=0
def tw3040605405432632375:=0
def tw13014649800910048632:=0
def tw14800511416085976799:=0
def tw13712278666807173867:=0
def tw9479163841524031923:=0
def tw3882324118265312175:=0
def tw8924189441354684955:=0
def tw4773454353714217954:=0
def tw16721369501966338619:=0
def tw16144980358415784672:=0
def tw5285963908180250607:=0
def tw5524845878977445624:=0
def tw15565436195092080188:=0
def tw9178001670183947076:=0
def tw6441429128535281662:=0
def tw7707976648794630687:=0
def tw690319725319614068:=0
def tw8184975714694294518:=0
def tw6527918620350496567:=0
def tw5807324194848752798:=0
def tw3360819282272922933:=0
def tw4606516483632053220:=0
def tw15839433928616057457:=0
def tw10755064311497172395:=0
def tw9110972413747741633:=0
def tw13608335480981738142:=0
def tw2284310058175720459:=0
def tw4946474118276470112:=0
def tw10288891064180179838:=0
def tw7593470736582525826:=0
def tw16262298660890659869:=0
def tw14094293336704476337:=0
def tw15603391339299200325:=0
def tw3102035856688389897:=0
def tw7303587025702759468:=0
def tw15632709006536037036:=0
def tw13132715071873189230:=0
def tw8479367141709147220:=0
def tw13614896815404756390:=0
def tw14400252098720235968:=0
def tw7643938998732127838:=0
def tw16185851520582967577:=0
def tw6564320975487879212:=0
def tw1861561786518232985:=0
def tw2324119381047758118:=0
def tw515617023418637869:=0
def tw1605027663505202099:=0
def tw6161399317785047407:=0
def tw1713813105489606693:=0
def tw6919357007380105005:=0
def tw11203512503716106600:=0
def tw11868143635711676752:=0
def tw13303858284867346116:=0
def tw2313243322607328348:=0
def tw1720994926750700440:=0
def tw5540367624427473165:=0
def tw10204208004293241986:=0
def tw15293967392609698700:=0
def tw17907370729582130188:=0
def tw1000013656788817121:=0
def tw14178839143059760504:=0
def tw7193108070260531436:=0
def tw17894657588440710269:=0
def tw11592845972003194900:=0
def tw2568962681579091047:=0
def tw16213302131739061650:=0
def tw2651502964329205144:=0
def tw13486182126827751763:=0
def tw15087067752963680530:=0
def tw6113623208744307315:=0
def tw14718976678474887637:=0
def tw13901248174325910684:=0
def tw4893197007231857324:=0
def tw3883808065114093182:=0
def tw10801581226232280279:=0
def tw16468470404064012088:=0
def tw5323006307507170559:=0
def tw16417688031955658349:=0
def tw14199991356375825021:=0
def tw4067072866526062896:=0
def tw4217443920069505906:=0
def tw11768814651177809977:=0
def tw16391838834378961634:=0
def tw14748474572848829674:=0
def tw4700397807151758565:=0
def tw16308859998246143705:=0
def tw7931663644407151957:=0
def tw462825138369043821:=0
def tw8439366175577386924:=0
def tw18119812739448529814:=0
def tw15067961415082869994:=0
def tw13306409407372590213:=0
def tw15249297380969143713:=0
def tw13367808728401636750:=0
def tw6110262944277131271:=0
def tw4605683520865068358:=0
def tw9884498613939051705:=0
def tw13607976510329364844:=0
def tw17827864531356381725:=0
def tw12524196135640448348:=0
def tw12270395887962635471:=0
def tw8729749639562309349:=0
def tw178770252124082107:=0
def tw4345863457780494680:=0
def tw8492509333123306030:=0
def tw7622756353308819767:=0
def tw17517210298110310447:=0
def tw5778676349556673127:=0
def tw14539156760223186786:=0
def tw3881990395247406615:=0
def tw7485037809773795300:=0
def tw7322240819401288078:=0
def tw17997267174606699218:=0
def tw3141977722777433751:=0
def tw11760694410480860792:=0
def tw15442754084476691127:=0
def tw2991741868623497149:=0
def tw16749844865117097482:=0
def tw2741816724890197395:=0
def tw1141701875418034985:=0
def tw3553564663910406610:=0
def tw13701990325852039351:=0
def tw3171548990043617900:=0
def tw3589497688463989842:=0
def tw4410333982406330106:=0
def tw8475579815923219090:=0
def tw2817651811228843384:=0
def tw2893471729797416199:=0
def tw10426458302691029981:=0
def tw17141667940886905261:=0
def tw8447520483630484858:=0
def tw11070866698623549428:=0
def tw17530665237540281102:=0
def tw16688640317603898063:=0
def tw11838092213069629768:=0
def tw14436780510726624487:=0
def tw14846091548244551420:=0
def tw5806880747474145525:=0
def tw10665250346983913758:=0
def tw14203687216882925465:=0
def tw6699111460670932543:=0
def tw6018767558300005477:=0
def tw17868617898057560941:=0
def tw16725616579050966817:=0
def tw4278789940110836065:=0
def tw2833098143004053952:=0
def tw9049573427176330145:=0
def tw3269222597840311012:=0
def tw16806692534923141264:=0
def tw546653614450118231:=0
def tw8286469843076432599:=0
def tw7667086447816345731:=0
def tw207374290416669997:=0
def tw12996843121194527863:=0
def tw7283028468057779349:=0
def tw13306434600306418622:=0
def tw5746353568864267448:=0
def tw8925822442543471390:=0
def tw4230793304981231674:=0
def tw1133708991962893686:=0
def tw9831055061684193809:=0
def tw722542696344019101:=0
def tw11871314082815701453:=0
def tw126384243835896567:=0
def tw13896528670796790667:=0
def tw8382474405833319101:=0
def tw15576241096280171276:=0
def tw4243901700061261135:=0
def tw14801173090476548250:=0
def tw977311194842977384:=0
def tw3888817186223968125:=0
def tw6808912545887873957:=0
def tw15048378921048031220:=0
def tw1101772929108982671:=0
def tw16978057965797012169:=0
def tw2521494401810881258:=0
def tw17010271364571395361:=0
def tw14784762349527358619:=0
def tw3305297455293154218:=0
def tw5384093518735959949:=0
def tw12745747882781740818:=0
def tw736852646944116730:=0
def tw7269308630408340664:=0
def tw258657337274393810:=0
def tw654803424128932091:=0
def tw7078030693809032843:=0
def tw5554282326247308892:=0
def tw8727373592319130204:=0
def tw17118014021613592183:=0
def tw11960461752162995179:=0
def tw16687195992518535180:=0
def tw12700289175764603377:=0
def tw5953534496176546547:=0
def tw7592809403826847127:=0
def tw14065056140820405965:=0
def tw2269262436988434917:=0
def tw893745324643568623:=0
def tw2112645547763026197:=0
def tw13870840277431486962:=0
def tw9545596120933480309:=0
def tw6904474279884315619:=0
def tw15941898273396657261:=0
def tw4560874983127138030:=0
def tw2457221009062318837:=0
def tw6044451559486271340:=0
def tw7986962140947925033:=0
def tw10522886660366474301:=0
def tw3473976211495061701:=0
def tw13594013663914079030:=0
def tw14994542011713387279:=0
def tw6984949069160150389:=0
def tw3692622389391169090:=0
def tw5869642204067424131:=0
def tw12901805777624441825:=0
def tw4032235442795332329:=0
def tw12516145625224308056:=0
def tw13263530365746653810:=0
def tw15337282184944285834:=0
def tw9218141763623804198:=0
def tw12068052252768752580:=0
def tw11823269262016082537:=0
def tw648513316329578101:=0
def tw9751354917727247101:=0
def tw17337022156691957568:=0
end PySem.W.Fast
open PySem PySem.W PyProof.Rows
set_option maxRecDepth 100000 in
set_option maxHeartbeats 0 in
theorem PySem.Challenge.cw_panethread_k83_written_and_read_holds : PySem.Challenge.rw_panethread_k83_written_and_read.Holds := by
 w_on;o_law;k_head;(case hw=>w_witness2)
 k_fill
 refine L2.Jo (l:=PySem.Challenge.rw_panethread_k83_written_and_read) (st:=My.cJ) (k:=7) (x:="_law_script") (sp:=My.Dj) rfl rfl rfl ⟨rfl,by decide,by decide,rfl⟩ (fun w h Y=>PySem.W.kIn_of Y) (fun _ _ _ _ _ _ us hl=>L2.dq (fun _=>rfl) us hl) ?F (fun K H a ns hl hS=>⟨a,ns,rfl,hS,hl,fun _=>rfl⟩)
 case F=>
  intro w mg h KX G
  have b_all:mg "all"=none:=by
   refine' PySem.W.mg_none_of KX G ?a
   (case a=>k_is)
  have b_bool:mg "bool"=none:=by
   refine' PySem.W.mg_none_of KX G ?a
   (case a=>k_is)
  have b_enumerate:mg "enumerate"=none:=by
   refine' PySem.W.mg_none_of KX G ?a
   (case a=>k_is)
  have b_int:mg "int"=none:=by
   refine' PySem.W.mg_none_of KX G ?a
   (case a=>k_is)
  have b_isinstance:mg "isinstance"=none:=by
   refine' PySem.W.mg_none_of KX G ?a
   (case a=>k_is)
  have b_len:mg "len"=none:=by
   refine' PySem.W.mg_none_of KX G ?a
   (case a=>k_is)
  have b_list:mg "list"=none:=by
   refine' PySem.W.mg_none_of KX G ?a
   (case a=>k_is)
  have b_max:mg "max"=none:=by
   refine' PySem.W.mg_none_of KX G ?a
   (case a=>k_is)
  have b_min:mg "min"=none:=by
   refine' PySem.W.mg_none_of KX G ?a
   (case a=>k_is)
  have b_range:mg "range"=none:=by
   refine' PySem.W.mg_none_of KX G ?a
   (case a=>k_is)
  have b_str:mg "str"=none:=by
   refine' PySem.W.mg_none_of KX G ?a
   (case a=>k_is)
  have b_tuple:mg "tuple"=none:=by
   refine' PySem.W.mg_none_of KX G ?a
   (case a=>k_is)
  have c_CHANGE:∃ t,mg "CHANGE"=some (.str "change" t):=by
   refine' L2.cX KX G ?a ?h
   (case a=>k_is);(case h=>exact ⟨_,by with_unfolding_all rfl⟩)
  have c_FIGURES:∃ t,mg "FIGURES"=some (.str "0123456789" t):=by
   refine' L2.cX KX G ?a ?h
   (case a=>k_is);(case h=>exact ⟨_,by with_unfolding_all rfl⟩)
  have c_IN:∃ t,mg "IN"=some (.str "in" t):=by
   refine' L2.cX KX G ?a ?h
   (case a=>k_is);(case h=>exact ⟨_,by with_unfolding_all rfl⟩)
  have c_KEEP:∃ t,mg "KEEP"=some (.str "keep" t):=by
   refine' L2.cX KX G ?a ?h
   (case a=>k_is);(case h=>exact ⟨_,by with_unfolding_all rfl⟩)
  have c_LETTERS:∃ t,mg "LETTERS"=some (.str "abcdefghijklmnopqrstuvwxyz" t):=by
   refine' L2.cX KX G ?a ?h
   (case a=>k_is);(case h=>exact ⟨_,by with_unfolding_all rfl⟩)
  have c_MOST_CHANGES:∃ t,mg "MOST_CHANGES"=some (.int 48 t):=by
   refine' L2.cX KX G ?a ?h
   (case a=>k_is);(case h=>exact ⟨_,by with_unfolding_all rfl⟩)
  have c_MOST_FIGURES:∃ t,mg "MOST_FIGURES"=some (.int 4 t):=by
   refine' L2.cX KX G ?a ?h
   (case a=>k_is);(case h=>exact ⟨_,by with_unfolding_all rfl⟩)
  have c_MOST_SIGNS:∃ t,mg "MOST_SIGNS"=some (.int 48 t):=by
   refine' L2.cX KX G ?a ?h
   (case a=>k_is);(case h=>exact ⟨_,by with_unfolding_all rfl⟩)
  have c_NOTHING:∃ t,mg "NOTHING"=some (.str "-" t):=by
   refine' L2.cX KX G ?a ?h
   (case a=>k_is);(case h=>exact ⟨_,by with_unfolding_all rfl⟩)
  have c_OUT:∃ t,mg "OUT"=some (.str "out" t):=by
   refine' L2.cX KX G ?a ?h
   (case a=>k_is);(case h=>exact ⟨_,by with_unfolding_all rfl⟩)
  have c_POINT:∃ t,mg "POINT"=some (.str "." t):=by
   refine' L2.cX KX G ?a ?h
   (case a=>k_is);(case h=>exact ⟨_,by with_unfolding_all rfl⟩)
  have e_MARKED:L2.Gp w (L2.KOf KX) mg "MARKED" [("=","keep"),("!","change"),("<","out"),(">","in")]:=by
   dsimp only [L2.KOf]
   refine' L2.Dg KX G ?a ?l ?e ?s ?d
   (case a=>k_is);(case l=>with_unfolding_all rfl);(case e=>exact ⟨rfl,⟨_,rfl⟩,⟨_,rfl⟩,rfl,⟨_,rfl⟩,⟨_,rfl⟩,rfl,⟨_,rfl⟩,⟨_,rfl⟩,rfl,⟨_,rfl⟩,⟨_,rfl⟩,trivial⟩);(case s=>decide);(case d=>trivial)
  have e_MARKS:L2.Gp w (L2.KOf KX) mg "MARKS" [("keep","="),("change","!"),("out","<"),("in",">")]:=by
   dsimp only [L2.KOf]
   refine' L2.Dg KX G ?a ?l ?e ?s ?d
   (case a=>k_is);(case l=>with_unfolding_all rfl);(case e=>exact ⟨rfl,⟨_,rfl⟩,⟨_,rfl⟩,rfl,⟨_,rfl⟩,⟨_,rfl⟩,rfl,⟨_,rfl⟩,⟨_,rfl⟩,rfl,⟨_,rfl⟩,⟨_,rfl⟩,trivial⟩);(case s=>decide);(case d=>trivial)
  have d_is_letter:L2.cj (L2.KOf KX) mg "is_letter" My.cM:=by
   dsimp only [L2.KOf]
   refine' L2.aO KX G ?a ?l ?c ?k
   (case a=>k_is);(case l=>k_is);(case c=>k_is);(case k=>k_is)
  have d_is_row:L2.cj (L2.KOf KX) mg "is_row" My.dB:=by
   dsimp only [L2.KOf]
   refine' L2.aO KX G ?a ?l ?c ?k
   (case a=>k_is);(case l=>k_is);(case c=>k_is);(case k=>k_is)
  have d_need_row:L2.cj (L2.KOf KX) mg "need_row" My.gR:=by
   dsimp only [L2.KOf]
   refine' L2.aO KX G ?a ?l ?c ?k
   (case a=>k_is);(case l=>k_is);(case c=>k_is);(case k=>k_is)
  have d_is_change:L2.cj (L2.KOf KX) mg "is_change" My.bw:=by
   dsimp only [L2.KOf]
   refine' L2.aO KX G ?a ?l ?c ?k
   (case a=>k_is);(case l=>k_is);(case c=>k_is);(case k=>k_is)
  have d_is_changes:L2.cj (L2.KOf KX) mg "is_changes" My.bJ:=by
   dsimp only [L2.KOf]
   refine' L2.aO KX G ?a ?l ?c ?k
   (case a=>k_is);(case l=>k_is);(case c=>k_is);(case k=>k_is)
  have d_need_changes:L2.cj (L2.KOf KX) mg "need_changes" My.cY:=by
   dsimp only [L2.KOf]
   refine' L2.aO KX G ?a ?l ?c ?k
   (case a=>k_is);(case l=>k_is);(case c=>k_is);(case k=>k_is)
  have d_listed:L2.cj (L2.KOf KX) mg "listed" My.iV:=by
   dsimp only [L2.KOf]
   refine' L2.aO KX G ?a ?l ?c ?k
   (case a=>k_is);(case l=>k_is);(case c=>k_is);(case k=>k_is)
  have d_tuple_word:L2.cj (L2.KOf KX) mg "tuple_word" My.d8:=by
   dsimp only [L2.KOf]
   refine' L2.aO KX G ?a ?l ?c ?k
   (case a=>k_is);(case l=>k_is);(case c=>k_is);(case k=>k_is)
  have d_row_word:L2.cj (L2.KOf KX) mg "row_word" My.fj:=by
   dsimp only [L2.KOf]
   refine' L2.aO KX G ?a ?l ?c ?k
   (case a=>k_is);(case l=>k_is);(case c=>k_is);(case k=>k_is)
  have d_numbers_word:L2.cj (L2.KOf KX) mg "numbers_word" My.cI:=by
   dsimp only [L2.KOf]
   refine' L2.aO KX G ?a ?l ?c ?k
   (case a=>k_is);(case l=>k_is);(case c=>k_is);(case k=>k_is)
  have d_tuples_word:L2.cj (L2.KOf KX) mg "tuples_word" My.cR:=by
   dsimp only [L2.KOf]
   refine' L2.aO KX G ?a ?l ?c ?k
   (case a=>k_is);(case l=>k_is);(case c=>k_is);(case k=>k_is)
  have d_pairs_word:L2.cj (L2.KOf KX) mg "pairs_word" My.d9:=by
   dsimp only [L2.KOf]
   refine' L2.aO KX G ?a ?l ?c ?k
   (case a=>k_is);(case l=>k_is);(case c=>k_is);(case k=>k_is)
  have d_heaps_word:L2.cj (L2.KOf KX) mg "heaps_word" My.cO:=by
   dsimp only [L2.KOf]
   refine' L2.aO KX G ?a ?l ?c ?k
   (case a=>k_is);(case l=>k_is);(case c=>k_is);(case k=>k_is)
  have d_change_word:L2.cj (L2.KOf KX) mg "change_word" My.dD:=by
   dsimp only [L2.KOf]
   refine' L2.aO KX G ?a ?l ?c ?k
   (case a=>k_is);(case l=>k_is);(case c=>k_is);(case k=>k_is)
  have d_changes_word:L2.cj (L2.KOf KX) mg "changes_word" My.bV:=by
   dsimp only [L2.KOf]
   refine' L2.aO KX G ?a ?l ?c ?k
   (case a=>k_is);(case l=>k_is);(case c=>k_is);(case k=>k_is)
  have d_need_word:L2.cj (L2.KOf KX) mg "need_word" My.iy:=by
   dsimp only [L2.KOf]
   refine' L2.aO KX G ?a ?l ?c ?k
   (case a=>k_is);(case l=>k_is);(case c=>k_is);(case k=>k_is)
  have d_is_number_word:L2.cj (L2.KOf KX) mg "is_number_word" My.bx:=by
   dsimp only [L2.KOf]
   refine' L2.aO KX G ?a ?l ?c ?k
   (case a=>k_is);(case l=>k_is);(case c=>k_is);(case k=>k_is)
  have d_is_pair_word:L2.cj (L2.KOf KX) mg "is_pair_word" My.bO:=by
   dsimp only [L2.KOf]
   refine' L2.aO KX G ?a ?l ?c ?k
   (case a=>k_is);(case l=>k_is);(case c=>k_is);(case k=>k_is)
  have d_parts_of:L2.cj (L2.KOf KX) mg "parts_of" My.cZ:=by
   dsimp only [L2.KOf]
   refine' L2.aO KX G ?a ?l ?c ?k
   (case a=>k_is);(case l=>k_is);(case c=>k_is);(case k=>k_is)
  have d_pair_read:L2.cj (L2.KOf KX) mg "pair_read" My.dW:=by
   dsimp only [L2.KOf]
   refine' L2.aO KX G ?a ?l ?c ?k
   (case a=>k_is);(case l=>k_is);(case c=>k_is);(case k=>k_is)
  have d_read_row:L2.cj (L2.KOf KX) mg "read_row" My.dR:=by
   dsimp only [L2.KOf]
   refine' L2.aO KX G ?a ?l ?c ?k
   (case a=>k_is);(case l=>k_is);(case c=>k_is);(case k=>k_is)
  have d_read_number:L2.cj (L2.KOf KX) mg "read_number" My.bK:=by
   dsimp only [L2.KOf]
   refine' L2.aO KX G ?a ?l ?c ?k
   (case a=>k_is);(case l=>k_is);(case c=>k_is);(case k=>k_is)
  have d_read_numbers:L2.cj (L2.KOf KX) mg "read_numbers" My.bh:=by
   dsimp only [L2.KOf]
   refine' L2.aO KX G ?a ?l ?c ?k
   (case a=>k_is);(case l=>k_is);(case c=>k_is);(case k=>k_is)
  have d_read_pairs:L2.cj (L2.KOf KX) mg "read_pairs" My.bL:=by
   dsimp only [L2.KOf]
   refine' L2.aO KX G ?a ?l ?c ?k
   (case a=>k_is);(case l=>k_is);(case c=>k_is);(case k=>k_is)
  have d_heaps_parted:L2.cj (L2.KOf KX) mg "heaps_parted" My.bD:=by
   dsimp only [L2.KOf]
   refine' L2.aO KX G ?a ?l ?c ?k
   (case a=>k_is);(case l=>k_is);(case c=>k_is);(case k=>k_is)
  have d_read_heaps:L2.cj (L2.KOf KX) mg "read_heaps" My.bM:=by
   dsimp only [L2.KOf]
   refine' L2.aO KX G ?a ?l ?c ?k
   (case a=>k_is);(case l=>k_is);(case c=>k_is);(case k=>k_is)
  have d_change_read:L2.cj (L2.KOf KX) mg "change_read" My.cA:=by
   dsimp only [L2.KOf]
   refine' L2.aO KX G ?a ?l ?c ?k
   (case a=>k_is);(case l=>k_is);(case c=>k_is);(case k=>k_is)
  have d_read_changes:L2.cj (L2.KOf KX) mg "read_changes" My.bF:=by
   dsimp only [L2.KOf]
   refine' L2.aO KX G ?a ?l ?c ?k
   (case a=>k_is);(case l=>k_is);(case c=>k_is);(case k=>k_is)
  have d_law_cell:L2.cj (L2.KOf KX) mg "_law_cell" My.fu:=by
   dsimp only [L2.KOf]
   refine' L2.aO KX G ?a ?l ?c ?k
   (case a=>k_is);(case l=>k_is);(case c=>k_is);(case k=>k_is)
  have d_law_numbers:L2.cj (L2.KOf KX) mg "_law_numbers" My.bC:=by
   dsimp only [L2.KOf]
   refine' L2.aO KX G ?a ?l ?c ?k
   (case a=>k_is);(case l=>k_is);(case c=>k_is);(case k=>k_is)
  have d_law_whole:L2.cj (L2.KOf KX) mg "_law_whole" My.c7:=by
   dsimp only [L2.KOf]
   refine' L2.aO KX G ?a ?l ?c ?k
   (case a=>k_is);(case l=>k_is);(case c=>k_is);(case k=>k_is)
  have d_law_joined:L2.cj (L2.KOf KX) mg "_law_joined" My.bT:=by
   dsimp only [L2.KOf]
   refine' L2.aO KX G ?a ?l ?c ?k
   (case a=>k_is);(case l=>k_is);(case c=>k_is);(case k=>k_is)
  have d_law_written:L2.cj (L2.KOf KX) mg "_law_written" My.bj:=by
   dsimp only [L2.KOf]
   refine' L2.aO KX G ?a ?l ?c ?k
   (case a=>k_is);(case l=>k_is);(case c=>k_is);(case k=>k_is)
  have d_law_number:L2.cj (L2.KOf KX) mg "_law_number" My.gD:=by
   dsimp only [L2.KOf]
   refine' L2.aO KX G ?a ?l ?c ?k
   (case a=>k_is);(case l=>k_is);(case c=>k_is);(case k=>k_is)
  have d_law_pairs:L2.cj (L2.KOf KX) mg "_law_pairs" My.cg:=by
   dsimp only [L2.KOf]
   refine' L2.aO KX G ?a ?l ?c ?k
   (case a=>k_is);(case l=>k_is);(case c=>k_is);(case k=>k_is)
  have d_law_changes:L2.cj (L2.KOf KX) mg "_law_changes" My.bU:=by
   dsimp only [L2.KOf]
   refine' L2.aO KX G ?a ?l ?c ?k
   (case a=>k_is);(case l=>k_is);(case c=>k_is);(case k=>k_is)
  have d_law_thing:L2.cj (L2.KOf KX) mg "_law_thing" My.aU:=by
   dsimp only [L2.KOf]
   refine' L2.aO KX G ?a ?l ?c ?k
   (case a=>k_is);(case l=>k_is);(case c=>k_is);(case k=>k_is)
  have d_law_word:L2.cj (L2.KOf KX) mg "_law_word" My.cB:=by
   dsimp only [L2.KOf]
   refine' L2.aO KX G ?a ?l ?c ?k
   (case a=>k_is);(case l=>k_is);(case c=>k_is);(case k=>k_is)
  have d_law_read:L2.cj (L2.KOf KX) mg "_law_read" My.cC:=by
   dsimp only [L2.KOf]
   refine' L2.aO KX G ?a ?l ?c ?k
   (case a=>k_is);(case l=>k_is);(case c=>k_is);(case k=>k_is)
  have d_law_alike:L2.cj (L2.KOf KX) mg "_law_alike" My.aZ:=by
   dsimp only [L2.KOf]
   refine' L2.aO KX G ?a ?l ?c ?k
   (case a=>k_is);(case l=>k_is);(case c=>k_is);(case k=>k_is)
  have d_law_longer:L2.cj (L2.KOf KX) mg "_law_longer" My.dh:=by
   dsimp only [L2.KOf]
   refine' L2.aO KX G ?a ?l ?c ?k
   (case a=>k_is);(case l=>k_is);(case c=>k_is);(case k=>k_is)
  have d_law:L2.cj (L2.KOf KX) mg "law" My.cJ:=by
   dsimp only [L2.KOf]
   refine' L2.aO KX G ?a ?l ?c ?k
   (case a=>k_is);(case l=>k_is);(case c=>k_is);(case k=>k_is)
  exact ⟨d_law,fun base f fd F=>My.Hu ⟨b_all,b_bool,b_enumerate,b_int,b_isinstance,b_len,b_list,b_max,b_min,b_range,b_str,b_tuple,c_CHANGE,c_FIGURES,c_IN,c_KEEP,c_LETTERS,c_MOST_CHANGES,c_MOST_FIGURES,c_MOST_SIGNS,c_NOTHING,c_OUT,c_POINT,e_MARKED,e_MARKS,d_is_letter,d_is_row,d_need_row,d_is_change,d_is_changes,d_need_changes,d_listed,d_tuple_word,d_row_word,d_numbers_word,d_tuples_word,d_pairs_word,d_heaps_word,d_change_word,d_changes_word,d_need_word,d_is_number_word,d_is_pair_word,d_parts_of,d_pair_read,d_read_row,d_read_number,d_read_numbers,d_read_pairs,d_heaps_parted,d_read_heaps,d_change_read,d_read_changes,d_law_cell,d_law_numbers,d_law_whole,d_law_joined,d_law_written,d_law_number,d_law_pairs,d_law_changes,d_law_thing,d_law_word,d_law_read,d_law_alike,d_law_longer,d_law⟩ F⟩
