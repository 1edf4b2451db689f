import PyProof.Rows.All
import Wide.All
import OpenK.AllK
import Wide.FinOn
import Lean
import PyProof.EqAt
import PyProof.EqKinds
import PyProof.TupleCall
import PyProof.ReprRoads
import KE.KSortTup
import PySem.Challenge.RW_panethread_k44_whole_windows_of_boards
noncomputable section
set_option compiler.extract_closed false
set_option Elab.async false
set_option linter.all false
set_option maxRecDepth 100000
namespace L2
@[elab_as_elim] theorem sH {p:List PySem.Value→Prop} (h:∀ a0:PySem.Value,p [a0]) (us:List PySem.Value) (hl:us.length=1):p us:=by
  rcases us with _ | ⟨a0,us0⟩
  · cases hl
  rcases us0 with _ | ⟨b,us⟩
  · exact h a0
  · cases hl
@[elab_as_elim] theorem nj {p:List PySem.Value→Prop} (h:∀ a0 a1:PySem.Value,p [a0,a1]) (us:List PySem.Value) (hl:us.length=2):p us:=by
  rcases us with _ | ⟨a0,us0⟩
  · cases hl
  rcases us0 with _ | ⟨a1,us1⟩
  · cases hl
  rcases us1 with _ | ⟨b,us⟩
  · exact h a0 a1
  · cases hl
@[elab_as_elim] theorem j8 {p:List PySem.Value→Prop} (h:∀ a0 a1 a2:PySem.Value,p [a0,a1,a2]) (us:List PySem.Value) (hl:us.length=3):p us:=by
  rcases us with _ | ⟨a0,us0⟩
  · cases hl
  rcases us0 with _ | ⟨a1,us1⟩
  · cases hl
  rcases us1 with _ | ⟨a2,us2⟩
  · cases hl
  rcases us2 with _ | ⟨b,us⟩
  · exact h a0 a1 a2
  · cases hl
@[elab_as_elim] theorem Sh {p:List PySem.Value→Prop} (h:∀ a0 a1 a2 a3:PySem.Value,p [a0,a1,a2,a3]) (us:List PySem.Value) (hl:us.length=4):p us:=by
  rcases us with _ | ⟨a0,us0⟩
  · cases hl
  rcases us0 with _ | ⟨a1,us1⟩
  · cases hl
  rcases us1 with _ | ⟨a2,us2⟩
  · cases hl
  rcases us2 with _ | ⟨a3,us3⟩
  · cases hl
  rcases us3 with _ | ⟨b,us⟩
  · exact h a0 a1 a2 a3
  · cases hl
@[elab_as_elim] theorem Jc {p:List PySem.Value→Prop} (h:∀ a0 a1 a2 a3 a4:PySem.Value,p [a0,a1,a2,a3,a4]) (us:List PySem.Value) (hl:us.length=5):p us:=by
  rcases us with _ | ⟨a0,us0⟩
  · cases hl
  rcases us0 with _ | ⟨a1,us1⟩
  · cases hl
  rcases us1 with _ | ⟨a2,us2⟩
  · cases hl
  rcases us2 with _ | ⟨a3,us3⟩
  · cases hl
  rcases us3 with _ | ⟨a4,us4⟩
  · cases hl
  rcases us4 with _ | ⟨b,us⟩
  · exact h a0 a1 a2 a3 a4
  · cases hl
theorem auto1 (h:True:=by first | exact .inl rfl | exact .inr rfl | assumption):True:=h
theorem auto2 (h:True:=by decide):True:=h
theorem auto3 (h:True:=by intro _;rfl):True:=h
theorem auto4 (h:True:=by rfl):True:=h
theorem auto5 (h:True:=by with_unfolding_all rfl):True:=h
theorem auto6 (h:True:=by decide+kernel):True:=h
open PySem PySem.Spec PyProof.Rows
abbrev Key:=Sum Int Str
def uJ:Key→Value→Bool
  | .inl k,v=>Value.isInt k v
  | .inr x,v=>Value.isStrOf x v
def keyH (w:World):Key→Int
  | .inl k=>hashInt k
  | .inr x=>hashStr w x
theorem cV:∀ {k:Key} {v:Value},uJ k v=true→(∃ i t,k=Sum.inl i∧v=Value.int i t)∨(∃ x t,k=Sum.inr x∧v=Value.str x t)
  | .inl i,v,h=>by
    obtain ⟨t,e⟩:=Value.isInt_shape (k:=i) (v:=v) h
    exact .inl ⟨i,t,rfl,e⟩
  | .inr x,v,h=>by
    obtain ⟨t,e⟩:=Value.isStrOf_shape (x:=x) (v:=v) h
    exact .inr ⟨x,t,rfl,e⟩
theorem BL (i:Int) (t:Tok):uJ (.inl i) (.int i t)=true:=by simp [uJ,Value.isInt]
theorem BP (x:Str) (t:Tok):uJ (.inr x) (.str x t)=true:=by simp [uJ,Value.isStrOf]
theorem Nz (a b:Int):decide ((Sum.inl a:Key)=Sum.inl b)=(a == b):=by
  by_cases e:a=b
  · subst e;simp
  · have h:¬ (Sum.inl a:Key)=Sum.inl b:=fun q=>e (Sum.inl.inj q)
    rw [decide_eq_false h]
    exact (beq_eq_false_iff_ne.mpr e).symm
theorem NB (a b:Str):decide ((Sum.inr a:Key)=Sum.inr b)=decide (a=b):=by
  by_cases e:a=b
  · subst e;simp
  · have h:¬ (Sum.inr a:Key)=Sum.inr b:=fun q=>e (Sum.inr.inj q)
    rw [decide_eq_false h,decide_eq_false e]
theorem NK (a:Int) (b:Str):decide ((Sum.inl a:Key)=Sum.inr b)=false:=decide_eq_false (fun q=>nomatch q)
theorem NP (a:Str) (b:Int):decide ((Sum.inr a:Key)=Sum.inl b)=false:=decide_eq_false (fun q=>nomatch q)
def cW (prog:Program) (w:World):PySem.KeyKind prog w Key where
  is:=uJ
  hash:=keyH w
  inj:=fun v a b ha hb=>by
    rcases cV ha with ⟨i,t,rfl,rfl⟩ | ⟨x,t,rfl,rfl⟩
    · rcases cV hb with ⟨j,u,rfl,e⟩ | ⟨y,u,rfl,e⟩
      · injection e with e1 _;rw [e1]
      · exact nomatch e
    · rcases cV hb with ⟨j,u,rfl,e⟩ | ⟨y,u,rfl,e⟩
      · exact nomatch e
      · injection e with e1 _;rw [e1]
  byValue:=fun k v h=>by
    rcases cV h with ⟨i,t,rfl,rfl⟩ | ⟨x,t,rfl,rfl⟩ <;> rfl
  pyHash:=fun hv h=>by
    rcases cV hv with ⟨i,t,rfl,rfl⟩ | ⟨x,t,rfl,rfl⟩
    · exact wpAny_pyHash_int h
    · exact wpAny_pyHash_str h
  eqBool:=fun hu hv h=>by
    rcases cV hu with ⟨i,t,rfl,rfl⟩ | ⟨x,t,rfl,rfl⟩
    · rcases cV hv with ⟨j,u,rfl,rfl⟩ | ⟨y,u,rfl,rfl⟩
      · rw [Nz] at h;exact wpAny_eqBool_int h
      · rw [NK] at h;exact SeqAt.EqAt.int_str i t y u _ _ _ _ h
    · rcases cV hv with ⟨j,u,rfl,rfl⟩ | ⟨y,u,rfl,rfl⟩
      · rw [NP] at h;exact SeqAt.EqAt.str_int x t j u _ _ _ _ h
      · rw [NB] at h;exact wpAny_eqBool_str h
  «strs»:=fun k x t v h=>by
    rcases cV h with ⟨i,u,rfl,e⟩ | ⟨y,u,rfl,e⟩
    · exact nomatch e
    · injection e with e1 _
      subst e1
      cases v <;> rfl
theorem wV (prog:Program) (w:World) (i:Int) (t:Tok):(cW prog w).is (.inl i) (.int i t)=true:=BL i t
theorem wW (prog:Program) (w:World) (x:Str) (t:Tok):(cW prog w).is (.inr x) (.str x t)=true:=BP x t
end L2
namespace L2
open PySem PySem.Spec PyProof.Rows
inductive V where
  | non | bl (b:Bool) | int (i:Int) | str (x:Str) | byt (b:Array UInt8) | flt (b:UInt64) | ref (a:Addr) | ty (n:String)
  deriving DecidableEq
def RelV:V→Value→Prop
  | .non,u=>u=Value.none
  | .bl b,u=>u=Value.bool b
  | .int i,u=>∃ t,u=Value.int i t
  | .str x,u=>∃ t,u=Value.str x t
  | .byt b,u=>∃ t,u=Value.bytes b t
  | .flt b,u=>∃ t,u=Value.float b t
  | .ref a,u=>u=Value.ref a
  | .ty n,u=>u=Value.type n
abbrev Vals:List V→List Value→Prop:=Paired RelV
theorem Vals.length {xs:List V} {us:List Value} (r:Vals xs us):xs.length=us.length:=Paired.length r
theorem Vals.get:∀ {xs:List V} {us:List Value} {i:Nat} {x:V},Vals xs us→xs[i]?=some x→∃ u,us[i]?=some u∧RelV x u
  | _,_,_,_,.nil,e=>by simp at e
  | _,_,0,_,.cons r _,e=>by simp at e;subst e;exact ⟨_,rfl,r⟩
  | _,_,i+1,x,.cons _ t,e=>by
    obtain ⟨u,h1,h2⟩:=Vals.get (i:=i) (x:=x) t (by simpa using e)
    exact ⟨u,by simpa using h1,h2⟩
theorem Vals.set {x:V} {u:Value} (r:RelV x u):∀ {xs:List V} {us:List Value} (i:Nat),Vals xs us→Vals (xs.set i x) (us.set i u)
  | _,_,_,.nil=>.nil
  | _,_,0,.cons _ t=>.cons r t
  | _,_,i+1,.cons q t=>.cons q (Vals.set r i t)
theorem Vals.append:∀ {xs ys:List V} {us ws:List Value},Vals xs us→Vals ys ws→Vals (xs ++ ys) (us ++ ws)
  | _,_,_,_,.nil,s=>s
  | _,_,_,_,.cons r t,s=>.cons r (Vals.append t s)
theorem Vals.take:∀ {xs:List V} {us:List Value} (n:Nat),Vals xs us→Vals (xs.take n) (us.take n)
  | _,_,0,_=>.nil
  | _,_,_+1,.nil=>.nil
  | _,_,n+1,.cons r t=>.cons r (Vals.take n t)
theorem Vals.drop:∀ {xs:List V} {us:List Value} (n:Nat),Vals xs us→Vals (xs.drop n) (us.drop n)
  | _,_,0,r=>r
  | _,_,_+1,.nil=>.nil
  | _,_,n+1,.cons _ t=>Vals.drop n t
def RelO:Option V→Option Value→Prop
  | some v,some u=>RelV v u
  | none,none=>True
  | _,_=>False
def KV {κ:Type}:List (κ×V)→List (κ×Value)→Prop:=Paired fun (p:κ×V) (q:κ×Value)=>p.1=q.1∧RelV p.2 q.2
def kV:Key→V
  | .inl i=>.int i
  | .inr x=>.str x
inductive HO where
  /-- a list -/
  | lst (xs:List V)
  /-- a tuple (never changes) -/
  | tup (xs:List V)
  /-- a dict whose keys are ints and texts;one whose keys are tuples of ints and texts (the empty one is both) -/
  | dK (kvs:List (Key×V)) | dT (kvs:List (List Key×V))
  /-- a set of ints:its members,its size -/
  | set (S:Int→Bool) (n:Nat)
  /-- an instance of the class at C,its dict at dx,its attributes -/
  | ins (C dx:Addr) (fs:List (Str×V))
  /-- the dict of the instance at x -/
  | own (x:Addr)
  /-- the dict of an exception -/
  | xd (fs:List (Str×V))
  /-- a bound method,f of x -/
  | met (f x:Addr)
  /-- a range object lo,lo+1,.. below hi -/
  | rng (lo hi:Int)
  /-- a thing that is known to the object (the script;a dict while a loop walks it):read,never written while it is so -/
  | frz (o:Obj) (u:HO)
  /-- a code object's table -/
  | tbl (ps:Array Value)
  /-- any other thing,by what is true of its one object (a def of one's own:SetO a S n:=HO.ext fun h=>..) -/
  | ext (φ:Heap→Prop)
abbrev Hp:=Addr→Option HO
def upd (H:Hp) (a:Addr) (o:HO):Hp:=fun b=>if b=a then some o else H b
theorem aj {H:Hp} {a:Addr} {o:HO}:upd H a o a=some o:=by unfold upd;rw [if_pos rfl]
theorem aD {H:Hp} {a b:Addr} {o:HO} (h:b≠a):upd H a o b=H b:=by unfold upd;rw [if_neg h]
theorem Jd {H:Hp} {a:Addr} {o u:HO}:upd (upd H a o) a u=upd H a u:=by
  funext b;unfold upd;split <;> rfl
theorem Sq {H:Hp} {a b:Addr} {o u:HO} (h:H a=some o) (h':H b=some u) (d:o≠u):a≠b:=by
  intro e;subst e;rw [h] at h';exact d (Option.some.inj h')
theorem ju {H:Hp} {a b:Addr} {o:HO} (h:H a=some o) (h':H b=none):a≠b:=by
  intro e;subst e;rw [h] at h';cases h'
section
variable (P:Program) (w:World)
def ObjOk (H:Hp) (h:Heap) (a:Addr):HO→Prop
  | .lst xs=>xs.length≤sizeLine∧∃ (its:List Value) (n:Nat),Vals xs its∧h.get? a=some {cls:=.type "list",data:=.seq its.toArray n}
  | .tup xs=>xs.length≤sizeLine∧∃ its:List Value,Vals xs its∧IsTup h a its.toArray
  | .dK kvs=>kvs.length≤sizeLine∧(a == sysModules)=false∧∃ vs,KV kvs vs∧h.DictOf (cW P w) a vs
  | .dT kvs=>kvs.length≤sizeLine∧(a == sysModules)=false∧∃ xs:List (List Key×Addr×Value),
      Paired (fun (p:List Key×V) (q:List Key×Addr×Value)=>p.1=q.1∧H q.2.1=some (.tup (p.1.map kV))∧RelV p.2 q.2.2) kvs xs∧
      ∃ o es ep,h.get? a=some o∧o.ExactDict∧o.data= .dict es ep∧es.toList=xs.map (entryOfKey (tupleKind (cW P w)))∧(xs.map (·.1)).Nodup
  | .set S n=>h.SetOf (intKind P w) a S n
  | .ins C dx fs=>H dx=some (.own a)∧fs.length≤1000∧dx≠a∧h.get? a=some (PySem.W.instObj C dx)∧
      ∃ mA,h.Ns1 dx mA∧(∀ f,RelO (fs.lookup f) (mA f))∧PySem.Within mA (fs.map (·.1))
  | .own _=>∃ o,h.get? a=some o
  | .xd fs=>∃ mA,h.Ns1 a mA∧∀ f,RelO (fs.lookup f) (mA f)
  | .rng lo hi=>∃ t u v,h.get? a=some {cls:=.type "range",data:=.fields #[.int lo t,.int hi u,.int 1 v]}
  | .frz o u=>h.get? a=some o∧ObjOk H h a u
  | .tbl ps=>h.get? a=some {cls:=.none,data:=.fields ps}
  | .met f x=>h.get? a=some (PySem.W.methodObj (.ref f) (.ref x))
  | .ext φ=>φ h∧(∃ o,h.get? a=some o)∧∀ h1 h2:Heap,φ h1→(∀ o,h1.get? a=some o→h2.get? a=some o)→φ h2
def HOk (H:Hp) (h:Heap):Prop:=∀ a o,H a=some o→ObjOk P w H h a o
end
section
variable {P:Program} {w:World} {H H':Hp} {h h':Heap} {a:Addr} {o:HO}
theorem ObjOk.lt (x:ObjOk P w H h a o):a < h.objs.size:=by
  cases o with
  | lst xs=>obtain ⟨_,_,_,_,e⟩:=x;exact Heap.lt_size e
  | tup xs=>obtain ⟨_,_,_,p⟩:=x;exact p.lt
  | dK kvs=>obtain ⟨_,_,_,_,o,_,_,e,_⟩:=x;exact Heap.lt_size e
  | dT kvs=>obtain ⟨_,_,_,_,o,_,_,e,_⟩:=x;exact Heap.lt_size e
  | set S n=>obtain ⟨o,_,_,_,e,_⟩:=x;exact Heap.lt_size e
  | ins C dx fs=>obtain ⟨_,_,_,e,_⟩:=x;exact Heap.lt_size e
  | own y=>obtain ⟨_,e⟩:=x;exact Heap.lt_size e
  | xd fs=>obtain ⟨_,⟨_,_,_,e,_⟩,_⟩:=x;exact Heap.lt_size e
  | rng lo hi=>obtain ⟨_,_,_,e⟩:=x;exact Heap.lt_size e
  | frz ob u=>obtain ⟨e,_⟩:=x;exact Heap.lt_size e
  | tbl ps=>exact Heap.lt_size (show h.get? a=some _ from x)
  | met f y=>exact Heap.lt_size (show h.get? a=some _ from x)
  | ext φ=>obtain ⟨_,⟨_,e⟩,_⟩:=x;exact Heap.lt_size e
theorem Paired.mapP {α β:Type} {F G:α→β→Prop}:∀ {l₁:List α} {l₂:List β},Paired F l₁ l₂→(∀ a b,F a b→G a b)→Paired G l₁ l₂
  | _,_,.nil,_=>.nil
  | _,_,.cons r t,f=>.cons (f _ _ r) (Paired.mapP t f)
theorem ObjOk.stay (x:ObjOk P w H h a o) (k:∀ b u,(b=a∨H b=some (.own a))→h.get? b=some u→h'.get? b=some u)
    (ho:∀ b,H b=some (.own a)→H' b=some (.own a)) (ht:∀ b xs,H b=some (.tup xs)→H' b=some (.tup xs)):ObjOk P w H' h' a o:=by
  induction o with
  | lst xs=>obtain ⟨z,its,n,r,e⟩:=x;exact ⟨z,its,n,r,k _ _ (.inl rfl) e⟩
  | tup xs=>obtain ⟨z,its,r,ob,e,c⟩:=x;exact ⟨z,its,r,ob,k _ _ (.inl rfl) e,c⟩
  | dK kvs=>obtain ⟨z,y,vs,r,ob,es,ep,e,c⟩:=x;exact ⟨z,y,vs,r,ob,es,ep,k _ _ (.inl rfl) e,c⟩
  | dT kvs=>
    obtain ⟨z,y,xs,r,ob,es,ep,e,c⟩:=x
    exact ⟨z,y,xs,Paired.mapP r fun p q z=>⟨z.1,ht _ _ z.2.1,z.2.2⟩,ob,es,ep,k _ _ (.inl rfl) e,c⟩
  | set S n=>obtain ⟨ob,es,ep,t,e,c⟩:=x;exact ⟨ob,es,ep,t,k _ _ (.inl rfl) e,c⟩
  | ins C dx fs=>
    obtain ⟨d,z,ne,e,mA,⟨od,es,ep,e2,c⟩,r⟩:=x
    exact ⟨ho _ d,z,ne,k _ _ (.inl rfl) e,mA,⟨od,es,ep,k _ _ (.inr d) e2,c⟩,r⟩
  | own y=>obtain ⟨ob,e⟩:=x;exact ⟨ob,k _ _ (.inl rfl) e⟩
  | xd fs=>obtain ⟨mA,⟨od,es,ep,e,c⟩,r⟩:=x;exact ⟨mA,⟨od,es,ep,k _ _ (.inl rfl) e,c⟩,r⟩
  | rng lo hi=>obtain ⟨t,u,v,e⟩:=x;exact ⟨t,u,v,k _ _ (.inl rfl) e⟩
  | frz ob u ih=>obtain ⟨e,q⟩:=x;exact ⟨k _ _ (.inl rfl) e,ih q⟩
  | tbl ps=>
    have e:h.get? a=some {cls:=.none,data:=.fields ps}:=x
    show h'.get? a=some {cls:=.none,data:=.fields ps}
    exact k a _ (.inl rfl) e
  | met f y=>
    have e:h.get? a=some (PySem.W.methodObj (.ref f) (.ref y)):=x
    show h'.get? a=some (PySem.W.methodObj (.ref f) (.ref y))
    exact k a _ (.inl rfl) e
  | ext φ=>obtain ⟨p,⟨o,e⟩,st⟩:=x;exact ⟨st _ _ p fun o q=>k _ _ (.inl rfl) q,⟨o,k _ _ (.inl rfl) e⟩,st⟩
theorem HOk.lt (x:HOk P w H h) (e:H a=some o):a < h.objs.size:=(x a o e).lt
theorem HOk.fresh (x:HOk P w H h) (e:h.objs.size≤a):H a=none:=by
  cases q:H a with
  | none=>rfl
  | some u=>exact absurd (Nat.lt_of_lt_of_le (x.lt q) e) (Nat.lt_irrefl _)
theorem HOk.kept (x:HOk P w H h) (k:∀ b u,h.get? b=some u→h'.get? b=some u):HOk P w H h':=fun a o e=>
  (x a o e).stay (fun b u _ q=>k b u q) (fun _ q=>q) fun _ _ q=>q
theorem HOk.laid (x:HOk P w H h) (k:∀ b u,h.get? b=some u→h'.get? b=some u) (hp:h.objs.size≤a) (new:ObjOk P w (upd H a o) h' a o):HOk P w (upd H a o) h':=fun b u e=>by
  have hn:=x.fresh hp
  by_cases hb:b=a
  · subst hb;rw [aj] at e;cases e;exact new
  · rw [aD hb] at e
    exact (x b u e).stay (fun c v _ q=>k c v q) (fun c q=>by rw [aD (ju q hn)];exact q) fun c xs q=>by rw [aD (ju q hn)];exact q
end
def Rd (H:Hp) (a:Addr) (u:HO):Prop:=H a=some u∨∃ o,H a=some (.frz o u)
theorem Rd.ok {P:Program} {w:World} {H:Hp} {h:Heap} {a:Addr} {u:HO} (r:Rd H a u) (x:HOk P w H h):ObjOk P w H h a u:=by
  rcases r with r | ⟨o,r⟩
  · exact x a u r
  · obtain ⟨_,q⟩:=x a _ r
    exact q
def Ss:Option HO→Prop
  | some (.lst _)=>True
  | some (.dK _)=>True
  | some (.dT _)=>True
  | some (.set _ _)=>True
  | some (.ins _ _ _)=>True
  | some (.ext _)=>True
  | _=>False
section
variable {P:Program} {w:World} {H:Hp} {h h':Heap} {x e:Addr} {o':HO}
theorem HOk.write (ok:HOk P w H h) (mu:Ss (H x)) (he:e=x∨H e=some (.own x)) (k:∀ b u,b≠e→h.get? b=some u→h'.get? b=some u) (heo:∃ u,h'.get? e=some u)
    (new:ObjOk P w (upd H x o') h' x o'):HOk P w (upd H x o') h':=fun b u q=>by
  have nown:∀ c y,H c=some (.own y)→c≠x:=fun c y r z=>by subst z;rw [r] at mu;exact mu
  have ntup:∀ c xs,H c=some (.tup xs)→c≠x:=fun c xs r z=>by subst z;rw [r] at mu;exact mu
  by_cases hb:b=x
  · subst hb;rw [aj] at q;cases q;exact new
  · rw [aD hb] at q
    by_cases hbe:b=e
    · have q':H b=some (.own x):=by
        rcases he with z | z
        · exact absurd (hbe.trans z) hb
        · rw [hbe];exact z
      rw [q] at q';cases q'
      obtain ⟨v,hv⟩:=heo
      exact ⟨v,by rw [hbe];exact hv⟩
    · refine (ok b u q).stay (fun c v hc r=>k c v ?_ r) (fun c r=>by rw [aD (nown c b r)];exact r) fun c xs r=>by rw [aD (ntup c xs r)];exact r
      rcases hc with rfl | hc
      · exact hbe
      · rintro rfl
        rcases he with z | z
        · exact nown c b hc z
        · rw [hc] at z;cases z;exact hb rfl
end
structure Un (fs ex:List Addr) (H H':Hp) (h h':Heap):Prop where
  keep:∀ b o,h.get? b=some o→H b=none→b ∉ fs→b ∉ ex→h'.get? b=some o
  slot:∀ b o,h.get? b=some o→H b=none→b∈fs→b ∉ ex→∃ sl,h'.get? b=some {o with slots:=sl}
  free:∀ b o,h.get? b=some o→H b=none→b ∉ ex→H' b=none
  there:∀ b o,h.get? b=some o→b ∉ ex→∃ o',h'.get? b=some o'
  tups:∀ b xs,H b=some (.tup xs)→H' b=some (.tup xs)
  frzs:∀ b o u,H b=some (.frz o u)→H' b=some (.frz o u)
  tbls:∀ b ps,H b=some (.tbl ps)→∃ more,H' b=some (.tbl (ps ++ more))
section
variable {fs fs' ex ex':List Addr} {H H1 H2:Hp} {h h1 h2 h':Heap} {a x e:Addr} {o:HO}
theorem Un.any (u:Un fs ex H H1 h h1) {b:Addr} {ob:Obj} (q:h.get? b=some ob) (n:H b=none) (hx:b ∉ ex):∃ sl,h1.get? b=some {ob with slots:=sl}:=by
  by_cases hb:b∈fs
  · exact u.slot b ob q n hb hx
  · exact ⟨ob.slots,u.keep b ob q n hb hx⟩
theorem Un.kept (k:∀ b u,h.get? b=some u→h'.get? b=some u):Un fs ex H H h h':=
  ⟨fun b ob q _ _ _=>k b ob q,fun b ob q _ _ _=>⟨ob.slots,k b ob q⟩,fun _ _ _ n _=>n,fun b ob q _=>⟨ob,k b ob q⟩,fun _ _ q=>q,fun _ _ _ q=>q,fun _ ps q=>⟨#[],by rw [q];simp⟩⟩
theorem Un.refl:Un fs ex H H h h:=Un.kept fun _ _ q=>q
theorem Un.laid (k:∀ b u,h.get? b=some u→h'.get? b=some u) (hp:h.objs.size≤a) (hn:H a=none):Un fs ex H (upd H a o) h h' where
  keep:=fun b u q _ _ _=>k b u q
  slot:=fun b u q _ _ _=>⟨u.slots,k b u q⟩
  free:=fun b u q n _=>by rw [aD (Nat.ne_of_lt (Nat.lt_of_lt_of_le (Heap.lt_size q) hp))];exact n
  there:=fun b u q _=>⟨u,k b u q⟩
  tups:=fun b xs q=>by rw [aD (ju q hn)];exact q
  frzs:=fun b u xs q=>by rw [aD (ju q hn)];exact q
  tbls:=fun b ps q=>⟨#[],by rw [aD (ju q hn),q];simp⟩
theorem Un.write (mu:Ss (H x)) (he:e=x∨H e=some (.own x)) (k:∀ b u,b≠e→h.get? b=some u→h'.get? b=some u) (heo:∃ u,h'.get? e=some u):Un fs ex H (upd H x o) h h':=by
  have hx:∀ b,H b=none→b≠x:=fun b n z=>by subst z;rw [n] at mu;exact mu
  have hb:∀ b,H b=none→b≠e:=fun b n z=>by
    subst z
    rcases he with r | r
    · exact hx b n r
    · rw [n] at r;cases r
  have hm:∀ b u,H b=some u→¬ Ss (some u)→b≠x:=fun b u q nm z=>by subst z;rw [q] at mu;exact nm mu
  refine ⟨fun b u q n _ _=>k b u (hb b n) q,fun b u q n _ _=>⟨u.slots,k b u (hb b n) q⟩,fun b u q n _=>by rw [aD (hx b n)];exact n,fun b u q _=>?_,
    fun b xs q=>by rw [aD (hm b _ q fun z=>z)];exact q,fun b u xs q=>by rw [aD (hm b _ q fun z=>z)];exact q,fun b ps q=>⟨#[],by rw [aD (hm b _ q fun z=>z),q];simp⟩⟩
  by_cases hbe:b=e
  · subst hbe;exact heo
  · exact ⟨u,k b u hbe q⟩
end
def IW (h:Heap) (H:Hp):List Addr:=(List.range h.objs.size).filter fun a=>(H a).isSome
def vq (h:Heap) (H:Hp):Heap:=PySem.W.hideAll h (IW h H)
theorem BR (h:Heap) (H:Hp):(vq h H).objs.size=h.objs.size:=PySem.W.hideAll_size _ _
theorem Ej {h:Heap} {H:Hp} {b:Addr} {o:Obj} (e:h.get? b=some o) (n:H b=none):(vq h H).get? b=some o:=
  PySem.W.hideAll_get _ e fun hm=>by
    have q:(H b).isSome=true:=(List.mem_filter.mp hm).2
    rw [n] at q;simp at q
theorem Je {h:Heap} {H:Hp} {b:Addr} {o:Obj} (e:(vq h H).get? b=some o):h.get? b=some o∧H b=none:=by
  have e':h.get? b=some o:=PySem.W.of_hideAll (IW h H) e
  refine ⟨e',?_⟩
  cases q:H b with
  | none=>rfl
  | some x=>
    have hm:b∈IW h H:=List.mem_filter.mpr ⟨List.mem_range.mpr (Heap.lt_size e'),by simp [q]⟩
    have z:(vq h H).get? b=none:=PySem.W.hideAll_none (IW h H) hm
    rw [z] at e;cases e
end L2
namespace L2
open PySem PySem.Spec PyProof.Rows
structure Mod (K:PySem.W.Frag) (mg:Str→Option Value) (base:Heap):Prop where
  kin:K.In base
  glob:base.Ns mainGlobals mg
  blt:∃ mb,base.Ns builtinsNs mb∧∀ x:Str,x≠"__name__"→mb x=bootBuiltins x
  nolimit:base.NoLimit
  sysm:∃ mm,base.Ns sysModules mm
structure Cx where
  prog:Program
  w:World
  K:PySem.W.Frag
  mg:Str→Option Value
  base:Heap
  A:Around
  N:List Str
  s₀:Shared
  H₀:Hp
  env:Env
  outer:List Env
  stack:List Env
  ex:List Addr
  fn:Str→Bool
  calm:Bool
  pn:List (Addr×Obj)
  xe:Value→Shared→Prop
def frs (l:List Env):List Addr:=l.filterMap (·.frame)
abbrev Cx.fs (X:Cx):List Addr:=frs X.outer
def Vis (sc:Scope) (x:Str):Prop:=sc.names.lookup x=some .local∨sc.names.lookup x=some .cell∨sc.names.lookup x=some .free
def Loc (sc:Scope) (x:Str):Prop:=sc.names.lookup x=some .local∨sc.names.lookup x=some .cell
def Look (env:Env) (h:Heap) (m:Str→Option Value) (x:Str) (u:Value):Prop:=
  (env.kindOf x=some .local∧m x=some u)∨((env.kindOf x=some .cell∨env.kindOf x=some .free)∧∃ c,env.cells.lookup x=some c∧h.IsCell c (some u))
structure Cx.Ok (X:Cx):Prop where
  mod:Mod X.K X.mg X.base
  kind:X.env.scope.kind= .function
  glob:X.env.globals=mainGlobals
  blt:X.env.builtins=builtinsNs
  above:X.s₀.heap.objs.size≤X.env.locals
  inj:∀ x y c,X.env.cells.lookup x=some c→X.env.cells.lookup y=some c→x=y
  has:∀ x,(X.env.kindOf x=some .cell∨X.env.kindOf x=some .free)→∃ c,X.env.cells.lookup x=some c
  cab:∀ x c,X.fn x=true→X.env.cells.lookup x=some c→X.s₀.heap.objs.size≤c
  hd:X.calm=true→X.A.handled=none
  frames:X.A.frames=some X.stack
  stk:X.stack=X.outer∨(X.stack=X.env :: X.outer∧X.env.frame=some X.env.locals)
  exf:∀ b∈X.ex,b≠X.env.locals∧∀ x c,X.env.cells.lookup x=some c→c≠b
  bs:∀ b o,X.base.get? b=some o→X.s₀.heap.get? b=some o∧X.H₀ b=none
  bsz:X.base.objs.size≤X.s₀.heap.objs.size
  noex:∀ b o,X.base.get? b=some o→b ∉ X.ex
  exfs:∀ b∈X.ex,b ∉ X.fs
  funs:X.s₀.heap.FunFrames X.base X.outer
  frf:∀ b∈X.fs,X.H₀ b=none
structure Inv (X:Cx) (pins:List (Addr×Obj)) (σ:List (Option V)) (H:Hp) (s:Shared):Prop where
  ok:X.Ok
  os:s.os=X.s₀.os
  bare:AllBare s.gens
  base:Un X.fs X.ex X.H₀ H X.s₀.heap s.heap
  loc:∃ m,s.heap.Ns X.env.locals m∧∀ (i:Nat) (x:Str) (v:V),X.N[i]?=some x→σ[i]?=some (some v)→Vis X.env.scope x→∃ u,RelV v u∧Look X.env s.heap m x u
  cell:∀ x c,X.env.cells.lookup x=some c→∃ v,s.heap.IsCell c v
  free:H X.env.locals=none
  freeC:∀ x c,X.env.cells.lookup x=some c→H c=none
  pin:∀ p∈X.pn ++ pins,s.heap.get? p.1=some p.2∧H p.1=none∧p.1≠X.env.locals∧p.1 ∉ X.fs∧∀ v,p.2.data≠.cell v
  hok:HOk X.prog X.w H s.heap
  len:σ.length=X.N.length
section
variable {X:Cx} {pins:List (Addr×Obj)} {σ:List (Option V)} {H H':Hp} {s:Shared} {h':Heap}
theorem Cx.Ok.nofr (ok:X.Ok) {b:Addr} {o:Obj} (e:X.base.get? b=some o):b ∉ X.fs:=fun hb=>by
  have:=(ok.funs.mem hb).1
  rw [e] at this;cases this
theorem Inv.bs (I:Inv X pins σ H s):∀ b o,X.base.get? b=some o→s.heap.get? b=some o∧H b=none:=fun b o e=>
  ⟨I.base.keep b o (I.ok.bs b o e).1 (I.ok.bs b o e).2 (I.ok.nofr e) (I.ok.noex b o e),I.base.free b o (I.ok.bs b o e).1 (I.ok.bs b o e).2 (I.ok.noex b o e)⟩
theorem Inv.bk (I:Inv X pins σ H s):∀ b o,X.base.get? b=some o→s.heap.get? b=some o:=fun b o e=>(I.bs b o e).1
theorem Inv.mod (I:Inv X pins σ H s):Mod X.K X.mg X.base:=I.ok.mod
theorem Inv.kIn (I:Inv X pins σ H s):X.K.In s.heap:=I.ok.mod.kin.keeps I.bk
theorem Inv.lt (I:Inv X pins σ H s):X.env.locals < s.heap.objs.size:=let ⟨_,hn,_⟩:=I.loc;hn.lt
theorem Inv.sz (I:Inv X pins σ H s):X.s₀.heap.objs.size≤s.heap.objs.size:=Nat.le_trans I.ok.above (Nat.le_of_lt I.lt)
theorem Inv.nofs (I:Inv X pins σ H s) {a:Addr} (h:s.heap.objs.size≤a):a ∉ X.fs:=fun hb=>by
  obtain ⟨_,o,ho,_⟩:=I.ok.funs.mem hb
  exact absurd (Nat.lt_of_lt_of_le (Heap.lt_size ho) (Nat.le_trans I.sz h)) (Nat.lt_irrefl _)
theorem Inv.cne (I:Inv X pins σ H s):∀ x c,X.env.cells.lookup x=some c→c≠X.env.locals:=fun x c e z=>by
  obtain ⟨v,o,ho,hd⟩:=I.cell x c e
  obtain ⟨m,⟨o',es,ep,ho',hd',_⟩,_⟩:=I.loc
  rw [z,ho'] at ho;cases ho;rw [hd'] at hd;cases hd
theorem Inv.funs (I:Inv X pins σ H s):s.heap.FunFrames X.base X.outer:=by
  have all:∀ (l:List Env),(∀ b∈frs l,b∈X.fs)→X.s₀.heap.FunFrames X.base l→s.heap.FunFrames X.base l:=by
    intro l
    induction l with
    | nil=>intro _ _;trivial
    | cons env r ih=>
      intro hs hl
      obtain ⟨hk,⟨L,o,hf,hn,ho,hd⟩,hr⟩:=hl
      have hL:L∈X.fs:=hs L (by unfold frs;rw [List.filterMap_cons,hf];exact List.mem_cons_self)
      obtain ⟨sl,e⟩:=I.base.slot L o ho (I.ok.frf L hL) hL fun z=>I.ok.exfs L z hL
      exact ⟨hk,⟨L,_,hf,hn,e,hd⟩,ih (fun b hb=>hs b (by unfold frs;rw [List.filterMap_cons,hf];exact List.mem_cons_of_mem _ hb)) hr⟩
  exact all X.outer (fun _ hb=>hb) I.ok.funs
theorem Inv.stack (I:Inv X pins σ H s):s.heap.FunFrames X.base X.stack:=by
  rcases I.ok.stk with e | ⟨e,hf⟩
  · rw [e];exact I.funs
  · rw [e]
    obtain ⟨m,hn,_⟩:=I.loc
    refine .cons (by rw [I.ok.kind];decide) hf hn ?_ I.funs
    exact Heap.get?_none_of_le (Nat.le_trans I.ok.bsz I.ok.above)
theorem Inv.stkSub (I:Inv X pins σ H s):∀ b∈frs X.stack,b∈X.env.locals :: X.fs:=fun b hb=>by
  rcases I.ok.stk with e | ⟨e,hf⟩
  · rw [e] at hb;exact List.mem_cons_of_mem _ hb
  · rw [e] at hb
    unfold frs at hb
    rw [List.filterMap_cons,hf] at hb
    exact hb
theorem Inv.stkFree (I:Inv X pins σ H s):∀ b∈frs X.stack,H b=none:=fun b hb=>by
  rcases List.mem_cons.mp (I.stkSub b hb) with e | hb
  · rw [e];exact I.free
  · obtain ⟨_,o,ho,_⟩:=I.ok.funs.mem hb
    exact I.base.free b o ho (I.ok.frf b hb) fun z=>I.ok.exfs b z hb
theorem Inv.step {g':Array GenState} {t':Nat} {d':Drawn} {ch:List Addr} (I:Inv X pins σ H s)
    (hch:∀ b∈ch,(b∈X.ex∨X.s₀.heap.objs.size≤b)∧b≠X.env.locals∧(∀ x c,X.env.cells.lookup x=some c→c≠b)∧∀ p∈X.pn ++ pins,p.1≠b)
    (keep:∀ b o,b≠X.env.locals→b ∉ X.fs→b ∉ ch→s.heap.get? b=some o→H b=none→h'.get? b=some o)
    (slot:∀ b o,b≠X.env.locals→b∈X.fs→b ∉ ch→s.heap.get? b=some o→H b=none→∃ sl,h'.get? b=some {o with slots:=sl}) (free:∀ b o,b ∉ ch→s.heap.get? b=some o→H b=none→H' b=none)
    (there:∀ b o,b ∉ ch→s.heap.get? b=some o→∃ o',h'.get? b=some o')
    (tups:∀ b xs,H b=some (.tup xs)→H' b=some (.tup xs)) (frzs:∀ b o u,H b=some (.frz o u)→H' b=some (.frz o u)) (tbls:∀ b ps,H b=some (.tbl ps)→∃ more,H' b=some (.tbl (ps ++ more)))
    (ns:∀ m,s.heap.Ns X.env.locals m→h'.Ns X.env.locals m) (hok:HOk X.prog X.w H' h') (hg:AllBare g'):
    Inv X pins σ H' {s with heap:=h',gens:=g',drawn:=d',toks:=t'}:=by
  have neL:∀ b o,X.s₀.heap.get? b=some o→b≠X.env.locals:=fun b o e=>Nat.ne_of_lt (Nat.lt_of_lt_of_le (Heap.lt_size e) I.ok.above)
  have neC:∀ b o,X.s₀.heap.get? b=some o→b ∉ X.ex→b ∉ ch:=fun b o e hx hb=>by
    rcases (hch b hb).1 with z | z
    · exact hx z
    · exact absurd (Nat.lt_of_lt_of_le (Heap.lt_size e) z) (Nat.lt_irrefl _)
  have cellK:∀ x c,X.env.cells.lookup x=some c→∀ v,s.heap.IsCell c v→h'.IsCell c v:=fun x c e v ⟨o,ho,hd⟩=>by
    have nch:c ∉ ch:=fun z=>(hch c z).2.2.1 x c e rfl
    by_cases hc:c∈X.fs
    · obtain ⟨sl,q⟩:=slot c o (I.cne x c e) hc nch ho (I.freeC x c e)
      exact ⟨_,q,hd⟩
    · exact ⟨o,keep c o (I.cne x c e) hc nch ho (I.freeC x c e),hd⟩
  refine ⟨I.ok,I.os,hg,⟨fun b o e n hb hx=>?_,fun b o e n hb hx=>?_,fun b o e n hx=>?_,fun b o e hx=>?_,fun b xs e=>tups b xs (I.base.tups b xs e),fun b o xs e=>frzs b o xs (I.base.frzs b o xs e),fun b ps e=>?_⟩,?_,fun x c e=>?_,?_,fun x c e=>?_,fun p hp=>?_,hok,I.len⟩
  · exact keep b o (neL b o e) hb (neC b o e hx) (I.base.keep b o e n hb hx) (I.base.free b o e n hx)
  · obtain ⟨sl,e1⟩:=I.base.slot b o e n hb hx
    obtain ⟨sl',e2⟩:=slot b _ (neL b o e) hb (neC b o e hx) e1 (I.base.free b o e n hx)
    exact ⟨sl',e2⟩
  · obtain ⟨o',e1⟩:=I.base.there b o e hx
    exact free b o' (neC b o e hx) e1 (I.base.free b o e n hx)
  · obtain ⟨o',e1⟩:=I.base.there b o e hx
    exact there b o' (neC b o e hx) e1
  · obtain ⟨m1,e1⟩:=I.base.tbls b ps e
    obtain ⟨m2,e2⟩:=tbls b _ e1
    exact ⟨m1 ++ m2,by rw [e2,Array.append_assoc]⟩
  · obtain ⟨m,hn,hl⟩:=I.loc
    refine ⟨m,ns m hn,fun i x v e1 e2 e3=>?_⟩
    obtain ⟨u,r,l⟩:=hl i x v e1 e2 e3
    refine ⟨u,r,?_⟩
    rcases l with l | ⟨k,c,e,z⟩
    · exact .inl l
    · exact .inr ⟨k,c,e,cellK x c e _ z⟩
  · obtain ⟨v,z⟩:=I.cell x c e
    exact ⟨v,cellK x c e v z⟩
  · obtain ⟨m,⟨o,_,_,ho,_⟩,_⟩:=I.loc
    exact free _ o (fun z=>(hch _ z).2.1 rfl) ho I.free
  · obtain ⟨v,o,ho,hd⟩:=I.cell x c e
    exact free c o (fun z=>(hch c z).2.2.1 x c e rfl) ho (I.freeC x c e)
  · obtain ⟨e,n,ne,nf,d⟩:=I.pin p hp
    have nch:p.1 ∉ ch:=fun z=>(hch p.1 z).2.2.2 p hp rfl
    exact ⟨keep p.1 p.2 ne nf nch e n,free p.1 p.2 nch e n,ne,nf,d⟩
theorem Inv.un {t':Nat} (I:Inv X pins σ H s) (u:Un X.fs [] H H' s.heap h') (hok:HOk X.prog X.w H' h'):Inv X pins σ H' {s with heap:=h',toks:=t'}:=by
  obtain ⟨m,⟨o,es,ep,ho,r⟩,_⟩:=id I.loc
  obtain ⟨sl,hL⟩:=u.any ho I.free (by simp)
  exact I.step (g':=s.gens) (d':=s.drawn) (ch:=[]) (fun _ z=>nomatch z) (fun b o _ hb _ e n=>u.keep b o e n hb (by simp)) (fun b o _ hb _ e n=>u.slot b o e n hb (by simp)) (fun b o _ e n=>u.free b o e n (by simp)) (fun b o _ e=>u.there b o e (by simp)) u.tups u.frzs u.tbls (fun m' hm=>by
    obtain ⟨o',es',ep',ho',r'⟩:=hm
    rw [ho] at ho';cases ho'
    exact ⟨_,es',ep',hL,r'⟩) hok I.bare
theorem Inv.call {g':Array GenState} {t':Nat} {d':Drawn} {ch:List Addr} (I:Inv X pins σ H s) (u:Un (frs X.stack) ch H H' s.heap h') (hok:HOk X.prog X.w H' h') (hg:AllBare g')
    (hch:∀ b∈ch,(b∈X.ex∨X.s₀.heap.objs.size≤b)∧b≠X.env.locals∧(∀ x c,X.env.cells.lookup x=some c→c≠b)∧∀ p∈X.pn ++ pins,p.1≠b):
    Inv X pins σ H' {s with heap:=h',gens:=g',drawn:=d',toks:=t'}:=by
  obtain ⟨m,⟨o,es,ep,ho,r⟩,_⟩:=id I.loc
  obtain ⟨sl,hL⟩:=u.any ho I.free fun z=>(hch _ z).2.1 rfl
  exact I.step (ch:=ch) hch (fun b o hL hb hc e n=>u.keep b o e n (fun z=>(List.mem_cons.mp (I.stkSub b z)).elim hL hb) hc) (fun b o _ _ hc e n=>u.any e n hc) (fun b o hc e n=>u.free b o e n hc) (fun b o hc e=>u.there b o e hc) u.tups u.frzs u.tbls (fun m' hm=>by
    obtain ⟨o',es',ep',ho',r'⟩:=hm
    rw [ho] at ho';cases ho'
    exact ⟨_,es',ep',hL,r'⟩) hok hg
theorem Inv.turned {t':Nat} {it:Addr} (I:Inv X pins σ H s) (k:∀ b o,b≠it→s.heap.get? b=some o→h'.get? b=some o) (hn:H it=none) (hL:it≠X.env.locals)
    (h1:it∈X.ex∨X.s₀.heap.objs.size≤it) (h2:∀ x c,X.env.cells.lookup x=some c→c≠it) (h3:∀ p∈X.pn ++ pins,p.1≠it):Inv X pins σ H {s with heap:=h',toks:=t'}:=by
  have nit:∀ b u,H b=some u→b≠it:=fun b u e z=>by rw [z,hn] at e;cases e
  refine I.step (g':=s.gens) (d':=s.drawn) (ch:=[it]) (fun b hb=>?_) (fun b o _ _ hc e _=>k b o (fun z=>hc (by simp [z])) e) (fun b o _ _ hc e _=>⟨o.slots,k b o (fun z=>hc (by simp [z])) e⟩) (fun _ _ _ _ n=>n)
    (fun b o hc e=>⟨o,k b o (fun z=>hc (by simp [z])) e⟩) (fun _ _ e=>e) (fun _ _ _ e=>e) (fun b ps e=>⟨#[],by rw [e];simp⟩) (fun m hm=>?_) (fun b u e=>?_) I.bare
  · have e:b=it:=by simpa using hb
    subst e
    exact ⟨h1,hL,h2,h3⟩
  · obtain ⟨o,es,ep,ho,r⟩:=hm
    exact ⟨o,es,ep,k _ o (Ne.symm hL) ho,r⟩
  · refine (I.hok b u e).stay (fun c v hc q=>k c v ?_ q) (fun _ q=>q) fun _ _ q=>q
    rcases hc with z | z
    · rw [z];exact nit b u e
    · exact nit c _ z
theorem Inv.tok (I:Inv X pins σ H s) (t:Nat):Inv X pins σ H {s with toks:=t}:=I.un (h':=s.heap) (t':=t) Un.refl I.hok
theorem Inv.kept {t':Nat} (I:Inv X pins σ H s) (k:∀ b u,s.heap.get? b=some u→h'.get? b=some u):Inv X pins σ H {s with heap:=h',toks:=t'}:=I.un (Un.kept k) (I.hok.kept k)
theorem Inv.laid {a:Addr} {o:HO} {t':Nat} (I:Inv X pins σ H s) (k:∀ b u,s.heap.get? b=some u→h'.get? b=some u) (hp:s.heap.objs.size≤a) (new:ObjOk X.prog X.w (upd H a o) h' a o):
    Inv X pins σ (upd H a o) {s with heap:=h',toks:=t'}:=I.un (Un.laid k hp (I.hok.fresh hp)) (I.hok.laid k hp new)
theorem Inv.write {x e:Addr} {o:HO} {t':Nat} (I:Inv X pins σ H s) (mu:Ss (H x)) (he:e=x∨H e=some (.own x)) (k:∀ b u,b≠e→s.heap.get? b=some u→h'.get? b=some u) (heo:∃ u,h'.get? e=some u)
    (new:ObjOk X.prog X.w (upd H x o) h' x o):Inv X pins σ (upd H x o) {s with heap:=h',toks:=t'}:=I.un (Un.write mu he k heo) (I.hok.write mu he k heo new)
theorem Inv.weak {σ':List (Option V)} (I:Inv X pins σ H s) (hl:σ'.length=σ.length) (w:∀ (i:Nat) v,σ'[i]?=some (some v)→σ[i]?=some (some v)):Inv X pins σ' H s:=
  ⟨I.ok,I.os,I.bare,I.base,let ⟨m,hn,hl'⟩:=I.loc;⟨m,hn,fun i x v e1 e2 e3=>hl' i x v e1 (w i v e2) e3⟩,I.cell,I.free,I.freeC,I.pin,I.hok,hl.trans I.len⟩
theorem Inv.pins_of {pins':List (Addr×Obj)} (I:Inv X pins σ H s) (h:∀ p∈pins',s.heap.get? p.1=some p.2∧H p.1=none∧p.1≠X.env.locals∧p.1 ∉ X.fs∧∀ v,p.2.data≠.cell v):Inv X pins' σ H s:=
  ⟨I.ok,I.os,I.bare,I.base,I.loc,I.cell,I.free,I.freeC,fun p hp=>(List.mem_append.mp hp).elim (fun z=>I.pin p (List.mem_append_left _ z)) (h p),I.hok,I.len⟩
theorem wX {N:List Str} (hN:N.Nodup) {i j:Nat} {x:Str} (a:N[i]?=some x) (b:N[j]?=some x):i=j:=by
  obtain ⟨h1,e1⟩:=List.getElem?_eq_some_iff.mp a
  obtain ⟨h2,e2⟩:=List.getElem?_eq_some_iff.mp b
  exact (List.getElem_inj hN).mp (e1.trans e2.symm)
theorem uK {M:Model} {A:Around} {E:Value→Shared→Prop} {i:Nat} {x:Str} {v:V} {u:Value} {Q:Unit→Shared→Prop} (I:Inv X pins σ H s) (hN:X.N.Nodup) (hi:X.N[i]?=some x) (hx:Loc X.env.scope x) (r:RelV v u)
    (h:∀ s',Inv X pins (σ.set i (some v)) H s'→(∃ a,Heap.SameBut a s.heap s'.heap∧(a=X.env.locals∨X.env.cells.lookup x=some a))→Q () s') (hf:autoParam (X.fn x=true∨X.env.scope.names.lookup x=some .local) L2.auto1._auto_1):wpAny M A (storeName X.env x u) Q E s:=by
  obtain ⟨m,hn,hl⟩:=id I.loc
  have hcls:(X.env.scope.kind == .class || (X.env.scope.kind == .module && X.env.locals != X.env.globals))=false:=by rw [I.ok.kind];rfl
  have hiσ:i < σ.length:=by rw [I.len];exact (List.getElem?_eq_some_iff.mp hi).1
  have cne:=I.cne
  have tracked:∀ {a:Addr} {h':Heap},(∃ o,s.heap.get? a=some o∧H a=none)→Heap.SameBut a s.heap h'→HOk X.prog X.w H h':=fun {a h'} ha hs b ob e=>by
    obtain ⟨_,_,hfree⟩:=ha
    refine (I.hok b ob e).stay (fun c w' hc q=>(hs.2 c ?_).trans q) (fun _ q=>q) fun _ _ q=>q
    rintro rfl
    rcases hc with rfl | hc
    · rw [hfree] at e;cases e
    · rw [hfree] at hc;cases hc
  rcases hx with hk | hk
  · refine wpAny_storeName_local hk hn (fun h' hn' hs=>?_) hcls
    obtain ⟨oL,_,_,hoL,_⟩:=id hn
    refine h _ ⟨I.ok,I.os,I.bare,⟨fun b o e n hb hx=>?_,fun b o e n hb hx=>?_,I.base.free,fun b o e hx=>?_,I.base.tups,I.base.frzs,I.base.tbls⟩,⟨_,hn',fun j y v' e1 e2 e3=>?_⟩,fun y c e=>?_,I.free,I.freeC,fun p hp=>?_,tracked ⟨oL,hoL,I.free⟩ hs,by simpa using I.len⟩ ⟨_,hs,.inl rfl⟩
    · exact (hs.2 b (Nat.ne_of_lt (Nat.lt_of_lt_of_le (Heap.lt_size e) I.ok.above))).trans (I.base.keep b o e n hb hx)
    · obtain ⟨sl,e1⟩:=I.base.slot b o e n hb hx
      exact ⟨sl,(hs.2 b (Nat.ne_of_lt (Nat.lt_of_lt_of_le (Heap.lt_size e) I.ok.above))).trans e1⟩
    · obtain ⟨o',e1⟩:=I.base.there b o e hx
      exact ⟨o',(hs.2 b (Nat.ne_of_lt (Nat.lt_of_lt_of_le (Heap.lt_size e) I.ok.above))).trans e1⟩
    · by_cases hj:j=i
      · subst hj
        rw [hi] at e1;cases e1
        rw [List.getElem?_set_self hiσ] at e2
        cases e2
        exact ⟨u,r,.inl ⟨hk,by simp⟩⟩
      · rw [List.getElem?_set_ne (Ne.symm hj)] at e2
        obtain ⟨u',r',q⟩:=hl j y v' e1 e2 e3
        refine ⟨u',r',?_⟩
        rcases q with ⟨k,e⟩ | ⟨k,c,e,z⟩
        · refine .inl ⟨k,?_⟩
          have:y≠x:=fun e=>hj (wX hN e1 (e ▸ hi))
          simp [this,e]
        · exact .inr ⟨k,c,e,z.sameBut hs (cne y c e)⟩
    · obtain ⟨w',z⟩:=I.cell y c e
      exact ⟨w',z.sameBut hs (cne y c e)⟩
    · obtain ⟨e,n,ne,nf,d⟩:=I.pin p hp
      exact ⟨(hs.2 p.1 ne).trans e,n,ne,nf,d⟩
  · have hfn:X.fn x=true:=by
      rcases hf with z | z
      · exact z
      · rw [z] at hk;cases hk
    obtain ⟨c,hc⟩:=I.ok.has x (.inl hk)
    obtain ⟨w',z⟩:=I.cell x c hc
    refine wpAny_storeName_cell I.ok.kind hk hc z (fun h' hc' hs=>?_)
    obtain ⟨oc,hoc,hocd⟩:=id z
    refine h {s with heap:=h'} ⟨I.ok,I.os,I.bare,⟨fun b o e n hb hx=>?_,fun b o e n hb hx=>?_,I.base.free,fun b o e hx=>?_,I.base.tups,I.base.frzs,I.base.tbls⟩,⟨m,hn.sameBut hs (Ne.symm (cne x c hc)),fun j y v' e1 e2 e3=>?_⟩,fun y c' e=>?_,I.free,I.freeC,fun p hp=>?_,tracked ⟨oc,hoc,I.freeC x c hc⟩ hs,by simpa using I.len⟩ ⟨c,hs,.inr hc⟩
    · exact (hs.2 b (Nat.ne_of_lt (Nat.lt_of_lt_of_le (Heap.lt_size e) (I.ok.cab x c hfn hc)))).trans (I.base.keep b o e n hb hx)
    · obtain ⟨sl,e1⟩:=I.base.slot b o e n hb hx
      exact ⟨sl,(hs.2 b (Nat.ne_of_lt (Nat.lt_of_lt_of_le (Heap.lt_size e) (I.ok.cab x c hfn hc)))).trans e1⟩
    · obtain ⟨o',e1⟩:=I.base.there b o e hx
      exact ⟨o',(hs.2 b (Nat.ne_of_lt (Nat.lt_of_lt_of_le (Heap.lt_size e) (I.ok.cab x c hfn hc)))).trans e1⟩
    · by_cases hj:j=i
      · subst hj
        rw [hi] at e1;cases e1
        rw [List.getElem?_set_self hiσ] at e2
        cases e2
        exact ⟨u,r,.inr ⟨.inl hk,c,hc,hc'⟩⟩
      · rw [List.getElem?_set_ne (Ne.symm hj)] at e2
        obtain ⟨u',r',q⟩:=hl j y v' e1 e2 e3
        refine ⟨u',r',?_⟩
        rcases q with q | ⟨k,c',e,z'⟩
        · exact .inl q
        · refine .inr ⟨k,c',e,z'.sameBut hs ?_⟩
          rintro rfl
          exact hj (wX hN e1 (I.ok.inj _ _ _ e hc ▸ hi))
    · by_cases hcc:c'=c
      · subst hcc;exact ⟨_,hc'⟩
      · obtain ⟨w2,z2⟩:=I.cell y c' e
        exact ⟨w2,z2.sameBut hs hcc⟩
    · obtain ⟨e,n,ne,nf,d⟩:=I.pin p hp
      refine ⟨(hs.2 p.1 ?_).trans e,n,ne,nf,d⟩
      intro q
      rw [q,hoc] at e
      have q':oc=p.2:=Option.some.inj e
      exact d w' (by rw [← q'];exact hocd)
theorem wY {M:Model} {A:Around} {E:Value→Shared→Prop} {i:Nat} {x:Str} {v:V} {u:Value} {Q:Unit→Shared→Prop} (I:Inv X pins σ H s) (hN:X.N.Nodup) (hi:X.N[i]?=some x) (hx:Loc X.env.scope x) (r:RelV v u)
    (h:∀ s',Inv X pins (σ.set i (some v)) H s'→Q () s') (hf:autoParam (X.fn x=true∨X.env.scope.names.lookup x=some .local) L2.auto1._auto_1):wpAny M A (storeName X.env x u) Q E s:=
  uK I hN hi hx r (fun s' I' _=>h s' I') hf
theorem Inv.call' {s':Shared} {ch:List Addr} (I:Inv X pins σ H s) (ho:s'.os=s.os) (u:Un (frs X.stack) ch H H' s.heap s'.heap) (hok:HOk X.prog X.w H' s'.heap) (hg:AllBare s'.gens)
    (hch:∀ b∈ch,(b∈X.ex∨X.s₀.heap.objs.size≤b)∧b≠X.env.locals∧(∀ x c,X.env.cells.lookup x=some c→c≠b)∧∀ p∈X.pn ++ pins,p.1≠b):Inv X pins σ H' s':=by
  obtain ⟨h',g',d',t',o'⟩:=s'
  have e:o'=s.os:=ho
  subst e
  exact I.call (g':=g') (t':=t') (d':=d') u hok hg hch
end
abbrev XK:=Value→Option Addr→Hp→Prop
abbrev St:=List (Option V)
abbrev VK:=V→Hp→Prop
abbrev TE:=St→Hp→VK→Prop
abbrev TT:=St→Hp→(Bool→Hp→Prop)→Prop
abbrev TA:=St→Hp→(List V→Hp→Prop)→Prop
structure Ends where
  nx:St→Hp→Prop
  rt:VK
  bk:St→Hp→Prop:=fun _ _=>False
  ct:St→Hp→Prop:=fun _ _=>False
abbrev TS:=Ends→St→Hp→Prop
def EP (X:Cx) (pins:List (Addr×Obj)) (σ:St) (Q:VK) (u:Value) (s':Shared):Prop:=∃ v H',Inv X pins σ H' s'∧RelV v u∧Q v H'
def TP (X:Cx) (pins:List (Addr×Obj)) (σ:St) (Q:Bool→Hp→Prop) (b:Bool) (s':Shared):Prop:=∃ H',Inv X pins σ H' s'∧Q b H'
def AP (X:Cx) (pins:List (Addr×Obj)) (σ:St) (Q:List V→Hp→Prop) (us:List Value) (s':Shared):Prop:=∃ vs H',Inv X pins σ H' s'∧Vals vs us∧Q vs H'
def SP (X:Cx) (pins:List (Addr×Obj)) (D:Ends) (f:Flow) (s':Shared):Prop:=
  match f with
  | .next=>∃ σ' H',Inv X pins σ' H' s'∧D.nx σ' H'
  | .brk=>∃ σ' H',Inv X pins σ' H' s'∧D.bk σ' H'
  | .cont=>∃ σ' H',Inv X pins σ' H' s'∧D.ct σ' H'
  | .ret u=>∃ v σ' H',Inv X pins σ' H' s'∧RelV v u∧D.rt v H'
def PE (X:Cx) (e:Expr) (t:TE):Prop:=
  ∀ (pins:List (Addr×Obj)) (s:Shared) (σ:St) (H:Hp) (Q:VK),Inv X pins σ H s→t σ H Q→wpAny (model X.prog X.w) X.A (eval e X.env) (EP X pins σ Q) X.xe s
def PT (X:Cx) (e:Expr) (t:TT):Prop:=
  ∀ (pins:List (Addr×Obj)) (s:Shared) (σ:St) (H:Hp) (Q:Bool→Hp→Prop),Inv X pins σ H s→t σ H Q→wpAny (model X.prog X.w) X.A (isTrue e X.env (eval e X.env)) (TP X pins σ Q) X.xe s
def PW (X:Cx) (e:Expr) (t:TT):Prop:=
  ∀ (whole:Sem Value) (pins:List (Addr×Obj)) (s:Shared) (σ:St) (H:Hp) (Q:Bool→Hp→Prop),Inv X pins σ H s→t σ H Q→wpAny (model X.prog X.w) X.A (isTrue e X.env whole) (TP X pins σ Q) X.xe s
theorem PW.pt {X:Cx} {e:Expr} {t:TT} (h:PW X e t):PT X e t:=h _
def PA (X:Cx) (es:List Expr) (t:TA):Prop:=
  ∀ (pos:Pos) (pins:List (Addr×Obj)) (s:Shared) (σ:St) (H:Hp) (Q:List V→Hp→Prop),Inv X pins σ H s→t σ H Q→wpAny (model X.prog X.w) X.A (spliced (backTo pos (starEach es X.env))) (AP X pins σ Q) X.xe s
def PS (X:Cx) (st:Stmt) (t:TS):Prop:=
  ∀ (pins:List (Addr×Obj)) (s:Shared) (σ:St) (H:Hp) (D:Ends),Inv X pins σ H s→t D σ H→wpAny (model X.prog X.w) X.A (exec st X.env) (SP X pins D) X.xe s
def PSs (X:Cx) (st:List Stmt) (t:TS):Prop:=
  ∀ (pins:List (Addr×Obj)) (s:Shared) (σ:St) (H:Hp) (D:Ends),Inv X pins σ H s→t D σ H→wpAny (model X.prog X.w) X.A (execs st X.env) (SP X pins D) X.xe s
theorem dF {α:Type} {t:Sem α} {Q Q':α→Shared→Prop} {M:Model} {A:Around} {E:Value→Shared→Prop} {s:Shared} (h:wpAny M A t Q E s) (hQ:∀ a s,Q a s→Q' a s):wpAny M A t Q' E s:=wpAny_mono h hQ fun _ _ x=>x
end L2
namespace L2
open PySem PySem.Spec PyProof.Rows
section
variable {X:Cx}
def nu (i:Nat):TE:=fun σ H Q=>∃ v,σ[i]?=some (some v)∧Q v H
def tC (v:V):TE:=fun _ H Q=>Q v H
theorem vy {i:Nat} {x:Str} {pos:Pos} (hN:X.N[i]?=some x) (hv:Vis X.env.scope x) (hd:autoParam ((x == ("__debug__":Str))=false) L2.auto2._auto_1) (hcd:autoParam ((x == ("__classdict__":Str))=false) L2.auto2._auto_1):PE X (.Name x pos) (nu i):=by
  intro pins s σ H Q I h
  obtain ⟨v,e,h⟩:=h
  obtain ⟨m,hn,hl⟩:=I.loc
  obtain ⟨u,r,l⟩:=hl i x v hN e hv
  have fin:EP X pins σ Q u s:=⟨v,H,I,r,h⟩
  rcases l with ⟨hk,hm⟩ | ⟨hk,c,hc,hcell⟩
  · exact wpAny_Name (wpAny_loadName_local I.ok.kind hk hn hm fin) hd
  · rcases hk with hk | hk
    · exact wpAny_Name (wpAny_loadName_cell I.ok.kind hk hc hcell fin) hd
    · exact wpAny_Name (wpAny_loadName_free I.ok.kind hk hc hcell fin hcd) hd
theorem NQ {i j pos}:PE X (.Constant (.int i) j pos) (tC (.int i)):=fun _ _ _ H _ I h=>wpAny_Constant_int ⟨.int i,H,I.tok _,⟨_,rfl⟩,h⟩
theorem Su {b j pos}:PE X (.Constant (.bool b) j pos) (tC (.bl b)):=fun _ _ _ H _ I h=>Constant_bool ⟨.bl b,H,I,rfl,h⟩
theorem NT {x j pos}:PE X (.Constant (.str x) j pos) (tC (.str x)):=fun _ _ _ H _ I h=>Calls.Constant_str ⟨.str x,H,I.tok _,⟨_,rfl⟩,h⟩
def Gl (X:Cx) (x:Str):Prop:=X.env.kindOf x=some .globalImplicit
theorem oR {E:Value→Shared→Prop} {pins:List (Addr×Obj)} {s:Shared} {σ:St} {H:Hp} {x:Str} {u:Value} {pos:Pos} {Q:Value→Shared→Prop} (I:Inv X pins σ H s) (hg:Gl X x) (hm:X.mg x=some u) (h:Q u s)
    (hd:autoParam ((x == ("__debug__":Str))=false) L2.auto2._auto_1):wpAny (model X.prog X.w) X.A (eval (.Name x pos) X.env) Q E s:=
  Calls.Name_function_global I.ok.kind hg (Calls.loadGlobal_global (by rw [I.ok.glob];exact I.mod.glob.keeps I.bk) hm h) hd
theorem iH {E:Value→Shared→Prop} {pins:List (Addr×Obj)} {s:Shared} {σ:St} {H:Hp} {x:Str} {u:Value} {pos:Pos} {Q:Value→Shared→Prop} (I:Inv X pins σ H s) (hg:Gl X x) (hm:X.mg x=none) (hv:bootBuiltins x=some u) (h:Q u s)
    (hn:autoParam (x≠"__name__") L2.auto2._auto_1) (hd:autoParam ((x == ("__debug__":Str))=false) L2.auto2._auto_1):wpAny (model X.prog X.w) X.A (eval (.Name x pos) X.env) Q E s:=by
  obtain ⟨mb,h1,h2⟩:=I.mod.blt
  exact Calls.Name_function_global I.ok.kind hg (Calls.loadGlobal_builtin (by rw [I.ok.glob];exact I.mod.glob.keeps I.bk) hm (by rw [I.ok.blt];exact h1.keeps I.bk) ((h2 x hn).trans hv) h) hd
theorem Ai {x:Str} {v:V} {u:Value} {pos:Pos} (hg:Gl X x) (hm:X.mg x=some u) (r:RelV v u) (hd:autoParam ((x == ("__debug__":Str))=false) L2.auto2._auto_1):PE X (.Name x pos) (tC v):=
  fun _ _ _ H _ I h=>oR I hg hm ⟨v,H,I,r,h⟩ hd
theorem Jf {x:Str} {v:V} {u:Value} {pos:Pos} (hg:Gl X x) (hm:X.mg x=none) (hv:bootBuiltins x=some u) (r:RelV v u) (hn:autoParam (x≠"__name__") L2.auto2._auto_1) (hd:autoParam ((x == ("__debug__":Str))=false) L2.auto2._auto_1):PE X (.Name x pos) (tC v):=
  fun _ _ _ H _ I h=>iH I hg hm hv ⟨v,H,I,r,h⟩ hn hd
variable {a b:Expr} {ta tb:TE} {pos:Pos}
def tB (t:TE):TT:=fun σ H Q=>t σ H fun x H1=>∃ c,x= .bl c∧Q c H1
theorem NZ {e:Expr} {t:TE} (h:PE X e t) (he:autoParam (∀ whole,isTrue e X.env whole=(do let v ← whole;standAt e.pos;holding [v] (truthy v))) L2.auto3._auto_1):PT X e (tB t):=by
  intro pins s σ H Q I hw
  refine isTrue_plain (dF (h pins s σ H _ I hw) fun v s1 qq0=>?_) (he _)
  obtain ⟨x,H1,I1,r1,q1⟩:=qq0
  obtain ⟨d,rfl,q⟩:=q1
  cases r1
  exact wpAny_truthy_bool ⟨H1,I1,q⟩
variable {tA tB':TT} {rest:List Expr}
def N5 (t u:TT):TT:=fun σ H Q=>t σ H fun c H1=>if c=true then u σ H1 Q else Q false H1
def tOr (t u:TT):TT:=fun σ H Q=>t σ H fun c H1=>if c=true then Q true H1 else u σ H1 Q
def N6 (t:TT):TT:=fun σ H Q=>t σ H fun c H1=>Q (!c) H1
theorem Jg (ha:PT X a tA):PW X (.BoolOp .And [a] pos) tA:=by
  intro wh pins s σ H Q I h
  refine isTrue_and (dF (ha pins s σ H Q I h) fun c s1 e=>?_)
  cases c with
  | true=>exact isTrue_and_nil e
  | false=>exact e
theorem N7 (ha:PT X a tA):PW X (.BoolOp .Or [a] pos) tA:=by
  intro wh pins s σ H Q I h
  refine isTrue_or (dF (ha pins s σ H Q I h) fun c s1 e=>?_)
  cases c with
  | false=>exact isTrue_or_nil e
  | true=>exact e
theorem N8 (ha:PT X a tA) (hb:PW X (.BoolOp .And (b :: rest) pos) tB'):PW X (.BoolOp .And (a :: b :: rest) pos) (N5 tA tB'):=by
  intro wh pins s σ H Q I h
  refine isTrue_and (dF (ha pins s σ H _ I h) fun c s1 qq0=>?_)
  obtain ⟨H1,I1,q1⟩:=qq0
  cases c with
  | true=>exact hb wh pins s1 σ H1 Q I1 q1
  | false=>exact ⟨H1,I1,q1⟩
theorem Sv (ha:PT X a tA) (hb:PW X (.BoolOp .Or (b :: rest) pos) tB'):PW X (.BoolOp .Or (a :: b :: rest) pos) (tOr tA tB'):=by
  intro wh pins s σ H Q I h
  refine isTrue_or (dF (ha pins s σ H _ I h) fun c s1 qq0=>?_)
  obtain ⟨H1,I1,q1⟩:=qq0
  cases c with
  | true=>exact ⟨H1,I1,q1⟩
  | false=>exact hb wh pins s1 σ H1 Q I1 q1
theorem Oa (ha:PT X a tA):PT X (.UnaryOp .Not a pos) (N6 tA):=by
  intro pins s σ H Q I h
  exact isTrue_not (ha pins s σ H (fun c H1=>Q (!c) H1) I h)
def Ek (ta tb:TE):TE:=fun σ H Q=>ta σ H fun x H1=>∃ c,x= .bl c∧if c=true then tb σ H1 Q else Q (.bl false) H1
def El (ta:TE):TE:=fun σ H Q=>ta σ H fun x H1=>∃ c,x= .bl c∧Q (.bl (!c)) H1
theorem Ob {op} {t:TE} (h:PE X a t):PE X (.BoolOp op [a] pos) t:=fun pins s σ H Q I hw=>BoolOp_one (h pins s σ H Q I hw)
theorem Oc (ha:PE X a ta) (hb:PE X (.BoolOp .And (b :: rest) pos) tb):PE X (.BoolOp .And (a :: b :: rest) pos) (Ek ta tb):=by
  intro pins s σ H Q I h
  refine BoolOp_and (dF (ha pins s σ H _ I h) fun v s1 qq0=>?_)
  obtain ⟨x,H1,I1,r1,q1⟩:=qq0
  obtain ⟨c,rfl,q1⟩:=q1
  cases r1
  refine wpAny_truthy_bool ?_
  cases c with
  | true=>exact hb pins s1 σ H1 Q I1 q1
  | false=>exact ⟨.bl false,H1,I1,rfl,q1⟩
theorem Od (ha:PE X a ta):PE X (.UnaryOp .Not a pos) (El ta):=by
  intro pins s σ H Q I h
  refine UnaryOp_ (dF (ha pins s σ H _ I h) fun v s1 qq0=>?_)
  obtain ⟨x,H1,I1,r1,q1⟩:=qq0
  obtain ⟨c,rfl,q1⟩:=q1
  cases r1
  exact not_of (wpAny_truthy_bool ⟨.bl (!c),H1,I1,rfl,q1⟩)
def tIf (t:TT) (ta tb:TE):TE:=fun σ H Q=>t σ H fun c H1=>if c=true then ta σ H1 Q else tb σ H1 Q
theorem Em {c:Expr} (hc:PT X c tA) (ha:PE X a ta) (hb:PE X b tb):PE X (.IfExp c a b pos) (tIf tA ta tb):=by
  intro pins s σ H Q I h
  refine wpAny_IfExp (dF (hc pins s σ H _ I h) fun d s1 qq0=>?_)
  obtain ⟨H1,I1,q1⟩:=qq0
  cases d with
  | true=>exact ha pins s1 σ H1 Q I1 q1
  | false=>exact hb pins s1 σ H1 Q I1 q1
end
end L2
namespace L2
open PySem PySem.Spec PyProof.Rows
def SqL (K:PySem.W.Frag) (H:Hp) (a:Addr) (xs:List V):Prop:=
  Rd H a (.lst xs)∨
    ∃ (o:Obj) (its:Array Value) (n:Nat),K.lookup a=some o∧o.cls= .type "list"∧o.dict=none∧o.data= .seq its n∧its.size≤sizeLine∧Vals xs its.toList
def SqT (K:PySem.W.Frag) (H:Hp) (a:Addr) (xs:List V):Prop:=
  Rd H a (.tup xs)∨
    ∃ (o:Obj) (its:Array Value) (n:Nat),K.lookup a=some o∧o.cls= .type "tuple"∧o.data= .seq its n∧its.size≤sizeLine∧Vals xs its.toList
def absV:Value→Option V
  | .none=>some .non
  | .bool b=>some (.bl b)
  | .int i _=>some (.int i)
  | .str x _=>some (.str x)
  | .bytes b _=>some (.byt b)
  | .float b _=>some (.flt b)
  | .ref a=>some (.ref a)
  | .type n=>some (.ty n)
  | _=>none
theorem RelV.abs {x:V} {u:Value} (r:RelV x u):absV u=some x:=by
  cases x with
  | non=>cases r;rfl
  | bl _=>cases r;rfl
  | int _=>obtain ⟨t,rfl⟩:=r;rfl
  | str _=>obtain ⟨t,rfl⟩:=r;rfl
  | byt _=>obtain ⟨t,rfl⟩:=r;rfl
  | flt _=>obtain ⟨t,rfl⟩:=r;rfl
  | ref _=>cases r;rfl
  | ty _=>cases r;rfl
theorem RelV.inj {x y:V} {u:Value} (r:RelV x u) (q:RelV y u):x=y:=Option.some.inj (r.abs.symm.trans q.abs)
theorem Vals.inj:∀ {xs ys:List V} {us:List Value},Vals xs us→Vals ys us→xs=ys
  | _,_,_,.nil,.nil=>rfl
  | _,_,_,.cons r t,.cons r' t'=>by rw [r.inj r',Vals.inj t t']
section
variable {X:Cx} {pins:List (Addr×Obj)} {σ:St} {H:Hp} {s:Shared} {a:Addr} {xs ys:List V}
theorem SqL.of {K:PySem.W.Frag} (h:H a=some (.lst xs)):SqL K H a xs:=.inl (.inl h)
theorem SqT.of {K:PySem.W.Frag} (h:H a=some (.tup xs)):SqT K H a xs:=.inl (.inl h)
theorem Inv.list (I:Inv X pins σ H s) (h:SqL X.K H a xs):∃ its:List Value,Vals xs its∧PlainL s.heap a its.toArray∧xs.length≤sizeLine:=by
  rcases h with h | ⟨o,its,n,hk,hc,hd,hs,hz,r⟩
  · obtain ⟨z,its,n,r,e⟩:=h.ok I.hok
    exact ⟨its,r,⟨_,n,e,rfl,rfl,rfl⟩,z⟩
  · refine ⟨its.toList,r,⟨o,n,I.kIn a o hk,hc,hd,by simpa using hs⟩,?_⟩
    have e:=r.length
    simp only [Array.length_toList] at e
    omega
theorem Inv.tuple (I:Inv X pins σ H s) (h:SqT X.K H a xs):∃ its:List Value,Vals xs its∧IsTup s.heap a its.toArray∧xs.length≤sizeLine:=by
  rcases h with h | ⟨o,its,n,hk,hc,hs,hz,r⟩
  · obtain ⟨z,its,r,p⟩:=h.ok I.hok
    exact ⟨its,r,p,z⟩
  · refine ⟨its.toList,r,⟨o,I.kIn a o hk,hc,n,by simpa using hs⟩,?_⟩
    have e:=r.length
    simp only [Array.length_toList] at e
    omega
theorem Inv.list_inj (I:Inv X pins σ H s) (h:SqL X.K H a xs) (h':SqL X.K H a ys):xs=ys:=by
  obtain ⟨its,r,⟨o,n,e,_,_,d⟩,_⟩:=I.list h
  obtain ⟨its',r',⟨o',n',e',_,_,d'⟩,_⟩:=I.list h'
  rw [e] at e';cases e'
  rw [d] at d'
  injection d' with d1 _
  have:its=its':=by simpa using congrArg Array.toList d1
  subst this
  exact r.inj r'
theorem Inv.tuple_inj (I:Inv X pins σ H s) (h:SqT X.K H a xs) (h':SqT X.K H a ys):xs=ys:=by
  obtain ⟨its,r,⟨o,e,_,n,d⟩,_⟩:=I.tuple h
  obtain ⟨its',r',⟨o',e',_,n',d'⟩,_⟩:=I.tuple h'
  rw [e] at e';cases e'
  rw [d] at d'
  injection d' with d1 _
  have:its=its':=by simpa using congrArg Array.toList d1
  subst this
  exact r.inj r'
end
abbrev Cx.wish (X:Cx) (E:Value→Shared→Prop):Cx:={X with xe:=E}
abbrev Cx.nox (X:Cx):Cx:=X.wish fun _ _=>False
theorem Cx.Ok.wish {X:Cx} (ok:X.Ok) (E:Value→Shared→Prop):(X.wish E).Ok:=
  ⟨ok.mod,ok.kind,ok.glob,ok.blt,ok.above,ok.inj,ok.has,ok.cab,ok.hd,ok.frames,ok.stk,ok.exf,ok.bs,ok.bsz,ok.noex,ok.exfs,ok.funs,ok.frf⟩
theorem Cx.Ok.unwish {X:Cx} {E:Value→Shared→Prop} (ok:(X.wish E).Ok):X.Ok:=
  ⟨ok.mod,ok.kind,ok.glob,ok.blt,ok.above,ok.inj,ok.has,ok.cab,ok.hd,ok.frames,ok.stk,ok.exf,ok.bs,ok.bsz,ok.noex,ok.exfs,ok.funs,ok.frf⟩
section
variable {X:Cx} {pins:List (Addr×Obj)} {σ:St} {H:Hp} {s:Shared} {E:Value→Shared→Prop}
theorem Inv.wish (I:Inv X pins σ H s) (E:Value→Shared→Prop):Inv (X.wish E) pins σ H s:=⟨I.ok.wish E,I.os,I.bare,I.base,I.loc,I.cell,I.free,I.freeC,I.pin,I.hok,I.len⟩
theorem Inv.unwish (I:Inv (X.wish E) pins σ H s):Inv X pins σ H s:=⟨I.ok.unwish,I.os,I.bare,I.base,I.loc,I.cell,I.free,I.freeC,I.pin,I.hok,I.len⟩
theorem SP.unwish {D:Ends} {f:Flow} {s':Shared} (h:SP (X.wish E) pins D f s'):SP X pins D f s':=by
  cases f with
  | next=>obtain ⟨σ',H',I,q⟩:=h;exact ⟨σ',H',I.unwish,q⟩
  | brk=>obtain ⟨σ',H',I,q⟩:=h;exact ⟨σ',H',I.unwish,q⟩
  | cont=>obtain ⟨σ',H',I,q⟩:=h;exact ⟨σ',H',I.unwish,q⟩
  | ret u=>obtain ⟨v,σ',H',I,r,q⟩:=h;exact ⟨v,σ',H',I.unwish,r,q⟩
theorem PSs.nox {st:List Stmt} {t:TS} (h:PSs X.nox st t):PSs X st t:=fun pins s σ H D I hw=>
  wpAny_mono (h pins s σ H D (I.wish _) hw) (fun _ _ q=>q.unwish) fun _ _ z=>False.elim z
end
section
variable {X:Cx} {st:Stmt} {rest:List Stmt} {t u:TS} {e:Expr} {te:TE} {pos:Pos}
def En:TS:=fun D σ H=>D.nx σ H
def Eo (t u:TS):TS:=fun D σ H=>t {D with nx:=u D} σ H
theorem Jh:PSs X [] En:=fun _ _ σ H _ I h=>wpAny_execs_nil ⟨σ,H,I,h⟩
theorem Ep (h1:PS X st t) (h2:PSs X rest u):PSs X (st :: rest) (Eo t u):=by
  intro pins s σ H D I h
  refine wpAny_execs_cons (dF (h1 pins s σ H {D with nx:=u D} I h) fun f s1 q=>?_)
  cases f with
  | next=>
    obtain ⟨σ',H',I',q⟩:=q
    exact h2 pins s1 σ' H' D I' q
  | ret v=>exact q
  | brk=>exact q
  | cont=>exact q
theorem Ji (h1:PS X st t):PSs X [st] t:=by
  intro pins s σ H D I h
  refine wpAny_execs_cons (dF (h1 pins s σ H D I h) fun f s1 q=>?_)
  cases f with
  | next=>exact wpAny_execs_nil q
  | ret v=>exact q
  | brk=>exact q
  | cont=>exact q
theorem Inv.quiet {pins:List (Addr×Obj)} {σ:St} {H:Hp} {s:Shared} (I:Inv X pins σ H s):interactive X.env=false:=by simp [interactive,I.ok.kind]
def Aj (te:TE):TS:=fun D σ H=>te σ H fun _ H1=>D.nx σ H1
theorem Jj (he:PE X e te) (hs:autoParam (swapsWith e none pos.line X.env=pure false) L2.auto4._auto_1):PS X (.Expr e pos) (Aj te):=by
  intro pins s σ H D I h
  exact wpAny_Expr_any (dF (he pins s σ H _ I h) fun v s1 ⟨x,H1,I1,r1,q1⟩=>⟨σ,H1,I1,q1⟩) I.quiet hs
def Oe (te:TE):TS:=fun D σ H=>te σ H D.rt
theorem Og (he:PE X e te):PS X (.Return (some e) pos) (Oe te):=by
  intro pins s σ H D I h
  exact wpAny_Return_some (dF (he pins s σ H _ I h) fun v s1 ⟨x,H1,I1,r1,q1⟩=>⟨x,σ,H1,I1,r1,q1⟩)
def Oh (c:TT) (t u:TS):TS:=fun D σ H=>c σ H fun b H1=>if b=true then t D σ H1 else u D σ H1
theorem Sw {c:Expr} {a b:List Stmt} {tc:TT} (hc:PT X c tc) (ha:PSs X a t) (hb:PSs X b u):PS X (.If c a b pos) (Oh tc t u):=by
  intro pins s σ H D I h
  refine wpAny_If (dF (hc pins s σ H _ I h) fun d s1 qq0=>?_)
  obtain ⟨H1,I1,q1⟩:=qq0
  cases d with
  | true=>exact ha pins s1 σ H1 D I1 q1
  | false=>exact hb pins s1 σ H1 D I1 q1
end
abbrev TG:=V→St→Hp→(St→Hp→Prop)→Prop
abbrev yL:=List V→St→Hp→(St→Hp→Prop)→Prop
def PG (X:Cx) (target:Expr) (t:TG):Prop:=
  ∀ (pins:List (Addr×Obj)) (s:Shared) (σ:St) (H:Hp) (v:V) (u:Value) (Q:St→Hp→Prop),Inv X pins σ H s→RelV v u→t v σ H Q→
    wpAny (model X.prog X.w) X.A (assign target X.env u) (fun _ s'=>∃ σ' H',Inv X pins σ' H' s'∧Q σ' H') X.xe s
def R3 (X:Cx) (ts:List Expr) (t:yL):Prop:=
  ∀ (pins:List (Addr×Obj)) (s:Shared) (σ:St) (H:Hp) (vs:List V) (us:List Value) (Q:St→Hp→Prop),Inv X pins σ H s→Vals vs us→t vs σ H Q→
    wpAny (model X.prog X.w) X.A (assignInOrder ((assignEach ts X.env).map (·.2)) us) (fun _ s'=>∃ σ' H',Inv X pins σ' H' s'∧Q σ' H') X.xe s
abbrev yM:=V→V→V→Hp→(Hp→Prop)→Prop
def Jk (X:Cx) (t:yM):Prop:=
  ∀ (pins:List (Addr×Obj)) (s:Shared) (σ:St) (H:Hp) (o i v:V) (ov iv u:Value) (Q:Hp→Prop),Inv X pins σ H s→RelV o ov→RelV i iv→RelV v u→t o i v H Q→
    wpAny (model X.prog X.w) X.A (setItem ov iv u) (fun _ s'=>∃ H',Inv X pins σ H' s'∧Q H') X.xe s
section
variable {X:Cx} {pos:Pos}
def nH (i:Nat):TG:=fun v σ H Q=>Q (σ.set i (some v)) H
theorem Al {i:Nat} {x:Str} (hN:X.N.Nodup) (hi:X.N[i]?=some x) (hx:Loc X.env.scope x) (hf:autoParam (X.fn x=true∨X.env.scope.names.lookup x=some .local) L2.auto1._auto_1):PG X (.Name x pos) (nH i):=by
  intro pins s σ H v u Q I r h
  exact wpAny_assign_Name (wY I hN hi hx r (fun s' I'=>⟨_,H,I',h⟩) hf)
def Oi:yL:=fun vs σ H Q=>vs=[]∧Q σ H
def Er (t:TG) (u:yL):yL:=fun vs σ H Q=>∃ v r,vs=v :: r∧t v σ H fun σ' H'=>u r σ' H' Q
theorem Jl:R3 X [] Oi:=by
  intro pins s σ H vs us Q I r h
  obtain ⟨e,h⟩:=h
  subst e
  cases r
  exact assignInOrder_nil ⟨σ,H,I,h⟩
theorem Es {e:Expr} {es:List Expr} {t:TG} {u:yL} (h1:PG X e t) (h2:R3 X es u)
    (hs:autoParam ((assignEach (e :: es) X.env).map (·.2)=assign e X.env :: (assignEach es X.env).map (·.2)) L2.auto4._auto_1):R3 X (e :: es) (Er t u):=by
  intro pins s σ H vs us Q I r h
  obtain ⟨v,vr,e1,h⟩:=h
  subst e1
  cases r with
  | cons r rr=>
    rw [hs]
    refine assignInOrder_cons (dF (h1 pins s σ H _ _ _ I r h) fun _ s1 qq0=>?_)
    obtain ⟨σ1,H1,I1,q1⟩:=qq0
    exact h2 pins s1 σ1 H1 _ _ Q I1 rr q1
def Jm (K:PySem.W.Frag) (n:Nat) (t:yL):TG:=fun v σ H Q=>∃ a xs,v= .ref a∧SqT K H a xs∧xs.length=n∧t xs σ H Q
theorem Et {es:List Expr} {k:Nat} {t:yL} {n:Nat} (hc:X.calm=true) (h:R3 X es t)
    (hn:autoParam ((assignEach es X.env).length=n) L2.auto4._auto_1) (hst:autoParam ((assignEach es X.env).findIdx? (·.1)=none) L2.auto4._auto_1):PG X (.Tuple es k pos) (Jm X.K n t):=by
  intro pins s σ H v u Q I r hw
  obtain ⟨a,xs,e1,hq,hl,hw⟩:=hw
  subst e1
  cases r
  obtain ⟨its,rv,ht,hz⟩:=I.tuple hq
  refine assign_Tuple_tuple (I.ok.hd hc) ht (by simp [hn,← hl,rv.length]) hst fun h' hx=>?_
  have I1:Inv X pins σ H {s with heap:=h'}:=I.kept (t':=s.toks) fun b o e=>hx b o (Nat.ne_of_lt (Heap.lt_size e)) e
  exact h pins _ σ H xs _ Q I1 (by simpa using rv) hw
def Oj (to ti:TE) (t:yM):TG:=fun v σ H Q=>to σ H fun o H1=>ti σ H1 fun i H2=>t o i v H2 fun H3=>Q σ H3
theorem Ol {o i:Expr} {to ti:TE} {t:yM} (ho:PE X o to) (hi:PE X i ti) (hs:Jk X t)
    (ha:∀ v,assign (.Subscript o i pos) X.env v=(do
      let ov ← holding [v] (eval o X.env)
      let iv ← holding [v,ov] (eval i X.env)
      standAt pos
      holding [v,ov,iv] (setItem ov iv v)
      release [v,ov,iv] []):=by intro _;rfl):PG X (.Subscript o i pos) (Oj to ti t):=by
  intro pins s σ H v u Q I r h
  rw [ha]
  refine wpAny_bind (wpAny_holding (dF (ho pins s σ H _ I h) fun ov s1 qq0=>?_))
  obtain ⟨x,H1,I1,r1,q1⟩:=qq0
  refine wpAny_bind (wpAny_holding (dF (hi pins s1 σ H1 _ I1 q1) fun iv s2 qq0=>?_))
  obtain ⟨y,H2,I2,r2,q2⟩:=qq0
  refine wpAny_bind (wpAny_standAt (wpAny_bind (wpAny_holding (dF (hs pins s2 σ H2 x y v ov iv u _ I2 r1 r2 r q2) fun _ s3 qq0=>?_))))
  obtain ⟨H3,I3,q3⟩:=qq0
  exact wpAny_release ⟨σ,H3,I3,q3⟩
def vz (te:TE) (g:TG):TS:=fun D σ H=>te σ H fun x H1=>g x σ H1 D.nx
theorem Eu {tg e:Expr} {te:TE} {g:TG} (he:PE X e te) (hg:PG X tg g) (hs:autoParam (swapsWithSole [tg] e pos.line X.env=pure false) L2.auto4._auto_1) (hw:autoParam (swappedStores [tg] e X.env=pure none) L2.auto4._auto_1)
    (h1:autoParam ((assignEach [tg] X.env).map (·.2)=[assign tg X.env]) L2.auto4._auto_1):PS X (.Assign [tg] e pos) (vz te g):=by
  intro pins s σ H D I h
  refine wpAny_Assign_stores (dF (he pins s σ H _ I h) fun v s1 qq0=>?_) hs hw
  obtain ⟨x,H1,I1,r1,q1⟩:=qq0
  rw [h1]
  exact dF (hg pins s1 σ H1 x v _ I1 r1 q1) fun _ s2 q=>q
theorem Ew {i:Nat} {x:Str} {e:Expr} {te:TE} {pos':Pos} (hN:X.N.Nodup) (hi:X.N[i]?=some x) (hx:Loc X.env.scope x) (he:PE X e te) (hs:autoParam (swapsWith e (some (.Name x pos')) pos.line X.env=pure false) L2.auto4._auto_1) (hf:autoParam (X.fn x=true∨X.env.scope.names.lookup x=some .local) L2.auto1._auto_1):
    PS X (.Assign [.Name x pos'] e pos) (vz te (nH i)):=by
  intro pins s σ H D I h
  refine wpAny_Assign_Name (dF (he pins s σ H _ I h) fun v s1 qq0=>?_) hs
  obtain ⟨y,H1,I1,r1,q1⟩:=qq0
  exact wY I1 hN hi hx r1 (fun s2 I2=>⟨_,H1,I2,q1⟩) hf
end
section
variable {X:Cx} {pos:Pos}
end
structure It where
  go:Nat→Hp→Prop
  yld:Nat→Hp→V→Hp→Prop
  stop:Nat→Hp→Prop
def jG (X:Cx) (pins:List (Addr×Obj)) (H:Hp) (b:Addr):Prop:=
  H b=none∧b≠X.env.locals∧b ∉ X.fs∧(b∈X.ex∨X.s₀.heap.objs.size≤b)∧(∀ x c,X.env.cells.lookup x=some c→c≠b)∧∀ p∈X.pn ++ pins,p.1≠b
theorem Inv.fpOk {X:Cx} {pins:List (Addr×Obj)} {σ:St} {H H':Hp} {s:Shared} {b:Addr} (I:Inv X pins σ H s) (hb:s.heap.objs.size≤b) (hn:H' b=none):jG X pins H' b:=by
  refine ⟨hn,Nat.ne_of_gt (Nat.lt_of_lt_of_le I.lt hb),I.nofs hb,.inr (Nat.le_trans I.sz hb),fun x c e z=>?_,fun p hp z=>?_⟩
  · obtain ⟨v,q⟩:=I.cell x c e
    exact absurd (Nat.lt_of_lt_of_le q.lt (by rw [z];exact hb)) (Nat.lt_irrefl _)
  · exact absurd (Nat.lt_of_lt_of_le (Heap.lt_size (I.pin p hp).1) (by rw [z];exact hb)) (Nat.lt_irrefl _)
structure Turn (P:Program) (w:World) (K:PySem.W.Frag) (tg:Expr) (J:It) (fp:List Addr) (it:Addr) (tn:Nat→Heap→Prop):Prop where
  mem:it∈fp
  obj:∀ i h,tn i h→∀ b∈fp,∃ o,h.get? b=some o∧∀ v,o.data≠.cell v
  keep:∀ i h h',tn i h→(∀ b∈fp,∀ o,h.get? b=some o→h'.get? b=some o)→tn i h'
  item:∀ (X:Cx),X.prog=P→X.w=w→X.K=K→X.calm=true→∀ (i:Nat) (pins:List (Addr×Obj)) (s:Shared) (σ:St) (H:Hp) (E:Value→Shared→Prop),Inv X pins σ H s→(∀ b∈fp,jG X pins H b)→tn i s.heap→J.go i H→
    wpAny (model P w) X.A (pyNext (.ref it)) (fun r s1=>∃ u,r=some u∧
      wpAny (model P w) X.A (letOwnedTupleGo tg (.ref it) u) (fun _ s2=>∃ x H',Inv X pins σ H' s2∧RelV x u∧J.yld i H x H'∧tn (i+1) s2.heap∧∀ b∈fp,H' b=none) E s1) E s
  done:∀ (X:Cx),X.prog=P→X.w=w→X.K=K→X.calm=true→∀ (i:Nat) (pins:List (Addr×Obj)) (s:Shared) (σ:St) (H:Hp) (E:Value→Shared→Prop),Inv X pins σ H s→(∀ b∈fp,jG X pins H b)→tn i s.heap→J.stop i H→
    wpAny (model P w) X.A (pyNext (.ref it)) (fun r s1=>r=none∧Inv X pins σ H s1) E s
  self:∀ (A:Around) (i:Nat) (s:Shared) (Q:Value→Shared→Prop) (E:Value→Shared→Prop),tn i s.heap→Q (.ref it) s→wpAny (model P w) A (pyIter (.ref it)) Q E s
abbrev TI:=St→Hp→(It→Hp→Prop)→Prop
def PIE (X:Cx) (pins:List (Addr×Obj)) (σ:St) (tg:Expr) (R:It→Hp→Prop) (itv:Value) (s2:Shared):Prop:=
  ∃ (it:Addr) (fp:List Addr) (tn:Nat→Heap→Prop) (J:It) (H':Hp),itv= .ref it∧Inv X pins σ H' s2∧Turn X.prog X.w X.K tg J fp it tn∧tn 0 s2.heap∧(∀ b∈fp,jG X pins H' b)∧R J H'
def PI (X:Cx) (tg iter:Expr) (wi:TI):Prop:=
  ∀ (pins:List (Addr×Obj)) (s:Shared) (σ:St) (H:Hp) (R:It→Hp→Prop),Inv X pins σ H s→wi σ H R→
    wpAny (model X.prog X.w) X.A (eval iter X.env) (fun v s1=>wpAny (model X.prog X.w) X.A (pyIter v) (PIE X pins σ tg R) X.xe s1) X.xe s
theorem uL {M:Model} {A:Around} {E:Value→Shared→Prop} {s:Shared} {tg:Expr} {it:Addr} {u:Value} {o:Obj} {n:String} {vs:Array Value} {Q:Unit→Shared→Prop} (ho:s.heap.get? it=some o) (hc:o.cls= .type n) (hd:o.data= .fields vs)
    (hn:["enumerate","zip","dict_itemiterator","dict_reverseitemiterator","odict_iterator","itertools.zip_longest","itertools.pairwise"].contains n=false) (hQ:Q () s):wpAny M A (letOwnedTupleGo tg (.ref it) u) Q E s:=by
  unfold letOwnedTupleGo
  cases tg <;> first
    | exact wpAny_pure hQ
    | (cases u <;> first
        | exact wpAny_pure hQ
        | (refine wpAny_bind (wpAny_load ho ?_)
           rw [hc,hd]
           show wpAny M A (if (["enumerate","zip","dict_itemiterator","dict_reverseitemiterator","odict_iterator","itertools.zip_longest","itertools.pairwise"].contains n && vs[0]? == some (rawInt _))=true then _ else _) Q E s
           rw [if_neg (by intro h;rw [hn,Bool.false_and] at h;cases h)]
           exact wpAny_pure hQ))
def Jo (K:PySem.W.Frag) (a:Addr):It:=
  ⟨fun i H=>∃ xs x,SqL K H a xs∧xs[i]?=some x,fun i H x H'=>H'=H∧∀ xs,SqL K H a xs→xs[i]?=some x,fun i H=>∃ xs,SqL K H a xs∧xs.length≤i⟩
def R4 (K:PySem.W.Frag) (a:Addr):It:=
  ⟨fun i H=>∃ xs x,SqT K H a xs∧xs[i]?=some x,fun i H x H'=>H'=H∧∀ xs,SqT K H a xs→xs[i]?=some x,fun i H=>∃ xs,SqT K H a xs∧xs.length≤i⟩
def Ec (lo:Int) (n:Nat):It:=⟨fun i _=>i < n,fun i H x H'=>H'=H∧x= .int (lo+i),fun i _=>n≤i⟩
theorem BV {P:Program} {w:World} {K:PySem.W.Frag} {tg:Expr} (a it:Addr):Turn P w K tg (Jo K a) [it] it (fun i h=>h.IsListIter it a i) where
  mem:=by simp
  obj:=fun i h st b hb=>by
    have e:b=it:=by simpa using hb
    subst e
    obtain ⟨o,e,c,d⟩:=st
    exact ⟨o,e,fun v z=>by rw [d] at z;cases z⟩
  keep:=fun i h h' st k=>st.at fun o e=>k it (by simp) o e
  item:=by
    intro X hP hw hK hc i pins s σ H E I hf st hg
    subst hP hw hK
    obtain ⟨xs,x,hq,hx⟩:=hg
    obtain ⟨its,rv,p,hz⟩:=I.list hq
    obtain ⟨u,hu,ru⟩:=rv.get hx
    obtain ⟨f0,f1,f2,f3,f4,f5⟩:=hf it (by simp)
    refine wpAny_pyNext_list_item st p.isList (x:=u) (by simpa using hu) fun h' st' sb=>?_
    have I1:Inv X pins σ H {s with heap:=h'}:=I.turned (t':=s.toks) (fun b o hb e=>(sb.2 b hb).trans e) f0 f1 f3 f4 f5
    obtain ⟨o,e,c,d⟩:=id st'
    exact ⟨u,rfl,uL (s:={s with heap:=h'}) e c d (by decide) ⟨x,H,I1,ru,⟨rfl,fun ys hy=>by rw [I.list_inj hy hq];exact hx⟩,st',fun b hb=>(hf b hb).1⟩⟩
  done:=by
    intro X hP hw hK hc i pins s σ H E I hf st hg
    subst hP hw hK
    obtain ⟨xs,hq,hx⟩:=hg
    obtain ⟨its,rv,p,hz⟩:=I.list hq
    obtain ⟨f0,f1,f2,f3,f4,f5⟩:=hf it (by simp)
    have hl:=rv.length
    exact wpAny_pyNext_list_end (I.ok.hd hc) st p.isList (by simp;omega) fun h' eb=>⟨rfl,I.turned (t':=s.toks) (fun b o hb e=>eb b o hb e) f0 f1 f3 f4 f5⟩
  self:=fun _ _ _ _ _ st h=>wpAny_pyIter_listiter st h
theorem yN {P:Program} {w:World} {K:PySem.W.Frag} {tg:Expr} (a it:Addr):Turn P w K tg (R4 K a) [it] it (fun i h=>h.IsTupleIter it a i) where
  mem:=by simp
  obj:=fun i h st b hb=>by
    have e:b=it:=by simpa using hb
    subst e
    obtain ⟨o,e,c,d⟩:=st
    exact ⟨o,e,fun v z=>by rw [d] at z;cases z⟩
  keep:=fun i h h' st k=>st.at fun o e=>k it (by simp) o e
  item:=by
    intro X hP hw hK hc i pins s σ H E I hf st hg
    subst hP hw hK
    obtain ⟨xs,x,hq,hx⟩:=hg
    obtain ⟨its,rv,p,hz⟩:=I.tuple hq
    obtain ⟨u,hu,ru⟩:=rv.get hx
    obtain ⟨f0,f1,f2,f3,f4,f5⟩:=hf it (by simp)
    refine wpAny_pyNext_tuple_item st (show s.heap.IsTuple a its.toArray from p) (x:=u) (by simpa using hu) fun h' st' sb=>?_
    have I1:Inv X pins σ H {s with heap:=h'}:=I.turned (t':=s.toks) (fun b o hb e=>(sb.2 b hb).trans e) f0 f1 f3 f4 f5
    obtain ⟨o,e,c,d⟩:=id st'
    exact ⟨u,rfl,uL (s:={s with heap:=h'}) e c d (by decide) ⟨x,H,I1,ru,⟨rfl,fun ys hy=>by rw [I.tuple_inj hy hq];exact hx⟩,st',fun b hb=>(hf b hb).1⟩⟩
  done:=by
    intro X hP hw hK hc i pins s σ H E I hf st hg
    subst hP hw hK
    obtain ⟨xs,hq,hx⟩:=hg
    obtain ⟨its,rv,p,hz⟩:=I.tuple hq
    obtain ⟨f0,f1,f2,f3,f4,f5⟩:=hf it (by simp)
    have hl:=rv.length
    exact wpAny_pyNext_tuple_end (I.ok.hd hc) st (show s.heap.IsTuple a its.toArray from p) (by simp;omega) fun h' eb=>⟨rfl,I.turned (t':=s.toks) (fun b o hb e=>eb b o hb e) f0 f1 f3 f4 f5⟩
  self:=fun _ _ _ _ _ st h=>wpAny_pyIter_tupleiter st h
theorem yO {P:Program} {w:World} {K:PySem.W.Frag} {tg:Expr} (it:Addr) (lo:Int) (n:Nat):Turn P w K tg (Ec lo n) [it] it (fun i h=>IsRangeIter h it (lo+(i:Nat)*1) ((n:Int) - (i:Nat)) 1) where
  mem:=by simp
  obj:=fun i h st b hb=>by
    have e:b=it:=by simpa using hb
    subst e
    exact ⟨_,st,fun v z=>by
      have z':Data.fields _=Data.cell v:=z
      cases z'⟩
  keep:=fun i h h' st k=>k it (by simp) _ st
  item:=by
    intro X hP hw hK hc i pins s σ H E I hf st hg
    subst hP hw hK
    obtain ⟨f0,f1,f2,f3,f4,f5⟩:=hf it (by simp)
    have W:=Walks.range (prog:=X.prog) (w:=X.w) (I.ok.hd hc) it lo 1 n
    refine W.item i s _ _ hg st fun v h' tk hv st' kk=>?_
    obtain ⟨t,rfl⟩:=hv
    have I1:Inv X pins σ H {s with heap:=h',toks:=tk}:=I.turned (fun b o hb e=>kk b o (by simpa using hb) e) f0 f1 f3 f4 f5
    refine ⟨_,rfl,uL (s:={s with heap:=h',toks:=tk}) (n:="range_iterator") st' rfl rfl (by decide) ⟨.int (lo+i),H,I1,⟨t,?_⟩,⟨rfl,rfl⟩,st',fun b hb=>(hf b hb).1⟩⟩
    rw [Int.mul_one]
  done:=by
    intro X hP hw hK hc i pins s σ H E I hf st hg
    subst hP hw hK
    obtain ⟨f0,f1,f2,f3,f4,f5⟩:=hf it (by simp)
    exact wpAny_pyNext_range_end (I.ok.hd hc) st (by have:n≤i:=hg;omega) fun h' eb=>⟨rfl,I.turned (t':=s.toks) (fun b o hb e=>eb b o hb e) f0 f1 f3 f4 f5⟩
  self:=fun _ _ _ _ _ st h=>wpAny_pyIter_rangeiter st h
end L2
namespace L2
open PySem PySem.Spec PyProof.Rows
section
variable {X:Cx} {tg:Expr}
theorem wZ {pins:List (Addr×Obj)} {σ:St} {H:Hp} {s:Shared} {R:It→Hp→Prop} {E:Value→Shared→Prop} {lo hi:Int} {t u v:Tok} {tk:Nat} (I:Inv X pins σ H s) (h1: -(2 ^ 62)≤lo) (h2:lo < 2 ^ 62) (h3: -(2 ^ 62)≤hi) (h4:hi < 2 ^ 62)
    (q:R (Ec lo (hi - lo).toNat) H):wpAny (model X.prog X.w) X.A (pyIter (.ref s.heap.objs.size)) (PIE X pins σ tg R) E {s with heap:=s.heap.push {cls:=.type "range",data:=.fields #[.int lo t,.int hi u,.int 1 v]},toks:=tk}:=by
  refine wpAny_pyIter_range (IsRange.new ..) (small_one h1 h2 h3 h4) ?_
  have I1:Inv X pins σ H {s with heap:=s.heap.push {cls:=.type "range",data:=.fields #[.int lo t,.int hi u,.int 1 v]},toks:=tk}:=I.kept fun b o e=>Heap.get?_push_of_some _ e
  refine ⟨(s.heap.push {cls:=.type "range",data:=.fields #[.int lo t,.int hi u,.int 1 v]}).objs.size,[(s.heap.push {cls:=.type "range",data:=.fields #[.int lo t,.int hi u,.int 1 v]}).objs.size],_,_,H,rfl,
    I1.kept (t':=tk) fun b o e=>Heap.get?_push_of_some _ e,yO _ lo (hi - lo).toNat,?_,fun b hb=>?_,q⟩
  · have e1:lo+((0:Nat):Int)*1=lo:=by simp
    have e2:(((hi - lo).toNat:Nat):Int) - ((0:Nat):Int)=Builtin.Range.rangeSize lo hi 1:=by rw [rangeSize_one];split <;> omega
    show IsRangeIter _ _ (lo+((0:Nat):Int)*1) ((((hi - lo).toNat:Nat):Int) - ((0:Nat):Int)) 1
    rw [e1,e2]
    exact Heap.get?_push_size _ rfl
  · have e:b=(s.heap.push {cls:=.type "range",data:=.fields #[.int lo t,.int hi u,.int 1 v]}).objs.size:=by simpa using hb
    subst e
    exact I1.fpOk (Nat.le_refl _) (I1.hok.fresh (Nat.le_refl _))
def Ex (ta:TA):TI:=fun σ H R=>ta σ H fun vs H1=>∃ j:Int,vs=[.int j]∧-(2 ^ 62)≤j∧j < 2 ^ 62∧R (Ec 0 j.toNat) H1
def Ey (ta:TA):TI:=fun σ H R=>ta σ H fun vs H1=>∃ i j:Int,vs=[.int i,.int j]∧(-(2 ^ 62)≤i∧i < 2 ^ 62∧-(2 ^ 62)≤j∧j < 2 ^ 62)∧R (Ec i (j - i).toNat) H1
theorem BW {a:Expr} {ta:TA} {p pos:Pos} (hg:Gl X "range") (hm:X.mg "range"=none) (ha:PA X [a] ta) (hs:autoParam (starEach [a] X.env=[(false,eval a X.env)]) L2.auto4._auto_1):PI X tg (.Call (.Name "range" p) [a] [] pos) (Ex ta):=by
  intro pins s σ H R I h
  refine Call_ (iH I hg hm boot_range (PyProof.Rows.callWith_type1 (dF (ha pos pins s σ H _ I h) fun us s1 ⟨vs,H1,I1,r1,q1⟩=>?_) hs rfl))
  obtain ⟨j,e,q1,q2,q⟩:=q1
  subst e
  cases r1 with
  | cons r rr=>
    cases rr
    obtain ⟨t,rfl⟩:=r
    exact call_range_1 (wZ I1 (by omega) (by omega) q1 q2 (by simpa using q))
theorem BX {a b:Expr} {ta:TA} {p pos:Pos} (hg:Gl X "range") (hm:X.mg "range"=none) (ha:PA X [a,b] ta) (hs:autoParam (starEach [a,b] X.env=[(false,eval a X.env),(false,eval b X.env)]) L2.auto4._auto_1) (hs2:autoParam (starEach [b] X.env=[(false,eval b X.env)]) L2.auto4._auto_1):
    PI X tg (.Call (.Name "range" p) [a,b] [] pos) (Ey ta):=by
  intro pins s σ H R I h
  refine Call_ (iH I hg hm boot_range (PyProof.Rows.callWith_type1 (dF (ha pos pins s σ H _ I h) fun us s1 qq0=>?_) (by rw [hs,hs2]) (by rw [hs2];rfl)))
  obtain ⟨vs,H1,I1,r1,q1⟩:=qq0
  obtain ⟨i,j,e,⟨q1,q2,q3,q4⟩,q⟩:=q1
  subst e
  cases r1 with
  | cons r rr=>
    cases rr with
    | cons r' rr=>
      cases rr
      obtain ⟨t,rfl⟩:=r
      obtain ⟨t',rfl⟩:=r'
      exact call_range_2 (wZ I1 q1 q2 q3 q4 q)
def Jp (wi:TI) (g:TG) (tb:TS):TS:=fun D σ H=>wi σ H fun J H1=>∃ W:Nat→Nat→St→Hp→Prop,(∃ m,W 0 m σ H1)∧∀ i m σ H,W i m σ H→
  (J.stop i H∧D.nx σ H)∨(J.go i H∧∃ N:St→Hp→Prop,(∀ σ' H',N σ' H'→∃ m',m' < m∧W (i+1) m' σ' H')∧∀ x H',J.yld i H x H'→g x σ H' fun σ2 H2=>tb {D with nx:=N,ct:=N,bk:=D.nx} σ2 H2)
def pW (fp:List Addr) (h:Heap):List (Addr×Obj):=fp.filterMap fun b=>(h.get? b).map fun o=>(b,o)
theorem lu {fp:List Addr} {h:Heap} {b:Addr} {o:Obj} (hb:b∈fp) (e:h.get? b=some o):(b,o)∈pW fp h:=List.mem_filterMap.mpr ⟨b,hb,by rw [e];rfl⟩
theorem BZ {fp:List Addr} {h:Heap} {p:Addr×Obj} (hp:p∈pW fp h):p.1∈fp∧h.get? p.1=some p.2:=by
  obtain ⟨b,hb,e⟩:=List.mem_filterMap.mp hp
  cases q:h.get? b with
  | none=>rw [q] at e;cases e
  | some o=>
    rw [q] at e
    have e':(b,o)=p:=Option.some.inj e
    subst e'
    exact ⟨hb,q⟩
theorem Inv.pinned {pins:List (Addr×Obj)} {σ:St} {H:Hp} {s:Shared} {fp:List Addr} (I:Inv X pins σ H s) (hf:∀ b∈fp,jG X pins H b) (ho:∀ b∈fp,∃ o,s.heap.get? b=some o∧∀ v,o.data≠.cell v):Inv X (pins ++ pW fp s.heap) σ H s:=
  I.pins_of fun p hp=>(List.mem_append.mp hp).elim (fun z=>I.pin p (List.mem_append_right _ z)) fun z=>by
    obtain ⟨hb,e⟩:=BZ z
    obtain ⟨f0,f1,f2,_⟩:=hf p.1 hb
    obtain ⟨o,e',d⟩:=ho p.1 hb
    rw [e] at e';cases e'
    exact ⟨e,f0,f1,f2,d⟩
theorem Inv.unpinned {pins pl:List (Addr×Obj)} {σ:St} {H:Hp} {s:Shared} (I:Inv X (pins ++ pl) σ H s):Inv X pins σ H s:=I.pins_of fun p hp=>I.pin p (List.mem_append_right _ (List.mem_append_left _ hp))
theorem Om {iter:Expr} {body:List Stmt} {wi:TI} {g:TG} {tb:TS} {pos:Pos} (hp:PassesOwn (model X.prog X.w) X.A X.env X.xe) (hc:X.calm=true) (hi:PI X tg iter wi) (hg:PG X tg g) (hb:PSs X body tb)
    (hs:autoParam (∀ x,foldedSetIterable iter X.env x=pure x) L2.auto3._auto_1):PS X (.For tg iter body [] pos) (Jp wi g tb):=by
  intro pins s σ H D I h
  refine wpAny_For (dF (hi pins s σ H _ I h) fun v s1 h1=>dF h1 fun itv s2 h2=>?_) hs
  obtain ⟨it,fp,tn,J,H2,e,I2,T,st2,f2,W,⟨m0,w0⟩,turn⟩:=h2
  subst e
  have stat:∀ {H':Hp},(∀ b∈fp,H' b=none)→∀ b∈fp,jG X pins H' b:=fun hn b hb=>⟨hn b hb,(f2 b hb).2⟩
  refine codeAny_forLoop_any (fun n s'=>∃ i σ' H',Inv X pins σ' H' s'∧tn i s'.heap∧(∀ b∈fp,H' b=none)∧W i n σ' H') ?_ m0 ⟨0,σ,H2,I2,st2,fun b hb=>(f2 b hb).1,w0⟩
  rintro n s3 ⟨i,σ3,H3,I3,st3,fr3,w3⟩
  rcases turn i n σ3 H3 w3 with ⟨stop,qn⟩ | ⟨go,N,hN,step⟩
  · refine wpAny_passesOwn hp (dF (T.done X rfl rfl rfl hc i pins s3 σ3 H3 X.xe I3 (stat fr3) st3 stop) fun r s4 qq0=>?_)
    obtain ⟨hr,I4⟩:=qq0
    subst hr
    exact wpAny_execs_nil ⟨σ3,H3,I4,qn⟩
  · refine wpAny_passesOwn hp (dF (T.item X rfl rfl rfl hc i pins s3 σ3 H3 X.xe I3 (stat fr3) st3 go) fun r s4 qq0=>?_)
    obtain ⟨u,hr,h4⟩:=qq0
    subst hr
    refine wpAny_passesOwn hp (dF h4 fun _ s5 qq0=>?_)
    obtain ⟨x,H5,I5,r5,y5,st5,fr5⟩:=qq0
    have I5':=I5.pinned (stat fr5) (T.obj _ _ st5)
    refine wpAny_passesOwn hp (dF (hg _ s5 σ3 H5 x u _ I5' r5 (step x H5 y5)) fun _ s6 qq0=>?_)
    obtain ⟨σ6,H6,I6,q6⟩:=qq0
    refine wpAny_passesOwn hp (dF (hb _ s6 σ6 H6 _ I6 q6) fun f s7 q7=>?_)
    have again:∀ {σ7:St} {H7:Hp},Inv X (pins ++ pW fp s5.heap) σ7 H7 s7→N σ7 H7→∃ m,m < n∧∃ i σ' H',Inv X pins σ' H' s7∧tn i s7.heap∧(∀ b∈fp,H' b=none)∧W i m σ' H':=fun {σ7 H7} I7 n7=>by
      obtain ⟨m',hm,w7⟩:=hN σ7 H7 n7
      refine ⟨m',hm,i+1,σ7,H7,I7.unpinned,T.keep _ _ _ st5 fun b hb o e=>(I7.pin (b,o) (List.mem_append_right _ (List.mem_append_right _ (lu hb e)))).1,fun b hb=>?_,w7⟩
      obtain ⟨o,e,d⟩:=T.obj _ _ st5 b hb
      exact (I7.pin (b,o) (List.mem_append_right _ (List.mem_append_right _ (lu hb e)))).2.1
    cases f with
    | next=>obtain ⟨σ7,H7,I7,n7⟩:=q7;exact again I7 n7
    | cont=>obtain ⟨σ7,H7,I7,n7⟩:=q7;exact again I7 n7
    | brk=>obtain ⟨σ7,H7,I7,q7⟩:=q7;exact ⟨σ7,H7,I7.unpinned,q7⟩
    | ret v=>obtain ⟨x7,σ7,H7,I7,r7,q7⟩:=q7;exact ⟨x7,σ7,H7,I7.unpinned,r7,q7⟩
end
theorem oU {K:PySem.W.Frag} {a:Addr} {xs:List V} {g:TG} {tb:TS} {D:Ends} {σ:St} {H:Hp} (Pv:Nat→St→Hp→Prop) (h0:Pv 0 σ H) (hl:∀ i σ H,i≤xs.length→Pv i σ H→SqL K H a xs)
    (hs:∀ i x σ H,xs[i]?=some x→Pv i σ H→g x σ H fun σ2 H2=>tb {D with nx:=Pv (i+1),ct:=Pv (i+1),bk:=D.nx} σ2 H2) (hd:∀ σ H,Pv xs.length σ H→D.nx σ H):
    ∃ W:Nat→Nat→St→Hp→Prop,(∃ m,W 0 m σ H)∧∀ i m σ H,W i m σ H→
      ((Jo K a).stop i H∧D.nx σ H)∨((Jo K a).go i H∧∃ N:St→Hp→Prop,(∀ σ' H',N σ' H'→∃ m',m' < m∧W (i+1) m' σ' H')∧∀ x H',(Jo K a).yld i H x H'→g x σ H' fun σ2 H2=>tb {D with nx:=N,ct:=N,bk:=D.nx} σ2 H2):=by
  refine ⟨fun i m σ H=>m=xs.length - i∧i≤xs.length∧Pv i σ H,⟨xs.length,by simp,Nat.zero_le _,h0⟩,?_⟩
  rintro i m σ H ⟨rfl,hi,p⟩
  have q:=hl i σ H hi p
  by_cases hlt:i < xs.length
  · refine .inr ⟨⟨xs,xs[i],q,by simp [hlt]⟩,Pv (i+1),fun σ' H' p'=>⟨xs.length - (i+1),by omega,rfl,hlt,p'⟩,fun x H' y=>?_⟩
    obtain ⟨e,y⟩:=y
    subst e
    exact hs i x σ _ (y xs q) p
  · have e:i=xs.length:=by omega
    subst e
    exact .inl ⟨⟨xs,q,Nat.le_refl _⟩,hd σ H p⟩
theorem Jq {K:PySem.W.Frag} {a:Addr} {xs:List V} {g:TG} {tb:TS} {D:Ends} {σ:St} {H:Hp} (Pv:Nat→St→Hp→Prop) (h0:Pv 0 σ H) (hl:∀ i σ H,i≤xs.length→Pv i σ H→SqT K H a xs)
    (hs:∀ i x σ H,xs[i]?=some x→Pv i σ H→g x σ H fun σ2 H2=>tb {D with nx:=Pv (i+1),ct:=Pv (i+1),bk:=D.nx} σ2 H2) (hd:∀ σ H,Pv xs.length σ H→D.nx σ H):
    ∃ W:Nat→Nat→St→Hp→Prop,(∃ m,W 0 m σ H)∧∀ i m σ H,W i m σ H→
      ((R4 K a).stop i H∧D.nx σ H)∨((R4 K a).go i H∧∃ N:St→Hp→Prop,(∀ σ' H',N σ' H'→∃ m',m' < m∧W (i+1) m' σ' H')∧∀ x H',(R4 K a).yld i H x H'→g x σ H' fun σ2 H2=>tb {D with nx:=N,ct:=N,bk:=D.nx} σ2 H2):=by
  refine ⟨fun i m σ H=>m=xs.length - i∧i≤xs.length∧Pv i σ H,⟨xs.length,by simp,Nat.zero_le _,h0⟩,?_⟩
  rintro i m σ H ⟨rfl,hi,p⟩
  have q:=hl i σ H hi p
  by_cases hlt:i < xs.length
  · refine .inr ⟨⟨xs,xs[i],q,by simp [hlt]⟩,Pv (i+1),fun σ' H' p'=>⟨xs.length - (i+1),by omega,rfl,hlt,p'⟩,fun x H' y=>?_⟩
    obtain ⟨e,y⟩:=y
    subst e
    exact hs i x σ _ (y xs q) p
  · have e:i=xs.length:=by omega
    subst e
    exact .inl ⟨⟨xs,q,Nat.le_refl _⟩,hd σ H p⟩
theorem uM {lo:Int} {n:Nat} {g:TG} {tb:TS} {D:Ends} {σ:St} {H:Hp} (Pv:Nat→St→Hp→Prop) (h0:Pv 0 σ H)
    (hs:∀ i σ H,i < n→Pv i σ H→g (.int (lo+i)) σ H fun σ2 H2=>tb {D with nx:=Pv (i+1),ct:=Pv (i+1),bk:=D.nx} σ2 H2) (hd:∀ σ H,Pv n σ H→D.nx σ H):
    ∃ W:Nat→Nat→St→Hp→Prop,(∃ m,W 0 m σ H)∧∀ i m σ H,W i m σ H→
      ((Ec lo n).stop i H∧D.nx σ H)∨((Ec lo n).go i H∧∃ N:St→Hp→Prop,(∀ σ' H',N σ' H'→∃ m',m' < m∧W (i+1) m' σ' H')∧∀ x H',(Ec lo n).yld i H x H'→g x σ H' fun σ2 H2=>tb {D with nx:=N,ct:=N,bk:=D.nx} σ2 H2):=by
  refine ⟨fun i m σ H=>m=n - i∧i≤n∧Pv i σ H,⟨n,by simp,Nat.zero_le _,h0⟩,?_⟩
  rintro i m σ H ⟨rfl,hi,p⟩
  by_cases hlt:i < n
  · refine .inr ⟨hlt,Pv (i+1),fun σ' H' p'=>⟨n - (i+1),by omega,rfl,hlt,p'⟩,fun x H' y=>?_⟩
    obtain ⟨e,y⟩:=y
    subst e y
    exact hs i σ _ hlt p
  · have e:i=n:=by omega
    subst e
    exact .inl ⟨Nat.le_refl _,hd σ H p⟩
end L2
namespace L2
open PySem PySem.Spec PyProof.Rows
abbrev R2:=V→V→Hp→VK→Prop
def OpR (X:Cx) (f:Value→Value→Sem Value) (r:R2):Prop:=
  ∀ (pins:List (Addr×Obj)) (s:Shared) (σ:St) (H:Hp) (x y:V) (v u:Value) (Q:VK),Inv X pins σ H s→RelV x v→RelV y u→r x y H Q→
    wpAny (model X.prog X.w) X.A (f v u) (EP X pins σ Q) X.xe s
def Xc (X:Cx) (f:Value→Sem Value) (r:V→Hp→VK→Prop):Prop:=
  ∀ (pins:List (Addr×Obj)) (s:Shared) (σ:St) (H:Hp) (x:V) (v:Value) (Q:VK),Inv X pins σ H s→RelV x v→r x H Q→
    wpAny (model X.prog X.w) X.A (f v) (EP X pins σ Q) X.xe s
def CallR (X:Cx) (f:Value) (r:List V→Hp→VK→Prop):Prop:=
  ∀ (pins:List (Addr×Obj)) (s:Shared) (σ:St) (H:Hp) (xs:List V) (us:List Value) (Q:VK),Inv X pins σ H s→Vals xs us→r xs H Q→
    wpAny (model X.prog X.w) X.A (call f us) (EP X pins σ Q) X.xe s
def Ja (r:R2) (ta tb:TE):TE:=fun σ H Q=>ta σ H fun x H1=>tb σ H1 fun y H2=>r x y H2 Q
def tUn (r:V→Hp→VK→Prop) (ta:TE):TE:=fun σ H Q=>ta σ H fun x H1=>r x H1 Q
def rI (C:Int→Int→Prop) (g:Int→Int→V):R2:=fun x y H Q=>∃ i j,x= .int i∧y= .int j∧C i j∧Q (g i j) H
def Jr (g:Int→Int→V):R2:=fun x y H Q=>∃ i j,x= .int i∧y= .int j∧Q (g i j) H
def rU (g:Int→V):V→Hp→VK→Prop:=fun x H Q=>∃ i,x= .int i∧Q (g i) H
section
variable {X:Cx} {a b c:Expr} {ta tb tc:TE} {pos:Pos}
theorem Oo (ha:PE X a ta) (hb:PE X b tb) {pins:List (Addr×Obj)} {s:Shared} {σ:St} {H:Hp} {R:V→V→Hp→Prop} (I:Inv X pins σ H s)
    (h:ta σ H fun x H1=>tb σ H1 fun y H2=>R x y H2) {Q:Value→Shared→Prop} {f:Value→Value→Sem Value}
    (hf:∀ v u s2 x y H2,Inv X pins σ H2 s2→RelV x v→RelV y u→R x y H2→wpAny (model X.prog X.w) X.A (f v u) Q X.xe s2):
    wpAny (model X.prog X.w) X.A (eval a X.env) (fun v s₁=>wpAny (model X.prog X.w) X.A (eval b X.env) (fun u s₂=>wpAny (model X.prog X.w) X.A (f v u) Q X.xe s₂) X.xe s₁) X.xe s:=by
  refine dF (ha pins s σ H _ I h) fun v s1 qq0=>?_
  obtain ⟨x,H1,I1,r1,q1⟩:=qq0
  refine dF (hb pins s1 σ H1 _ I1 q1) fun u s2 qq0=>?_
  obtain ⟨y,H2,I2,r2,q2⟩:=qq0
  exact hf v u s2 x y H2 I2 r1 r2 q2
theorem Sy {op:Operator} {r:R2} (ho:OpR X (binaryOp op) r) (ha:PE X a ta) (hb:PE X b tb):PE X (.BinOp a op b pos) (Ja r ta tb):=by
  intro pins s σ H Q I h
  exact wpAny_BinOp (Oo ha hb I h fun v u s2 x y H2 I2 rx ry q=>ho pins s2 σ H2 x y v u Q I2 rx ry q)
theorem SJ {op:UnaryOp} {r:V→Hp→VK→Prop} (ho:Xc X (unaryOp op) r) (ha:PE X a ta):PE X (.UnaryOp op a pos) (tUn r ta):=by
  intro pins s σ H Q I h
  exact UnaryOp_ (dF (ha pins s σ H _ I h) fun v s1 ⟨x,H1,I1,r1,q1⟩=>ho pins s1 σ H1 x v Q I1 r1 q1)
theorem Xd {f:Value→Value→Sem Value} {C:Int→Int→Prop} {g:Int→Int→Int}
    (rule:∀ (i j:Int) (t u:Tok) (s:Shared) (Q:Value→Shared→Prop) (E:Value→Shared→Prop),C i j→Q (.int (g i j) s.toks) {s with toks:=s.toks+1}→wpAny (model X.prog X.w) X.A (f (.int i t) (.int j u)) Q E s):
    OpR X f (rI C fun i j=>.int (g i j)):=by
  intro pins s σ H x y v u Q I rx ry h
  obtain ⟨i,j,rfl,rfl,hc,q⟩:=h
  obtain ⟨t,rfl⟩:=rx
  obtain ⟨t',rfl⟩:=ry
  exact rule i j t t' s _ _ hc ⟨.int (g i j),H,I.tok _,⟨_,rfl⟩,q⟩
theorem SN {f:Value→Value→Sem Value} {g:Int→Int→Int}
    (rule:∀ (i j:Int) (t u:Tok) (s:Shared) (Q:Value→Shared→Prop) (E:Value→Shared→Prop),Q (.int (g i j) s.toks) {s with toks:=s.toks+1}→wpAny (model X.prog X.w) X.A (f (.int i t) (.int j u)) Q E s):
    OpR X f (Jr fun i j=>.int (g i j)):=by
  intro pins s σ H x y v u Q I rx ry h
  obtain ⟨i,j,rfl,rfl,q⟩:=h
  obtain ⟨t,rfl⟩:=rx
  obtain ⟨t',rfl⟩:=ry
  exact rule i j t t' s _ _ ⟨.int (g i j),H,I.tok _,⟨_,rfl⟩,q⟩
theorem Js {f:Value→Value→Sem Value} {g:Int→Int→Bool}
    (rule:∀ (i j:Int) (t u:Tok) (s:Shared) (Q:Value→Shared→Prop) (E:Value→Shared→Prop),Q (.bool (g i j)) s→wpAny (model X.prog X.w) X.A (f (.int i t) (.int j u)) Q E s):
    OpR X f (Jr fun i j=>.bl (g i j)):=by
  intro pins s σ H x y v u Q I rx ry h
  obtain ⟨i,j,rfl,rfl,q⟩:=h
  obtain ⟨t,rfl⟩:=rx
  obtain ⟨t',rfl⟩:=ry
  exact rule i j t t' s _ _ ⟨.bl (g i j),H,I,rfl,q⟩
def CPow (i j:Int):Prop:=0≤j∧j≤1000000∧i.natAbs < 2 ^ 64
def CMul (i j:Int):Prop:=(-(2 ^ 64) < i∧i < 2 ^ 64)∨(-(2 ^ 64) < j∧j < 2 ^ 64)
theorem CMul.ok {i j:Int} (h:CMul i j):IntMulOk i j:=by
  rcases h with ⟨h1,h2⟩ | ⟨h1,h2⟩
  · exact .of_left (intBits_le_64 h1 h2)
  · exact .of_right (intBits_le_64 h1 h2)
theorem Oq:OpR X (binaryOp .Add) (Jr fun i j=>.int (i+j)):=SN fun _ _ _ _ _ _ _ q=>add_int q
theorem gM:OpR X (binaryOp .Sub) (Jr fun i j=>.int (i - j)):=SN fun _ _ _ _ _ _ _ q=>sub_int q
theorem Ot:OpR X (binaryOp .Mult) (rI CMul fun i j=>.int (i*j)):=Xd fun _ _ _ _ _ _ _ hc q=>mul_int q hc.ok
theorem lw:OpR X (binaryOp .Mod) (rI (fun _ j=>0 < j) fun i j=>.int (i % j)):=Xd fun i j _ _ _ _ _ hc q=>by
  have h1:(0:Int) < j:=hc
  exact mod_int' (by omega) (by rw [Int.fmod_eq_emod_of_nonneg i (by omega)];exact q)
theorem Ou:OpR X (binaryOp .Pow) (rI CPow fun i j=>.int (i ^ j.toNat)):=Xd fun _ _ _ _ _ _ _ hc q=>pow_int_small hc.1 hc.2.1 hc.2.2 q
theorem unI {f:Value→Sem Value} {g:Int→Int}
    (rule:∀ (i:Int) (t:Tok) (s:Shared) (Q:Value→Shared→Prop) (E:Value→Shared→Prop),Q (.int (g i) s.toks) {s with toks:=s.toks+1}→wpAny (model X.prog X.w) X.A (f (.int i t)) Q E s):
    Xc X f (rU fun i=>.int (g i)):=by
  intro pins s σ H x v Q I rx h
  obtain ⟨i,rfl,q⟩:=h
  obtain ⟨t,rfl⟩:=rx
  exact rule i t s _ _ ⟨.int (g i),H,I.tok _,⟨_,rfl⟩,q⟩
theorem vA:Xc X (unaryOp .USub) (rU fun i=>.int (-i)):=unI fun _ _ _ _ _ q=>neg_int q
end
def scal:V→V→Bool
  | .non,.non=>true | .non,.int _=>true | .int _,.non=>true | .non,.bl _=>true | .bl _,.non=>true | .non,.str _=>true | .str _,.non=>true
  | .int _,.int _=>true | .bl _,.bl _=>true | .str _,.str _=>true | .byt _,.byt _=>true
  | .int _,.str _=>true | .str _,.int _=>true | .bl _,.str _=>true | .str _,.bl _=>true
  | _,_=>false
def rEq:R2:=fun x y H Q=>scal x y=true∧Q (.bl (decide (x=y))) H
theorem Jt {i j:Int}:decide (V.int i=V.int j)=(i == j):=by
  rw [Bool.eq_iff_iff]
  simp
theorem Ov {i j:Bool}:decide (V.bl i=V.bl j)=(i == j):=by
  rw [Bool.eq_iff_iff]
  simp
theorem Ju {i j:Str}:decide (V.str i=V.str j)=(i == j):=by
  rw [Bool.eq_iff_iff]
  simp
theorem Jv {i j:Array UInt8}:decide (V.byt i=V.byt j)=(i.toList == j.toList):=by
  rw [Bool.eq_iff_iff]
  cases i
  cases j
  simp
section
variable {X:Cx} {a b c:Expr} {ta tb tc:TE} {pos:Pos}
theorem fc {pins:List (Addr×Obj)} {σ:St} {H:Hp} {s:Shared} {Q:VK} {k k':Bool} (I:Inv X pins σ H s) (q:Q (.bl k) H) (e:k=k'):EP X pins σ Q (.bool k') s:=by
  subst e
  exact ⟨.bl k,H,I,rfl,q⟩
theorem SQ:OpR X (compareOp .Eq) rEq:=by
  intro pins s σ H x y v u Q I rx ry h
  obtain ⟨hs,q⟩:=h
  cases x with
  | non=>
    cases rx
    cases y with
    | non=>cases ry;exact PySem.EqNone.eq_none_none (fc I q (by simp))
    | bl j=>cases ry;exact PySem.EqNone.eq_none_bool (fc I q (by simp))
    | int j=>obtain ⟨t',rfl⟩:=ry;exact PySem.EqNone.eq_none_int (fc I q (by simp))
    | str j=>obtain ⟨t',rfl⟩:=ry;exact PySem.EqNone.eq_none_str (fc I q (by simp))
    | _=>exact absurd (show false=true from hs) Bool.false_ne_true
  | bl i=>
    cases rx
    cases y with
    | non=>cases ry;exact PySem.EqNone.eq_bool_none (fc I q (by simp))
    | bl j=>cases ry;exact eq_bool (fc I q Ov)
    | str j=>obtain ⟨t',rfl⟩:=ry;exact PySem.EqMixed.eq_bool_str (fc I q (by simp))
    | _=>exact absurd (show false=true from hs) Bool.false_ne_true
  | int i=>
    obtain ⟨t,rfl⟩:=rx
    cases y with
    | non=>cases ry;exact PySem.EqNone.eq_int_none (fc I q (by simp))
    | int j=>obtain ⟨t',rfl⟩:=ry;exact eq_int (fc I q Jt)
    | str j=>obtain ⟨t',rfl⟩:=ry;exact PySem.EqMixed.eq_int_str (fc I q (by simp))
    | _=>exact absurd (show false=true from hs) Bool.false_ne_true
  | str i=>
    obtain ⟨t,rfl⟩:=rx
    cases y with
    | non=>cases ry;exact PySem.EqNone.eq_str_none (fc I q (by simp))
    | bl j=>cases ry;exact PySem.EqMixed.eq_str_bool (fc I q (by simp))
    | int j=>obtain ⟨t',rfl⟩:=ry;exact PySem.EqMixed.eq_str_int (fc I q (by simp))
    | str j=>obtain ⟨t',rfl⟩:=ry;exact eq_str (fc I q Ju)
    | _=>exact absurd (show false=true from hs) Bool.false_ne_true
  | byt i=>
    obtain ⟨t,rfl⟩:=rx
    cases y with
    | byt j=>obtain ⟨t',rfl⟩:=ry;exact PySem.W.eq_bytes (fc I q Jv)
    | _=>exact absurd (show false=true from hs) Bool.false_ne_true
  | _=>cases y <;> exact absurd (show false=true from hs) Bool.false_ne_true
theorem Ez:OpR X (compareOp .Lt) (Jr fun i j=>.bl (decide (i < j))):=Js fun _ _ _ _ _ _ _ q=>lt_int q
theorem EY:OpR X (compareOp .LtE) (Jr fun i j=>.bl (decide (i≤j))):=Js fun _ _ _ _ _ _ _ q=>le_int q
theorem w5:OpR X (compareOp .Gt) (Jr fun i j=>.bl (decide (j < i))):=Js fun _ _ _ _ _ _ _ q=>gt_int q
theorem SX:OpR X (compareOp .GtE) (Jr fun i j=>.bl (decide (j≤i))):=Js fun _ _ _ _ _ _ _ q=>ge_int q
theorem Ca:OpR X (compareOp .In) (fun x y H Q=>∃ i j,x= .str i∧y= .str j∧Q (.bl (!(Builtin.Str.occurrences j i 0 j.length 1).isEmpty)) H):=by
  intro pins s σ H x y v u Q I rx ry h
  obtain ⟨i,j,rfl,rfl,q⟩:=h
  obtain ⟨t,rfl⟩:=rx
  obtain ⟨t',rfl⟩:=ry
  exact in_str (fc I q rfl)
theorem OpR.or {f:Value→Value→Sem Value} {r r':R2} (h:OpR X f r) (h':OpR X f r'):OpR X f (fun x y H Q=>r x y H Q∨r' x y H Q):=by
  intro pins s σ H x y v u Q I rx ry q
  rcases q with q | q
  · exact h pins s σ H x y v u Q I rx ry q
  · exact h' pins s σ H x y v u Q I rx ry q
theorem bT (b:Expr) {op:CmpOp} (h:autoParam (op≠.In) L2.auto2._auto_1) (h2:autoParam (op≠.NotIn) L2.auto2._auto_1):behindInMarks op b=false:=by
  have e1:(op == CmpOp.In)=false:=by cases op <;> first | rfl | exact absurd rfl h
  have e2:(op == CmpOp.NotIn)=false:=by cases op <;> first | rfl | exact absurd rfl h2
  cases b <;> simp [behindInMarks,e1,e2]
theorem Jw {op:CmpOp} {r:R2} (ho:OpR X (compareOp op) r) (ha:PE X a ta) (hb:PE X b tb) (hm:behindInMarks op b=false):PE X (.Compare a [op] [b] pos) (Ja r ta tb):=by
  intro pins s σ H Q I h
  exact wpAny_Compare1 (Oo ha hb I h fun v u s2 x y H2 I2 rx ry q=>ho pins s2 σ H2 x y v u Q I2 rx ry q) hm
def Fb (t:TE):TT:=fun σ H Q=>t σ H fun x H'=>∃ k,x= .bl k∧Q k H'
theorem Jx {op:CmpOp} {r:R2} (ho:OpR X (compareOp op) r) (ha:PE X a ta) (hb:PE X b tb) (hm:behindInMarks op b=false):PT X (.Compare a [op] [b] pos) (Fb (Ja r ta tb)):=by
  intro pins s σ H Q I h
  refine wpAny_isTrue_Compare1 (dF (ha pins s σ H _ I h) fun v s1 ⟨x,H1,I1,r1,q1⟩=>dF (hb pins s1 σ H1 _ I1 q1) fun u s2 ⟨y,H2,I2,r2,q2⟩=>
    dF (ho pins s2 σ H2 x y v u _ I2 r1 r2 q2) fun c s3 ⟨z,H3,I3,r3,k,e,q3⟩=>?_) hm
  subst e
  cases r3
  exact wpAny_truthy_bool ⟨H3,I3,q3⟩
def yP (r r':R2) (ta tb tc:TE):TE:=fun σ H Q=>ta σ H fun x H1=>tb σ H1 fun y H2=>r x y H2 fun z H3=>∃ k,z= .bl k∧
  (if k=true then tc σ H3 fun w' H4=>r' y w' H4 Q else Q (.bl false) H3)
theorem Fd {op op':CmpOp} {r r':R2} (ho:OpR X (compareOp op) r) (ho':OpR X (compareOp op') r') (ha:PE X a ta) (hb:PE X b tb) (hc:PE X c tc)
    (hm:autoParam (lastMarks [op,op'] [b,c]=false) L2.auto5._auto_1):PE X (.Compare a [op,op'] [b,c] pos) (yP r r' ta tb tc):=by
  intro pins s σ H Q I h
  refine Compare_chain (dF (ha pins s σ H _ I h) fun v s1 ⟨x,H1,I1,r1,q1⟩=>chain_link (dF (hb pins s1 σ H1 _ I1 q1) fun u s2 ⟨y,H2,I2,r2,q2⟩=>
    dF (ho pins s2 σ H2 x y v u _ I2 r1 r2 q2) fun d s3 ⟨z,H3,I3,r3,k,e,q3⟩=>?_)) hm
  subst e
  cases r3
  refine wpAny_truthy_bool ?_
  cases k with
  | false=>exact ite_ff ⟨.bl false,H3,I3,rfl,q3⟩
  | true=>exact ite_tt (chain_last (dF (hc pins s3 σ H3 _ I3 q3) fun w' s4 ⟨z',H4,I4,r4,q4⟩=>ho' pins s4 σ H4 y z' u w' Q I4 r2 r4 q4))
theorem sI:(sizeLine:Nat) < 2 ^ 63:=by rw [sizeLine_eq];decide
theorem yQ:OpR X (binaryOp .Add) (fun x y H Q=>∃ i j,x= .str i∧y= .str j∧i.length+j.length≤sizeLine∧Q (.str (i ++ j)) H):=by
  intro pins s σ H x y v u Q I rx ry h
  obtain ⟨i,j,rfl,rfl,hz,q⟩:=h
  obtain ⟨t,rfl⟩:=rx
  obtain ⟨t',rfl⟩:=ry
  exact add_str (fun t' tk=>⟨.str (i ++ j),H,I.tok _,⟨_,rfl⟩,q⟩) hz
theorem vals1 {x:V} {us:List Value} (r:Vals [x] us):∃ u,us=[u]∧RelV x u:=by
  cases r with
  | cons r1 r2=>cases r2;exact ⟨_,rfl,r1⟩
theorem vals2 {x y:V} {us:List Value} (r:Vals [x,y] us):∃ u w',us=[u,w']∧RelV x u∧RelV y w':=by
  cases r with
  | cons r1 r2=>
    cases r2 with
    | cons r3 r4=>cases r4;exact ⟨_,_,rfl,r1,r3⟩
theorem Cd (hc:X.calm=true):CallR X (.builtin "max") (fun xs H Q=>∃ i j,xs=[.int i,.int j]∧Q (.int (if j > i then j else i)) H):=by
  intro pins s σ H xs us Q I r h
  obtain ⟨i,j,rfl,q⟩:=h
  obtain ⟨u,w',rfl,⟨t,rfl⟩,⟨t',rfl⟩⟩:=vals2 r
  refine max_two_ints (I.ok.hd hc) fun h' tk k=>⟨_,H,I.kept k,?_,q⟩
  by_cases hj:j > i
  · rw [if_pos hj,if_pos hj];exact ⟨_,rfl⟩
  · rw [if_neg hj,if_neg hj];exact ⟨_,rfl⟩
def Tc (K:PySem.W.Frag) (x:V) (H:Hp) (n:Nat):Prop:=
  match x with
  | .str y=>y.length≤sizeLine∧n=y.length
  | .byt y=>y.size≤sizeLine∧n=y.size
  | .ref p=>(∃ xs,SqL K H p xs∧n=xs.length)∨∃ xs,SqT K H p xs∧n=xs.length
  | _=>False
theorem Fe:CallR X (.builtin "len") (fun xs H Q=>∃ x n,xs=[x]∧Tc X.K x H n∧Q (.int n) H):=by
  intro pins s σ H xs us Q I r h
  obtain ⟨x,n,rfl,e,q⟩:=h
  obtain ⟨u,rfl,rx⟩:=vals1 r
  have hl:=sI
  have hs:sizeLine=16777216:=sizeLine_eq
  cases x with
  | str y=>
    obtain ⟨t,rfl⟩:=rx
    obtain ⟨hy,e'⟩:y.length≤sizeLine∧n=y.length:=e
    subst e'
    exact len_str (by omega) ⟨.int _,H,I.tok _,⟨_,rfl⟩,q⟩
  | byt y=>
    obtain ⟨t,rfl⟩:=rx
    obtain ⟨hy,e'⟩:y.size≤sizeLine∧n=y.size:=e
    subst e'
    exact PySem.W.len_bytes (by omega) ⟨.int _,H,I.tok _,⟨_,rfl⟩,q⟩
  | ref p=>
    cases rx
    have e':(∃ xs,SqL X.K H p xs∧n=xs.length)∨∃ xs,SqT X.K H p xs∧n=xs.length:=e
    rcases e' with ⟨xs,hx,e'⟩ | ⟨xs,hx,e'⟩
    · subst e'
      obtain ⟨its,r',pl,hz⟩:=I.list hx
      have hlen:=r'.length
      exact Calls.call_len_list pl.isList (by simp only [List.size_toArray];omega) ⟨.int xs.length,H,I.tok _,⟨_,by simp only [List.size_toArray];rw [hlen]⟩,q⟩
    · subst e'
      obtain ⟨its,r',pl,hz⟩:=I.tuple hx
      have hlen:=r'.length
      exact len_tuple pl (by simp only [List.size_toArray];omega) ⟨.int xs.length,H,I.tok _,⟨_,by simp only [List.size_toArray];rw [hlen]⟩,q⟩
  | _=>exact (show False from e).elim
end
end L2
namespace L2
open PySem PySem.Spec PyProof.Rows
structure ObjM (h:Heap) (x dx C:Addr) (mA:Str→Option Value):Prop where
  obj:h.get? x=some (PySem.W.instObj C dx)
  ns:h.Ns1 dx mA
  ne:dx≠x
theorem uN {h:Heap} {dx:Addr} {mA:Str→Option Value} (n:h.Ns1 dx mA):∃ od,h.get? dx=some od∧∀ name,PySem.W.lookIn name od=some (mA name):=by
  obtain ⟨o,es,ep,ho,hd,hk,_,hm⟩:=n
  refine ⟨o,ho,fun name=>?_⟩
  have e:=hm name
  unfold nsFind findBy at e
  rw [← Array.find?_toList] at e
  unfold PySem.W.lookIn
  rw [hd]
  dsimp only
  split
  · rename_i y q
    rw [q] at e
    exact congrArg some e
  · rename_i q
    rw [q] at e
    have a:es.toList.any (·.refKey)=false:=by
      rw [List.any_eq_false]
      intro y hy
      obtain ⟨z,t,hkey⟩:=hk y (Array.mem_toList_iff.mp hy)
      simp [DictEntry.refKey,hkey]
    have a':¬ es.toList.any (·.refKey)=true:=by rw [a];exact Bool.false_ne_true
    rw [if_neg a']
    exact congrArg some e
theorem ObjM.look {h:Heap} {x dx C:Addr} {mA:Str→Option Value} (I:ObjM h x dx C mA):∃ od,PySem.W.InstAt h x (PySem.W.instObj C dx) C (some od)∧∀ name,PySem.W.lookIn name od=some (mA name):=
  let ⟨od,ho,hl⟩:=uN I.ns
  ⟨od,⟨I.obj,rfl,rfl,ho⟩,hl⟩
section
variable {prog:Program} {w:World} {A:Around} {E:Value→Shared→Prop} {s:Shared} {K:PySem.W.Frag} {x dx C f:Addr} {mA:Str→Option Value} {name:Str} {v:Value}
theorem Jy {expr:Bool} {Q:Value→Shared→Prop} (X:K.In s.heap) (I:ObjM s.heap x dx C mA) (hg:PySem.W.plainGet K C name=true) (hh:PySem.W.hasDictIn K C=true)
    (ha:PySem.W.findIn K (.ref C) name=some none) (hv:mA name=some v) (hv':PySem.W.handedIn v=true) (h:Q v {s with toks:=s.toks+1}):
    wpAny (model prog w) A (getAttr (.ref x) name expr) Q E s:=by
  obtain ⟨od,J,hl⟩:=I.look
  exact PySem.W.get_value X J (PySem.W.plainGet_of hg).1 (PySem.W.findObj_own hh ha rfl (by rw [hl,hv])) hv' h
theorem Ff {pl:Sem Bool} {Q:Value×List Value→Shared→Prop} (X:K.In s.heap) (I:ObjM s.heap x dx C mA) (hg:PySem.W.plainGet K C name=true)
    (hf:PySem.W.findIn K (.ref C) name=some (some (.ref f))) (ht:PySem.W.isFn K (.ref f)=true) (hv:mA name=none) (h:Q (.ref f,[.ref x]) s):
    wpAny (model prog w) A (getMethod (.ref x) name pl) Q E s:=by
  obtain ⟨od,J,hl⟩:=I.look
  exact PySem.W.method_fn X J (PySem.W.plainGet_of hg).1 (PySem.W.plainGet_of hg).2 hf (beq_iff_eq.mp ht) (by show (PySem.W.lookIn name od).map (·.isSome)=some false;rw [hl,hv];rfl) h
theorem Jz {ns:List Str} {Q:Unit→Shared→Prop} (X:K.In s.heap) (I:ObjM s.heap x dx C mA)
    (hs:PySem.W.findIn K (.ref C) "__setattr__"=some (some (.builtin "object.__setattr__"))) (hp:PySem.W.plainOver K C=true) (ht:PySem.W.takerIn K C name=some none) (hh:PySem.W.hasDictIn K C=true)
    (hw:PySem.Within mA ns) (hsz:ns.length≤sizeLine)
    (h:∀ h',ObjM h' x dx C (fun y=>if y=name then some v else mA y)→Heap.SameBut dx s.heap h'→Q () {s with heap:=h',toks:=s.toks+2}):
    wpAny (model prog w) A (setAttr (.ref x) name v) Q E s:=by
  obtain ⟨od,J,hl⟩:=I.look
  refine PySem.W.set_plain X J hs (PySem.W.osa_open (s:={s with toks:=s.toks+1}) (r:=none) X J hp ht fun b=>?_)
  obtain ⟨cd,hc,hd'⟩:=PySem.W.any_some hh
  have hx:s.heap.get? x=some ⟨.ref C,some dx,.plain,#[]⟩:=I.obj
  refine wpAny_bind (wpAny_pure (wpAny_bind (wpAny_bind (wpAny_loadPart hx (wpAny_bind (PySem.W.Looks.here (s:={s with toks:=s.toks+1}) (PySem.W.looks_clsIn X hc) ?_))))))
  rw [hd']
  refine wpAny_pure (a:=some dx) (wpAny_bind (wpAny_pure (wpAny_bind ?_)))
  refine wpAny_nsSet1 (s:={s with toks:=s.toks+1}) I.ns fun h' hn2 hs2=>?_
  obtain ⟨oD,esD,epD,hoD,hdD,hcD⟩:=hn2.count (PySem.Within.cons name v hw)
  refine wpAny_bind (wpAny_lookBehind hoD (by rw [hdD];exact pastItsLine_dict (Nat.le_trans hcD (by rw [List.length_cons];omega))) ?_)
  exact wpAny_pure (h _ ⟨(hs2.2 _ (Ne.symm I.ne)).trans I.obj,hn2,I.ne⟩ hs2)
theorem Fg {R:Result→Shared→Prop} {vs:List Value} {kw:List (Str×Value)} (X:K.In s.heap) (hm:PySem.W.makesIn K C=true)
    (hi:PySem.W.findIn K (.ref C) "__init__"=some (some (.ref f))) (hf:PySem.W.typeIn K (.ref f)=some (.type "function"))
    (h:codeAny (model prog w) (A.under (.builtin "type.__call__" ⟨.ref C :: vs,kw⟩)) (.call (.ref f) ⟨.ref (s.heap.objs.size+1) :: vs,kw⟩) (PySem.W.InitBack (s.heap.objs.size+1) R)
      {s with heap:=(s.heap.push PySem.W.emptyDict).push (PySem.W.instObj C s.heap.objs.size)}):
    codeAny (model prog w) A (.call (.ref C) ⟨vs,kw⟩) R s:=by
  obtain ⟨hh,g,d,t,os⟩:=s
  exact PySem.W.make_core (PySem.W.makes_of X hm) (PySem.W.looks_findIn X hi) (fun self=>PySem.W.bind_fn X self hf) (.inl rfl) h
end
def jH (f:Str) (v:V):List (Str×V)→List (Str×V)
  | []=>[(f,v)]
  | (g,x) :: r=>if g=f then (g,v) :: r else (g,x) :: jH f v r
theorem mH (f g:Str) (v:V):∀ fs:List (Str×V),(jH f v fs).lookup g=if g=f then some v else fs.lookup g
  | []=>by
    show List.lookup g [(f,v)]=_
    by_cases h:g=f
    · have hb:(g == f)=true:=beq_iff_eq.mpr h
      simp only [List.lookup,hb,if_pos h]
    · have hb:(g == f)=false:=beq_eq_false_iff_ne.mpr h
      simp only [List.lookup,hb,if_neg h]
  | (k,x) :: r=>by
    have ih:=mH f g v r
    rw [show jH f v ((k,x) :: r)=(if k=f then (k,v) :: r else (k,x) :: jH f v r) from rfl]
    by_cases hk:k=f
    · rw [if_pos hk]
      by_cases h:g=k
      · have hb:(g == k)=true:=beq_iff_eq.mpr h
        simp only [List.lookup,hb,if_pos (h.trans hk)]
      · have hb:(g == k)=false:=beq_eq_false_iff_ne.mpr h
        simp only [List.lookup,hb,if_neg (fun e:g=f=>h (e.trans hk.symm))]
    · rw [if_neg hk]
      by_cases h:g=k
      · have hb:(g == k)=true:=beq_iff_eq.mpr h
        simp only [List.lookup,hb,if_neg (fun e:g=f=>hk (h.symm.trans e))]
      · have hb:(g == k)=false:=beq_eq_false_iff_ne.mpr h
        simp only [List.lookup,hb]
        exact ih
theorem pX (f:Str) (v:V):∀ fs:List (Str×V),f∈(jH f v fs).map (·.1)∧∀ g,g∈fs.map (·.1)→g∈(jH f v fs).map (·.1)
  | []=>⟨by simp [jH],fun g h=>by simp at h⟩
  | (k,x) :: r=>by
    obtain ⟨i1,i2⟩:=pX f v r
    rw [show jH f v ((k,x) :: r)=(if k=f then (k,v) :: r else (k,x) :: jH f v r) from rfl]
    by_cases hk:k=f
    · rw [if_pos hk]
      subst hk
      exact ⟨by simp,fun g h=>by simpa using h⟩
    · rw [if_neg hk]
      refine ⟨?_,fun g h=>?_⟩
      · rw [List.map_cons]
        exact List.mem_cons_of_mem _ i1
      · rw [List.map_cons] at h ⊢
        rcases List.mem_cons.mp h with e | e
        · exact List.mem_cons.mpr (.inl e)
        · exact List.mem_cons_of_mem _ (i2 g e)
theorem qI (f:Str) (v:V):∀ fs:List (Str×V),(jH f v fs).length≤fs.length+1
  | []=>by simp [jH]
  | (k,x) :: r=>by
    have ih:=qI f v r
    rw [show jH f v ((k,x) :: r)=(if k=f then (k,v) :: r else (k,x) :: jH f v r) from rfl]
    by_cases hk:k=f
    · rw [if_pos hk,List.length_cons,List.length_cons];omega
    · rw [if_neg hk,List.length_cons,List.length_cons];omega
theorem RelO.some_of {v:V} {o:Option Value} (r:RelO (some v) o):∃ u,o=some u∧RelV v u:=by
  cases o with
  | none=>exact (show False from r).elim
  | some u=>exact ⟨u,rfl,r⟩
theorem RelO.none_of {o:Option Value} (r:RelO none o):o=none:=by
  cases o with
  | none=>rfl
  | some u=>exact (show False from r).elim
theorem Ce {v:V} {u:Value} (r:RelV v u):PySem.W.handedIn u=true:=by
  cases v with
  | non=>cases (show u=Value.none from r);rfl
  | bl b=>cases (show u=Value.bool b from r);rfl
  | int i=>obtain ⟨t,e⟩:=(show ∃ t,u=Value.int i t from r);cases e;rfl
  | str x=>obtain ⟨t,e⟩:=(show ∃ t,u=Value.str x t from r);cases e;rfl
  | byt b=>obtain ⟨t,e⟩:=(show ∃ t,u=Value.bytes b t from r);cases e;rfl
  | flt b=>obtain ⟨t,e⟩:=(show ∃ t,u=Value.float b t from r);cases e;rfl
  | ref a=>cases (show u=Value.ref a from r);rfl
  | ty n=>cases (show u=Value.type n from r);rfl
section
variable {P:Program} {w:World} {H H':Hp} {h h':Heap} {a C dx:Addr} {fs fs':List (Str×V)}
theorem oV (hok:HOk P w H h) (e:H a=some (.ins C dx fs)):∃ mA,ObjM h a dx C mA∧(∀ f,RelO (fs.lookup f) (mA f))∧PySem.Within mA (fs.map (·.1))∧fs.length≤1000∧H dx=some (.own a):=by
  obtain ⟨d,z,ne,ob,mA,n,r,q⟩:=(show ObjOk P w H h a (.ins C dx fs) from hok a _ e)
  exact ⟨mA,⟨ob,n,ne⟩,r,q,z,d⟩
end
structure Cls (K:PySem.W.Frag) (C:Addr):Prop where
  pg:PySem.W.plainGet K C Str.empty=true
  hd:PySem.W.hasDictIn K C=true
  po:PySem.W.plainOver K C=true
  sa:PySem.W.findIn K (.ref C) "__setattr__"=some (some (.builtin "object.__setattr__"))
theorem Cls.get {K:PySem.W.Frag} {C:Addr} (c:Cls K C) (f:Str):PySem.W.plainGet K C f=true:=c.pg
def NoAttr (K:PySem.W.Frag) (C:Addr) (f:Str):Prop:=PySem.W.findIn K (.ref C) f=some none
theorem NoAttr.taker {K:PySem.W.Frag} {C:Addr} {f:Str} (n:NoAttr K C f):PySem.W.takerIn K C f=some none:=by
  unfold PySem.W.takerIn
  rw [show PySem.W.findIn K (.ref C) f=some none from n]
  rfl
structure Con (K:PySem.W.Frag) (C:Addr) (f:Str) (v:V) (u:Value):Prop where
  at_:PySem.W.findIn K (.ref C) f=some (some u)
  rel:RelV v u
  get:PySem.W.specialIn K u "__get__"=some none
  cp:PySem.W.copiedNames.contains f=false
structure Meth (K:PySem.W.Frag) (C:Addr) (m:Str) (f:Addr):Prop where
  at_:PySem.W.findIn K (.ref C) m=some (some (.ref f))
  fn:PySem.W.isFn K (.ref f)=true
  kp:PySem.W.keepIn K (.ref f)=true
section
variable {X:Cx} {pins:List (Addr×Obj)} {σ:St} {H:Hp} {s:Shared} {a C dx:Addr} {fs:List (Str×V)} {f:Str} {v:V} {A:Around} {E:Value→Shared→Prop}
theorem yR {b:Bool} {Q:Value→Shared→Prop} (I:Inv X pins σ H s) (e:H a=some (.ins C dx fs)) (c:Cls X.K C) (n:NoAttr X.K C f) (l:fs.lookup f=some v)
    (h:∀ u s',Inv X pins σ H s'→RelV v u→Q u s'):wpAny (model X.prog X.w) A (getAttr (.ref a) f b) Q E s:=by
  obtain ⟨mA,O,r,_,_,_⟩:=oV I.hok e
  obtain ⟨u,hu,ru⟩:=RelO.some_of (v:=v) (o:=mA f) (by rw [← l];exact r f)
  exact Jy I.kIn O (c.get f) c.hd n hu (Ce ru) (h u _ (I.tok _) ru)
theorem sJ {m:Str} {g:Addr} {pl:Sem Bool} {Q:Value×List Value→Shared→Prop} (I:Inv X pins σ H s) (e:H a=some (.ins C dx fs)) (c:Cls X.K C) (k:Meth X.K C m g) (l:fs.lookup m=none)
    (h:Q (.ref g,[.ref a]) s):wpAny (model X.prog X.w) A (getMethod (.ref a) m pl) Q E s:=by
  obtain ⟨mA,O,r,_,_,_⟩:=oV I.hok e
  have hn:mA m=none:=RelO.none_of (by rw [← l];exact r m)
  exact Ff I.kIn O (c.get m) k.at_ k.fn hn h
theorem yS {y:V} {u:Value} {Q:Unit→Shared→Prop} (I:Inv X pins σ H s) (e:H a=some (.ins C dx fs)) (c:Cls X.K C) (n:NoAttr X.K C f) (hl:fs.length < 1000) (ry:RelV y u)
    (h:∀ s',Inv X pins σ (upd H a (.ins C dx (jH f y fs))) s'→Q () s'):wpAny (model X.prog X.w) A (setAttr (.ref a) f u) Q E s:=by
  obtain ⟨mA,O,r,wi,_,ho⟩:=oV I.hok e
  have hz:(fs.map (·.1)).length≤sizeLine:=by rw [List.length_map,sizeLine_eq];omega
  refine Jz I.kIn O c.sa c.po n.taker c.hd wi hz fun h' O' sb=>h _ ?_
  have hd:∃ o,h'.get? dx=some o:=let ⟨o,_,_,e',_⟩:=O'.ns;⟨o,e'⟩
  refine I.write (x:=a) (e:=dx) (by rw [e];exact True.intro) (.inr ho) (fun b q hb z=>(sb.2 b hb).trans z) hd ?_
  refine ⟨by rw [aD O.ne];exact ho,?_,O.ne,O'.obj,_,O'.ns,fun g=>?_,fun g hg=>?_⟩
  · have:=qI f y fs;omega
  · show RelO ((jH f y fs).lookup g) (if g=f then some u else mA g)
    rw [mH]
    by_cases q:g=f
    · rw [if_pos q,if_pos q];exact ry
    · rw [if_neg q,if_neg q];exact r g
  · by_cases q:g=f
    · rw [q];exact (pX f y fs).1
    · refine (pX f y fs).2 g (wi g fun z=>hg ?_)
      show (if g=f then some u else mA g)=none
      rw [if_neg q];exact z
theorem Inv.made (I:Inv X pins σ H s):Inv X pins σ (upd (upd H s.heap.objs.size (.own (s.heap.objs.size+1))) (s.heap.objs.size+1) (.ins C s.heap.objs.size []))
    {s with heap:=(s.heap.push PySem.W.emptyDict).push (PySem.W.instObj C s.heap.objs.size)}:=by
  have e1:(s.heap.push PySem.W.emptyDict).get? s.heap.objs.size=some PySem.W.emptyDict:=Heap.get?_push_size s.heap rfl
  have e2:((s.heap.push PySem.W.emptyDict).push (PySem.W.instObj C s.heap.objs.size)).get? (s.heap.objs.size+1)=some (PySem.W.instObj C s.heap.objs.size):=by
    have:=Heap.get?_push_size (s.heap.push PySem.W.emptyDict) (o:=PySem.W.instObj C s.heap.objs.size) rfl
    rwa [Heap.size_push] at this
  have e3:(s.heap.push PySem.W.emptyDict).Ns s.heap.objs.size (fun _=>none):=⟨PySem.W.emptyDict,#[],_,e1,rfl,(fun e he=>absurd he (by simp)),fun _=>rfl⟩
  have I1:=I.laid (a:=s.heap.objs.size) (o:=.own (s.heap.objs.size+1)) (h':=s.heap.push PySem.W.emptyDict) (t':=s.toks) (fun b u q=>Heap.get?_push_of_some _ q) (Nat.le_refl _) ⟨_,e1⟩
  refine I1.laid (a:=s.heap.objs.size+1) (o:=.ins C s.heap.objs.size []) (t':=s.toks) (fun b u q=>Heap.get?_push_of_some _ q) (Nat.le_of_eq (Heap.size_push _ _)) ?_
  have ne:s.heap.objs.size≠s.heap.objs.size+1:=Nat.ne_of_lt (Nat.lt_succ_self _)
  refine ⟨by rw [aD ne,aj],Nat.zero_le _,ne,e2,fun _=>none,(Heap.Ns1.of_empty e3).at fun o q=>Heap.get?_push_of_some _ q,fun _=>True.intro,fun y hy=>absurd rfl hy⟩
theorem JC {prog:Program} {w:World} {env:Env} {e:Expr} {f:Str} {pos:Pos} {s:Shared} {Q:Value→Shared→Prop} (hb:attributeBase e f env (eval e env)=eval e env)
    (h:wpAny (model prog w) A (eval e env) (fun o s₁=>wpAny (model prog w) A (getAttr o f true) Q E s₁) E s):wpAny (model prog w) A (eval (.Attribute e f pos) env) Q E s:=
  Attribute_any_ h (by rw [arm_eval_Attribute,hb])
end
def Ow (K:PySem.W.Frag) (ta:TE) (f:Str):TE:=fun σ H Q=>ta σ H fun x H1=>∃ a C dx fs v,x= .ref a∧H1 a=some (.ins C dx fs)∧Cls K C∧NoAttr K C f∧fs.lookup f=some v∧Q v H1
def Ox (K:PySem.W.Frag) (ta tv:TE) (f:Str):TS:=fun D σ H=>tv σ H fun y H1=>ta σ H1 fun x H2=>∃ a C dx fs,x= .ref a∧H2 a=some (.ins C dx fs)∧Cls K C∧NoAttr K C f∧fs.length < 1000∧
  D.nx σ (upd H2 a (.ins C dx (jH f y fs)))
section
variable {X:Cx} {o e value:Expr} {f:Str} {pos pos' tpos:Pos} {ta tv:TE}
theorem Oz (he:PE X e ta) (hb:attributeBase e f X.env (eval e X.env)=eval e X.env):PE X (.Attribute e f pos) (Ow X.K ta f):=by
  intro pins s σ H Q I h
  refine JC hb (dF (he pins s σ H _ I h) fun u s1 qq0=>?_)
  obtain ⟨x,H1,I1,rx,a,C,dx,fs,v,ex,ea,c,n,l,q⟩:=qq0
  subst ex
  obtain rfl:u=Value.ref a:=rx
  exact yR I1 ea c n l fun u' s2 I2 ru=>⟨v,H1,I2,ru,q⟩
theorem OD (ha:PE X o ta) (hv:PE X value tv) (hs:swapsWith value (some (.Attribute o f pos')) pos.line X.env=pure false):PS X (.Assign [.Attribute o f pos'] value pos) (Ox X.K ta tv f):=by
  intro pins s σ H D I h
  refine plainObj_wpAny_Assign_Attribute (dF (hv pins s σ H _ I h) fun u s1 ⟨y,H1,I1,ry,q⟩=>dF (ha pins s1 σ H1 _ I1 q) fun ov s2 qq0=>?_) hs
  obtain ⟨x,H2,I2,rx,a,C,dx,fs,ex,ea,c,n,l,q2⟩:=qq0
  subst ex
  obtain rfl:ov=Value.ref a:=rx
  exact yS I2 ea c n l ry fun s3 I3=>⟨σ,_,I3,q2⟩
end
section
variable {X:Cx} {pins:List (Addr×Obj)} {σ:St} {H:Hp} {s:Shared} {A:Around} {E:Value→Shared→Prop} {Q:Value→Shared→Prop} {c:Value} {b:Bool}
inductive TyOf (K:PySem.W.Frag) (H:Hp):V→Value→Prop where
  | non:TyOf K H .non (.type "NoneType")
  | bl (x:Bool):TyOf K H (.bl x) (.type "bool")
  | int (i:Int):TyOf K H (.int i) (.type "int")
  | str (x:Str):TyOf K H (.str x) (.type "str")
  | flt (x:UInt64):TyOf K H (.flt x) (.type "float")
  | lst {a:Addr} {xs:List V} (e:H a=some (.lst xs)):TyOf K H (.ref a) (.type "list")
  | frz {a:Addr} {o:Obj} {xs:List V} (e:H a=some (.frz o (.lst xs))):TyOf K H (.ref a) (.type "list")
  | tup {a:Addr} {xs:List V} (e:H a=some (.tup xs)):TyOf K H (.ref a) (.type "tuple")
  | dK {a:Addr} {kvs:List (Key×V)} (e:H a=some (.dK kvs)):TyOf K H (.ref a) (.type "dict")
  | dT {a:Addr} {kvs:List (List Key×V)} (e:H a=some (.dT kvs)):TyOf K H (.ref a) (.type "dict")
  | ins {a C dx:Addr} {fs:List (Str×V)} (e:H a=some (.ins C dx fs)) (cl:Cls K C) (ha:PySem.W.findIn K (.ref C) "__class__"=some (some (.builtin "object.__class__")))
      (hn:PySem.W.specialIn K (.builtin "object.__class__") "__get__"=some (some (.builtin "getset_descriptor.__get__"))) (htk:PySem.W.takesIn K (.builtin "object.__class__")=some true)
      (hm:PySem.W.mroIn K C (.type "object")=some true):TyOf K H (.ref a) (.ref C)
theorem Cg {x:V} {u t:Value} (I:Inv X pins σ H s) (rx:RelV x u) (ty:TyOf X.K H x t) (e:PySem.W.kitOne X.K t c=some b) (h:∀ tk,Q (.bool b) {s with toks:=tk}):
    wpAny (model X.prog X.w) A (call (.builtin "isinstance") [u,c]) Q E s:=by
  cases ty with
  | non=>cases (show u=Value.none from rx);exact PySem.W.kia_one PySem.W.kitx_none I.kIn True.intro e (fun z=>nomatch z) h
  | bl y=>cases (show u=Value.bool y from rx);exact PySem.W.kia_one PySem.W.kitx_bool I.kIn True.intro e (fun z=>nomatch z) h
  | int i=>obtain ⟨t,q⟩:=(show ∃ t,u=Value.int i t from rx);cases q;exact PySem.W.kia_one PySem.W.kitx_int I.kIn True.intro e (fun z=>nomatch z) h
  | str y=>obtain ⟨t,q⟩:=(show ∃ t,u=Value.str y t from rx);cases q;exact PySem.W.kia_one PySem.W.kitx_str I.kIn True.intro e (fun z=>nomatch z) h
  | flt y=>obtain ⟨t,q⟩:=(show ∃ t,u=Value.float y t from rx);cases q;exact PySem.W.kia_one PySem.W.kitx_float I.kIn True.intro e (fun z=>nomatch z) h
  | @lst a xs ea=>
    cases (show u=Value.ref a from rx)
    obtain ⟨_,_,n,_,h1⟩:=(show ObjOk X.prog X.w H s.heap a (.lst xs) from I.hok a _ ea)
    exact PySem.W.kia_one PySem.W.kitx_list I.kIn ⟨_,h1,rfl⟩ e (fun z=>nomatch z) h
  | @frz a ob xs ea=>
    cases (show u=Value.ref a from rx)
    obtain ⟨_,_,_,n,_,h1⟩:=(show ObjOk X.prog X.w H s.heap a (.frz ob (.lst xs)) from I.hok a _ ea)
    exact PySem.W.kia_one PySem.W.kitx_list I.kIn ⟨_,h1,rfl⟩ e (fun z=>nomatch z) h
  | @tup a xs ea=>
    cases (show u=Value.ref a from rx)
    obtain ⟨_,_,_,p⟩:=(show ObjOk X.prog X.w H s.heap a (.tup xs) from I.hok a _ ea)
    obtain ⟨o,h1,h2,_⟩:=p
    exact PySem.W.kia_one PySem.W.kitx_tuple I.kIn ⟨o,h1,h2⟩ e (fun z=>nomatch z) h
  | @dK a kvs ea=>
    cases (show u=Value.ref a from rx)
    obtain ⟨_,_,vs,_,p⟩:=(show ObjOk X.prog X.w H s.heap a (.dK kvs) from I.hok a _ ea)
    obtain ⟨o,es,ep,h1,h2,_⟩:=p
    exact PySem.W.kia_one PySem.W.kitx_dict I.kIn ⟨o,h1,h2.1⟩ e (fun z=>nomatch z) h
  | @dT a kvs ea=>
    cases (show u=Value.ref a from rx)
    obtain ⟨_,_,xs,_,o,es,ep,h1,h2,_⟩:=(show ObjOk X.prog X.w H s.heap a (.dT kvs) from I.hok a _ ea)
    exact PySem.W.kia_one PySem.W.kitx_dict I.kIn ⟨o,h1,h2.1⟩ e (fun z=>nomatch z) h
  | @ins a C dx fs ea cl ha hn htk hm=>
    cases (show u=Value.ref a from rx)
    obtain ⟨mA,O,_⟩:=oV I.hok ea
    obtain ⟨od,J,_⟩:=O.look
    exact PySem.W.kia_one (PySem.W.kitx_own (cl.get _) cl.hd ha hn htk hm) I.kIn J e (fun z=>nomatch z) h
end
end L2
namespace L2
open PySem PySem.Spec PyProof.Rows
structure Room (k:Nat) (A:Around):Prop where
  hd:A.handled=none
  dp:A.depth+3*k+5 < recursionLimit
  un:A.units+16*k+200 < cLine
  gd:A.guards=some []
theorem Room.mono {j k:Nat} {A:Around} (r:Room k A) (h:j≤k):Room j A:=⟨r.hd,by have:=r.dp;omega,by have:=r.un;omega,r.gd⟩
theorem Room.deeper {k:Nat} {A:Around} (r:Room (k+1) A) (env:Env):Room k (A.deeper env):=
  ⟨r.hd,by have:=r.dp;show A.depth+1+3*k+5 < _;omega,by have:=r.un;show A.units+3+16*k+200 < _;omega,r.gd⟩
theorem yU {A:Around} {C:Addr} {us:List Value} {kw:List (Str×Value)}:(A.under (.builtin "type.__call__" ⟨.ref C :: us,kw⟩)).depth=A.depth+1:=by
  first | rfl | simp [Around.under,Code.weight,Code.isCreation,Code.isGuard,Code.isCaller,Code.frames,Code.isFrame,guardIds]
theorem yV {A:Around} {C:Addr} {us:List Value} {kw:List (Str×Value)}:(A.under (.builtin "type.__call__" ⟨.ref C :: us,kw⟩)).units=A.units+1:=by
  first | rfl | simp [Around.under,Code.cUnits,Code.frames,Code.isFrame]
theorem w6 {A:Around} {C:Addr} {us:List Value} {kw:List (Str×Value)}:(A.under (.builtin "type.__call__" ⟨.ref C :: us,kw⟩)).guards=pushGuards [] A.guards:=by
  first | rfl | simp [Around.under,Code.guards,Code.isGuard,guardIds]
theorem Room.make {k:Nat} {A:Around} (r:Room (k+1) A) (C:Addr) (us:List Value) (kw:List (Str×Value)):Room k (A.under (.builtin "type.__call__" ⟨.ref C :: us,kw⟩)):=
  ⟨r.hd,by have:=r.dp;rw [yU];omega,by have:=r.un;rw [yV];omega,(w6.trans (by rw [r.gd];rfl))⟩
theorem Room.depth {k:Nat} {A:Around} (r:Room k A):A.depth < recursionLimit:=by have:=r.dp;omega
theorem Room.units {k:Nat} {A:Around} (r:Room k A):A.units+64 < cLine:=by have:=r.un;omega
theorem Room.units0 {k:Nat} {A:Around} (r:Room k A):A.units < cLine:=by have:=r.un;omega
def JD:TA:=fun _ H Q=>Q [] H
def Am (ta:TE) (tr:TA):TA:=fun σ H Q=>ta σ H fun x H1=>tr σ H1 fun xs H2=>Q (x :: xs) H2
section
variable {X:Cx} {e:Expr} {es:List Expr} {te:TE} {t:TA} {pos:Pos}
theorem OJ:PA X [] JD:=fun _ _ _ _ H Q I h=>Calls.spliced_nil ⟨[],H,I,.nil,h⟩
theorem JF (ha:PE X e te) (hr:PA X es t) (hs:autoParam (starEach (e :: es) X.env=(false,eval e X.env) :: starEach es X.env) L2.auto4._auto_1):PA X (e :: es) (Am te t):=by
  intro pos pins s σ H Q I h
  rw [hs]
  show wpAny _ _ (spliced ((false,eval e X.env) :: backTo pos (starEach es X.env))) _ _ s
  refine Calls.spliced_cons (dF (ha pins s σ H _ I h) fun u s1 qq0=>?_)
  obtain ⟨x,H1,I1,r1,q1⟩:=qq0
  exact dF (hr pos pins s1 σ H1 _ I1 q1) fun us s2 ⟨xs,H2,I2,r2,q2⟩=>⟨x :: xs,H2,I2,.cons r1 r2,q2⟩
def JK (t:TA):TE:=fun σ H Q=>t σ H fun xs H1=>xs.length≤sizeLine∧∀ p,H1 p=none→Q (.ref p) (upd H1 p (.tup xs))
def JL (t:TA):TE:=fun σ H Q=>t σ H fun xs H1=>xs.length≤sizeLine∧∀ p,H1 p=none→Q (.ref p) (upd H1 p (.lst xs))
theorem O1 {x1} (h:PA X es t):PE X (.Tuple es x1 pos) (JK t):=by
  intro pins s σ H Q I hq
  refine wpAny_Tuple_spliced (dF (h pos pins s σ H _ I hq) fun us s1 ⟨xs,H1,I1,r,z,q⟩=>⟨by rw [← r.length];exact z,?_⟩)
  have hf:H1 s1.heap.objs.size=none:=I1.hok.fresh (Nat.le_refl _)
  refine ⟨.ref s1.heap.objs.size,upd H1 s1.heap.objs.size (.tup xs),I1.laid (t':=s1.toks) (fun b u e=>Heap.get?_push_of_some _ e) (Nat.le_refl _) ?_,rfl,q _ hf⟩
  exact ⟨z,us,r,⟨_,Heap.get?_push_size _ rfl,rfl,_,rfl⟩⟩
theorem O2 (h:PA X es t):PE X (.List es pos) (JL t):=by
  intro pins s σ H Q I hq
  refine wpAny_List_spliced (dF (h pos pins s σ H _ I hq) fun us s1 ⟨xs,H1,I1,r,z,q⟩=>⟨by rw [← r.length];exact z,?_⟩)
  have hf:H1 s1.heap.objs.size=none:=I1.hok.fresh (Nat.le_refl _)
  refine ⟨.ref s1.heap.objs.size,upd H1 s1.heap.objs.size (.lst xs),I1.laid (t':=s1.toks) (fun b u e=>Heap.get?_push_of_some _ e) (Nat.le_refl _) ?_,rfl,q _ hf⟩
  exact ⟨z,us,0,r,Heap.get?_push_size _ rfl⟩
end
abbrev Sp:=List V→Hp→VK→XK→Prop
abbrev Ed:=List Env→Hp→Shared→XK→Value→Shared→Prop
structure Env0 (P:Program) (w:World) (K:PySem.W.Frag) (mg:Str→Option Value) (base:Heap) (A:Around) (outer:List Env) (s:Shared) (H:Hp):Prop where
  frames:A.frames=some outer
  mod:Mod K mg base
  bs:∀ b o,base.get? b=some o→s.heap.get? b=some o∧H b=none
  bsz:base.objs.size≤s.heap.objs.size
  funs:s.heap.FunFrames base outer
  frf:∀ b∈frs outer,H b=none
  hok:HOk P w H s.heap
  bare:AllBare s.gens
def CE (outer:List Env) (P:Program) (w:World) (H:Hp) (s:Shared) (Q:VK) (u:Value) (s':Shared):Prop:=
  ∃ v H',s'.os=s.os∧AllBare s'.gens∧Un (frs outer) [] H H' s.heap s'.heap∧HOk P w H' s'.heap∧RelV v u∧Q v H'
def CR (CX:Ed) (outer:List Env) (P:Program) (w:World) (H:Hp) (s:Shared) (Q:VK) (E:XK) (r:Result) (s':Shared):Prop:=
  match r with
  | .ok (.ret u)=>CE outer P w H s Q u s'
  | .ok _=>False
  | .error e=>CX outer H s E e s'
structure oW (P:Program) (w:World) (K:PySem.W.Frag) (mg:Str→Option Value) (base:Heap) (CX:Ed) (k:Nat) (f:Addr) (fd:FuncData) (ps:List Str) (sp:Sp):Prop where
  len:∀ vs H Q E,sp vs H Q E→vs.length=ps.length
  run:∀ (A:Around) (outer:List Env) (s:Shared) (H:Hp) (args:Args) (us:List Value) (vs:List V) (Q:VK) (E:XK),Room k A→Env0 P w K mg base A outer s H→BindsTo s fd args (ps.zip us)→Vals vs us→sp vs H Q E→
    codeAny (model P w) A (.call (.ref f) args) (CR CX outer P w H s Q E) s
theorem Env0.make {P:Program} {w:World} {K:PySem.W.Frag} {mg:Str→Option Value} {base:Heap} {A:Around} {outer:List Env} {s:Shared} {H:Hp} (e:Env0 P w K mg base A outer s H) (C:Addr) (us:List Value) (kw:List (Str×Value)):
    Env0 P w K mg base (A.under (.builtin "type.__call__" ⟨.ref C :: us,kw⟩)) outer s H:=⟨by first | exact e.frames | (simpa [Around.under,Code.envs,Code.isFrame,pushEnvs] using e.frames),e.mod,e.bs,e.bsz,e.funs,e.frf,e.hok,e.bare⟩
section
variable {X:Cx} {pins:List (Addr×Obj)} {σ:St} {H:Hp} {s s':Shared}
theorem Inv.env0 (I:Inv X pins σ H s):Env0 X.prog X.w X.K X.mg X.base X.A X.stack s H:=
  ⟨I.ok.frames,I.ok.mod,I.bs,Nat.le_trans I.ok.bsz I.sz,I.stack,I.stkFree,I.hok,I.bare⟩
theorem Inv.after {Q:VK} {u:Value} (I:Inv X pins σ H s) (h:CE X.stack X.prog X.w H s Q u s'):EP X pins σ Q u s':=by
  obtain ⟨v,H',os,bare,un,hok,r,q⟩:=h
  obtain ⟨hh,g,d,t,os'⟩:=s'
  obtain rfl:os'=s.os:=os
  exact ⟨v,H',I.call (h':=hh) (g':=g) (d':=d) (t':=t) (ch:=[]) un hok bare (fun b z=>absurd z (by simp)),r,q⟩
end
def uO (sp:Sp) (dvs:List V) (E:XK) (t:TA):TE:=fun σ H Q=>t σ H fun vs H1=>sp (vs ++ dvs) H1 Q E
def Binds (K:PySem.W.Frag) (fd:FuncData) (ps:List Str) (ds:List Value):Prop:=
  ∀ (s:Shared) (us:List Value),K.In s.heap→(us ++ ds).length=ps.length→BindsTo s fd ⟨us,[]⟩ (ps.zip (us ++ ds))
theorem Binds.all {K:PySem.W.Frag} {fd:FuncData} {ps:List Str} (h:∀ us:List Value,us.length=ps.length→bindArgs fd ⟨us,[]⟩=pure (ps.zip us)):Binds K fd ps []:=fun s us _ hl=>by
  rw [List.append_nil] at hl ⊢
  exact .of_eq (h us hl)
def yW (CX:Ed) (X:Cx) (E:XK):Prop:=∀ (pins:List (Addr×Obj)) (σ:St) (H:Hp) (s:Shared) (e:Value) (s':Shared),Inv X pins σ H s→CX X.stack H s E e s'→X.xe e s'
section
variable {X:Cx} {CX:Ed} {k:Nat} {f C:Addr} {fd:FuncData} {ps:List Str} {sp:Sp} {dvs:List V} {ds:List Value} {E:XK} {x m:Str} {p pos apos:Pos} {e o:Expr} {es:List Expr} {ta:TE} {t:TA}
theorem O3 {pins:List (Addr×Obj)} {σ:St} {H:Hp} {s:Shared} {Q:VK} {us:List Value} {vs:List V} (F:oW X.prog X.w X.K X.mg X.base CX k f fd ps sp) (hr:Room k X.A) (hb:Binds X.K fd ps ds) (hd:Vals dvs ds) (hx:yW CX X E)
    (I:Inv X pins σ H s) (r:Vals vs us) (h:sp (vs ++ dvs) H Q E):wpAny (model X.prog X.w) X.A (call (.ref f) us) (EP X pins σ Q) X.xe s:=by
  have r2:Vals (vs ++ dvs) (us ++ ds):=r.append hd
  have hl:(us ++ ds).length=ps.length:=by rw [← r2.length];exact F.len _ _ _ _ h
  refine wpAny_call (codeAny_mono (F.run X.A X.stack s H ⟨us,[]⟩ (us ++ ds) (vs ++ dvs) Q E hr I.env0 (hb s us I.kIn hl) r2 h) fun r s' hq=>?_)
  cases r with
  | error e=>exact hx pins σ H s e s' I hq
  | ok fl=>
    cases fl with
    | ret u=>exact I.after hq
    | next=>exact False.elim hq
    | brk=>exact False.elim hq
    | cont=>exact False.elim hq
theorem JM (F:oW X.prog X.w X.K X.mg X.base CX k f fd ps sp) (hr:Room k X.A) (hg:Gl X x) (hm:X.mg x=some (.ref f)) (hk:PySem.W.keepIn X.K (.ref f)=true) (hb:Binds X.K fd ps ds) (hd:Vals dvs ds) (hx:yW CX X E)
    (ha:PA X (e :: es) t) (hdb:autoParam ((x == ("__debug__":Str))=false) L2.auto2._auto_1) (he:autoParam (starEach (e :: es) X.env=(false,eval e X.env) :: starEach es X.env) L2.auto4._auto_1) (hpl:autoParam ((backTo pos (starEach es X.env)).any (·.1)=false) L2.auto4._auto_1):
    PE X (.Call (.Name x p) (e :: es) [] pos) (uO sp dvs E t):=by
  intro pins s σ H Q I h
  refine wpAny_Call_Name_kw (oR I hg hm ?_ hdb)
  refine PySem.W.callWith_K (h₀:=X.base) I.ok.mod.kin hk (dF (ha pos pins s σ H _ I h) fun us s1 ⟨vs,H1,I1,r,q⟩=>⟨I1.kIn,?_⟩) he hpl
  exact O3 F hr hb hd hx I1 r q
structure Mk (K:PySem.W.Frag) (C f:Addr):Prop where
  makes:PySem.W.makesIn K C=true
  init:PySem.W.findIn K (.ref C) "__init__"=some (some (.ref f))
  fn:PySem.W.isFn K (.ref f)=true
  kp:PySem.W.keepIn K (.ref C)=true
end
section
variable {X:Cx} {CX:Ed} {k:Nat} {f C:Addr} {fd:FuncData} {ps ks:List Str} {sp:Sp} {E:XK} {x m:Str} {p pos apos kpos:Pos} {e o:Expr} {es:List Expr} {kws:List Keyword} {te ta:TE} {t tk:TA} {nm:Option Str}
structure KBinds (K:PySem.W.Frag) (fd:FuncData) (ps ks:List Str) (g:List Value→List Value→List Value) (gV:List V→List V→List V):Prop where
  to:∀ (s:Shared) (us ws:List Value),K.In s.heap→(g us ws).length=ps.length→BindsTo s fd ⟨us,ks.zip ws⟩ (ps.zip (g us ws))
  rel:∀ {vs:List V} {us:List Value} {zs:List V} {ws:List Value},Vals vs us→Vals zs ws→Vals (gV vs zs) (g us ws)
variable {g:List Value→List Value→List Value} {gV:List V→List V→List V}
end
structure aF (N P:List Str) (sc:Scope):Prop where
  kind:sc.kind= .function
  co:sc.isCoroutine=false
  gen:sc.isGenerator=false
  nd:N.Nodup
  pre:N.take P.length=P
  par:∀ x∈P,sc.names.lookup x=some .local∨sc.names.lookup x=some .cell
  nofree:∀ y∈sc.names,y.2≠.free
theorem uP {kindOf:Str→Option NameKind} {x:Str}:∀ {binds:List (Str×Value)} {m:Str→Option Value},(∀ v,(x,v) ∉ binds)→bindL kindOf binds m x=m x
  | [],_,_=>rfl
  | (n,v) :: r,m,h=>by
    unfold bindL
    rw [uP fun w hw=>h w (List.mem_cons_of_mem _ hw)]
    split
    · have:x≠n:=by rintro rfl;exact h v List.mem_cons_self
      simp [this]
    · rfl
theorem uQ {kindOf:Str→Option NameKind} {x:Str}:∀ {binds:List (Str×Value)} {m:Str→Option Value},(∀ v,(x,v) ∉ binds)→bindC kindOf binds m x=m x
  | [],_,_=>rfl
  | (n,v) :: r,m,h=>by
    unfold bindC
    rw [uQ fun w hw=>h w (List.mem_cons_of_mem _ hw)]
    split
    · rfl
    · have:x≠n:=by rintro rfl;exact h v List.mem_cons_self
      simp [this]
theorem uR {kindOf:Str→Option NameKind} {x:Str} {v:Value}:∀ {P:List Str} {vs:List Value} {i:Nat} {m:Str→Option Value},P.Nodup→P[i]?=some x→vs[i]?=some v→kindOf x=some .local→
    bindL kindOf (P.zip vs) m x=some v
  | [],_,_,_,_,h,_,_=>by simp at h
  | _ :: _,[],_,_,_,_,h,_=>by simp at h
  | p :: P,w :: vs,0,m,nd,h1,h2,hk=>by
    simp at h1 h2;subst h1;subst h2
    show bindL kindOf ((p,w) :: P.zip vs) m p=_
    unfold bindL
    rw [uP fun v hv=>(List.nodup_cons.mp nd).1 (List.of_mem_zip hv).1,if_pos hk]
    simp
  | p :: P,w :: vs,i+1,m,nd,h1,h2,hk=>by
    show bindL kindOf ((p,w) :: P.zip vs) m x=_
    unfold bindL
    exact uR (i:=i) (List.nodup_cons.mp nd).2 (by simpa using h1) (by simpa using h2) hk
theorem uT {kindOf:Str→Option NameKind} {x:Str} {v:Value}:∀ {P:List Str} {vs:List Value} {i:Nat} {m:Str→Option Value},P.Nodup→P[i]?=some x→vs[i]?=some v→kindOf x≠some .local→
    bindC kindOf (P.zip vs) m x=some v
  | [],_,_,_,_,h,_,_=>by simp at h
  | _ :: _,[],_,_,_,_,h,_=>by simp at h
  | p :: P,w :: vs,0,m,nd,h1,h2,hk=>by
    simp at h1 h2;subst h1;subst h2
    show bindC kindOf ((p,w) :: P.zip vs) m p=_
    unfold bindC
    rw [uQ fun v hv=>(List.nodup_cons.mp nd).1 (List.of_mem_zip hv).1,if_neg hk]
    simp
  | p :: P,w :: vs,i+1,m,nd,h1,h2,hk=>by
    show bindC kindOf ((p,w) :: P.zip vs) m x=_
    unfold bindC
    exact uT (i:=i) (List.nodup_cons.mp nd).2 (by simpa using h1) (by simpa using h2) hk
def start (N:List Str) (vs:List V):St:=vs.map some ++ List.replicate (N.length - vs.length) none
def nU (CX:Ed) (P:Program) (w:World) (K:PySem.W.Frag) (mg:Str→Option Value) (base:Heap) (N:List Str) (qual:Str) (scope:Scope) (f:Addr) (cd:Value) (A:Around) (outer:List Env) (s:Shared) (H:Hp) (E:XK):Cx where
  prog:=P
  w:=w
  K:=K
  mg:=mg
  base:=base
  A:=A.deeper (envOfC qual scope s.heap.objs.size f cd)
  N:=N
  s₀:=s
  H₀:=H
  env:=envOfC qual scope s.heap.objs.size f cd
  outer:=outer
  stack:=envOfC qual scope s.heap.objs.size f cd :: outer
  ex:=[]
  calm:=true
  fn:=fun _=>true
  pn:=[]
  xe:=fun e s'=>wpAny (model P w) (A.deeper (envOfC qual scope s.heap.objs.size f cd)) (leaving (envOfC qual scope s.heap.objs.size f cd) e) (fun _ s''=>CX outer H s E e s'') (fun e' s''=>CX outer H s E e' s'') s'
theorem xf {sc:Scope} {n:Nat} {x:Str} (h:sc.names.lookup x=some .cell):∃ c,(cellsFrom n sc.names []).lookup x=some c:=by
  have q:=PySem.W.cellsFrom_some sc.names n [] (.inl h)
  exact Option.isSome_iff_exists.mp q
theorem Ci {CX:Ed} {P:Program} {w:World} {K:PySem.W.Frag} {mg:Str→Option Value} {base:Heap} {N ps:List Str} {qual:Str} {scope:Scope} {f:Addr} {cd:Value} {A:Around} {outer:List Env} {s s1:Shared} {H:Hp} {E:XK} {us:List Value} {vs:List V}
    (S:aF N ps scope) (hd:A.handled=none) (e0:Env0 P w K mg base A outer s H) (hl:vs.length=ps.length) (r:Vals vs us)
    (x:InCallC s s.heap.objs.size (bindL (envOfC qual scope s.heap.objs.size f cd).kindOf (ps.zip us) fun _=>none) (cellsFrom (s.heap.objs.size+1) scope.names []) (bindC (envOfC qual scope s.heap.objs.size f cd).kindOf (ps.zip us) fun _=>none) s1):
    Inv (nU CX P w K mg base N qual scope f cd A outer s H E) [] (start N vs) H s1:=by
  have hpl:ps.length≤N.length:=by have:=congrArg List.length S.pre;rw [List.length_take] at this;omega
  obtain ⟨h1,tk,rfl,hk⟩:=x.done
  have noA:∀ b:Addr,b ∉ (nU CX P w K mg base N qual scope f cd A outer s H E).ex:=fun b z=>absurd (show b∈([]:List Addr) from z) (by simp)
  refine ⟨⟨e0.mod,S.kind,rfl,rfl,Nat.le_refl _,fun y z c h1 h2=>?_,fun y hy=>?_,fun y c _ h=>?_,fun _=>hd,Around.frames_deeper e0.frames,.inr ⟨rfl,rfl⟩,fun b z=>absurd z (noA b),e0.bs,e0.bsz,fun b _ _=>noA b,fun b z=>absurd z (noA b),e0.funs,e0.frf⟩,
    rfl,e0.bare,Un.kept hk,⟨_,x.toInCall.ns,fun i y v h1 h2 h3=>?_⟩,fun y c h=>⟨_,x.cell y c h⟩,e0.hok.fresh (Nat.le_refl _),fun y c h=>?_,fun p hp=>absurd (show p∈([]:List (Addr×Obj)) from hp) (by simp),e0.hok.kept hk,?_⟩
  · exact name_of_addr x.apart (PySem.mem_of_lookup h1) (PySem.mem_of_lookup h2)
  · have hy:scope.names.lookup y=some .cell∨scope.names.lookup y=some .free:=hy
    rcases hy with hy | hy
    · exact xf hy
    · exact absurd rfl (S.nofree _ (PySem.mem_of_lookup hy))
  · exact Nat.le_of_lt (x.above y c (PySem.mem_of_lookup h))
  · have hi:i < vs.length:=by
      unfold start at h2
      by_cases hi:i < vs.length
      · exact hi
      · rw [List.getElem?_append_right (by simpa using hi)] at h2
        rw [List.getElem?_replicate] at h2
        split at h2 <;> cases h2
    have ha:vs[i]?=some v:=by
      unfold start at h2
      rw [List.getElem?_append_left (by simpa using hi),List.getElem?_map] at h2
      cases e:vs[i]? with
      | none=>rw [e] at h2;cases h2
      | some a=>rw [e] at h2;cases h2;rfl
    obtain ⟨u,hu,rv⟩:=r.get ha
    have hp:ps[i]?=some y:=by
      rw [← S.pre,List.getElem?_take_of_lt (by omega)];exact h1
    have ndP:ps.Nodup:=by rw [← S.pre];exact S.nd.sublist (List.take_sublist _ _)
    refine ⟨u,rv,?_⟩
    rcases S.par y (List.mem_of_getElem? hp) with k | k
    · exact .inl ⟨k,uR ndP hp hu k⟩
    · obtain ⟨c,e⟩:=xf (n:=s.heap.objs.size+1) k
      refine .inr ⟨.inl k,c,e,?_⟩
      have q:=x.cell y c e
      rw [uT ndP hp hu (by show scope.names.lookup y≠_;rw [k];decide)] at q
      exact q
  · exact e0.hok.fresh (Nat.le_of_lt (x.above y c (PySem.mem_of_lookup h)))
  · unfold start
    show _=N.length
    rw [List.length_append,List.length_map,List.length_replicate]
    omega
theorem Fi {CX:Ed} {P:Program} {w:World} {K:PySem.W.Frag} {mg:Str→Option Value} {base:Heap} {k:Nat} {f:Addr} {name qual:Str} {params:Arguments} {body:List Stmt} {scope:Scope} {dV kV doc pm cdv ct oc:Value} {an od:Option Addr}
    {osl:Array (Option Value)} {N ps:List Str} {sp:Sp} (lk:K.lookup f=some ⟨oc,od,.func (PySem.W.fnOf name qual params body scope dV kV doc pm an cdv ct),osl⟩) (hcd:PySem.W.codeIn K cdv qual=true) (S:aF N ps scope)
    (len:∀ vs H Q E,sp vs H Q E→vs.length=ps.length)
    (hbody:∀ (A:Around) (outer:List Env) (s:Shared) (H:Hp) (vs:List V) (Q:VK) (E:XK),Room k (A.deeper (envOfC qual scope s.heap.objs.size f cdv))→sp vs H Q E→
      ∃ t,PSs (nU CX P w K mg base N qual scope f cdv A outer s H E) body t∧t {nx:=fun _ H'=>Q .non H',rt:=Q} (start N vs) H):
    oW P w K mg base CX (k+1) f (PySem.W.fnOf name qual params body scope dV kV doc pm an cdv ct) ps sp:=by
  refine ⟨len,fun A outer s H args us vs Q E hr e0 hb r hsp=>?_⟩
  have hl:=len _ _ _ _ hsp
  have KX:K.In s.heap:=e0.mod.kin.keeps fun b o e=>(e0.bs b o e).1
  have lim:s.heap.NoLimit:=e0.mod.nolimit.keeps fun b o e=>(e0.bs b o e).1
  have hkind:∀ y∈ps.zip us,scope.names.lookup y.1=some .local∨(scope.names.lookup y.1=some .cell∧((cellsFrom (s.heap.objs.size+1) scope.names []).lookup y.1).isSome=true):=fun ⟨n,v⟩ hy=>by
    rcases S.par n (List.of_mem_zip hy).1 with q | q
    · exact .inl q
    · exact .inr ⟨q,PySem.W.cellsFrom_some _ _ _ (.inl q)⟩
  refine codeAny_call_function hr.depth (KX _ _ lk) rfl S.co S.gen rfl (PySem.W.codeRec_of KX hcd) (hb _ _ _ _ ?_)
  refine wpAny_newFunctionEnv_cells S.kind hkind fun env he s1 x=>?_
  subst he
  refine ⟨lim.keeps x.toInCall.keep,codeAny_func ?_⟩
  obtain ⟨t,ht,hq⟩:=hbody A outer s H vs Q E (hr.deeper _) hsp
  have I:Inv (nU CX P w K mg base N qual scope f cdv A outer s H E) [] (start N vs) H s1:=Ci S hr.hd e0 hl r x
  refine wpAny_mono (ht [] s1 (start N vs) H _ I hq) (fun fl s' hs=>?_) fun e s' hs=>hs
  have fin:∀ {σ':St} {H':Hp} {v:V} {u:Value},Inv (nU CX P w K mg base N qual scope f cdv A outer s H E) [] σ' H' s'→RelV v u→Q v H'→CE outer P w H s Q u s':=
    fun {σ' H' v u} J rv q=>⟨v,H',J.os,J.bare,J.base,J.hok,rv,q⟩
  cases fl with
  | ret u=>
    obtain ⟨v,σ',H',J,rv,q⟩:=hs
    exact fin J rv q
  | next=>
    obtain ⟨σ',H',J,q⟩:=hs
    exact fin (v:=V.non) (u:=Value.none) J rfl q
  | brk=>
    obtain ⟨_,_,_,q⟩:=hs
    exact False.elim q
  | cont=>
    obtain ⟨_,_,_,q⟩:=hs
    exact False.elim q
end L2
namespace L2
open PySem PySem.Spec PyProof.Rows
section
variable {X:Cx} {x:Str} {p pos:Pos} {e:Expr} {es:List Expr} {t:TA} {id T:String} {r:List V→Hp→VK→Prop}
def O4 (r:List V→Hp→VK→Prop) (t:TA):TE:=fun σ H Q=>t σ H fun vs H1=>r vs H1 Q
theorem Fj (hc:CallR X (.builtin id) r) (hg:Gl X x) (hm:X.mg x=none) (hv:bootBuiltins x=some (.builtin id)) (ha:PA X (e :: es) t) (hn:autoParam (x≠"__name__") L2.auto2._auto_1) (hdb:autoParam ((x == ("__debug__":Str))=false) L2.auto2._auto_1)
    (he:autoParam (starEach (e :: es) X.env=(false,eval e X.env) :: starEach es X.env) L2.auto4._auto_1) (hpl:autoParam ((backTo pos (starEach es X.env)).any (·.1)=false) L2.auto4._auto_1):PE X (.Call (.Name x p) (e :: es) [] pos) (O4 r t):=by
  intro pins s σ H Q I h
  refine wpAny_Call_Name_kw (iH I hg hm hv ?_ hn hdb)
  exact PyProof.Rows.callWith_builtin1 (dF (ha pos pins s σ H _ I h) fun us s1 ⟨vs,H1,I1,r1,q1⟩=>hc pins s1 σ H1 vs us Q I1 r1 q1) he hpl
theorem Cj (hc:CallR X (.type T) r) (hg:Gl X x) (hm:X.mg x=none) (hv:bootBuiltins x=some (.type T)) (ha:PA X (e :: es) t) (hn:autoParam (x≠"__name__") L2.auto2._auto_1) (hdb:autoParam ((x == ("__debug__":Str))=false) L2.auto2._auto_1)
    (he:autoParam (starEach (e :: es) X.env=(false,eval e X.env) :: starEach es X.env) L2.auto4._auto_1) (hpl:autoParam ((backTo pos (starEach es X.env)).any (·.1)=false) L2.auto4._auto_1):PE X (.Call (.Name x p) (e :: es) [] pos) (O4 r t):=by
  intro pins s σ H Q I h
  refine wpAny_Call_Name_kw (iH I hg hm hv ?_ hn hdb)
  exact PyProof.Rows.callWith_type1 (dF (ha pos pins s σ H _ I h) fun us s1 ⟨vs,H1,I1,r1,q1⟩=>hc pins s1 σ H1 vs us Q I1 r1 q1) he hpl
end
end L2
namespace HT
open PySem PyProof.Rows
section
open PySem.SeqAt
open PySem.AutoSeq1 (wpAny_loadPart')
open PySem.MeetsSeq PySem.MeetsSeq2 PySem.MeetsSeq3
end
section
variable {prog:Program} {w:World} {A:Around} {E:Value→Shared→Prop} {s:Shared}
def sIx (n d:Nat):Option Int→Nat
  | none=>d
  | some v=>if v < 0 then (v+(n:Int)).toNat else min v.toNat n
theorem sIx_none (n d:Nat):sIx n d none=d:=rfl
theorem sIx_nat (n d k:Nat):sIx n d (some (k:Int))=min k n:=by
  show (if (k:Int) < 0 then ((k:Int)+(n:Int)).toNat else min (k:Int).toNat n)=min k n
  rw [if_neg (by omega),Int.toNat_natCast]
theorem sIx_le (n d:Nat) (hd:d≤n) (o:Option Int):sIx n d o≤n:=by
  cases o with
  | none=>exact hd
  | some v=>
    show (if v < 0 then (v+(n:Int)).toNat else min v.toNat n)≤n
    by_cases hv:v < 0
    · rw [if_pos hv];omega
    · rw [if_neg hv];exact Nat.min_le_right _ _
theorem clip_eq (v:Int) (n d:Nat):(if v < 0 then max (v+(n:Int)) 0 else min v (n:Int))=((sIx n d (some v):Nat):Int):=by
  show (if v < 0 then max (v+(n:Int)) 0 else min v (n:Int))=(((if v < 0 then (v+(n:Int)).toNat else min v.toNat n):Nat):Int)
  by_cases hv:v < 0
  · simp only [if_pos hv];omega
  · simp only [if_neg hv];omega
theorem yX (lo hi:Option Int) (n:Nat):Builtin.Slice.sliceAdjust lo hi 1 (n:Int)=(((sIx n 0 lo:Nat):Int),((sIx n n hi:Nat):Int)):=by
  have h1:¬ ((1:Int) < 0):=by omega
  unfold Builtin.Slice.sliceAdjust
  simp only [h1,if_false]
  refine Prod.ext ?_ ?_
  · cases lo with
    | none=>rfl
    | some v=>exact clip_eq v n 0
  · cases hi with
    | none=>rfl
    | some v=>exact clip_eq v n n
theorem yZ (i j:Nat):Builtin.Slice.slicePlaces (i:Int) (j:Int) 1=j - i:=by
  unfold Builtin.Slice.slicePlaces
  have h1:(1:Int) > 0:=by omega
  simp only [h1,if_true,Int.ediv_one]
  split <;> omega
theorem sO {v:Value} {o:Option Int} {Q:Option Int→Shared→Prop} (p:IsPart v o) (h:Q o s):wpAny (model prog w) A (Builtin.Slice.slicePartIndex v) Q E s:=by
  cases p with
  | none=>exact slicePart_none h
  | int i t=>exact slicePart_int h
theorem pY {sl:Addr} {vl vu:Value} {lo hi:Option Int} {n:Nat} {Q:Int×Int×Nat→Shared→Prop} (hs:s.heap.IsSliceOf sl vl vu .none) (pl:IsPart vl lo) (pu:IsPart vu hi)
    (h:Q (((sIx n 0 lo:Nat):Int),1,sIx n n hi - sIx n 0 lo) s):wpAny (model prog w) A (Builtin.Slice.sliceApplied (.ref sl) (pure (n:Int))) Q E s:=by
  obtain ⟨os,hos,hcs,hds⟩:=id hs
  unfold Builtin.Slice.sliceApplied Builtin.Slice.sliceFields
  refine wpAny_bind (wpAny_bind (wpAny_field hos hds (x:=vl) rfl (wpAny_bind (wpAny_field hos hds (x:=vu) rfl (wpAny_bind (wpAny_field hos hds (x:=.none) rfl (wpAny_pure ?_)))))))
  refine wpAny_bind (slicePart_none ?_)
  show wpAny _ _ (if ((1:Int) == 0)=true then _ else _) _ _ s
  rw [if_neg (by decide)]
  refine wpAny_bind (sO pl (wpAny_bind (sO pu (wpAny_bind (wpAny_pure ?_)))))
  show wpAny _ _ (match Builtin.Slice.sliceAdjust lo hi 1 (n:Int) with | (lo,hi)=>pure (lo,(1:Int),Builtin.Slice.slicePlaces lo hi 1)) _ _ s
  rw [yX lo hi n]
  show wpAny _ _ (pure (((sIx n 0 lo:Nat):Int),(1:Int),Builtin.Slice.slicePlaces ((sIx n 0 lo:Nat):Int) ((sIx n n hi:Nat):Int) 1)) _ _ s
  rw [yZ]
  exact wpAny_pure h
theorem Fl (xs:Array Value) (i k:Nat):((List.range k).filterMap fun (m:Nat)=>xs[((i:Int)+(m:Int)*1).toNat]?).toArray=((xs.toList.drop i).take k).toArray:=by
  have e:(fun (m:Nat)=>xs[((i:Int)+(m:Int)*1).toNat]?)=fun m=>xs[i+m]?:=by
    funext m
    have:((i:Int)+(m:Int)*1).toNat=i+m:=by omega
    rw [this]
  rw [e]
  have:=pick_run xs i k
  rw [List.filterMap_map] at this
  have e2:((fun x=>xs[x]?) ∘ fun x=>i+x)=fun m=>xs[i+m]?:=rfl
  rw [e2] at this
  rw [this]
theorem getItem_tuple_cut {t sl:Addr} {items:Array Value} {vl vu:Value} {lo hi:Option Int} {Q:Value→Shared→Prop} (ht:IsTup s.heap t items) (hs:s.heap.IsSliceOf sl vl vu .none) (pl:IsPart vl lo) (pu:IsPart vu hi)
    (hw:¬ (sIx items.size 0 lo=0∧sIx items.size items.size hi=items.size))
    (h:Q (.ref s.heap.objs.size) {s with heap:=s.heap.push {cls:=.type "tuple",data:=.seq ((items.toList.drop (sIx items.size 0 lo)).take (sIx items.size items.size hi - sIx items.size 0 lo)).toArray}})
    (hsz:items.size≤sizeLine):wpAny (model prog w) A (getItem (.ref t) (.ref sl)) Q E s:=by
  have htake:sizeOk (.seq ((items.toList.drop (sIx items.size 0 lo)).take (sIx items.size items.size hi - sIx items.size 0 lo)).toArray):=by
    show ((items.toList.drop (sIx items.size 0 lo)).take (sIx items.size items.size hi - sIx items.size 0 lo)).toArray.size≤sizeLine
    rw [List.size_toArray,List.length_take,List.length_drop,Array.length_toList]
    omega
  have hj:sIx items.size items.size hi≤items.size:=sIx_le _ _ (Nat.le_refl _) hi
  obtain ⟨os,hos,hcs,hds⟩:=id hs
  have hTs:s.TypeIs (.ref sl) "slice":=⟨os,hos,hcs⟩
  unfold getItem
  try with_reducible refine wpAny_holding ?_
  first | refine wpAny_bind (wpAny_pure ?_) | skip
  refine wpAny_bind (wpAny_sequenceKey ht.typeIs (by decide) ?_)
  refine wpAny_bind (wpAny_callSpecial?_slot (name:=Str.ofString "__getitem__") ht.typeIs PyProof.Rows.slot_tuple_getitem
    (wpAny_call_entry PyProof.Rows.slot_tuple_getitem ht.typeIs entry_tuple_getitem ?_ (args_tuple_getitem _ _)))
  show wpAny _ _ (Builtin.Tuple.tupleItemsOf (.ref t) >>=_) _ _ s
  refine wpAny_bind (tupleItemsOf_ ht ?_)
  refine wpAny_bind (wpAny_typeOf hTs ?_)
  rw [if_pos (by decide)]
  refine wpAny_bind (pY hs pl pu ?_)
  have hno:¬ ((((sIx items.size 0 lo:Nat):Int) == 0 && (1:Int) == 1 && (sIx items.size items.size hi - sIx items.size 0 lo) == items.size)=true):=by
    intro q
    rw [Bool.and_eq_true,Bool.and_eq_true] at q
    have q1:((sIx items.size 0 lo:Nat):Int)=0:=eq_of_beq q.1.1
    have q2:sIx items.size items.size hi - sIx items.size 0 lo=items.size:=eq_of_beq q.2
    exact hw ⟨by omega,by omega⟩
  show wpAny _ _ (if (((sIx items.size 0 lo:Nat):Int) == 0 && (1:Int) == 1 && (sIx items.size items.size hi - sIx items.size 0 lo) == items.size)=true then _ else _) _ _ s
  rw [if_neg hno,Fl]
  first
    | exact wpAny_bind (m:=Builtin.Tuple.tupleExact _) (wpAny_newObj_type (wpAny_pure ⟨_,rfl,wpAny_pure h⟩) htake)
    | exact wpAny_bind (m:=Builtin.Tuple.tupleExact _) (wpAny_newObj_type (wpAny_bind (wpAny_pure (wpAny_pure ⟨_,rfl,wpAny_pure h⟩))) htake)
    | exact wpAny_bind (wpAny_bind (m:=Builtin.Tuple.tupleExact _) (wpAny_newObj_type (wpAny_pure (wpAny_pure ⟨_,rfl,wpAny_pure h⟩)) htake))
    | exact wpAny_bind (wpAny_bind (m:=Builtin.Tuple.tupleExact _) (wpAny_newObj_type (wpAny_pure ⟨_,rfl,wpAny_pure h⟩) htake))
end
end HT
namespace L2
open PySem PySem.Spec PyProof.Rows
abbrev TO:=St→Hp→(Option Int→Hp→Prop)→Prop
def PO (X:Cx) (e:Option Expr) (t:TO):Prop:=
  ∀ (pins:List (Addr×Obj)) (s:Shared) (σ:St) (H:Hp) (Q:Option Int→Hp→Prop),Inv X pins σ H s→t σ H Q→
    wpAny (model X.prog X.w) X.A (evalPart e X.env) (fun u s'=>∃ o H',Inv X pins σ H' s'∧IsPart u o∧Q o H') X.xe s
def vB:TO:=fun _ H Q=>Q none H
def Fo (t:TE):TO:=fun σ H Q=>t σ H fun x H1=>∃ i,x= .int i∧Q (some i) H1
theorem intsAre_of {ns:List Int}:∀ {us:List Value},Vals (ns.map V.int) us→IntsAre us ns:=by
  induction ns with
  | nil=>intro us r;rw [List.map_nil] at r;cases r;exact .nil
  | cons n ns ih=>
    intro us r
    rw [List.map_cons] at r
    cases r with
    | cons r1 r2=>
      obtain ⟨t,e⟩:=r1
      subst e
      exact .cons n t (ih r2)
section
variable {X:Cx} {e:Expr} {te:TE} {lo hi:Option Expr} {tl th:TO} {pos p2:Pos}
theorem JN:PO X none vB:=by
  intro pins s σ H Q I h
  rw [evalPart_none]
  exact wpAny_pure ⟨none,H,I,.none,h⟩
theorem JP (h:PE X e te):PO X (some e) (Fo te):=by
  intro pins s σ H Q I hw
  rw [evalPart_some]
  refine dF (h pins s σ H _ I hw) fun u s1 qq0=>?_
  obtain ⟨x,H1,I1,r1,q1⟩:=qq0
  obtain ⟨i,rfl,q⟩:=q1
  obtain ⟨t,rfl⟩:=r1
  exact ⟨some i,H1,I1,.int i t,q⟩
def SlR (X:Cx) (r:V→Option Int→Option Int→Hp→VK→Prop):Prop:=
  ∀ (pins:List (Addr×Obj)) (s:Shared) (σ:St) (H:Hp) (x:V) (v vl vu:Value) (lo hi:Option Int) (sl:Addr) (Q:VK),Inv X pins σ H s→RelV x v→s.heap.IsSliceOf sl vl vu .none→IsPart vl lo→IsPart vu hi→r x lo hi H Q→
    ∃ T id,typeLookup (.type T) "__getitem__"=pure (some (.builtin id))∧s.TypeIs v T∧wpAny (model X.prog X.w) X.A (getItem v (.ref sl)) (EP X pins σ Q) X.xe s
theorem SlR.or {r r':V→Option Int→Option Int→Hp→VK→Prop} (h:SlR X r) (h':SlR X r'):SlR X (fun x lo hi H Q=>r x lo hi H Q∨r' x lo hi H Q):=by
  intro pins s σ H x v vl vu lo hi sl Q I rx hs pl pu q
  rcases q with q | q
  · exact h pins s σ H x v vl vu lo hi sl Q I rx hs pl pu q
  · exact h' pins s σ H x v vl vu lo hi sl Q I rx hs pl pu q
def tSl (r:V→Option Int→Option Int→Hp→VK→Prop) (te:TE) (tl th:TO):TE:=fun σ H Q=>te σ H fun x H1=>tl σ H1 fun l H2=>th σ H2 fun u H3=>r x l u H3 Q
theorem Fp {r:V→Option Int→Option Int→Hp→VK→Prop} (hr:SlR X r) (he:PE X e te) (hl:PO X lo tl) (hu:PO X hi th):PE X (.Subscript e (.Slice lo hi none p2) pos) (tSl r te tl th):=by
  intro pins s σ H Q I h
  refine Subscript_ (dF (he pins s σ H _ I h) fun v s1 qq0=>?_)
  obtain ⟨x,H1,I1,r1,q1⟩:=qq0
  refine wpAny_Slice (dF (hl pins s1 σ H1 _ I1 q1) fun vl s2 ⟨l,H2,I2,pl,q2⟩=>dF (hu pins s2 σ H2 _ I2 q2) fun vu s3 qq0=>?_)
  obtain ⟨u,H3,I3,pu,q3⟩:=qq0
  rw [evalPart_none]
  refine wpAny_pure ?_
  have I4:Inv X pins σ H3 {s3 with heap:=s3.heap.push {cls:=.type "slice",data:=.fields #[vl,vu,.none]}}:=I3.kept (t':=s3.toks) fun b ob q=>Heap.get?_push_of_some _ q
  obtain ⟨T,id,hT,ht,hg⟩:=hr pins {s3 with heap:=s3.heap.push {cls:=.type "slice",data:=.fields #[vl,vu,.none]}} σ H3 x v vl vu l u s3.heap.objs.size Q I4 r1 (Heap.IsSliceOf.new ..) pl pu q3
  show wpAny (model X.prog X.w) X.A (subscriptTail e (.Slice lo hi none p2) v (.ref s3.heap.objs.size)) (EP X pins σ Q) X.xe {s3 with heap:=s3.heap.push {cls:=.type "slice",data:=.fields #[vl,vu,.none]}}
  exact tail_any (ops:=[.ref s3.heap.objs.size,v]) ht hT hg (by with_unfolding_all rfl)
def nY (xs:List V) (lo hi:Option Int):List V:=(xs.drop (HT.sIx xs.length 0 lo)).take (HT.sIx xs.length xs.length hi - HT.sIx xs.length 0 lo)
theorem qJ (xs:List V) (lo hi:Option Int):(nY xs lo hi).length≤xs.length:=by
  unfold nY
  rw [List.length_take,List.length_drop]
  omega
def Td (K:PySem.W.Frag):V→Option Int→Option Int→Hp→VK→Prop:=fun x lo hi H Q=>∃ a xs,x= .ref a∧SqT K H a xs∧
  ¬ (HT.sIx xs.length 0 lo=0∧HT.sIx xs.length xs.length hi=xs.length)∧∀ p,H p=none→Q (.ref p) (upd H p (.tup (nY xs lo hi)))
theorem O5:SlR X (Td X.K):=by
  intro pins s σ H x v vl vu lo hi sl Q I rx hs pl pu h
  obtain ⟨a,xs,rfl,hx,hw,q⟩:=h
  cases rx
  obtain ⟨its,r,ht,hz⟩:=I.tuple hx
  have hlen:its.toArray.size=xs.length:=by rw [List.size_toArray];exact r.length.symm
  refine ⟨"tuple",_,PyProof.Rows.slot_tuple_getitem.lookup,ht.typeIs,?_⟩
  refine HT.getItem_tuple_cut ht hs pl pu (by rw [hlen];exact hw) ?_ (by rw [hlen];exact hz)
  rw [hlen]
  refine ⟨.ref s.heap.objs.size,_,I.laid (t':=s.toks) (o:=.tup (nY xs lo hi)) (fun b ob q=>Heap.get?_push_of_some _ q) (Nat.le_refl _) ?_,rfl,q _ (I.hok.fresh (Nat.le_refl _))⟩
  exact ⟨Nat.le_trans (qJ xs lo hi) hz,_,(r.drop (HT.sIx xs.length 0 lo)).take (HT.sIx xs.length xs.length hi - HT.sIx xs.length 0 lo),IsTup.new _ _⟩
end
end L2
namespace L2
open PySem PySem.Spec PyProof.Rows
def Fq (n:Nat) (i:Int):Option Nat:=if 0≤i then (if i < n then some i.toNat else none) else if -(n:Int)≤i then some (i+n).toNat else none
def vC {α:Type} (xs:List α) (i:Int):Option α:=(Fq xs.length i).bind fun j=>xs[j]?
theorem An {n:Nat} {i:Int} {j:Nat} (h:Fq n i=some j):seqIndex? i n=some j∧j < n∧-(n:Int)≤i∧i < n:=by
  unfold Fq at h
  by_cases h0:0≤i
  · rw [if_pos h0] at h
    by_cases h1:i < n
    · rw [if_pos h1] at h
      have e:i.toNat=j:=Option.some.inj h
      exact ⟨by rw [seqIndex_of h0 h1,e],by omega,by omega,h1⟩
    · rw [if_neg h1] at h;cases h
  · rw [if_neg h0] at h
    by_cases h1: -(n:Int)≤i
    · rw [if_pos h1] at h
      have e:(i+n).toNat=j:=Option.some.inj h
      exact ⟨by rw [seqIndex_neg (by omega) h1,e],by omega,h1,by omega⟩
    · rw [if_neg h1] at h;cases h
theorem vD {α:Type} {xs:List α} {i:Int} {v:α} (h:vC xs i=some v):∃ j,seqIndex? i xs.length=some j∧xs[j]?=some v∧j < xs.length∧-(xs.length:Int)≤i∧i < xs.length:=by
  unfold vC at h
  cases e:Fq xs.length i with
  | none=>rw [e] at h;cases h
  | some j=>
    rw [e] at h
    obtain ⟨h1,h2,h3,h4⟩:=An e
    exact ⟨j,h1,h,h2,h3,h4⟩
theorem dO {α:Type} {xs:List α} {j:Nat} {v:α} (h:xs[j]?=some v):vC xs (j:Int)=some v:=by
  have hj:j < xs.length:=(List.getElem?_eq_some_iff.mp h).1
  have e:Fq xs.length (j:Int)=some j:=by
    unfold Fq
    rw [if_pos (by omega),if_pos (by omega)];simp
  unfold vC;rw [e];exact h
def Ao (b:Expr):Prop:=∀ o i,subscripted b false o i=operate [o,i] (getItem o i)
def IxR (X:Cx) (r:R2):Prop:=
  ∀ (value slice:Expr) (pins:List (Addr×Obj)) (s:Shared) (σ:St) (H:Hp) (x y:V) (v u:Value) (Q:VK),Inv X pins σ H s→RelV x v→RelV y u→r x y H Q→
    subscripted slice false v u=operate [v,u] (getItem v u)→wpAny (model X.prog X.w) X.A (subscriptTail value slice v u) (EP X pins σ Q) X.xe s
def Te (X:Cx) (id:String) (r:V→List V→Hp→VK→Prop):Prop:=
  ∀ (pins:List (Addr×Obj)) (s:Shared) (σ:St) (H:Hp) (x:V) (xs:List V) (v:Value) (us:List Value) (Q:VK),Inv X pins σ H s→RelV x v→Vals xs us→r x xs H Q→
    wpAny (model X.prog X.w) X.A (call (.builtin id) (v :: us)) (EP X pins σ Q) X.xe s
section
variable {X:Cx} {a b:Expr} {ta tb:TE} {pos:Pos}
theorem IxR.or {r r':R2} (h:IxR X r) (h':IxR X r'):IxR X (fun x y H Q=>r x y H Q∨r' x y H Q):=by
  intro value slice pins s σ H x y v u Q I rx ry q hs
  rcases q with q | q
  · exact h value slice pins s σ H x y v u Q I rx ry q hs
  · exact h' value slice pins s σ H x y v u Q I rx ry q hs
theorem Tf {r:R2} (hr:IxR X r) (ha:PE X a ta) (hb:PE X b tb) (hs:Ao b):PE X (.Subscript a b pos) (Ja r ta tb):=by
  intro pins s σ H Q I h
  exact Subscript_ (Oo ha hb I h fun v u s2 x y H2 I2 rx ry q=>hr a b pins s2 σ H2 x y v u Q I2 rx ry q (hs _ _))
def Tg (K:PySem.W.Frag):R2:=fun x y H Q=>∃ p xs i v,x= .ref p∧y= .int i∧SqL K H p xs∧vC xs i=some v∧Q v H
def Th (K:PySem.W.Frag):R2:=fun x y H Q=>∃ p xs i v,x= .ref p∧y= .int i∧SqT K H p xs∧vC xs i=some v∧Q v H
def Ti:R2:=fun x y H Q=>∃ z i c,x= .str z∧y= .int i∧z.length≤sizeLine∧vC z.cps.toList i=some c∧Q (.str ⟨#[c]⟩) H
theorem JQ:IxR X (Tg X.K):=by
  intro value slice pins s σ H x y v u Q I rx ry h hs
  obtain ⟨p,xs,i,z,rfl,rfl,hq,he,q⟩:=h
  cases rx
  obtain ⟨t,rfl⟩:=ry
  obtain ⟨its,r,pl,hz⟩:=I.list hq
  obtain ⟨j,h1,h2,h3,h4,h5⟩:=vD he
  obtain ⟨w,ew,rw'⟩:=r.get h2
  have hl:=r.length
  have hn:=sI
  have fin:EP X pins σ Q w s:=⟨z,H,I,rw',q⟩
  by_cases h0:0≤i
  · have hj:i.toNat=j:=by
      rw [seqIndex_of h0 h5] at h1
      exact Option.some.inj h1
    exact item_listR pl.isList h0 (by omega) (by rw [hj];simpa using ew) fin hs
  · have hj:(i+(its.toArray.size:Int)).toNat=j:=by
      rw [seqIndex_neg (by omega) h4] at h1
      rw [List.size_toArray,← hl]
      exact Option.some.inj h1
    exact subscriptTail_builtinR (x:=w) pl.isList.typeIs slot_list_getitem.lookup
      (wpAny_getItem_list_neg (Q:=fun r s'=>r=w∧EP X pins σ Q r s') pl.isList (by omega) (by rw [List.size_toArray] <;> omega) (by omega) (by rw [hj];simpa using ew) ⟨rfl,fin⟩) hs
theorem O6:IxR X (Th X.K):=by
  intro value slice pins s σ H x y v u Q I rx ry h hs
  obtain ⟨p,xs,i,z,rfl,rfl,hq,he,q⟩:=h
  cases rx
  obtain ⟨t,rfl⟩:=ry
  obtain ⟨its,r,pl,hz⟩:=I.tuple hq
  obtain ⟨j,h1,h2,h3,h4,h5⟩:=vD he
  obtain ⟨w,ew,rw'⟩:=r.get h2
  have hl:=r.length
  have hn:=sI
  have fin:EP X pins σ Q w s:=⟨z,H,I,rw',q⟩
  exact subscriptTail_builtinR (x:=w) pl.typeIs slot_tuple_getitem.lookup
    (getItem_tuple (j:=j) (Q:=fun r s'=>r=w∧EP X pins σ Q r s') pl (by omega) (by omega) (by rw [List.size_toArray,← hl];exact h1) (by simpa using ew) ⟨rfl,fin⟩) hs
theorem O7:IxR X Ti:=by
  intro value slice pins s σ H x y v u Q I rx ry h hs
  obtain ⟨z,i,c,rfl,rfl,hz,he,q⟩:=h
  obtain ⟨t,rfl⟩:=rx
  obtain ⟨t',rfl⟩:=ry
  obtain ⟨j,h1,h2,h3,h4,h5⟩:=vD he
  have hl:z.cps.toList.length=z.length:=by simp [Str.length]
  rw [hl] at h1 h4 h5
  have hn:=sI
  exact tail_any (typeIs_str s z t) slot_str_getitem.lookup (getItem_str (c:=c) (by
    have e1:decide (i < -(2 ^ 63:Int))=false:=decide_eq_false (by omega)
    have e2:decide (i≥2 ^ 63)=false:=decide_eq_false (by omega)
    rw [e1,e2,Bool.or_false]) (by rw [h1];simpa using h2) ⟨.str ⟨#[c]⟩,H,I.tok _,⟨_,rfl⟩,q⟩) hs
def O8 (K:PySem.W.Frag):R2:=fun x y H Q=>Tg K x y H Q∨Th K x y H Q∨Ti x y H Q
theorem O9:IxR X (O8 X.K):=JQ.or (O6.or O7)
theorem za (its:List Value) (n j:Nat) (u:Value):Obj.mapSeq (·.setIfInBounds j u) {cls:=.type "list",data:=.seq its.toArray n}={cls:=.type "list",data:=.seq (its.set j u).toArray n}:=by
  simp [Obj.mapSeq]
theorem Inv.lst {pins:List (Addr×Obj)} {σ:St} {H:Hp} {s:Shared} {p:Addr} {xs:List V} (I:Inv X pins σ H s) (h:H p=some (.lst xs)):
    ∃ (its:List Value) (n:Nat),Vals xs its∧s.heap.get? p=some {cls:=.type "list",data:=.seq its.toArray n}∧xs.length≤sizeLine:=by
  obtain ⟨z,its,n,r,e⟩:=I.hok p _ h
  exact ⟨its,n,r,e,z⟩
theorem Inv.lstUpd {pins:List (Addr×Obj)} {σ:St} {H:Hp} {s:Shared} {p:Addr} {xs ys:List V} {its its':List Value} {n n':Nat} {f:Obj→Obj} (I:Inv X pins σ H s) (h:H p=some (.lst xs))
    (ho:s.heap.get? p=some {cls:=.type "list",data:=.seq its.toArray n}) (hf:f {cls:=.type "list",data:=.seq its.toArray n}={cls:=.type "list",data:=.seq its'.toArray n'}) (r:Vals ys its') (hz:ys.length≤sizeLine) (t:Nat):
    Inv X pins σ (upd H p (.lst ys)) {s with heap:=s.heap.update p f,toks:=t}:=by
  have e:(s.heap.update p f).get? p=some {cls:=.type "list",data:=.seq its'.toArray n'}:=by
    rw [Heap.get?_update_self f ho (by rw [hf] <;> rfl),hf]
  refine I.write (x:=p) (e:=p) (by rw [h];trivial) (.inl rfl) (fun b u hb q=>(Heap.get?_update_other _ _ (Ne.symm hb)).trans q) ⟨_,e⟩ ?_
  exact ⟨hz,its',n',r,e⟩
def xg:V→V→V→Hp→(Hp→Prop)→Prop:=fun o i v H Q=>∃ p xs k j,o= .ref p∧i= .int k∧H p=some (.lst xs)∧Fq xs.length k=some j∧Q (upd H p (.lst (xs.set j v)))
theorem set_list:Jk X xg:=by
  intro pins s σ H o i v ov iv u Q I ro ri rv h
  obtain ⟨p,xs,k,j,rfl,rfl,hp,hj,q⟩:=h
  cases ro
  obtain ⟨t,rfl⟩:=ri
  obtain ⟨its,n,r,ho,hz⟩:=I.lst hp
  obtain ⟨h1,h2,h3,h4⟩:=An hj
  have hl:=r.length
  have hn:=sI
  have I':Inv X pins σ (upd H p (.lst (xs.set j v))) {s with heap:=s.heap.update p (Obj.mapSeq (·.setIfInBounds j u))}:=
    I.lstUpd hp ho (za its n j u) (r.set rv j) (by rw [List.length_set];exact hz) s.toks
  by_cases h0:0≤k
  · have hk:k.toNat=j:=by
      rw [seqIndex_of h0 h4] at h1
      exact Option.some.inj h1
    exact PySem.W.ki_setAt ho h0 (by omega) (by rw [List.size_toArray,← hl];exact h4) (by rw [hk];exact ⟨_,I',q⟩)
  · have hk:(k+(its.toArray.size:Int)).toNat=j:=by
      rw [seqIndex_neg (by omega) h3] at h1
      rw [List.size_toArray,← hl]
      exact Option.some.inj h1
    exact PySem.W.ki_setBack ho (by omega) (by rw [List.size_toArray,← hl];exact h3) (by omega) (by rw [hk];exact ⟨_,I',q⟩)
theorem vG (lo hi:Option Int) (n:Nat):(sliceBounds lo hi none n).1=((HT.sIx n 0 lo:Nat):Int)∧(sliceBounds lo hi none n).2.1=((HT.sIx n n hi:Nat):Int)∧(sliceBounds lo hi none n).2.2=1:=by
  refine ⟨?_,?_,rfl⟩
  · cases lo with
    | none=>simp [sliceBounds,HT.sIx]
    | some i=>
      simp only [sliceBounds,HT.sIx,Option.getD_none,show (1:Int) > 0 by decide,if_true]
      by_cases h:i < 0
      · simp only [h,if_true] <;> omega
      · simp only [h,if_false] <;> omega
  · cases hi with
    | none=>simp [sliceBounds,HT.sIx]
    | some i=>
      simp only [sliceBounds,HT.sIx,Option.getD_none,show (1:Int) > 0 by decide,if_true]
      by_cases h:i < 0
      · simp only [h,if_true] <;> omega
      · simp only [h,if_false] <;> omega
theorem uw (its:List Value) (lo hi:Option Int):slicePick its.toArray lo hi none=((its.drop (HT.sIx its.length 0 lo)).take (HT.sIx its.length its.length hi - HT.sIx its.length 0 lo)).toArray:=by
  obtain ⟨h1,h2,h3⟩:=vG lo hi its.toArray.size
  unfold slicePick
  rw [h1,h2,h3]
  simp only [sliceRange_one,pick_run,List.size_toArray] <;> rfl
def Tj (K:PySem.W.Frag):V→Option Int→Option Int→Hp→VK→Prop:=fun x lo hi H Q=>∃ a xs,x= .ref a∧SqL K H a xs∧∀ p,H p=none→Q (.ref p) (upd H p (.lst (nY xs lo hi)))
theorem JR:SlR X (Tj X.K):=by
  intro pins s σ H x v vl vu lo hi sl Q I rx hs pl pu h
  obtain ⟨a,xs,rfl,hx,q⟩:=h
  cases rx
  obtain ⟨its,r,ht,hz⟩:=I.list hx
  have hlen:=r.length
  refine ⟨"list",_,slot_list_getitem.lookup,ht.isList.typeIs,?_⟩
  refine wpAny_getItem_list_slice ht.isList hs pl pu .none (by simp) ?_ (by rw [List.size_toArray] <;> omega)
  rw [uw,← hlen]
  refine ⟨.ref s.heap.objs.size,_,I.laid (t':=s.toks) (o:=.lst (nY xs lo hi)) (fun b ob q=>Heap.get?_push_of_some _ q) (Nat.le_refl _) ?_,rfl,q _ (I.hok.fresh (Nat.le_refl _))⟩
  exact ⟨Nat.le_trans (qJ xs lo hi) hz,_,0,(r.drop (HT.sIx xs.length 0 lo)).take (HT.sIx xs.length xs.length hi - HT.sIx xs.length 0 lo),Heap.get?_push_size _ rfl⟩
def j9:V→Bool
  | .non=>true
  | .bl _=>true
  | .int _=>true
  | .str _=>true
  | _=>false
def Aq:V→V→Bool
  | .non,.non=>true
  | .bl a,.bl b=>a == b
  | .bl a,.int b=>(if a then 1 else 0) == b
  | .int a,.bl b=>a == (if b then 1 else 0)
  | .int a,.int b=>a == b
  | .str a,.str b=>a == b
  | _,_=>false
theorem vH {A:Around} {s:Shared} {y x:V} {u v:Value} (ry:RelV y u) (rx:RelV x v) (fy:j9 y=true) (fx:j9 x=true):SeqAt.EqAt A s u v (Aq y x):=by
  cases y with
  | non=>
    cases ry
    cases x with
    | non=>cases rx;exact SeqAt.EqAt.same _
    | bl b=>cases rx;exact SeqAt.EqAt.none_bool b
    | int b=>obtain ⟨t,rfl⟩:=rx;exact SeqAt.EqAt.none_int b t
    | str b=>obtain ⟨t,rfl⟩:=rx;exact SeqAt.EqAt.none_str b t
    | _=>exact absurd (show false=true from fx) Bool.false_ne_true
  | bl a=>
    cases ry
    cases x with
    | non=>cases rx;exact SeqAt.EqAt.bool_none a
    | bl b=>cases rx;exact SeqAt.EqAt.bool_bool a b
    | int b=>obtain ⟨t,rfl⟩:=rx;exact SeqAt.EqAt.bool_int a b t
    | str b=>obtain ⟨t,rfl⟩:=rx;exact SeqAt.EqAt.bool_str a b t
    | _=>exact absurd (show false=true from fx) Bool.false_ne_true
  | int a=>
    obtain ⟨t',rfl⟩:=ry
    cases x with
    | non=>cases rx;exact SeqAt.EqAt.int_none a t'
    | bl b=>cases rx;exact SeqAt.EqAt.int_bool a t' b
    | int b=>obtain ⟨t,rfl⟩:=rx;exact SeqAt.EqAt.int_int a t' b t
    | str b=>obtain ⟨t,rfl⟩:=rx;exact SeqAt.EqAt.int_str a t' b t
    | _=>exact absurd (show false=true from fx) Bool.false_ne_true
  | str a=>
    obtain ⟨t',rfl⟩:=ry
    cases x with
    | non=>cases rx;exact SeqAt.EqAt.str_none a t'
    | bl b=>cases rx;exact SeqAt.EqAt.str_bool a t' b
    | int b=>obtain ⟨t,rfl⟩:=rx;exact SeqAt.EqAt.str_int a t' b t
    | str b=>obtain ⟨t,rfl⟩:=rx;exact SeqAt.EqAt.str_str a t' b t
    | _=>exact absurd (show false=true from fx) Bool.false_ne_true
  | _=>exact absurd (show false=true from fy) Bool.false_ne_true
def JV (x:V) (u:Value):Bool:=match u with
  | .none=>Aq .non x
  | .bool b=>Aq (.bl b) x
  | .int i _=>Aq (.int i) x
  | .str z _=>Aq (.str z) x
  | _=>false
theorem Ft {x y:V} {u:Value} (r:RelV y u) (f:j9 y=true):JV x u=Aq y x:=by
  cases y with
  | non=>cases r;rfl
  | bl b=>cases r;rfl
  | int i=>obtain ⟨t,rfl⟩:=r;rfl
  | str z=>obtain ⟨t,rfl⟩:=r;rfl
  | _=>exact absurd (show false=true from f) Bool.false_ne_true
theorem vI {x:V}:∀ {xs:List V} {us:List Value},Vals xs us→xs.all j9=true→us.any (JV x)=xs.any fun y=>Aq y x
  | _,_,.nil,_=>rfl
  | y :: xs,u :: us,.cons r t,f=>by
    rw [List.all_cons,Bool.and_eq_true] at f
    rw [List.any_cons,List.any_cons,Ft r f.1,vI t f.2]
theorem sS {A:Around} {s:Shared} {x:V} {v:Value} (rx:RelV x v) (fx:j9 x=true):∀ {xs:List V} {us:List Value},Vals xs us→xs.all j9=true→∀ u∈us,SeqAt.EqAt A s u v (JV x u)
  | _,_,.nil,_=>fun u hu=>by cases hu
  | y :: xs,u :: us,.cons r t,f=>fun u' hu=>by
    rw [List.all_cons,Bool.and_eq_true] at f
    rcases List.mem_cons.mp hu with rfl | hu
    · rw [Ft r f.1];exact vH r rx f.1 fx
    · exact sS rx fx t f.2 u' hu
def inV (x:V) (xs:List V):Bool:=xs.any fun y=>Aq y x
def rIn (K:PySem.W.Frag) (neg:Bool):R2:=fun x y H Q=>∃ p xs,y= .ref p∧(SqL K H p xs∨SqT K H p xs)∧j9 x=true∧xs.all j9=true∧Q (.bl (if neg then !inV x xs else inV x xs)) H
theorem Ck:OpR X (compareOp .In) (rIn X.K false):=by
  intro pins s σ H x y v u Q I rx ry h
  obtain ⟨p,xs,rfl,hq,fx,fs,q⟩:=h
  cases ry
  rcases hq with hq | hq
  · obtain ⟨its,r,pl,hz⟩:=I.list hq
    refine SeqAt.in_listAt (JV x) pl.isList (fun w hw=>sS rx fx r fs w (by simpa using hw)) ⟨.bl _,H,I,rfl,?_⟩
    rw [show its.toArray.any (JV x)=its.any (JV x) by simp,vI r fs]
    exact q
  · obtain ⟨its,r,pl,hz⟩:=I.tuple hq
    refine SeqAt.in_tupleAt (JV x) pl (fun w hw=>sS rx fx r fs w (by simpa using hw)) ⟨.bl _,H,I,rfl,?_⟩
    rw [show its.toArray.any (JV x)=its.any (JV x) by simp,vI r fs]
    exact q
theorem CallR.or {f:Value} {r r':List V→Hp→VK→Prop} (h:CallR X f r) (h':CallR X f r'):CallR X f (fun xs H Q=>r xs H Q∨r' xs H Q):=by
  intro pins s σ H xs us Q I rs q
  rcases q with q | q
  · exact h pins s σ H xs us Q I rs q
  · exact h' pins s σ H xs us Q I rs q
theorem vJ:CallR X (.type "list") (fun xs H Q=>∃ p ys,xs=[.ref p]∧(SqL X.K H p ys∨SqT X.K H p ys)∧∀ l,H l=none→Q (.ref l) (upd H l (.lst ys))):=by
  intro pins s σ H xs us Q I r h
  obtain ⟨p,ys,rfl,hq,q⟩:=h
  obtain ⟨u,rfl,rx⟩:=vals1 r
  cases rx
  have fin:∀ (its:List Value),Vals ys its→ys.length≤sizeLine→∀ (h':Heap) (c':Nat),(∀ b o',s.heap.get? b=some o'→h'.get? b=some o')→
      h'.get? s.heap.objs.size=some {cls:=.type "list",dict:=none,data:=.seq its.toArray c',slots:=#[]}→EP X pins σ Q (.ref s.heap.objs.size) {s with heap:=h'}:=fun its r' hz h' c' kp e=>
    ⟨.ref s.heap.objs.size,_,I.laid (t':=s.toks) kp (Nat.le_refl _) (show ObjOk X.prog X.w _ h' _ (.lst ys) from ⟨hz,its,c',r',e⟩),rfl,q _ (I.hok.fresh (Nat.le_refl _))⟩
  rcases hq with hq | hq
  · obtain ⟨its,r',pl,hz⟩:=I.list hq
    have hlen:=r'.length
    obtain ⟨o,ho,hc,n,hd⟩:=pl.isList
    exact call_list_seq p (.inl rfl) ho hc hd (fun h' c' kp e=>fin its r' hz h' c' kp e) (by simp only [List.size_toArray] <;> omega)
  · obtain ⟨its,r',pl,hz⟩:=I.tuple hq
    have hlen:=r'.length
    obtain ⟨o,ho,hc,n,hd⟩:=pl
    exact call_list_seq p (.inr rfl) ho hc hd (fun h' c' kp e=>fin its r' hz h' c' kp e) (by simp only [List.size_toArray] <;> omega)
def tyV (K:PySem.W.Frag) (T:String) (x:V) (H:Hp):Prop:=match x with
  | .str _=>T="str"
  | .int _=>T="int"
  | .ref p=>(T="list"∧∃ xs,SqL K H p xs)∨(T="tuple"∧∃ o,K.lookup p=some o∧o.cls= .type "tuple"∧o.dict=none)∨
      (T="dict"∧((∃ kvs,H p=some (.dK kvs))∨∃ kvs,H p=some (.dT kvs)))∨(T="set"∧∃ S n,H p=some (.set S n))
  | _=>False
theorem Pa {pins:List (Addr×Obj)} {σ:St} {H:Hp} {s:Shared} {T:String} {x:V} {v:Value} (I:Inv X pins σ H s) (r:RelV x v) (ty:tyV X.K T x H):
    s.TypeIs v T∧∀ a,v= .ref a→∃ ob,s.heap.get? a=some ob∧ob.dict=none:=by
  cases x with
  | str z=>
    obtain ⟨t,rfl⟩:=r
    cases (show T="str" from ty)
    exact ⟨typeIs_str s z t,fun _ e=>nomatch e⟩
  | int i=>
    obtain ⟨t,rfl⟩:=r
    cases (show T="int" from ty)
    exact ⟨typeIs_int s i t,fun _ e=>nomatch e⟩
  | ref p=>
    cases r
    rcases ty with ⟨rfl,xs,hq⟩ | ⟨rfl,o,hk,hc,hd⟩ | ⟨rfl,hk⟩ | ⟨rfl,S,n,hk⟩
    · obtain ⟨its,_,pl,_⟩:=I.list hq
      refine ⟨pl.isList.typeIs,fun a e=>?_⟩
      cases e
      obtain ⟨o,n,e,c,hd,_⟩:=pl
      exact ⟨o,e,hd⟩
    · refine ⟨⟨o,I.kIn p o hk,hc⟩,fun a e=>?_⟩
      cases e
      exact ⟨o,I.kIn _ o hk,hd⟩
    · have z:∃ o,s.heap.get? p=some o∧o.ExactDict:=by
        rcases hk with ⟨kvs,hk⟩ | ⟨kvs,hk⟩
        · obtain ⟨_,_,_,_,o,_,_,e,ex,_⟩:=I.hok p _ hk
          exact ⟨o,e,ex⟩
        · obtain ⟨_,_,_,_,o,_,_,e,ex,_⟩:=I.hok p _ hk
          exact ⟨o,e,ex⟩
      obtain ⟨o,e,ex⟩:=z
      refine ⟨⟨o,e,ex.1⟩,fun a e2=>?_⟩
      cases e2
      exact ⟨o,e,ex.2.1⟩
    · obtain ⟨o,_,_,_,e,ex,_⟩:=I.hok p _ hk
      refine ⟨⟨o,e,ex.1⟩,fun a e2=>?_⟩
      cases e2
      exact ⟨o,e,ex.2.1⟩
  | _=>exact False.elim ty
def Tp (K:PySem.W.Frag) (T:String) (r:V→List V→Hp→VK→Prop) (to:TE) (t:TA):TE:=fun σ H Q=>to σ H fun x H1=>tyV K T x H1∧t σ H1 fun xs H2=>r x xs H2 Q
variable {o e:Expr} {es:List Expr} {to:TE} {t:TA} {name:Str} {apos cpos:Pos} {T id:String} {r:V→List V→Hp→VK→Prop}
theorem Tq (pa:PlainAttrs T) (slot:Slot T name id) (hty:typeOf (.builtin id)=pure (.type "method_descriptor")) (hm:Te X id r) (ho:PE X o to) (ha:PA X (e :: es) t)
    (hbase:autoParam (attributeBase o name X.env (eval o X.env)=eval o X.env) L2.auto4._auto_1)
    (hfew:((backTo cpos (starEach (e :: es) X.env)).all (fun x=>!x.1) && (backToKw cpos (keywordEach [] X.env)).all (fun x=>x.1.isSome)
      && decide ((e :: es).length+([]:List Keyword).length+(if ([]:List Keyword).isEmpty then 0 else 1) < 30))=true:=by rfl)
    (hline:autoParam ((apos.endLine == cpos.line)=true) L2.auto4._auto_1) (hs:autoParam (starEach (e :: es) X.env=(false,eval e X.env) :: starEach es X.env) L2.auto4._auto_1) (hplain:autoParam ((backTo cpos (starEach es X.env)).any (·.1)=false) L2.auto4._auto_1):
    PE X (.Call (.Attribute o name apos) (e :: es) [] cpos) (Tp X.K T r to t):=by
  intro pins s σ H Q I h
  refine wpAny_Call_method_late hbase hfew hline rfl (dF (ho pins s σ H _ I h) fun v s1 qq0=>?_)
  obtain ⟨x,H1,I1,r1,ty,q1⟩:=qq0
  obtain ⟨h1,h2⟩:=Pa I1 r1 ty
  refine ⟨T,id,pa,slot,hty,h1,h2,?_⟩
  have hA:=ha cpos pins s1 σ H1 _ I1 q1
  rw [hs] at hA ⊢
  refine Calls.callWith_builtin (by show (false || (backTo cpos (starEach es X.env)).any (·.1))=false;rw [hplain] <;> rfl) (Calls.evalArgs_plain ?_)
  exact dF hA fun us s2 ⟨vs,H2,I2,r2,q2⟩=>hm pins s2 σ H2 x vs v us Q I2 r1 r2 q2
end
end L2
namespace L2
open PySem PySem.Spec PyProof.Rows
def MtM (X:Cx) (id:String) (r:V→List V→Hp→VK→Prop):Prop:=
  ∀ (pins:List (Addr×Obj)) (s:Shared) (σ:St) (H:Hp) (x:V) (xs:List V) (v:Value) (us:List Value) (Q:VK),Inv X pins σ H s→RelV x v→Vals xs us→r x xs H Q→
    wpAny (model X.prog X.w) X.A (call (.builtin id) (v :: us)) (EP X pins σ Q) X.xe s
theorem Vals.one:∀ {x:V} {us:List Value},Vals [x] us→∃ u,us=[u]∧RelV x u
  | _,_,.cons r .nil=>⟨_,rfl,r⟩
theorem Vals.reverse {xs:List V} {us:List Value} (h:Vals xs us):Vals xs.reverse us.reverse:=by
  induction h with
  | nil=>exact .nil
  | cons r t ih=>rw [List.reverse_cons,List.reverse_cons];exact Vals.append ih (.cons r .nil)
theorem Vals.rep {xs:List V} {us:List Value} (h:Vals xs us):∀ k:Nat,Vals (List.replicate k xs).flatten (List.replicate k us).flatten
  | 0=>.nil
  | k+1=>by
    rw [List.replicate_succ,List.replicate_succ,List.flatten_cons,List.flatten_cons]
    exact Vals.append h (Vals.rep h k)
theorem foldl_rep (its:List Value):∀ (k:Nat) (acc:List Value),
    List.foldl (fun x1 x2=>x1 ++ x2) acc.toArray (List.replicate k its.toArray)=(acc ++ (List.replicate k its).flatten).toArray
  | 0,acc=>by simp
  | k+1,acc=>by
    have e:acc.toArray ++ its.toArray=(acc ++ its).toArray:=by simp
    have e2:(acc ++ its) ++ (List.replicate k its).flatten=acc ++ (List.replicate (k+1) its).flatten:=by
      rw [List.replicate_succ,List.flatten_cons,List.append_assoc]
    rw [← e2,← foldl_rep its k (acc ++ its),← e,List.replicate_succ,List.foldl_cons]
section
variable {X:Cx} {pins:List (Addr×Obj)} {σ:St} {H:Hp} {s:Shared} {l b:Addr} {xs ys zs:List V}
theorem Inv.lset {its its':List Value} {n:Nat} {f:Array Value→Array Value} {t':Nat} (I:Inv X pins σ H s) (hH:H l=some (.lst xs))
    (e:s.heap.get? l=some {cls:=.type "list",data:=.seq its.toArray n}) (hf:f its.toArray=its'.toArray) (hv:Vals ys its') (hz:ys.length≤sizeLine):
    Inv X pins σ (upd H l (.lst ys)) {s with heap:=s.heap.update l (Obj.mapSeq f),toks:=t'}:=by
  have q:=PySem.IsL.update e f
  rw [hf] at q
  refine I.write (x:=l) (e:=l) (by rw [hH];exact trivial) (.inl rfl) (fun b' u hb hu=>(Heap.get?_update_other s.heap (Obj.mapSeq f) (Ne.symm hb)).trans hu) ⟨_,q⟩ ?_
  exact ⟨hz,its',_,hv,q⟩
theorem Inv.lnew {its:List Value} {t':Nat} (I:Inv X pins σ H s) (hv:Vals ys its) (hz:ys.length≤sizeLine):
    Inv X pins σ (upd H s.heap.objs.size (.lst ys)) {s with heap:=s.heap.push {cls:=.type "list",data:=.seq its.toArray},toks:=t'}:=
  I.laid (fun _ _ q=>Heap.get?_push_of_some _ q) (Nat.le_refl _) ⟨hz,its,0,hv,Heap.get?_push_size _ rfl⟩
theorem Inv.fresh (I:Inv X pins σ H s):H s.heap.objs.size=none:=I.hok.fresh (Nat.le_refl _)
theorem Inv.lstM (I:Inv X pins σ H s) (hH:H l=some (.lst xs)):xs.length≤sizeLine∧∃ (its:List Value) (n:Nat),Vals xs its∧xs.length=its.length∧s.heap.get? l=some {cls:=.type "list",data:=.seq its.toArray n}:=by
  obtain ⟨z,its,n,r,e⟩:=I.hok l _ hH
  exact ⟨z,its,n,r,r.length,e⟩
theorem xj {n:Nat} (h:n≤sizeLine):Builtin.List.listTooLong n=false:=by
  unfold Builtin.List.listTooLong
  exact decide_eq_false (by omega)
end
section
variable {X:Cx}
def Ar:V→List V→Hp→VK→Prop:=fun x vs H Q=>∃ l xs y,x= .ref l∧vs=[y]∧H l=some (.lst xs)∧xs.length < sizeLine∧Q .non (upd H l (.lst (xs ++ [y])))
theorem bj:MtM X "list.append" Ar:=by
  intro pins s σ H x vs v us Q I rx rv h
  obtain ⟨l,xs,y,rfl,rfl,hH,hz,q⟩:=h
  cases rx
  obtain ⟨u,rfl,ru⟩:=rv.one
  obtain ⟨z,its,n,r,hl,e⟩:=I.lstM hH
  refine call_meets F.slot_list_append ⟨_,e,rfl⟩ F.entry_list_append (F.args_list_append_2 _ _) (PySem.list_append l its.toArray n u (by rw [List.size_toArray];omega)) ⟨e,?_⟩
  refine ⟨.non,_,I.lset (its':=its ++ [u]) hH e (by simp) (r.append (.cons ru .nil)) ?_,rfl,q⟩
  rw [List.length_append,List.length_singleton]
  omega
def JX:V→List V→Hp→VK→Prop:=fun x vs H Q=>∃ l b xs zs,x= .ref l∧vs=[.ref b]∧H l=some (.lst xs)∧H b=some (.lst zs)∧xs.length+zs.length≤sizeLine∧Q .non (upd H l (.lst (xs ++ zs)))
theorem kh:MtM X "list.extend" JX:=by
  intro pins s σ H x vs v us Q I rx rv h
  obtain ⟨l,b,xs,zs,rfl,rfl,hH,hB,hz,q⟩:=h
  cases rx
  obtain ⟨u,rfl,ru⟩:=rv.one
  cases ru
  obtain ⟨z,its,n,r,hl,e⟩:=I.lstM hH
  obtain ⟨z2,its2,n2,r2,hl2,e2⟩:=I.lstM hB
  have hsz:its.toArray.size+its2.toArray.size≤sizeLine:=by rw [List.size_toArray,List.size_toArray];omega
  have hlong:¬ (!its.toArray.isEmpty && Builtin.List.listTooLong (its.toArray.size+its2.toArray.size))=true:=by
    rw [xj hsz,Bool.and_false]
    exact Bool.false_ne_true
  refine call_meets F.slot_list_extend ⟨_,e,rfl⟩ F.entry_list_extend (F.args_list_extend_2 _ _)
    (AutoSeq1.list_extend_list_list_0 l its.toArray n b its2.toArray n2 hlong (by rw [List.size_toArray];omega) (by omega)) ⟨e,e2,?_⟩
  refine ⟨.non,_,I.lset (its':=its ++ its2) hH e (by simp) (r.append r2) ?_,rfl,q⟩
  rw [List.length_append]
  omega
def Tr:R2:=fun x y H Q=>∃ l b xs zs,x= .ref l∧y= .ref b∧H l=some (.lst xs)∧H b=some (.lst zs)∧xs.length+zs.length≤sizeLine∧∀ p,H p=none→Q (.ref p) (upd H p (.lst (xs ++ zs)))
theorem Pb:OpR X (binaryOp .Add) Tr:=by
  intro pins s σ H x y v u Q I rx ry h
  obtain ⟨l,b,xs,zs,rfl,rfl,hH,hB,hz,q⟩:=h
  cases rx
  cases ry
  obtain ⟨z,its,n,r,hl,e⟩:=I.lstM hH
  obtain ⟨z2,its2,n2,r2,hl2,e2⟩:=I.lstM hB
  refine PySem.P.add_list e e2 ?_ (by rw [List.size_toArray,List.size_toArray];omega)
  have ea:its.toArray ++ its2.toArray=(its ++ its2).toArray:=by simp
  rw [ea]
  exact ⟨.ref _,_,I.lnew (t':=s.toks) (r.append r2) (by rw [List.length_append];omega),rfl,q _ I.fresh⟩
def Tt:R2:=fun x y H Q=>∃ l k xs,x= .ref l∧y= .int k∧H l=some (.lst xs)∧-(2 ^ 63)≤k∧k < 2 ^ 63∧xs.length*k.toNat≤sizeLine∧
  ∀ p,H p=none→Q (.ref p) (upd H p (.lst (List.replicate k.toNat xs).flatten))
theorem len_rep {α:Type} (xs:List α) (k:Nat):(List.replicate k xs).flatten.length=k*xs.length:=by
  induction k with
  | zero=>simp
  | succ k ih=>rw [List.replicate_succ,List.flatten_cons,List.length_append,ih,Nat.succ_mul,Nat.add_comm]
theorem Pg:OpR X (binaryOp .Mult) Tt:=by
  intro pins s σ H x y v u Q I rx ry h
  obtain ⟨l,k,xs,rfl,rfl,hH,h1,h2,hz,q⟩:=h
  cases rx
  obtain ⟨t,rfl⟩:=ry
  obtain ⟨z,its,n,r,hl,e⟩:=I.lstM hH
  have hlen:its.toArray.size*k.toNat≤sizeLine:=by rw [List.size_toArray,← hl];exact hz
  have hcap:¬ its.toArray.size*k.toNat > (2 ^ 63 - 1) / 8:=by
    have:(sizeLine:Nat)≤(2 ^ 63 - 1) / 8:=by decide
    omega
  have hfit:¬ (!Builtin.List.listFitsIndex k)=true:=by
    rw [fitsIndex_both h1 h2]
    exact Bool.false_ne_true
  have hlong:¬ Builtin.List.listTooLong (its.toArray.size*k.toNat)=true:=by
    rw [xj hlen]
    exact Bool.false_ne_true
  have hnew:List.foldl (fun x1 x2=>x1 ++ x2) #[] (List.replicate (if its.toArray.isEmpty=true then 0 else k.toNat) its.toArray)=(List.replicate k.toNat its).flatten.toArray:=by
    have f0:∀ m:Nat,List.foldl (fun x1 x2=>x1 ++ x2) #[] (List.replicate m its.toArray)=(List.replicate m its).flatten.toArray:=fun m=>by
      have:=foldl_rep its m []
      rw [List.nil_append] at this
      exact this
    rw [f0]
    cases its with
    | nil=>simp
    | cons a r'=>rw [if_neg (by simp)]
  refine wpAny_binaryOp_repeat_ref (T:="list") (U:="int") (by decide) ⟨_,e,rfl⟩ (fun s'=>typeIs_int s' k t) noFill_list_mul F.fills_int_mul F.slot_int_rmul repeat_list F.slot_int_index.lookup
    (call_meets F.slot_int_rmul (typeIs_int s k t) F.entry_int_rmul (F.args_int_rmul_2 _ _) (int___rmul___int_list k t l its.toArray n)
      ⟨e,rfl,⟨_,e,rfl⟩,call_meets F.slot_list_mul ⟨_,e,rfl⟩ F.entry_list_mul (F.args_list_mul_2 _ _) (AutoListH.list___mul___list_int_3 l its.toArray n k t hfit hcap hlong) ⟨e,?_⟩⟩)
  rw [hnew]
  exact ⟨.ref _,_,I.lnew (t':=s.toks) (r.rep k.toNat) (by rw [len_rep,Nat.mul_comm];exact hz),rfl,q _ I.fresh⟩
end
section
variable {prog:Program} {w:World} {A:Around} {E:Value→Shared→Prop} {s:Shared}
end
section
variable {X:Cx}
end
end L2
namespace Att
open PySem PySem.W PySem.Calls PyProof.Rows
theorem qU {P:Params} {h:Heap}:∀ (ns:List Int) (vs:List Value),WellAll P h vs (ns.map WData.int)→IntsAre vs ns:=by
  intro ns
  induction ns with
  | nil=>
    intro vs w
    rw [List.map_nil] at w
    cases w
    exact .nil
  | cons n ns ih=>
    intro vs w
    rw [List.map_cons] at w
    cases w with
    | cons a b=>
      cases a
      exact .cons _ _ (ih _ b)
theorem Cm {l:OpenLaw} {n:Nat} (hn:l.most=some n) {P:Params} {h:Heap} {args:List WData} {vals:List Value}
    (hpre:l.row.toRowW.claim.pre args=true) (hwl:WellAll P h vals args):
    ∃ a vs ns,vals=[Value.ref a]∧args=[WData.list (ns.map WData.int)]∧h.get? a=some {cls:=.type "list",data:=.seq vs.toArray}∧IntsAre vs ns∧ns.length≤n:=by
  have hsh:WShape.hasAll [] args [.list .int]=true:=(pre_splitW hpre).1
  have hc:l.pre.holds [] {args:=args}=true:=(pre_splitW hpre).2
  obtain ⟨d,r,rfl,h1,h2⟩:=hasAllW_cons hsh
  obtain rfl:=hasAllW_nil h2
  obtain ⟨xs,rfl,h3⟩:=hasW_list h1
  obtain ⟨ns,rfl⟩:=items_int h3
  have hlen:ns.length≤n:=by
    unfold OpenLaw.pre at hc
    have h4:(WTm.not (.lt (.lit (.int (n:Int))) (.len (.arg 0)))).holds [] {args:=[.list (ns.map .int)]}=true:=by
      have h4:=(holds_andW hc).1
      rw [hn] at h4
      exact h4
    have h5:=condW_of h4 (w_not (w_lt w_lit (w_len_list (w_arg rfl))))
    rw [List.length_map] at h5
    refine Nat.le_of_not_lt fun q=>?_
    have q':(n:Int) < ((ns.length:Nat):Int):=by omega
    first
      | (rw [decide_eq_true q'] at h5;exact absurd h5 (by decide))
      | (simp at h5;omega)
  cases hwl with
  | cons w1 w2=>
    cases w2
    cases w1 with
    | list ho hall=>exact ⟨_,_,ns,rfl,rfl,ho,qU ns _ hall,hlen⟩
theorem Cp (l:OpenLaw) (args:List WData):l.row.toRowW.claim.post args (.bool true) args=true:=
  postW_of (r:=l.row.toRowW) (X:=(true == true))
    (show WShape.has [] (.bool true) .bool=true by first | rfl | decide | simp [WShape.has,WShape.arms,WShape.armsAll])
    (show (WTm.eq .res (.lit (.bool true))).value [] {args:=args,res:=some (.bool true),after:=args}=some (.bool (true == true)) from w_eq_bool (w_res rfl) w_lit) rfl
theorem attach_call {l:OpenLaw} {n:Nat} {q:Program} {loose:List Str} {XP:(Str→Option Value)→Heap→Prop} {YP:World→Heap→Prop} {d:DefRec}
    (hn:l.most=some n) (hdf:d.params.defaults=[])
    (call:∀ (w:World) (s₀ s₁:Shared) (mg mb:Str→Option Value) (fa:Addr) (o:Obj) (pm cd doc:Value) (a:Addr) (vs:List Value) (ns:List Int),
      Ground q loose [] XP w s₀ mg mb s₁.heap→YP w s₁.heap→
      s₁.heap.get? fa=some o→o.data= .func (docDef d.name d.params d.body d.scope pm cd doc)→s₁.heap.CodeRec cd d.name→mg d.name=some (.ref fa)→
      s₁.heap.get? a=some {cls:=.type "list",data:=.seq vs.toArray}→IntsAre vs ns→ns.length≤n→s₁.gens= #[]→
      codeAny (model l.prog w) callerA (.call (.ref fa) ⟨[.ref a],[]⟩) (fun r s'=>r= .ok (.ret (.bool true))∧OldK s₁.heap s'.heap∧s'.os=s₁.os∧AllBare s'.gens) s₁):
    WalkO q loose XP YP l.row.toRowW d [] (fun f vs=>PySem.call f vs):=by
  intro w s₀ s₁ mg mb G Y fa o pm cd doc dV kV ho hd hcd hD hmg hg args vals as hpre hlay hrd hwl hlo
  obtain rfl:dV= .none:=Dflts.none hD hdf
  obtain rfl:kV= .none:=Dflts.noKw hD
  obtain ⟨a,vs,ns,rfl,rfl,hobj,hints,hlen⟩:=Cm hn hpre hwl
  refine enter_call (codeAny_mono (call w s₀ s₁ mg mb fa o pm cd doc a vs ns G Y ho (fd_plain hd) hcd hmg hobj hints hlen hg) fun r s' hq=>?_)
  obtain ⟨rfl,h2,h3,h4⟩:=hq
  exact ⟨.inl ⟨.bool true,.bool true,[],rfl,fun _=>rfl,.bool true,Cp l _,fun _=>⟨List.Pairwise.nil,fun _ hm=>(nomatch hm)⟩⟩,h2,h3,h4⟩
section
variable {prog:Program} {w:World} {A:Around} {E:Value→Shared→Prop} {s:Shared} {K:Frag}
end
end Att
namespace L2
open PySem PySem.Spec PyProof.Rows
theorem uU:∀ {vs:List Value} {ns:List Int},IntsAre vs ns→Vals (ns.map V.int) vs
  | _,_,.nil=>.nil
  | _,_,.cons n t h=>.cons ⟨t,rfl⟩ (uU h)
def Only (H:Hp):Prop:=∀ b,H b=none∨∃ o xs,H b=some (.frz o (.lst xs))
theorem Fv {P:Program} {w:World} {K:PySem.W.Frag} {mg mb:Str→Option Value} {CX:Ed} {k:Nat} {fa a:Addr} {fd:FuncData} {x:Str} {sp:Sp} {s₁:Shared} {vs:List Value} {ns:List Int}
    (KX:K.In s₁.heap) (hns:s₁.heap.Ns mainGlobals mg) (hb:s₁.heap.Ns builtinsNs mb) (hbb:∀ x:Str,x≠"__name__"→mb x=bootBuiltins x) (hlim:s₁.heap.NoLimit) (hsm:∃ mm,s₁.heap.Ns sysModules mm) (hg:s₁.gens= #[])
    (ha:s₁.heap.get? a=some {cls:=.type "list",data:=.seq vs.toArray}) (hi:IntsAre vs ns) (hl:ns.length≤sizeLine) (hr:Room k callerA)
    (F:∀ base:Heap,K.In base→base.Ns mainGlobals mg→oW P w K mg base CX k fa fd [x] sp) (hbind:∀ (s:Shared) (u:Value),BindsTo s fd ⟨[u],[]⟩ [(x,u)])
    (hsp:∀ H:Hp,Only H→SqL K H a (ns.map V.int)→sp [.ref a] H (fun v _=>v= .bl true) fun _ _ _=>False)
    (hCX:∀ H e s',CX [] H s₁ (fun _ _ _=>False) e s'→False):
    codeAny (model P w) callerA (.call (.ref fa) ⟨[.ref a],[]⟩) (fun r s'=>r= .ok (.ret (.bool true))∧OldK s₁.heap s'.heap∧s'.os=s₁.os∧AllBare s'.gens) s₁:=by
  have rv:=uU hi
  have lenV:=hi.length
  have core:∀ H:Hp,Only H→SqL K H a (ns.map V.int)→HOk P w H s₁.heap→(∀ b,H b≠none→b=a)→(H a≠none→K.lookup a=none)→
      codeAny (model P w) callerA (.call (.ref fa) ⟨[.ref a],[]⟩) (fun r s'=>r= .ok (.ret (.bool true))∧OldK s₁.heap s'.heap∧s'.os=s₁.os∧AllBare s'.gens) s₁:=by
    intro H hO hS hok hA hK
    have base_of:∀ {b:Addr} {o:Obj},s₁.heap.get? b=some o→H b=none→(vq s₁.heap H).get? b=some o:=fun e n=>Ej e n
    have noA:∀ {b:Addr} {o:Obj} {es:Array DictEntry} {ep:Nat},s₁.heap.get? b=some o→o.data= .dict es ep→H b=none:=fun {b o es ep} e d=>by
      cases q:H b with
      | none=>rfl
      | some u=>
        have e':b=a:=hA b (by rw [q];simp)
        subst e'
        rw [ha] at e;cases e
        have d':Data.seq vs.toArray _=Data.dict es ep:=d
        cases d'
    have nsK:∀ {b:Addr} {m:Str→Option Value},s₁.heap.Ns b m→(vq s₁.heap H).Ns b m:=fun {b m} ⟨o,es,ep,e,d,r⟩=>⟨o,es,ep,base_of e (noA e d),d,r⟩
    have hKb:K.In (vq s₁.heap H):=fun b o e=>base_of (KX b o e) (by
      cases q:H b with
      | none=>rfl
      | some u=>
        have e':b=a:=hA b (by rw [q];simp)
        subst e'
        rw [hK (by rw [q];simp)] at e;cases e)
    have hM:Mod K mg (vq s₁.heap H):=⟨hKb,nsK hns,⟨mb,nsK hb,hbb⟩,(let ⟨mc,h1,h2⟩:=hlim;⟨mc,nsK h1,h2⟩),let ⟨mm,h1⟩:=hsm;⟨mm,nsK h1⟩⟩
    have e0:Env0 P w K mg (vq s₁.heap H) callerA [] s₁ H:=⟨rfl,hM,fun b o e=>Je e,Nat.le_of_eq (BR _ _),trivial,fun b hb=>absurd (show b∈([]:List Addr) from hb) (by simp),hok,.of_eq hg⟩
    refine codeAny_mono ((F _ hKb (nsK hns)).run callerA [] s₁ H ⟨[.ref a],[]⟩ [.ref a] [.ref a] _ _ hr e0 (hbind s₁ (.ref a)) (.cons rfl .nil) (hsp H hO hS)) fun r s' h=>?_
    cases r with
    | error e=>exact (hCX H e s' h).elim
    | ok fl=>
      cases fl with
      | next=>exact False.elim h
      | brk=>exact False.elim h
      | cont=>exact False.elim h
      | ret u=>
        obtain ⟨v,H',os,bare,un,hok',r',q⟩:=h
        have q':v= .bl true:=q
        subst q'
        obtain rfl:u=Value.bool true:=r'
        refine ⟨rfl,OldK.of_keep fun b o e=>?_,os,bare⟩
        cases q:H b with
        | none=>exact un.keep b o e q (by intro z;exact absurd (show b∈([]:List Addr) from z) (by simp)) (by simp)
        | some u=>
          rcases hO b with z | ⟨ob,xs,z⟩
          · rw [q] at z;cases z
          · have z2:=un.frzs b ob _ z
            obtain ⟨e1,_⟩:=hok b _ z
            obtain ⟨e2,_⟩:=hok' b _ z2
            rw [e] at e1;cases e1
            exact e2
  cases hk:K.lookup a with
  | some o=>
    have e:=KX a o hk
    rw [ha] at e
    cases e
    refine core (fun _=>none) (fun _=>.inl rfl) (.inr ⟨_,vs.toArray,_,hk,rfl,rfl,rfl,by rw [List.size_toArray,lenV];exact hl,by simpa using rv⟩) (fun b u z=>by have z':(none:Option HO)=some u:=z;cases z') (fun b z=>absurd rfl z) fun z=>absurd rfl z
  | none=>
    refine core (fun b=>if b=a then some (.frz {cls:=.type "list",data:=.seq vs.toArray} (.lst (ns.map V.int))) else none) (fun b=>?_) (.inl (.inr ⟨{cls:=.type "list",data:=.seq vs.toArray},if_pos rfl⟩)) (fun b u z=>?_) (fun b z=>?_) fun _=>hk
    · by_cases hb:b=a
      · exact .inr ⟨_,_,if_pos hb⟩
      · exact .inl (if_neg hb)
    · by_cases hb:b=a
      · have z':=(if_pos hb).symm.trans z
        cases z'
        subst hb
        exact ⟨ha,by rw [List.length_map];exact hl,vs,_,rv,ha⟩
      · have z':=(if_neg hb).symm.trans z
        cases z'
    · by_cases hb:b=a
      · exact hb
      · exact absurd (if_neg hb) z
end L2
namespace L2
open PySem PySem.Spec PyProof.Rows
abbrev KOf {K:PySem.W.Frag} {h:Heap} (_:K.In h):PySem.W.Frag:=K
theorem JZ {l:PySem.W.OpenLaw} {n k:Nat} {q:Program} {loose:List Str} {XP:(Str→Option Value)→Heap→Prop} {YP:World→Heap→Prop} {d:DefRec} {K:Params→PySem.W.Frag} {CX:World→Ed} {sp:World→Sp} {x:Str}
    (hn:l.most=some n) (hn2:n≤sizeLine) (hdf:d.params.defaults=[]) (hr:Room k callerA)
    (hY:∀ (w:World) (h:Heap),YP w h→(K w.params).In h)
    (F:∀ (w:World) (mg:Str→Option Value) (fa:Addr) (h:Heap),(K w.params).In h→h.Ns mainGlobals mg→mg d.name=some (.ref fa)→
      ∃ fd:FuncData,(∀ (s:Shared) (u:Value),BindsTo s fd ⟨[u],[]⟩ [(x,u)])∧
        ∀ base:Heap,(K w.params).In base→base.Ns mainGlobals mg→oW l.prog w (K w.params) mg base (CX w) k fa fd [x] (sp w))
    (hsp:∀ (w:World) (H:Hp) (a:Addr) (ns:List Int),ns.length≤n→Only H→SqL (K w.params) H a (ns.map V.int)→sp w [.ref a] H (fun v _=>v= .bl true) fun _ _ _=>False)
    (hCX:∀ (w:World) (H:Hp) (s:Shared) (e:Value) (s':Shared),CX w [] H s (fun _ _ _=>False) e s'→False) (him:importsNone q=true):
    PySem.W.WalkO q loose XP YP l.row.toRowW d [] (fun f vs=>PySem.call f vs):=by
  refine Att.attach_call hn hdf fun w s₀ s₁ mg mb fa o pm cd doc a vs ns G Y ho hd hcd hmg hobj hints hlen hg=>?_
  have KX:=hY w _ Y
  obtain ⟨fd,hb,hF⟩:=F w mg fa _ KX G.T.g hmg
  exact Fv KX G.T.g G.T.b G.T.builtins G.T.nolimit (let ⟨mm,h1,_⟩:=(G.T.seer him).mods;⟨mm,h1⟩) hg hobj hints (Nat.le_trans hlen hn2) hr hF hb (fun H hO hS=>hsp w H a ns hlen hO hS) fun H e s'=>hCX w H s₁ e s'
end L2
namespace L2
open PySem PySem.Spec PyProof.Rows
def eG (s:Stmt):Arguments:=match s with
  | .FunctionDef _ a _ _ _ _ _ _ _ _=>a
  | _=>{posonlyargs:=[],args:=[],vararg:=none,kwonlyargs:=[],kw_defaults:=[],kwarg:=none,defaults:=[]}
def cj (s:Stmt):List Stmt:=match s with
  | .FunctionDef _ _ b _ _ _ _ _ _ _=>b
  | _=>[]
def az (s:Stmt):Scope:=match s with
  | .FunctionDef _ _ _ _ _ _ sc _ _ _=>sc
  | _=>{kind:=.function,names:=[],isGenerator:=false,isCoroutine:=false}
abbrev zb:Ed:=fun _ _ _ _ _ _=>False
abbrev E0:XK:=fun _ _ _=>False
theorem Tu {X:Cx}:yW zb X E0:=fun _ _ _ _ _ _ _ h=>h.elim
structure Fun (K:PySem.W.Frag) (x qual:Str) (st:Stmt) (f:Addr) (fd:FuncData):Prop where
  ex:∃ (oc:Value) (od:Option Addr) (kV doc pm:Value) (an:Option Addr) (cdv ct:Value) (osl:Array (Option Value)),
    fd=PySem.W.fnOf x qual (eG st) (cj st) (az st) .none kV doc pm an cdv ct∧K.lookup f=some ⟨oc,od,.func fd,osl⟩∧PySem.W.codeIn K cdv qual=true
  kp:PySem.W.keepIn K (.ref f)=true
section
variable {P:Program} {w:World} {K:PySem.W.Frag} {mg:Str→Option Value} {base:Heap}
theorem Fun.ok {x qual:Str} {st:Stmt} {f:Addr} {fd:FuncData} {N ps:List Str} {k:Nat} {sp:Sp} (F:Fun K x qual st f fd) (S:aF N ps (az st)) (len:∀ vs H Q E,sp vs H Q E→vs.length=ps.length)
    (hbody:∀ (cdv:Value) (A:Around) (outer:List Env) (s:Shared) (H:Hp) (vs:List V) (Q:VK) (E:XK),Room k (A.deeper (envOfC qual (az st) s.heap.objs.size f cdv))→sp vs H Q E→
      ∃ t,PSs (nU zb P w K mg base N qual (az st) f cdv A outer s H E).nox (cj st) t∧t {nx:=fun _ H'=>Q .non H',rt:=Q} (start N vs) H):oW P w K mg base zb (k+1) f fd ps sp:=by
  obtain ⟨oc,od,kV,doc,pm,an,cdv,ct,osl,rfl,lk,hcd⟩:=F.ex
  refine Fi lk hcd S len fun A outer s H vs Q E hr hsp=>?_
  obtain ⟨t,h,q⟩:=hbody cdv A outer s H vs Q E hr hsp
  exact ⟨t,h.nox,q⟩
theorem Fun.binds {x qual:Str} {st:Stmt} {f:Addr} {fd:FuncData} {ps:List Str} (F:Fun K x qual st f fd)
    (h:∀ (kV doc pm:Value) (an:Option Addr) (cdv ct:Value) (us:List Value),us.length=ps.length→bindArgs (PySem.W.fnOf x qual (eG st) (cj st) (az st) .none kV doc pm an cdv ct) ⟨us,[]⟩=pure (ps.zip us)):Binds K fd ps []:=by
  obtain ⟨oc,od,kV,doc,pm,an,cdv,ct,osl,rfl,lk,hcd⟩:=F.ex
  exact .all (h kV doc pm an cdv ct)
theorem zc {x qual:Str} {st:Stmt} {f:Addr} {oc:Value} {od an:Option Addr} {osl:Array (Option Value)} {kV doc pm cdv ct:Value} (l:K.lookup f=some ⟨oc,od,.func (PySem.W.fnOf x qual (eG st) (cj st) (az st) .none kV doc pm an cdv ct),osl⟩)
    (c:PySem.W.codeIn K cdv qual=true) (k:PySem.W.keepIn K (.ref f)=true):Fun K x qual st f (PySem.W.fnOf x qual (eG st) (cj st) (az st) .none kV doc pm an cdv ct):=⟨⟨oc,od,kV,doc,pm,an,cdv,ct,osl,rfl,l,c⟩,k⟩
end
section
variable {X:Cx}
end
theorem oX {A B:Prop} (h:B):if false=true then A else B:=by
  rw [if_neg Bool.false_ne_true]
  exact h
theorem nF {A B:Prop} (h:A):if true=true then A else B:=by
  rw [if_pos rfl]
  exact h
def Same (H H':Hp):Prop:=∀ b o,H b=some o→H' b=some o
theorem Same.refl (H:Hp):Same H H:=fun _ _ h=>h
theorem Same.trans {H H1 H2:Hp} (a:Same H H1) (b:Same H1 H2):Same H H2:=fun c o h=>b c o (a c o h)
theorem Same.free {H H':Hp} (e:Same H H') {l:Addr} (h:H' l=Option.none):H l=Option.none:=by
  cases q:H l with
  | none=>rfl
  | some o=>
    rw [e l o q] at h
    cases h
theorem Same.seq {K:PySem.W.Frag} {H H':Hp} {a:Addr} {xs:List V} (e:Same H H') (h:SqL K H a xs):SqL K H' a xs:=by
  rcases h with (h | ⟨o,h⟩) | h
  · exact .inl (.inl (e _ _ h))
  · exact .inl (.inr ⟨o,e _ _ h⟩)
  · exact .inr h
end L2
set_option maxHeartbeats 4000000
namespace L2
open PySem PySem.Spec PyProof.Rows
def nZ (env:Env):List (Str×NameKind)→List (Str×Addr)→List (Str×Addr)
  | [],acc=>acc
  | (n,k) :: r,acc=>nZ env r (if k == .free then (match env.cells.lookup n with | some c=>(n,c) :: acc | none=>acc) else acc)
theorem sU {env:Env}:∀ {names:List (Str×NameKind)} {acc:List (Str×Addr)},(∀ x c,(x,c)∈acc→env.cells.lookup x=some c)→∀ x c,(x,c)∈nZ env names acc→env.cells.lookup x=some c
  | [],_,h,x,c,m=>h x c m
  | (n,k) :: r,acc,h,x,c,m=>by
    refine sU (names:=r) ?_ x c m
    intro y d hm
    cases hk:(k == NameKind.free) with
    | false=>rw [hk] at hm;exact h y d hm
    | true=>
      rw [hk] at hm
      simp only [if_true] at hm
      cases e:env.cells.lookup n with
      | none=>rw [e] at hm;exact h y d hm
      | some c'=>
        rw [e] at hm
        rcases List.mem_cons.mp hm with z | z
        · cases z;exact e
        · exact h y d z
theorem xm {env:Env}:∀ {names:List (Str×NameKind)} {acc:List (Str×Addr)} {p:Str×Addr},p∈acc→p∈nZ env names acc
  | [],_,_,h=>h
  | (n,k) :: r,acc,p,h=>by
    refine xm (names:=r) ?_
    split
    · split
      · exact List.mem_cons_of_mem _ h
      · exact h
    · exact h
theorem xn {env:Env} {x:Str} {c:Addr} (e:env.cells.lookup x=some c):∀ {names:List (Str×NameKind)} {acc:List (Str×Addr)},(x,NameKind.free)∈names→(x,c)∈nZ env names acc
  | [],_,h=>by simp at h
  | (n,k) :: r,acc,h=>by
    rcases List.mem_cons.mp h with z | z
    · cases z
      refine xm (names:=r) ?_
      rw [e]
      simp
    · exact xn e (names:=r) z
theorem ux {l:List (Str×Addr)} {x:Str} {c:Addr} (hm:(x,c)∈l) (ha:∀ d,(x,d)∈l→d=c):l.lookup x=some c:=by
  induction l with
  | nil=>simp at hm
  | cons p r ih=>
    obtain ⟨n,d⟩:=p
    by_cases e:x=n
    · subst e
      have:d=c:=ha d (by simp)
      subst this
      simp [List.lookup_cons]
    · have hb:(x == n)=false:=by simpa using e
      rw [List.lookup_cons,hb]
      refine ih ?_ fun d' h'=>ha d' (List.mem_cons_of_mem _ h')
      rcases List.mem_cons.mp hm with z | z
      · cases z;exact absurd rfl e
      · exact z
theorem qK {env:Env} {names:List (Str×NameKind)} {x:Str} {c:Addr} (e:env.cells.lookup x=some c) (h:(x,NameKind.free)∈names):(nZ env names []).lookup x=some c:=
  ux (xn e h) fun d hd=>by
    have q:=sU (names:=names) (acc:=[]) (env:=env) (by simp) x d hd
    rw [e] at q
    exact (Option.some.inj q).symm
theorem kj {env:Env} {names:List (Str×NameKind)} {x:Str} {c:Addr} (e:(nZ env names []).lookup x=some c):env.cells.lookup x=some c:=
  sU (names:=names) (acc:=[]) (env:=env) (by simp) x c (PySem.mem_of_lookup e)
theorem n6 {env:Env}:∀ (names:List (Str×NameKind)) (acc:List (Str×Addr)),(∀ x∈names,x.2=NameKind.free→∃ c,env.cells.lookup x.1=some c)→
    (forIn (m:=Sem) names acc fun x r=>match x with
      | (name,kind)=>if (kind == NameKind.free)=true then do let c ← cellOf env name;pure (ForInStep.yield ((name,c) :: r)) else pure (ForInStep.yield r))=pure (nZ env names acc)
  | [],acc,_=>rfl
  | (n,k) :: r,acc,h=>by
    rw [List.forIn_cons]
    cases hk:(k == NameKind.free) with
    | false=>
      simp only [hk,Bool.false_eq_true,if_false,pure_bind,nZ]
      exact n6 r acc fun x hx=>h x (List.mem_cons_of_mem _ hx)
    | true=>
      obtain ⟨c,e⟩:=h (n,k) List.mem_cons_self (by simpa using hk)
      simp only [hk,if_true,pure_bind,nZ,cellOf,e]
      exact n6 r ((n,c) :: acc) fun x hx=>h x (List.mem_cons_of_mem _ hx)
theorem nJ {scope:Scope} {env:Env} (h:∀ x∈scope.names,x.2=NameKind.free→∃ c,env.cells.lookup x.1=some c):closureFor scope env=pure (nZ env scope.names []):=by
  unfold closureFor
  have:=n6 (env:=env) scope.names [] h
  simp only [this,pure_bind]
theorem uV {prog:Program} {w:World} {A:Around} {R:Result→Shared→Prop} {s:Shared} {elt target iter:Expr} {ifs:List Expr} {scope:Scope} {pos:Pos} {it acc:Value} {env:Env} (I:Nat→Shared→Prop)
    (turn:∀ n s,I n s→wpAny (model prog w) A (pyNext it) (fun r s₁=>match r with
      | none=>R (.ok .next) s₁
      | some v=>wpAny (model prog w) A (letOwnedTupleGo target it v) (fun _ s₁'=>wpAny (model prog w) A (assign target env v) (fun _ s₂=>
          wpAny (model prog w) A (forIn ifs true fun c r=>if r=true then do let ok ← isTrue c env (eval c env);pure (ForInStep.yield ok) else pure (ForInStep.yield r)) (fun ok s₃=>
            if ok=true then wpAny (model prog w) A (eval elt env) (fun x s₄=>
              wpAny (model prog w) A (call (.builtin "list.append") [acc,x]) (fun _ s₅=>∃ m,m < n∧I m s₅) (fun _ _=>False) s₄) (fun _ _=>False) s₃
            else ∃ m,m < n∧I m s₃) (fun _ _=>False) s₂) (fun _ _=>False) s₁') (fun _ _=>False) s₁) (fun _ _=>False) s)
    (n:Nat) (h:I n s):
    codeAny (model prog w) A (.compLoop (.ListComp elt [⟨target,iter,ifs,0⟩] scope pos) 0 it acc env) R s:=by
  refine codeAny_loop rfl I (fun n s hI=>?_) n h
  show wpAny _ A ((compTurn (.ListComp elt [⟨target,iter,ifs,0⟩] scope pos) 0 it acc env).onRaise (fun x=>do noteFrame x env;theTreesLotGoes x)) _ _ s
  refine wpAny_noted ?_
  rw [compTurn_list]
  refine wpAny_bind (wpAny_standAt (wpAny_bind (wpAny_mono (turn n s hI) (fun r s₁ h₁=>?_) fun _ _ h'=>h'.elim)))
  cases r with
  | none=>exact wpAny_pure h₁
  | some v=>
    refine wpAny_bind (wpAny_mono h₁ (fun _ s₁' h₁'=>?_) fun _ _ h'=>h'.elim)
    refine wpAny_bind (wpAny_mono h₁' (fun _ s₂ h₂=>wpAny_bind (wpAny_mono h₂ (fun ok s₃ h₃=>?_) fun _ _ h'=>h'.elim)) fun _ _ h'=>h'.elim)
    cases ok with
    | false=>exact wpAny_pure ⟨rfl,h₃⟩
    | true=>
      exact wpAny_bind (wpAny_bind (wpAny_mono h₃ (fun x s₄ h₄=>wpAny_bind (wpAny_mono h₄ (fun _ s₅ h₅=>wpAny_pure (wpAny_pure ⟨rfl,h₅⟩)) fun _ _ h'=>h'.elim)) fun _ _ h'=>h'.elim))
end L2
namespace L2
open PySem PySem.Spec PyProof.Rows
def nM (X:Cx) (N':List Str) (scope:Scope) (C:Addr) (s₀:Shared) (H₀:Hp) (ex:List Addr):Cx:=
  {X with N:=N',s₀:=s₀,H₀:=H₀,env:=compEnvC scope (nZ X.env scope.names []) C X.env,outer:=X.stack,ex:=ex,fn:=fun _=>false,pn:=[],xe:=fun _ _=>False}
def cT (sub:List (Option Nat)) (σ:St):St:=sub.map fun o=>o.bind fun j=>(σ[j]?).join
structure qL (N:List Str) (sc:Scope) (N':List Str) (scope:Scope) (sub:List (Option Nat)):Prop where
  kind:scope.kind= .function
  nocell:∀ x∈scope.names,x.2≠.cell
  loc:∀ x∈scope.names,x.2= .local→scope.names.lookup x.1=some .local
  free:∀ x∈scope.names,x.2= .free→sc.names.lookup x.1=some .cell∨sc.names.lookup x.1=some .free
  len:sub.length=N'.length
  at_:∀ (i j:Nat) (x:Str),sub[i]?=some (some j)→N'[i]?=some x→N[j]?=some x∧(x,NameKind.free)∈scope.names∧scope.names.lookup x=some .free
def Fw (N:List Str) (sc:Scope) (N':List Str) (scope:Scope) (sub:List (Option Nat)):Bool:=
  decide (scope.kind= .function) && scope.names.all (fun x=>decide (x.2≠.cell)) && scope.names.all (fun x=>decide (x.2= .local→scope.names.lookup x.1=some .local)) &&
  scope.names.all (fun x=>decide (x.2= .free→sc.names.lookup x.1=some .cell∨sc.names.lookup x.1=some .free)) && decide (sub.length=N'.length) &&
  (List.range sub.length).all fun i=>match sub[i]?,N'[i]? with
    | some (some j),some x=>decide (N[j]?=some x∧(x,NameKind.free)∈scope.names∧scope.names.lookup x=some .free)
    | _,_=>true
theorem b8 {N:List Str} {sc:Scope} {N':List Str} {scope:Scope} {sub:List (Option Nat)} (h:Fw N sc N' scope sub=true):qL N sc N' scope sub:=by
  simp only [Fw,Bool.and_eq_true,decide_eq_true_eq,List.all_eq_true] at h
  obtain ⟨⟨⟨⟨⟨h1,h2⟩,h3⟩,h4⟩,h5⟩,h6⟩:=h
  refine ⟨h1,h2,h3,h4,h5,fun i j x e1 e2=>?_⟩
  have hi:i < sub.length:=(List.getElem?_eq_some_iff.mp e1).1
  have q:=h6 i (List.mem_range.mpr hi)
  rw [e1,e2] at q
  simpa using q
def Fx:TT:=fun _ H Q=>Q true H
def xq (X:Cx) (ifs:List Expr) (t:TT):Prop:=
  ∀ (pins:List (Addr×Obj)) (s:Shared) (σ:St) (H:Hp) (Q:Bool→Hp→Prop),Inv X pins σ H s→t σ H Q→
    wpAny (model X.prog X.w) X.A (forIn ifs true fun c r=>if r=true then do let ok ← isTrue c X.env (eval c X.env);pure (ForInStep.yield ok) else pure (ForInStep.yield r)) (TP X pins σ Q) X.xe s
theorem Fy {X:Cx}:xq X [] Fx:=fun _ _ _ H _ I h=>wpAny_tests_nil ⟨H,I,h⟩
def KeepSt (σ σ':St):Prop:=σ'.length=σ.length∧∀ (i:Nat) (v:V),σ[i]?=some (some v)→σ'[i]?=some (some v)
theorem KeepSt.set {σ:St} {i:Nat} {v:V} (h:σ[i]?=some none):KeepSt σ (σ.set i (some v)):=by
  refine ⟨by simp,fun j u e=>?_⟩
  by_cases hj:i=j
  · subst hj;rw [h] at e;cases e
  · rw [List.getElem?_set_ne hj];exact e
def sV (sub:List (Option Nat)) (wi:TI) (g:TG) (tt:TT) (te:TE):TE:=fun σ H Q=>wi σ H fun J H1=>∃ W:Nat→Nat→List V→Hp→Prop,(∃ m,W 0 m [] H1)∧∀ i m ys H,W i m ys H→
  (J.stop i H∧ys.length≤sizeLine∧∀ D,H D=none→Q (.ref D) (upd H D (.lst ys)))∨
  (J.go i H∧ys.length < sizeLine∧∃ N:List V→Hp→Prop,(∀ ys' H',N ys' H'→∃ m',m' < m∧W (i+1) m' ys' H')∧
    ∀ x H',J.yld i H x H'→g x (cT sub σ) H' fun σ2 H2=>KeepSt (cT sub σ) σ2∧tt σ2 H2 fun b H3=>if b=true then te σ2 H3 fun y H4=>N (ys ++ [y]) H4 else N ys H3)
theorem oY {scope:Scope} {env:Env} {x:Str} (hx:scope.names.lookup x=some .free):(relabel scope env).names.lookup x=some .cell∨(relabel scope env).names.lookup x=some .free:=by
  have:∀ names:List (Str×NameKind),names.lookup x=some .free→
    (names.map fun (n,k)=>if (k == NameKind.free && env.scope.kind == .function && env.kindOf n == some .cell) then (n,NameKind.cell) else (n,k)).lookup x=some .cell∨
    (names.map fun (n,k)=>if (k == NameKind.free && env.scope.kind == .function && env.kindOf n == some .cell) then (n,NameKind.cell) else (n,k)).lookup x=some .free:=by
    intro names
    induction names with
    | nil=>intro h;simp at h
    | cons p r ih=>
      obtain ⟨n,k⟩:=p
      intro h
      by_cases e:x=n
      · subst e
        have hk:k= .free:=by simpa [List.lookup_cons] using h
        subst hk
        by_cases hc:((NameKind.free == NameKind.free && env.scope.kind == .function && env.kindOf x == some .cell)=true)
        · left;simp only [List.map_cons];rw [if_pos hc];simp [List.lookup_cons]
        · right;simp only [List.map_cons];rw [if_neg hc];simp [List.lookup_cons]
      · have hb:(x == n)=false:=by simpa using e
        rw [List.lookup_cons,hb] at h
        have q:=ih h
        simp only [List.map_cons]
        split <;> (rw [List.lookup_cons,hb];exact q)
  exact this scope.names hx
theorem vK {scope:Scope} {env:Env} {x:Str} (hn:∀ y∈scope.names,y.2≠.cell) (h:(relabel scope env).names.lookup x=some .cell∨(relabel scope env).names.lookup x=some .free):(x,NameKind.free)∈scope.names:=by
  have key:∀ k,(k=NameKind.cell∨k=NameKind.free)→(relabel scope env).names.lookup x=some k→(x,NameKind.free)∈scope.names:=by
    intro k hk hl
    have hm:=PySem.mem_of_lookup hl
    unfold relabel at hm
    obtain ⟨⟨n,k'⟩,hm1,hm2⟩:=List.mem_map.mp hm
    dsimp only at hm2
    by_cases hc:(k' == NameKind.free && env.scope.kind == .function && env.kindOf n == some .cell)=true
    · rw [if_pos hc] at hm2
      cases hm2
      simp only [Bool.and_eq_true,beq_iff_eq] at hc
      rw [← hc.1.1];exact hm1
    · rw [if_neg hc] at hm2
      cases hm2
      rcases hk with hk | hk
      · subst hk;exact absurd rfl (hn _ hm1)
      · subst hk;exact hm1
  rcases h with h | h
  · exact key _ (.inl rfl) h
  · exact key _ (.inr rfl) h
section
variable {X:Cx} {tg iter elt:Expr} {ifs:List Expr} {scope:Scope} {pos:Pos} {N':List Str} {sub:List (Option Nat)} {wi:TI} {g:TG} {tt:TT} {te:TE}
theorem uW {pins:List (Addr×Obj)} {σ:St} {H:Hp} {s:Shared} {fp:List Addr} {D:Addr} {h':Heap} {tk:Nat} {N:List Str} {sc:Scope} (S:qL N sc N' scope sub) (hN:X.N=N) (hsc:X.env.scope=sc) (I:Inv X pins σ H s) (hf:∀ b∈fp,jG X pins H b) (hfo:∀ b∈fp,b < s.heap.objs.size)
    (hD:D < s.heap.objs.size) (fD:jG X pins H D) (hns:h'.Ns s.heap.objs.size fun _=>none) (hk:∀ b o,s.heap.get? b=some o→h'.get? b=some o):
    Inv (nM X N' scope s.heap.objs.size s H (D :: fp)) [] (cT sub σ) H {s with heap:=h',toks:=tk}:=by
  have hex:∀ b∈D :: fp,jG X pins H b∧b < s.heap.objs.size:=fun b hb=>by
    rcases List.mem_cons.mp hb with rfl | z
    · exact ⟨fD,hD⟩
    · exact ⟨hf b z,hfo b z⟩
  refine ⟨⟨I.ok.mod,S.kind,I.ok.glob,I.ok.blt,Nat.le_refl _,fun x y c h1 h2=>I.ok.inj x y c (kj h1) (kj h2),fun x hx=>?_,fun x c hx _=>(nomatch hx),I.ok.hd,I.ok.frames,.inl rfl,fun b hb=>?_,I.bs,Nat.le_trans I.ok.bsz I.sz,fun b o e hb=>?_,fun b hb=>?_,I.stack,I.stkFree⟩,
    rfl,I.bare,Un.kept hk,⟨_,hns,fun i x v h1 h2 h3=>?_⟩,fun x c h=>?_,I.hok.fresh (Nat.le_refl _),fun x c h=>I.freeC x c (kj h),fun p hp=>(nomatch hp),I.hok.kept hk,?_⟩
  · have hx':(x,NameKind.free)∈scope.names:=vK S.nocell hx
    obtain ⟨c,e⟩:=I.ok.has x (by have:=S.free _ hx' rfl;rw [← hsc] at this;exact this)
    exact ⟨c,qK e hx'⟩
  · obtain ⟨⟨f0,f1,f2,f3,f4,f5⟩,hlt⟩:=hex b hb
    exact ⟨Nat.ne_of_lt hlt,fun x c h=>f4 x c (kj h)⟩
  · obtain ⟨⟨f0,f1,f2,f3,f4,f5⟩,hlt⟩:=hex b hb
    rcases f3 with z | z
    · exact I.ok.noex b o e z
    · exact absurd (Nat.lt_of_lt_of_le (Heap.lt_size (I.ok.bs b o e).1) z) (Nat.lt_irrefl _)
  · obtain ⟨⟨f0,f1,f2,f3,f4,f5⟩,hlt⟩:=hex b hb
    intro z
    rcases List.mem_cons.mp (I.stkSub b z) with z | z
    · exact f1 z
    · exact f2 z
  · have hs:∃ j,sub[i]?=some (some j)∧σ[j]?=some (some v):=by
      unfold cT at h2
      rw [List.getElem?_map] at h2
      cases e:sub[i]? with
      | none=>rw [e] at h2;cases h2
      | some o=>
        rw [e] at h2
        cases o with
        | none=>cases h2
        | some j=>
          refine ⟨j,rfl,?_⟩
          have h3:(σ[j]?).join=some v:=Option.some.inj h2
          cases e2:σ[j]? with
          | none=>rw [e2] at h3;cases h3
          | some z=>rw [e2] at h3;cases z with
            | none=>cases h3
            | some z=>cases h3;rfl
    obtain ⟨j,e1,e2⟩:=hs
    obtain ⟨g1,g2,g3⟩:=S.at_ i j x e1 h1
    rw [← hN] at g1
    obtain ⟨m,hn,hl⟩:=I.loc
    have hkf:X.env.kindOf x=some .cell∨X.env.kindOf x=some .free:=by have:=S.free _ g2 rfl;rw [← hsc] at this;exact this
    have hvis:Vis X.env.scope x:=by
      rcases hkf with z | z
      · exact .inr (.inl z)
      · exact .inr (.inr z)
    obtain ⟨u,r,l⟩:=hl j x v g1 e2 hvis
    refine ⟨u,r,.inr ⟨oY g3,?_⟩⟩
    rcases l with ⟨k,_⟩ | ⟨_,c,e,o,ho,hd⟩
    · have k':X.env.kindOf x=some .local:=k
      rcases hkf with z | z <;> (rw [k'] at z;cases z)
    · exact ⟨c,qK e g2,o,hk _ _ ho,hd⟩
  · obtain ⟨v,o,ho,hd⟩:=I.cell x c (kj h)
    exact ⟨v,o,hk _ _ ho,hd⟩
  · show (cT sub σ).length=N'.length
    unfold cT
    rw [List.length_map]
    exact S.len
theorem Av {N:List Str} {sc:Scope} (S:qL N sc N' scope sub) (hc:X.calm=true) (hN:X.N=N) (hsc:X.env.scope=sc) (hi:PI X tg iter wi)
    (hg:∀ (C:Addr) (s₀:Shared) (H₀:Hp) (ex:List Addr),PG (nM X N' scope C s₀ H₀ ex) tg g)
    (ht:∀ (C:Addr) (s₀:Shared) (H₀:Hp) (ex:List Addr),xq (nM X N' scope C s₀ H₀ ex) ifs tt)
    (he:∀ (C:Addr) (s₀:Shared) (H₀:Hp) (ex:List Addr),PE (nM X N' scope C s₀ H₀ ex) elt te)
    (hs:autoParam (∀ x,foldedSetIterable iter X.env x=pure x) L2.auto3._auto_1):
    PE X (.ListComp elt [⟨tg,iter,ifs,0⟩] scope pos) (sV sub wi g tt te):=by
  intro pins s σ H Q I h
  rw [eval_ListComp]
  have hcl:∀ x∈scope.names,x.2=NameKind.free→∃ c,X.env.cells.lookup x.1=some c:=fun x hx hk=>I.ok.has x.1 (by have:=S.free x hx hk;rw [← hsc] at this;exact this)
  refine wpAny_comprehension_free (use:=none) rfl hs (nJ hcl) S.kind S.loc ?_
  refine dF (hi pins s σ H _ I h) fun v s1 h1=>dF h1 fun itv s2 h2=>?_
  obtain ⟨it,fp,tn,J,H2,e,I2,T,st2,f2,W,⟨m0,w0⟩,turn⟩:=h2
  subst e
  refine wpAny_newObj_type (wpAny_newFunctionEnv S.nocell (by intro y hy;simp at hy) (fun h₁ hns₁ hsb₁=>?_) S.kind)
  dsimp only at hns₁ hsb₁ ⊢
  generalize hs3:({s2 with heap:=s2.heap.push {cls:=.type "list",dict:=none,data:=.seq ([]:List Value).toArray}}:Shared)=s3
  have e3:s2.heap.push {cls:=.type "list",dict:=none,data:=.seq ([]:List Value).toArray}=s3.heap:=by rw [← hs3]
  rw [e3] at hns₁ hsb₁ ⊢
  have hD3:s3.heap.get? s2.heap.objs.size=some {cls:=.type "list",dict:=none,data:=.seq ([]:List Value).toArray}:=by rw [← e3];exact Heap.get?_push_size _ rfl
  have I3:Inv X pins σ H2 s3:=by
    rw [← hs3]
    exact I2.kept (t':=s2.toks) fun b o e=>Heap.get?_push_of_some _ e
  have k23:∀ b o,s2.heap.get? b=some o→s3.heap.get? b=some o:=fun b o e=>by rw [← e3];exact Heap.get?_push_of_some _ e
  have hsz:s3.heap.objs.size=s2.heap.objs.size+1:=by rw [← e3,Heap.size_push]
  have hk31:∀ b o,s3.heap.get? b=some o→h₁.get? b=some o:=fun b o e=>hsb₁.extBut b o (Nat.ne_of_lt (Heap.lt_size e)) (Heap.get?_push_of_some _ e)
  have hDn:H2 s2.heap.objs.size=none:=I2.hok.fresh (Nat.le_refl _)
  have fD:jG X pins H2 s2.heap.objs.size:=I2.fpOk (Nat.le_refl _) hDn
  have hfo:∀ b∈fp,b < s2.heap.objs.size:=fun b hb=>let ⟨o,e,_⟩:=T.obj _ _ st2 b hb;Heap.lt_size e
  have hDfp:s2.heap.objs.size ∉ fp:=fun z=>absurd (hfo _ z) (Nat.lt_irrefl _)
  have I4:=uW (tk:=s3.toks+([]:List (Str×Value)).length) S hN hsc I3 f2 (fun b hb=>by rw [hsz];exact Nat.lt_succ_of_lt (hfo b hb)) (D:=s2.heap.objs.size) (by rw [hsz];exact Nat.lt_succ_self _) fD hns₁ hk31
  have stat:∀ {H':Hp} {ob:Obj},(∀ b∈fp,H' b=none)→∀ b∈fp,jG (nM X N' scope s3.heap.objs.size s3 H2 (s2.heap.objs.size :: fp)) [(s2.heap.objs.size,ob)] H' b:=fun {H' ob} hn b hb=>by
    obtain ⟨q1,q2⟩:=I4.ok.exf b (List.mem_cons_of_mem _ hb)
    refine ⟨hn b hb,q1,I4.ok.exfs b (List.mem_cons_of_mem _ hb),.inl (List.mem_cons_of_mem _ hb),q2,fun p hp z=>?_⟩
    have hp':p=(s2.heap.objs.size,ob):=by simpa [nM] using hp
    subst hp'
    have z':s2.heap.objs.size=b:=z
    exact hDfp (by rw [z'];exact hb)
  generalize hXC:nM X N' scope s3.heap.objs.size s3 H2 (s2.heap.objs.size :: fp)=XC at I4 stat
  have eP:XC.prog=X.prog:=by rw [← hXC];rfl
  have eW:XC.w=X.w:=by rw [← hXC];rfl
  have eK:XC.K=X.K:=by rw [← hXC];rfl
  have eA:XC.A=X.A:=by rw [← hXC];rfl
  have eE:XC.env=compEnvC scope (nZ X.env scope.names []) s3.heap.objs.size X.env:=by rw [← hXC];rfl
  have eC:XC.calm=true:=by rw [← hXC];exact hc
  have eX:XC.xe=fun _ _=>False:=by rw [← hXC];rfl
  have eH:XC.H₀=H2:=by rw [← hXC];rfl
  have eS:XC.s₀=s3:=by rw [← hXC];rfl
  have eF:XC.fs=frs X.stack:=by rw [← hXC];rfl
  have eEx:XC.ex=s2.heap.objs.size :: fp:=by rw [← hXC];rfl
  have ePn:XC.pn=[]:=by rw [← hXC];rfl
  have hgC:PG XC tg g:=by rw [← hXC];exact hg _ _ _ _
  have htC:xq XC ifs tt:=by rw [← hXC];exact ht _ _ _ _
  have heC:PE XC elt te:=by rw [← hXC];exact he _ _ _ _
  have pinD:∀ {σ':St} {H':Hp} {s':Shared} {ob:Obj},Inv XC [] σ' H' s'→H' s2.heap.objs.size=none→s'.heap.get? s2.heap.objs.size=some ob→(∀ v,ob.data≠.cell v)→Inv XC [(s2.heap.objs.size,ob)] σ' H' s':=fun {σ' H' s' ob} J hn hg hd=>
    J.pins_of fun p hp=>by
      have hp':p=(s2.heap.objs.size,ob):=by simpa using hp
      subst hp'
      refine ⟨hg,hn,(J.ok.exf _ (by rw [eEx];exact List.mem_cons_self)).1,J.ok.exfs _ (by rw [eEx];exact List.mem_cons_self),hd⟩
  have loop:codeAny (model X.prog X.w) X.A (.compLoop (.ListComp elt [⟨tg,iter,ifs,0⟩] scope pos) 0 (.ref it) (.ref s2.heap.objs.size) (compEnvC scope (nZ X.env scope.names []) s3.heap.objs.size X.env))
      (compPost (model X.prog X.w) X.A X.xe none (EP X pins σ Q) (.ref s2.heap.objs.size) s3.heap.objs.size) {s3 with heap:=h₁,toks:=s3.toks+([]:List (Str×Value)).length}:=by
    refine uV (fun n s'=>∃ (i:Nat) (ys:List V) (its:List Value) (nn:Nat) (H':Hp),Inv XC [] (cT sub σ) H' s'∧tn i s'.heap∧(∀ b∈fp,H' b=none)∧H' s2.heap.objs.size=none∧
      s'.heap.get? s2.heap.objs.size=some {cls:=.type "list",data:=.seq its.toArray nn}∧Vals ys its∧W i n ys H') ?_ m0
      ⟨0,[],[],_,H2,I4,T.keep _ _ _ st2 fun b _ o e=>hk31 b o (k23 b o e),fun b hb=>(f2 b hb).1,hDn,hk31 _ _ hD3,.nil,w0⟩
    rintro n s4 ⟨i,ys,its,nn,H4,J4,st4,fr4,dn4,dg4,rv4,w4⟩
    have P4:=pinD J4 dn4 dg4 (fun v z=>by cases z)
    rcases turn i n ys H4 w4 with ⟨stop,hyl,qn⟩ | ⟨go,hyl,N,hN,step⟩
    · have hdone:=T.done XC eP eW eK eC i _ s4 _ H4 (fun _ _=>False) P4 (stat fr4) st4 stop
      rw [eA] at hdone
      refine wpAny_mono hdone (fun r s5 ⟨hr,I5⟩=>?_) fun _ _ z=>z
      subst hr
      obtain ⟨m,hn,_⟩:=id I5.loc
      have hCe:XC.env.locals=s3.heap.objs.size:=by rw [eE];rfl
      rw [hCe] at hn
      refine ⟨m,hn,fun h6 hs6=>?_⟩
      have hDg:=(I5.pin (s2.heap.objs.size,_) (by rw [ePn];exact List.mem_cons_self)).1
      have hDne:s2.heap.objs.size≠s3.heap.objs.size:=by rw [hsz];exact Nat.ne_of_lt (Nat.lt_succ_self _)
      have hHC:H4 s3.heap.objs.size=none:=by have:=I5.free;rw [hCe] at this;exact this
      have k56:∀ b o,b≠s3.heap.objs.size→s5.heap.get? b=some o→h6.get? b=some o:=fun b o hb e=>hs6.extBut b o hb e
      have un:=I5.base
      rw [eF,eEx,eH,eS] at un
      have nC:∀ b o,s3.heap.get? b=some o→b≠s3.heap.objs.size:=fun b o e=>Nat.ne_of_lt (Heap.lt_size e)
      have hok6:HOk X.prog X.w (upd H4 s2.heap.objs.size (.lst ys)) h6:=by
        have h5:=I5.hok
        rw [eP,eW] at h5
        have IW:∀ b u,H4 b=some u→b≠s3.heap.objs.size:=fun b u e z=>by rw [z,hHC] at e;cases e
        intro b u e
        by_cases hb:b=s2.heap.objs.size
        · subst hb
          rw [aj] at e;cases e
          exact ⟨hyl,its,nn,rv4,k56 _ _ hDne hDg⟩
        · rw [aD hb] at e
          have nD:∀ c u,H4 c=some u→c≠s2.heap.objs.size:=fun c u e z=>by rw [z,dn4] at e;cases e
          refine (h5 b u e).stay (fun c v hc' q=>k56 c v ?_ q) (fun c q=>by rw [aD (nD c _ q)];exact q) fun c xs q=>by rw [aD (nD c _ q)];exact q
          rcases hc' with z | z
          · rw [z];exact IW b u e
          · exact IW c _ z
      have nD2:∀ c u,H4 c=some u→c≠s2.heap.objs.size:=fun c u e z=>by rw [z,dn4] at e;cases e
      have un6:Un (frs X.stack) (s2.heap.objs.size :: fp) H2 (upd H4 s2.heap.objs.size (.lst ys)) s3.heap h6:=
        ⟨fun b o e nn' hb hx=>k56 b o (nC b o e) (un.keep b o e nn' hb hx),fun b o e nn' hb hx=>let ⟨sl,q⟩:=un.slot b o e nn' hb hx;⟨sl,k56 b _ (nC b o e) q⟩,
          fun b o e nn' hx=>by rw [aD (fun z=>hx (by rw [z];exact List.mem_cons_self))];exact un.free b o e nn' hx,
          fun b o e hx=>let ⟨o',q⟩:=un.there b o e hx;⟨o',k56 b o' (nC b o e) q⟩,
          fun b xs e=>by have q:=un.tups b xs e;rw [aD (nD2 b _ q)];exact q,
          fun b o u e=>by have q:=un.frzs b o u e;rw [aD (nD2 b _ q)];exact q,
          fun b ps e=>let ⟨more,q⟩:=un.tbls b ps e;⟨more,by rw [aD (nD2 b _ q)];exact q⟩⟩
      have I6:Inv X pins σ (upd H4 s2.heap.objs.size (.lst ys)) {s5 with heap:=h6}:=by
        refine I3.call' (s':={s5 with heap:=h6}) (ch:=s2.heap.objs.size :: fp) ?_ un6 hok6 I5.bare fun b hb=>?_
        · show s5.os=s3.os
          have:=I5.os
          rw [eS] at this
          exact this
        · have q:jG X pins H2 b:=by
            rcases List.mem_cons.mp hb with rfl | z
            · exact fD
            · exact f2 b z
          obtain ⟨f0,f1,f2',f3,f4,f5⟩:=q
          exact ⟨f3,f1,f4,f5⟩
      exact ⟨.ref s2.heap.objs.size,_,I6,rfl,qn _ dn4⟩
    · have hitem:=T.item XC eP eW eK eC i _ s4 _ H4 (fun _ _=>False) P4 (stat fr4) st4 go
      rw [eA] at hitem
      refine wpAny_mono hitem (fun r s5 ⟨u,hr,h5⟩=>?_) fun _ _ z=>z
      subst hr
      dsimp only
      refine wpAny_mono h5 (fun _ s6 ⟨x,H6,I6,r6,y6,st6,fr6⟩=>?_) fun _ _ z=>z
      have P6:=I6.pinned (stat fr6) (T.obj _ _ st6)
      rw [← eE,← eP,← eW,← eA]
      refine wpAny_mono (hgC _ s6 _ H6 x u _ P6 r6 (step x H6 y6)) (fun _ s7 ⟨σ7,H7,I7,kp7,q7⟩=>?_) fun _ _ z=>by rw [eX] at z;exact z
      refine wpAny_mono (htC _ s7 σ7 H7 _ I7 q7) (fun ok s8 ⟨H8,I8,q8⟩=>?_) fun _ _ z=>by rw [eX] at z;exact z
      have fin:∀ {H9:Hp} {s9:Shared},Inv XC ([(s2.heap.objs.size,({cls:=.type "list",data:=.seq its.toArray nn}:Obj))] ++ pW fp s6.heap) σ7 H9 s9→Inv XC [] (cT sub σ) H9 s9∧tn (i+1) s9.heap∧(∀ b∈fp,H9 b=none)∧H9 s2.heap.objs.size=none∧
          s9.heap.get? s2.heap.objs.size=some {cls:=.type "list",data:=.seq its.toArray nn}:=fun {H9 s9} J=>by
        have pD:=J.pin (s2.heap.objs.size,({cls:=.type "list",data:=.seq its.toArray nn}:Obj)) (by rw [ePn];simp)
        have pF:∀ b∈fp,∀ o,s6.heap.get? b=some o→s9.heap.get? b=some o∧H9 b=none:=fun b hb o e=>by
          have q:=J.pin (b,o) (by rw [ePn];exact List.mem_append_right _ (List.mem_append_right _ (lu hb e)))
          exact ⟨q.1,q.2.1⟩
        refine ⟨?_,T.keep _ _ _ st6 fun b hb o e=>(pF b hb o e).1,fun b hb=>?_,pD.2.1,pD.1⟩
        · have J0:Inv XC [] σ7 H9 s9:=J.pins_of fun p hp=>nomatch hp
          exact J0.weak kp7.1.symm fun j v e=>kp7.2 j v e
        · obtain ⟨o,e,_⟩:=T.obj _ _ st6 b hb
          exact (pF b hb o e).2
      cases ok with
      | false=>
        rw [if_neg (by simp)]
        rw [if_neg (by simp)] at q8
        obtain ⟨m',hm,w8⟩:=hN _ _ q8
        obtain ⟨a1,a2,a3,a4,a5⟩:=fin I8
        exact ⟨m',hm,i+1,ys,its,nn,H8,a1,a2,a3,a4,a5,rv4,w8⟩
      | true=>
        rw [if_pos rfl]
        rw [if_pos rfl] at q8
        refine wpAny_mono (heC _ s8 σ7 H8 _ I8 q8) (fun xv s9 ⟨y,H9,I9,r9,n9⟩=>?_) fun _ _ z=>by rw [eX] at z;exact z
        obtain ⟨m',hm,w9⟩:=hN _ _ n9
        obtain ⟨a1,a2,a3,a4,a5⟩:=fin I9
        refine wpAny_list_append_plain (items:=its.toArray) ⟨nn,a5⟩ (fun h' ⟨n',hp'⟩ sb=>?_) (by simp;rw [← rv4.length];omega)
        obtain ⟨q1,q2⟩:=I4.ok.exf s2.heap.objs.size (by rw [eEx];exact List.mem_cons_self)
        have a1':Inv XC [] (cT sub σ) H9 {s9 with heap:=h'}:=a1.turned (t':=s9.toks) (fun b o hb e=>(sb.2 b hb).trans e) a4 q1 (.inl (by rw [eEx];exact List.mem_cons_self)) q2 (fun p hp=>by rw [ePn] at hp;exact nomatch hp)
        refine ⟨m',hm,i+1,ys ++ [y],its ++ [xv],n',H9,a1',T.keep _ _ _ a2 fun b hb o e=>(sb.2 b (fun z=>hDfp (by rw [← z];exact hb))).trans e,a3,a4,?_,rv4.append (.cons r9 .nil),w9⟩
        rw [hp']
        simp
  subst hs3
  exact codeAny_compStart_list loop (T.self _ 0 _ _ _ (T.keep _ _ _ st2 fun b _ o e=>hk31 b o (k23 b o e)) loop)
end
abbrev oZ (sub:List (Option Nat)) (g:TG) (tt:TT) (te:TE) (σ:St) (Q:VK) (J:It) (H1:Hp):Prop:=∃ W:Nat→Nat→List V→Hp→Prop,(∃ m,W 0 m [] H1)∧∀ i m ys H,W i m ys H→
  (J.stop i H∧ys.length≤sizeLine∧∀ D,H D=none→Q (.ref D) (upd H D (.lst ys)))∨
  (J.go i H∧ys.length < sizeLine∧∃ N:List V→Hp→Prop,(∀ ys' H',N ys' H'→∃ m',m' < m∧W (i+1) m' ys' H')∧
    ∀ x H',J.yld i H x H'→g x (cT sub σ) H' fun σ2 H2=>KeepSt (cT sub σ) σ2∧tt σ2 H2 fun b H3=>if b=true then te σ2 H3 fun y H4=>N (ys ++ [y]) H4 else N ys H3)
theorem vL {sub:List (Option Nat)} {g:TG} {tt:TT} {te:TE} {σ:St} {Q:VK} {J:It} {H:Hp} {n:Nat} (Pv:Nat→List V→Hp→Prop) (hn:n≤sizeLine) (h0:Pv 0 [] H) (hl:∀ i ys H,Pv i ys H→ys.length≤i)
    (hgo:∀ i ys H,i < n→Pv i ys H→J.go i H) (hstop:∀ ys H,Pv n ys H→J.stop n H)
    (hs:∀ i ys H x H',i < n→Pv i ys H→J.yld i H x H'→g x (cT sub σ) H' fun σ2 H2=>KeepSt (cT sub σ) σ2∧tt σ2 H2 fun b H3=>if b=true then te σ2 H3 fun y H4=>Pv (i+1) (ys ++ [y]) H4 else Pv (i+1) ys H3)
    (hd:∀ ys H,Pv n ys H→∀ D,H D=none→Q (.ref D) (upd H D (.lst ys))):oZ sub g tt te σ Q J H:=by
  refine ⟨fun i m ys H=>m=n - i∧i≤n∧Pv i ys H,⟨n,by simp,Nat.zero_le _,h0⟩,?_⟩
  rintro i m ys H ⟨rfl,hi,p⟩
  have hl':=hl i ys H p
  by_cases hlt:i < n
  · exact .inr ⟨hgo i ys H hlt p,by omega,fun ys' H'=>Pv (i+1) ys' H',fun ys' H' p'=>⟨n - (i+1),by omega,rfl,hlt,p'⟩,fun x H' y=>hs i ys H x H' hlt p y⟩
  · have e:i=n:=by omega
    subst e
    exact .inl ⟨hstop ys H p,by omega,hd ys H p⟩
end L2
namespace L2
open PySem PySem.Spec PyProof.Rows
section
variable {κ:Type} [DecidableEq κ]
def jw (kvs:List (κ×V)) (k:κ):Option V:=(kvs.find? fun kv=>decide (kv.1=k)).map (·.2)
def putK (kvs:List (κ×V)) (k:κ) (v:V):List (κ×V):=
  if (kvs.any fun kv=>decide (kv.1=k))=true then kvs.map (fun kv=>if kv.1=k then (kv.1,v) else kv) else kvs ++ [(k,v)]
theorem xr {k:κ}:jw ([]:List (κ×V)) k=none:=rfl
theorem dU {p:κ×V} {r:List (κ×V)} {k:κ} (e:p.1=k):jw (p :: r) k=some p.2:=by simp [jw,List.find?_cons,e]
theorem dW {p:κ×V} {r:List (κ×V)} {k:κ} (e:¬ p.1=k):jw (p :: r) k=jw r k:=by simp [jw,List.find?_cons,e]
theorem o7 (k:κ):∀ kvs:List (κ×V),(kvs.any fun kv=>decide (kv.1=k))=(jw kvs k).isSome
  | []=>rfl
  | p :: r=>by
    rw [List.any_cons]
    by_cases e:p.1=k
    · simp only [dU e,decide_eq_true e,Bool.true_or,Option.isSome_some]
    · rw [dW e,decide_eq_false e,Bool.false_or];exact o7 k r
theorem xu (k j:κ) (y:V):∀ kvs:List (κ×V),jw (kvs.map fun kv=>if kv.1=k then (kv.1,y) else kv) j=(jw kvs j).map fun x=>if j=k then y else x
  | []=>rfl
  | p :: r=>by
    have ih:=xu k j y r
    rw [List.map_cons]
    by_cases h:p.1=k
    · rw [if_pos h]
      by_cases e:p.1=j
      · rw [dU (p:=(p.1,y)) e,dU e,Option.map_some,if_pos (e.symm.trans h)]
      · rw [dW (p:=(p.1,y)) e,dW e,ih]
    · rw [if_neg h]
      by_cases e:p.1=j
      · rw [dU (p:=p) e,dU e,Option.map_some,if_neg (fun z=>h (e.trans z))]
      · rw [dW (p:=p) e,dW e,ih]
theorem uX (k j:κ) (y:V):∀ kvs:List (κ×V),jw kvs k=none→jw (kvs ++ [(k,y)]) j=if j=k then some y else jw kvs j
  | [],_=>by
    by_cases e:k=j
    · rw [if_pos e.symm];exact dU (p:=(k,y)) e
    · rw [if_neg (fun z=>e z.symm)];exact dW (p:=(k,y)) e
  | p :: r,hn=>by
    rw [List.cons_append]
    have hk:¬ p.1=k:=fun z=>by rw [dU z] at hn;cases hn
    rw [dW hk] at hn
    have ih:=uX k j y r hn
    by_cases e:p.1=j
    · rw [dU e,dU e,if_neg (fun z=>hk (e.trans z))]
    · rw [dW e,dW e,ih]
theorem xx (kvs:List (κ×V)) (k j:κ) (y:V):jw (putK kvs k y) j=if j=k then some y else jw kvs j:=by
  unfold putK
  by_cases a:(kvs.any fun kv=>decide (kv.1=k))=true
  · rw [if_pos a,xu]
    rw [o7] at a
    by_cases e:j=k
    · obtain ⟨x,hx⟩:=Option.isSome_iff_exists.mp a
      rw [if_pos e,e,hx,Option.map_some,if_pos rfl]
    · rw [if_neg e]
      cases jw kvs j with
      | none=>rfl
      | some x=>rw [Option.map_some,if_neg e]
  · rw [if_neg a]
    refine uX k j y kvs ?_
    rw [o7] at a
    cases q:jw kvs k with
    | none=>rfl
    | some x=>rw [q] at a;exact (a rfl).elim
theorem jJ (kvs:List (κ×V)) (k:κ) (v:V):(putK kvs k v).length≤kvs.length+1:=by
  unfold putK
  split
  · rw [List.length_map];omega
  · rw [List.length_append,List.length_cons,List.length_nil];omega
theorem RelO.isSome_eq {o:Option V} {u:Option Value} (r:RelO o u):o.isSome=u.isSome:=by
  cases o with
  | none=>cases u with
    | none=>rfl
    | some _=>exact (show False from r).elim
  | some _=>cases u with
    | none=>exact (show False from r).elim
    | some _=>rfl
theorem KV.val {kvs:List (κ×V)} {vs:List (κ×Value)} (r:KV kvs vs) (k:κ):RelO (jw kvs k) (valueAt vs k):=by
  unfold KV at r
  induction r with
  | nil=>exact True.intro
  | @cons p q ps qs h t ih=>
    obtain ⟨h1,h2⟩:=h
    by_cases e:p.1=k
    · have e':q.1=k:=h1.symm.trans e
      have b:valueAt (q :: qs) k=some q.2:=by simp [valueAt,List.find?_cons,e']
      rw [dU e,b];exact h2
    · have e':¬ q.1=k:=fun z=>e (h1.trans z)
      have b:valueAt (q :: qs) k=valueAt qs k:=by simp [valueAt,List.find?_cons,e']
      rw [dW e,b];exact ih
theorem KV.any {kvs:List (κ×V)} {vs:List (κ×Value)} (r:KV kvs vs) (k:κ):(kvs.any fun kv=>decide (kv.1=k))=vs.any fun kv=>decide (kv.1=k):=by
  unfold KV at r
  induction r with
  | nil=>rfl
  | cons h t ih=>rw [List.any_cons,List.any_cons,ih,h.1]
theorem KV.repl {kvs:List (κ×V)} {vs:List (κ×Value)} (r:KV kvs vs) (k:κ) {y:V} {u:Value} (ry:RelV y u):
    KV (kvs.map fun kv=>if kv.1=k then (kv.1,y) else kv) (vs.map fun kv=>if kv.1=k then (kv.1,u) else kv):=by
  unfold KV at r ⊢
  induction r with
  | nil=>exact .nil
  | @cons p q ps qs h t ih=>
    rw [List.map_cons,List.map_cons]
    refine .cons ?_ ih
    obtain ⟨h1,h2⟩:=h
    by_cases e:p.1=k
    · rw [if_pos e,if_pos (h1.symm.trans e)];exact ⟨h1,ry⟩
    · rw [if_neg e,if_neg (fun z=>e (h1.trans z))];exact ⟨h1,h2⟩
theorem KV.put {kvs:List (κ×V)} {vs:List (κ×Value)} (r:KV kvs vs) (k:κ) {y:V} {u:Value} (ry:RelV y u):KV (putK kvs k y) (stored vs k u):=by
  unfold putK stored
  rw [r.any k]
  by_cases e:(vs.any fun kv=>decide (kv.1=k))=true
  · rw [if_pos e,if_pos e];exact r.repl k ry
  · rw [if_neg e,if_neg e];exact Paired.snoc r ⟨rfl,ry⟩
theorem KV.length {kvs:List (κ×V)} {vs:List (κ×Value)} (r:KV kvs vs):kvs.length=vs.length:=Paired.length r
end
theorem Fz {P:Program} {w:World} {k:Key} {u:Value} (r:RelV (kV k) u):(cW P w).is k u=true:=by
  cases k with
  | inl i=>obtain ⟨t,e⟩:=(show ∃ t,u=Value.int i t from r);subst e;exact wV P w i t
  | inr x=>obtain ⟨t,e⟩:=(show ∃ t,u=Value.str x t from r);subst e;exact wW P w x t
theorem uY {P:Program} {w:World}:∀ {ks:List Key} {us:List Value},Vals (ks.map kV) us→ItemsAre (cW P w) ks us
  | [],_,r=>by rw [List.map_nil] at r;cases r;exact .nil
  | k :: ks,_,r=>by
    rw [List.map_cons] at r
    cases r with
    | cons h t=>exact .cons (Fz h) (uY t)
abbrev KT (H:Hp):List (List Key×V)→List (List Key×Addr×Value)→Prop:=Paired fun p q=>p.1=q.1∧H q.2.1=some (.tup (p.1.map kV))∧RelV p.2 q.2.2
theorem KT.val {H:Hp} {kvs:List (List Key×V)} {xs:List (List Key×Addr×Value)} (r:KT H kvs xs) (k:List Key):RelO (jw kvs k) ((atKey xs k).map (·.2)):=by
  induction r with
  | nil=>exact True.intro
  | @cons p q ps qs h t ih=>
    obtain ⟨h1,_,h2⟩:=h
    by_cases e:p.1=k
    · have e':q.1=k:=h1.symm.trans e
      have b:atKey (q :: qs) k=some q.2:=by simp [atKey,List.find?_cons,e']
      rw [dU e,b];exact h2
    · have e':¬ q.1=k:=fun z=>e (h1.trans z)
      have b:atKey (q :: qs) k=atKey qs k:=by simp [atKey,List.find?_cons,e']
      rw [dW e,b];exact ih
theorem KT.repl {H:Hp} {kvs:List (List Key×V)} {xs:List (List Key×Addr×Value)} (r:KT H kvs xs) (k:List Key) {y:V} {u:Value} (ry:RelV y u):
    KT H (kvs.map fun kv=>if kv.1=k then (kv.1,y) else kv) (xs.map (putAt k u)):=by
  induction r with
  | nil=>exact .nil
  | @cons p q ps qs h t ih=>
    rw [List.map_cons,List.map_cons]
    refine .cons ?_ ih
    obtain ⟨h1,h2,h3⟩:=h
    unfold putAt
    by_cases e:p.1=k
    · rw [if_pos e,if_pos (h1.symm.trans e)];exact ⟨h1,h2,ry⟩
    · rw [if_neg e,if_neg (fun z=>e (h1.trans z))];exact ⟨h1,h2,h3⟩
theorem KT.put {H:Hp} {kvs:List (List Key×V)} {xs:List (List Key×Addr×Value)} (r:KT H kvs xs) (k:List Key) {b:Addr} {y:V} {u:Value} (hb:H b=some (.tup (k.map kV))) (ry:RelV y u):
    KT H (putK kvs k y) (storedH xs k b u):=by
  have e:(kvs.any fun kv=>decide (kv.1=k))=(atKey xs k).isSome:=by
    rw [o7,(r.val k).isSome_eq,Option.isSome_map]
  unfold putK storedH
  rw [e]
  by_cases q:(atKey xs k).isSome=true
  · rw [if_pos q,if_pos q];exact r.repl k ry
  · rw [if_neg q,if_neg q];exact Paired.snoc r ⟨rfl,hb,ry⟩
theorem KT.keeps {H H':Hp} {kvs:List (List Key×V)} {xs:List (List Key×Addr×Value)} (r:KT H kvs xs) (ht:∀ b ys,H b=some (.tup ys)→H' b=some (.tup ys)):KT H' kvs xs:=
  Paired.mapP r fun _ _ z=>⟨z.1,ht _ _ z.2.1,z.2.2⟩
section
variable {P:Program} {w:World} {H:Hp} {h:Heap} {a:Addr}
theorem MF {u:HO} (ok:HOk P w H h) (e:Rd H a u):ObjOk P w H h a u:=e.ok ok
theorem MJ {kvs:List (Key×V)} (ok:HOk P w H h) (e:Rd H a (.dK kvs)):kvs.length≤sizeLine∧(a == sysModules)=false∧∃ vs,KV kvs vs∧h.DictOf (cW P w) a vs:=
  show ObjOk P w H h a (.dK kvs) from MF ok e
theorem Tv {kvs:List (Key×V)} (ok:HOk P w H h) (e:H a=some (.dK kvs)):kvs.length≤sizeLine∧(a == sysModules)=false∧∃ vs,KV kvs vs∧h.DictOf (cW P w) a vs:=MJ ok (.inl e)
theorem zf {ks:List Key} (ok:HOk P w H h) (e:H a=some (.tup (ks.map kV))):(tupleKind (cW P w)).is h ks a:=by
  obtain ⟨_,its,r,o,h1,h2,n,h3⟩:=(show ObjOk P w H h a (.tup (ks.map kV)) from ok a _ e)
  exact ⟨o,its.toArray,n,h1,h2,h3,by simpa using uY r⟩
theorem MK {kvs:List (List Key×V)} (ok:HOk P w H h) (e:Rd H a (.dT kvs)):kvs.length≤sizeLine∧(a == sysModules)=false∧
    ∃ xs,KT H kvs xs∧h.DictOfH (tupleKind (cW P w)) a xs:=by
  obtain ⟨z,y,xs,r,o,es,ep,h1,h2,h3,h4,h5⟩:=(show ObjOk P w H h a (.dT kvs) from MF ok e)
  refine ⟨z,y,xs,r,o,es,ep,h1,h2,h3,h4,fun x hx=>?_,h5⟩
  have all:∀ {l:List (List Key×V)} {m:List (List Key×Addr×Value)},KT H l m→∀ x∈m,(tupleKind (cW P w)).is h x.1 x.2.1:=by
    intro l m q
    induction q with
    | nil=>intro x hx;exact nomatch hx
    | @cons p q ps qs hq t ih=>
      intro x hx
      rcases List.mem_cons.mp hx with e | hx
      · subst e
        exact zf ok (by rw [← hq.1];exact hq.2.1)
      · exact ih x hx
  exact all r x hx
theorem Tw {kvs:List (List Key×V)} (ok:HOk P w H h) (e:H a=some (.dT kvs)):kvs.length≤sizeLine∧(a == sysModules)=false∧
    ∃ xs,KT H kvs xs∧h.DictOfH (tupleKind (cW P w)) a xs:=MK ok (.inl e)
end
def DGet (H:Hp) (a:Addr) (y:V) (r:Option V):Prop:=
  (∃ kvs k,Rd H a (.dK kvs)∧y=kV k∧r=jw kvs k)∨∃ kvs k b,Rd H a (.dT kvs)∧y= .ref b∧H b=some (.tup (k.map kV))∧r=jw kvs k
def DPut (H:Hp) (a:Addr) (y v:V) (H':Hp):Prop:=
  (∃ kvs k,H a=some (.dK kvs)∧y=kV k∧kvs.length < sizeLine∧H'=upd H a (.dK (putK kvs k v)))∨
  ∃ kvs k b,H a=some (.dT kvs)∧y= .ref b∧H b=some (.tup (k.map kV))∧kvs.length < sizeLine∧H'=upd H a (.dT (putK kvs k v))
theorem DGet.k {H:Hp} {a:Addr} {kvs:List (Key×V)} {k:Key} (e:H a=some (.dK kvs)):DGet H a (kV k) (jw kvs k):=.inl ⟨kvs,k,.inl e,rfl,rfl⟩
theorem DPut.k {H:Hp} {a:Addr} {kvs:List (Key×V)} {k:Key} {v:V} (e:H a=some (.dK kvs)) (hl:kvs.length < sizeLine):DPut H a (kV k) v (upd H a (.dK (putK kvs k v))):=.inl ⟨kvs,k,e,rfl,hl,rfl⟩
section
variable {X:Cx} {pins:List (Addr×Obj)} {σ:St} {H:Hp} {s:Shared} {a:Addr} {y v:V} {u r:Value} {o:Option V} {A:Around} {E:Value→Shared→Prop}
theorem Inv.big (I:Inv X pins σ H s):sysModules < s.heap.objs.size:=by
  have h:mainGlobals < s.heap.objs.size:=(I.mod.glob.keeps I.bk).lt
  exact Nat.lt_trans (by decide) h
theorem d_in {Q:Value→Shared→Prop} (hu:A.units+1 < cLine) (I:Inv X pins σ H s) (g:DGet H a y o) (ry:RelV y u) (h:∀ s',Inv X pins σ H s'→Q (.bool o.isSome) s'):
    wpAny (model X.prog X.w) A (compareOp .In u (.ref a)) Q E s:=by
  rcases g with ⟨kvs,k,e,ey,l⟩ | ⟨kvs,k,b,e,ey,eb,l⟩
  · subst ey
    obtain ⟨z,hd,vs,rel,dd⟩:=MJ I.hok e
    refine wpAny_in_of (Fz ry) hd dd.mapOf ?_
    rw [← (rel.val k).isSome_eq,← l]
    exact h _ (I.tok _)
  · subst ey
    cases (show u=Value.ref b from ry)
    obtain ⟨z,hd,xs,rel,dd⟩:=MK I.hok e
    refine wpAny_in_heap (tupleKind_room_in1 hu) (zf I.hok eb) hd dd ?_
    have q:=(rel.val k).isSome_eq
    rw [Option.isSome_map] at q
    rw [← q,← l]
    exact h _ (I.tok _)
theorem Aw {h':Heap} {t':Nat} {ob:HO} (I:Inv X pins σ H s) (mu:Ss (H a)) (hs:Heap.SameBut a s.heap h') (he:∃ q,h'.get? a=some q) (new:ObjOk X.prog X.w (upd H a ob) h' a ob):
    Inv X pins σ (upd H a ob) {s with heap:=h',toks:=t'}:=
  I.write (x:=a) (e:=a) mu (.inl rfl) (fun b q hb z=>(hs.2 b hb).trans z) he new
theorem Ph {P:Program} {w:World} {H':Hp} {h':Heap} {kvs:List (Key×V)} {vs:List (Key×Value)} (z:kvs.length≤sizeLine) (hd:(a == sysModules)=false) (rel:KV kvs vs) (dd:h'.DictOf (cW P w) a vs):
    ObjOk P w H' h' a (.dK kvs):=⟨z,hd,vs,rel,dd⟩
theorem Cq {H':Hp} {Q:Unit→Shared→Prop} (hu:A.units+1 < cLine) (I:Inv X pins σ H s) (g:DPut H a y v H') (ry:RelV y u) (rv:RelV v r) (h:∀ s',Inv X pins σ H' s'→Q () s'):
    wpAny (model X.prog X.w) A (setItem (.ref a) u r) Q E s:=by
  rcases g with ⟨kvs,k,e,ey,l,eH⟩ | ⟨kvs,k,b,e,ey,eb,l,eH⟩
  · subst ey eH
    obtain ⟨z,hd,vs,rel,dd⟩:=Tv I.hok e
    have hz:vs.length≤sizeLine:=by rw [← rel.length];exact z
    have hl:(putK kvs k v).length≤sizeLine:=by have:=jJ kvs k v;omega
    refine wpAny_setItem_pairs (hsz:=hz) (Fz ry) dd fun h' dd' hs=>h _ ?_
    have he:∃ q,h'.get? a=some q:=let ⟨q,_,_,hq,_⟩:=dd';⟨q,hq⟩
    exact Aw I (by rw [e];exact True.intro) hs he (Ph hl hd (rel.put k rv) dd')
  · subst ey eH
    cases (show u=Value.ref b from ry)
    obtain ⟨z,hd,xs,rel,dd⟩:=Tw I.hok e
    have hz:xs.length≤sizeLine:=by rw [← Paired.length rel];exact z
    have hl:(putK kvs k v).length≤sizeLine:=by have:=jJ kvs k v;omega
    refine wpAny_setItem_heap (hsz:=hz) (tupleKind_room_in1 hu) (zf I.hok eb) dd fun h' dd' hs=>h _ ?_
    obtain ⟨q,es,ep,hq,h2,h3,h4,_,h5⟩:=dd'
    refine Aw I (by rw [e];exact True.intro) hs ⟨q,hq⟩ ⟨hl,hd,_,(rel.put k eb rv).keeps fun c ys ec=>?_,q,es,ep,hq,h2,h3,h4,h5⟩
    rw [aD (Sq ec e (fun z=>nomatch z))]
    exact ec
end
section
variable {X:Cx} {pins:List (Addr×Obj)} {σ:St} {H:Hp} {s:Shared} {a:Addr} {kvs:List (Key×V)} {k:Key} {u:Value} {A:Around} {E:Value→Shared→Prop}
end
section
variable {X:Cx} {o i e value:Expr} {pos pos' tpos:Pos} {td ty tv:TE}
end
theorem FJ {P:Program} {w:World} {H:Hp} (h:Heap) (hb:sysModules < h.objs.size):ObjOk P w H (h.push {cls:=.type "dict",data:=.dict #[]}) h.objs.size (.dK []):=
  ⟨Nat.zero_le _,beq_eq_false_iff_ne.mpr (Ne.symm (Nat.ne_of_lt hb)),[],.nil,Heap.DictOf.new h⟩
def zg:TE:=fun _ H Q=>∀ p,H p=none→Q (.ref p) (upd H p (.dK []))
section
variable {X:Cx} {pos:Pos}
theorem FN:PE X (.Dict [] [] pos) zg:=fun pins s σ H Q I h=>
  wpAny_Dict_empty ⟨.ref s.heap.objs.size,_,I.laid (a:=s.heap.objs.size) (o:=.dK []) (t':=s.toks) (fun _ _ q=>Heap.get?_push_of_some _ q) (Nat.le_refl _) (FJ s.heap I.big),rfl,h _ (I.hok.fresh (Nat.le_refl _))⟩
end
def FP:List (TE×TE)→St→Hp→(List (V×V)→Hp→Prop)→Prop
  | [],_,H,Q=>Q [] H
  | (tk,tv) :: r,σ,H,Q=>tk σ H fun x H1=>tv σ H1 fun y H2=>FP r σ H2 fun ps H3=>Q ((x,y) :: ps) H3
abbrev VV:List (V×V)→List (Value×Value)→Prop:=Paired fun p q=>RelV p.1 q.1∧RelV p.2 q.2
def PPs (X:Cx) (pos:Pos) (keys:List (Option Expr)) (values:List Expr) (trs:List (TE×TE)):Prop:=
  ∀ (pins:List (Addr×Obj)) (s:Shared) (σ:St) (H:Hp) (Q:List (V×V)→Hp→Prop),Inv X pins σ H s→FP trs σ H Q→
    wpAny (model X.prog X.w) X.A (evalPairs (pairTrees keys values X.env pos)) (fun vs s'=>∃ ps H',Inv X pins σ H' s'∧VV ps vs∧Q ps H') X.xe s
structure M1 (X:Cx) (o:Expr) (m:Str) (apos:Pos) (e:Expr) (cpos:Pos):Prop where
  base:attributeBase o m X.env (eval o X.env)=eval o X.env
  few:((backTo cpos (starEach [e] X.env)).all (fun x=>!x.1) && (backToKw cpos (keywordEach [] X.env)).all (fun x=>x.1.isSome)
    && decide (([e]:List Expr).length+([]:List Keyword).length+(if ([]:List Keyword).isEmpty then 0 else 1) < 30))=true
  line:(apos.endLine == cpos.line)=true
  trees:backTo cpos (starEach [e] X.env)=[(false,eval e X.env)]
structure M2 (X:Cx) (o:Expr) (m:Str) (apos:Pos) (e f:Expr) (cpos:Pos):Prop where
  base:attributeBase o m X.env (eval o X.env)=eval o X.env
  few:((backTo cpos (starEach [e,f] X.env)).all (fun x=>!x.1) && (backToKw cpos (keywordEach [] X.env)).all (fun x=>x.1.isSome)
    && decide (([e,f]:List Expr).length+([]:List Keyword).length+(if ([]:List Keyword).isEmpty then 0 else 1) < 30))=true
  line:(apos.endLine == cpos.line)=true
  trees:backTo cpos (starEach [e,f] X.env)=[(false,eval e X.env),(false,eval f X.env)]
section
variable {X:Cx} {pins:List (Addr×Obj)} {σ:St} {H:Hp} {s:Shared} {a:Addr} {y d:V} {u r:Value} {o:Option V} {A:Around} {E:Value→Shared→Prop}
end
section
variable {X:Cx} {o e f:Expr} {apos cpos:Pos} {td ty tx:TE}
end
section
variable {X:Cx} {pins:List (Addr×Obj)} {σ:St} {H:Hp} {s:Shared} {a:Addr} {kvs:List (Key×V)} {A:Around} {E:Value→Shared→Prop}
end
section
variable {X:Cx} {pins:List (Addr×Obj)} {σ:St} {H:Hp} {s:Shared} {a:Addr} {y:V} {u:Value} {A:Around} {E:Value→Shared→Prop}
end
end L2
namespace L2
open PySem PySem.Spec PyProof.Rows
section
variable {X:Cx}
section
variable {κ:Type} [DecidableEq κ]
end
end
end L2
namespace L2
open PySem PySem.Spec PyProof.Rows
def MN (x:Str):It:=⟨fun i _=>i < x.cps.size,fun i H v H'=>H'=H∧∃ c,x.cps[i]?=some c∧v= .str ⟨#[c]⟩,fun i _=>i=x.cps.size⟩
theorem xF {P:Program} {w:World} {K:PySem.W.Frag} {tg:Expr} (it:Addr) (x:Str) (t:Tok) (ty:String)
    (hty:["enumerate","zip","dict_itemiterator","dict_reverseitemiterator","odict_iterator","itertools.zip_longest","itertools.pairwise"].contains ty=false)
    (W:∀ A:Around,A.handled=none→Walks P w A it [it] [it] x.cps.size (SignAt x) fun i h=>h.IsStrIter it ty x t i)
    (hself:∀ (A:Around) (i:Nat) (s:Shared) (Q:Value→Shared→Prop) (E:Value→Shared→Prop),s.heap.IsStrIter it ty x t i→Q (.ref it) s→wpAny (model P w) A (pyIter (.ref it)) Q E s):Turn P w K tg (MN x) [it] it (fun i h=>h.IsStrIter it ty x t i) where
  mem:=by simp
  obj:=fun i h st b hb=>by
    have e:b=it:=by simpa using hb
    subst e
    obtain ⟨o,e,c,d⟩:=st
    exact ⟨o,e,fun v z=>by rw [d] at z;cases z⟩
  keep:=fun i h h' st k=>by
    obtain ⟨o,e,r⟩:=st
    exact ⟨o,k it (by simp) o e,r⟩
  item:=by
    intro X hP hw hK hc i pins s σ H E I hf st hg
    subst hP hw hK
    obtain ⟨f0,f1,f2,f3,f4,f5⟩:=hf it (by simp)
    refine (W X.A (I.ok.hd hc)).item i s _ _ hg st fun v h' tk hv st' kk=>?_
    obtain ⟨c,u,e1,rfl⟩:=hv
    have I1:Inv X pins σ H {s with heap:=h',toks:=tk}:=I.turned (fun b o hb e=>kk b o (by simpa using hb) e) f0 f1 f3 f4 f5
    obtain ⟨o,e,cl,d⟩:=id st'
    exact ⟨_,rfl,uL (s:={s with heap:=h',toks:=tk}) e cl d hty ⟨.str ⟨#[c]⟩,H,I1,⟨u,rfl⟩,⟨rfl,c,e1,rfl⟩,st',fun b hb=>(hf b hb).1⟩⟩
  done:=by
    intro X hP hw hK hc i pins s σ H E I hf st hg
    subst hP hw hK
    obtain ⟨f0,f1,f2,f3,f4,f5⟩:=hf it (by simp)
    have hg:i=x.cps.size:=hg
    subst hg
    exact (W X.A (I.ok.hd hc)).done s _ _ st fun h' tk kk=>⟨rfl,I.turned (fun b o hb e=>kk b o (by simpa using hb) e) f0 f1 f3 f4 f5⟩
  self:=hself
section
variable {X:Cx}
theorem all_range {bs:List Bool}:(List.range bs.length).all (fun i=>bs.getD i false)=bs.all id:=by
  rw [Bool.eq_iff_iff]
  simp only [List.all_eq_true,List.mem_range]
  constructor
  · intro h b hb
    obtain ⟨i,hi,e⟩:=List.mem_iff_getElem.mp hb
    have:=h i hi
    rw [List.getD_eq_getElem?_getD,List.getElem?_eq_getElem hi] at this
    simp only [Option.getD_some] at this
    rw [← e];exact this
  · intro h i hi
    rw [List.getD_eq_getElem?_getD,List.getElem?_eq_getElem hi]
    exact h _ (List.getElem_mem hi)
theorem qM:∀ {bs:List Bool} {us:List Value} {i:Nat} {v:Value},Vals (bs.map V.bl) us→us[i]?=some v→v= .bool (bs.getD i false)
  | [],_,i,v,.nil,e=>by simp at e
  | b :: bs,_,0,v,.cons r t,e=>by simp at e;subst e;exact r
  | b :: bs,_,i+1,v,.cons r t,e=>by
    simp at e
    have:=qM (bs:=bs) t e
    simpa using this
def rAll:List V→Hp→VK→Prop:=fun xs H Q=>∃ (p:Addr) (bs:List Bool),xs=[.ref p]∧H p=some (.lst (bs.map V.bl))∧Q (.bl (bs.all id)) H
theorem xG (hc:X.calm=true):CallR X (.builtin "all") rAll:=by
  intro pins s σ H xs us Q I r h
  obtain ⟨p,bs,rfl,hp,q⟩:=h
  obtain ⟨u,rfl,ru⟩:=vals1 r
  cases ru
  obtain ⟨hz,its,n,rv,e⟩:=I.hok p _ hp
  refine call_all_walk (wpAny_pyIter_list (items:=its.toArray) ⟨_,e,rfl,n,rfl⟩ ?_)
  refine ⟨s.heap.objs.size,_,_,_,_,_,fun i=>bs.getD i false,rfl,Walks.list (A:=X.A.in1) (I.ok.hd hc) s.heap.objs.size p (Nat.ne_of_lt (Heap.lt_size e)) its.toArray,⟨⟨_,Heap.get?_push_size _ rfl,rfl,rfl⟩,⟨_,Heap.get?_push_of_some _ e,rfl,n,rfl⟩⟩,?_,fun h' tk hk=>?_⟩
  · intro i v s' Q' E' hv hq
    have:=qM rv (by simpa using hv)
    subst this
    exact wpAny_truthy_bool hq
  · have hl:its.toArray.size=bs.length:=by have:=rv.length;simpa using this.symm
    rw [hl,all_range]
    refine ⟨.bl _,H,?_,rfl,q⟩
    exact I.kept fun b o e=>hk b o (by simp;exact Nat.ne_of_lt (Heap.lt_size e)) (Heap.get?_push_of_some _ e)
theorem sW:∀ {ys:List Str} {us:List Value},Vals (ys.map V.str) us→StrsAre us ys
  | [],_,.nil=>.nil
  | y :: ys,_,.cons r t=>by
    obtain ⟨k,e⟩:=(show ∃ t,_=Value.str y t from r)
    subst e
    exact .cons y k (sW t)
def rJoin:V→List V→Hp→VK→Prop:=fun x xs H Q=>∃ (sep:Str) (p:Addr) (ys:List Str),x= .str sep∧xs=[.ref p]∧H p=some (.lst (ys.map V.str))∧(ys.map (·.length)).sum+ys.length*sep.length≤16777216∧Q (.str (Txt.join sep ys)) H
theorem Ax:Te X "str.join" rJoin:=by
  intro pins s σ H x xs v us Q I rx r h
  obtain ⟨sep,p,ys,rfl,rfl,hp,hz,q⟩:=h
  obtain ⟨u,rfl,ru⟩:=vals1 r
  cases ru
  obtain ⟨t,rfl⟩:=rx
  obtain ⟨hz',its,n,rv,e⟩:=I.hok p _ hp
  exact join_list (items:=its.toArray) ⟨_,e,rfl,n,rfl⟩ (by simpa using sW rv) hz fun t' k=>⟨.str _,H,I.tok _,⟨_,rfl⟩,q⟩
def Tz:V→Option Int→Option Int→Hp→VK→Prop:=fun v lo hi H Q=>∃ x,v= .str x∧x.length≤sizeLine∧Q (.str (Txt.slice x lo hi)) H
theorem Pj:SlR X Tz:=by
  intro pins s σ H x v vl vu lo hi sl Q I rx hs pl pu h
  obtain ⟨z,rfl,hz,q⟩:=h
  obtain ⟨t,rfl⟩:=rx
  refine ⟨"str",_,F.slot_str_getitem.lookup,typeIs_str _ _ _,?_⟩
  have fin:∀ (t' k:Nat),EP X pins σ Q (.str (Txt.slice z lo hi) t') {s with toks:=k}:=fun t' k=>⟨.str _,H,I.tok _,⟨_,rfl⟩,q⟩
  have sz:=Nat.le_trans (Txt.slice_le z lo hi) hz
  obtain ⟨o,ho,hc,hd⟩:=hs
  cases pl with
  | none=>
    cases pu with
    | none=>exact wpAny_getItem_str_slice (l:=none) (u:=none) (st:=none) ⟨o,ho,hc,hd⟩ rfl (post_val_or_str ⟨sz,fin⟩)
    | int j tj=>exact wpAny_getItem_str_slice (l:=none) (u:=some (j,tj)) (st:=none) ⟨o,ho,hc,hd⟩ rfl (post_val_or_str ⟨sz,fin⟩)
  | int i ti=>
    cases pu with
    | none=>exact wpAny_getItem_str_slice (l:=some (i,ti)) (u:=none) (st:=none) ⟨o,ho,hc,hd⟩ rfl (post_val_or_str ⟨sz,fin⟩)
    | int j tj=>exact wpAny_getItem_str_slice (l:=some (i,ti)) (u:=some (j,tj)) (st:=none) ⟨o,ho,hc,hd⟩ rfl (post_val_or_str ⟨sz,fin⟩)
def MP:R2:=fun x y H Q=>∃ i n,x= .str i∧y= .int n∧MulOk i n∧Q (.str (Txt.mul i n)) H
theorem zj:OpR X (binaryOp .Mult) MP:=by
  intro pins s σ H x y v u Q I rx ry h
  obtain ⟨i,n,rfl,rfl,hk,q⟩:=h
  obtain ⟨t,rfl⟩:=rx
  obtain ⟨t',rfl⟩:=ry
  exact SB.mul hk fun t' k=>⟨.str _,H,I.tok _,⟨_,rfl⟩,q⟩
def sgn (x:Str):List V:=x.cps.toList.map fun c=>V.str ⟨#[c]⟩
theorem Cr {x:Str} {acc:Array Value} (h:ItemsOf (SignAt x) acc x.cps.size):Vals (sgn x) acc.toList:=by
  obtain ⟨h1,h2⟩:=h
  have key:∀ (l:List Nat) (a:List Value),l.length=a.length→(∀ (j:Nat) (v:Value),a[j]?=some v→∃ (c:Nat) (u:Tok),l[j]?=some c∧v=Value.str ⟨#[c]⟩ u)→Vals (l.map fun c=>V.str ⟨#[c]⟩) a:=by
    intro l
    induction l with
    | nil=>intro a hl _;cases a with
      | nil=>exact .nil
      | cons _ _=>simp at hl
    | cons c l ih=>
      intro a hl hh
      cases a with
      | nil=>simp at hl
      | cons v a=>
        obtain ⟨c',u,e1,e2⟩:=hh 0 v (by simp)
        simp at e1;subst e1
        refine .cons ⟨u,e2⟩ (ih a (by simpa using hl) fun j v' e=>?_)
        obtain ⟨c',u,e1,e2⟩:=hh (j+1) v' (by simpa using e)
        exact ⟨c',u,by simpa using e1,e2⟩
  refine key x.cps.toList acc.toList (by simp [h1]) fun j v e=>?_
  obtain ⟨c,u,e1,e2⟩:=h2 j v (by simpa using e)
  exact ⟨c,u,by simpa using e1,e2⟩
theorem xH (hc:X.calm=true):CallR X (.type "list") (fun xs H Q=>∃ x,xs=[.str x]∧x.cps.size≤sizeLine∧∀ p,H p=none→Q (.ref p) (upd H p (.lst (sgn x)))):=by
  intro pins s σ H xs us Q I r h
  obtain ⟨x,rfl,hz,q⟩:=h
  obtain ⟨u,rfl,t,rfl⟩:=vals1 r
  refine call_list_str (I.ok.hd hc) x t (hn:=hz) fun h' tk acc' c' hk hS hacc=>?_
  refine ⟨.ref s.heap.objs.size,_,I.laid (o:=.lst (sgn x)) hk (Nat.le_refl _) ⟨by simp [sgn];exact hz,acc'.toList,c',Cr hacc,by simpa using hS⟩,rfl,q _ I.fresh⟩
def Pk (K:PySem.W.Frag):List V→Hp→VK→Prop:=fun xs H Q=>∃ x T t b,xs=[x,.ty T]∧TyOf K H x t∧PySem.W.kitOne K t (.type T)=some b∧Q (.bl b) H
theorem FQ:CallR X (.builtin "isinstance") (Pk X.K):=by
  intro pins s σ H xs us Q I r h
  obtain ⟨x,T,t,b,rfl,ty,e,q⟩:=h
  obtain ⟨u,v,rfl,ru,rv⟩:=vals2 r
  cases rv
  exact Cg I ru ty e fun tk=>⟨.bl b,H,I.tok _,rfl,q⟩
def zm:List V→List V→Bool
  | [],[]=>true
  | x :: xs,y :: ys=>Aq x y && zm xs ys
  | _,_=>false
theorem sX:∀ (xs ys:List V),xs.length=ys.length→(List.range xs.length).all (fun j=>Aq (xs.getD j .non) (ys.getD j .non))=zm xs ys
  | [],[],_=>rfl
  | x :: xs,y :: ys,h=>by
    have ih:=sX xs ys (by simpa using h)
    rw [List.length_cons,List.range_succ_eq_map,List.all_cons,List.all_map]
    simp only [zm]
    rw [← ih]
    rfl
  | [],y :: ys,h=>by simp at h
  | x :: xs,[],h=>by simp at h
theorem xJ:∀ {xs ys:List V},xs.length≠ys.length→zm xs ys=false
  | [],[],h=>absurd rfl h
  | [],y :: ys,_=>rfl
  | x :: xs,[],_=>rfl
  | x :: xs,y :: ys,h=>by simp [zm,xJ (xs:=xs) (ys:=ys) (by simpa using h)]
def TF (K:PySem.W.Frag) (neg:Bool):R2:=fun x y H Q=>∃ a b xs ys,x= .ref a∧y= .ref b∧SqL K H a xs∧SqL K H b ys∧xs.all j9=true∧ys.all j9=true∧Q (.bl (if neg then !zm xs ys else zm xs ys)) H
theorem Cu (hu:X.A.units < cLine):OpR X (compareOp .Eq) (TF X.K false):=by
  intro pins s σ H x y v u Q I rx ry h
  obtain ⟨a,b,xs,ys,rfl,rfl,ha,hb,fx,fy,q⟩:=h
  cases rx
  cases ry
  obtain ⟨its,r1,p1,z1⟩:=I.list ha
  obtain ⟨jts,r2,p2,z2⟩:=I.list hb
  have l1:its.toArray.size=xs.length:=by simpa using r1.length.symm
  have l2:jts.toArray.size=ys.length:=by simpa using r2.length.symm
  by_cases hl:xs.length=ys.length
  · refine SeqAt.eq_listAt (e:=fun j=>Aq (xs.getD j .non) (ys.getD j .non)) p1.isList p2.isList (by rw [l1,l2];exact hl) hu (fun j h1 h2=>?_) ?_
    · have h1':j < xs.length:=by omega
      have h2':j < ys.length:=by omega
      obtain ⟨u1,e1,q1⟩:=r1.get (List.getElem?_eq_getElem h1')
      obtain ⟨u2,e2,q2⟩:=r2.get (List.getElem?_eq_getElem h2')
      have e1':its.toArray[j]=u1:=by
        have:=List.getElem?_eq_some_iff.mp e1
        obtain ⟨_,z⟩:=this
        simpa using z
      have e2':jts.toArray[j]=u2:=by
        have:=List.getElem?_eq_some_iff.mp e2
        obtain ⟨_,z⟩:=this
        simpa using z
      rw [e1',e2']
      have g1:xs.getD j .non=xs[j]:=by rw [List.getD_eq_getElem?_getD,List.getElem?_eq_getElem h1'];rfl
      have g2:ys.getD j .non=ys[j]:=by rw [List.getD_eq_getElem?_getD,List.getElem?_eq_getElem h2'];rfl
      show SeqAt.EqAt X.A.in1 s u1 u2 (Aq (xs.getD j .non) (ys.getD j .non))
      rw [g1,g2]
      exact vH q1 q2 (List.all_eq_true.mp fx _ (List.getElem_mem h1')) (List.all_eq_true.mp fy _ (List.getElem_mem h2'))
    · rw [l1,sX xs ys hl]
      exact ⟨.bl _,H,I,rfl,q⟩
  · refine SeqAt.eq_list_lengthsAt p1.isList p2.isList (by rw [l1,l2];simpa using hl) hu ?_
    rw [if_neg (by simp),xJ hl] at q
    exact ⟨.bl false,H,I,rfl,q⟩
end
end L2
namespace L2
open PySem PySem.Spec PyProof.Rows
def dR (K:PySem.W.Frag) (mg:Str→Option Value) (x:Str) (st:Stmt):Prop:=∃ f fd,Fun K x x st f fd∧mg x=some (.ref f)
theorem bC {K:PySem.W.Frag} {mg:Str→Option Value} {h:Heap} (X:K.In h) (G:h.Ns mainGlobals mg) {x:Str} {st:Stmt} {f:Addr} {oc:Value} {od an:Option Addr} {osl:Array (Option Value)} {kV doc pm cdv ct:Value}
    (a:PySem.W.nsIn K mainGlobals x=some (some (.ref f)))
    (l:K.lookup f=some ⟨oc,od,.func (PySem.W.fnOf x x (eG st) (cj st) (az st) .none kV doc pm an cdv ct),osl⟩)
    (c:PySem.W.codeIn K cdv x=true) (k:PySem.W.keepIn K (.ref f)=true):dR K mg x st:=⟨f,_,zc l c k,PySem.W.mg_of X G a⟩
def n8 (P:Program) (w:World) (K:PySem.W.Frag) (mg:Str→Option Value) (base:Heap) (k:Nat) (x:Str) (ps:List Str) (sp:Sp):Prop:=
  ∃ f fd,mg x=some (.ref f)∧PySem.W.keepIn K (.ref f)=true∧Binds K fd ps []∧oW P w K mg base zb k f fd ps sp
section
variable {P:Program} {w:World} {K:PySem.W.Frag} {mg:Str→Option Value} {base:Heap}
theorem Pq {x:Str} {st:Stmt} {N ps:List Str} {k:Nat} {sp:Sp} (D:dR K mg x st) (S:aF N ps (az st))
    (hb:∀ (kV doc pm:Value) (an:Option Addr) (cdv ct:Value) (us:List Value),us.length=ps.length→bindArgs (PySem.W.fnOf x x (eG st) (cj st) (az st) .none kV doc pm an cdv ct) ⟨us,[]⟩=pure (ps.zip us))
    (len:∀ vs H Q E,sp vs H Q E→vs.length=ps.length)
    (hbody:∀ (f:Addr) (cdv:Value) (A:Around) (outer:List Env) (s:Shared) (H:Hp) (vs:List V) (Q:VK) (E:XK),Room k (A.deeper (envOfC x (az st) s.heap.objs.size f cdv))→sp vs H Q E→
      ∃ t,PSs (nU zb P w K mg base N x (az st) f cdv A outer s H E).nox (cj st) t∧t {nx:=fun _ H'=>Q .non H',rt:=Q} (start N vs) H):n8 P w K mg base (k+1) x ps sp:=by
  obtain ⟨f,fd,F,hm⟩:=D
  exact ⟨f,fd,hm,F.kp,F.binds hb,F.ok S len fun cdv A outer s H vs Q E hr h=>hbody f cdv A outer s H vs Q E hr h⟩
end
section
variable {X:Cx}
theorem FT {k:Nat} {x:Str} {ps:List Str} {sp:Sp} {p pos:Pos} {e:Expr} {es:List Expr} {t:TA} (F:n8 X.prog X.w X.K X.mg X.base k x ps sp) (hr:Room k X.A) (hg:Gl X x)
    (ha:PA X (e :: es) t) (hdb:autoParam ((x == ("__debug__":Str))=false) L2.auto2._auto_1) (he:autoParam (starEach (e :: es) X.env=(false,eval e X.env) :: starEach es X.env) L2.auto4._auto_1) (hpl:autoParam ((backTo pos (starEach es X.env)).any (·.1)=false) L2.auto4._auto_1):
    PE X (.Call (.Name x p) (e :: es) [] pos) (uO sp [] E0 t):=by
  obtain ⟨f,fd,a,b,c,d⟩:=F
  exact JM d hr hg a b c .nil Tu ha hdb he hpl
def FW:R2:=fun x y H Q=>(∃ i j,x= .int i∧y= .int j∧Q (.int (i+j)) H)∨(∃ i j,x= .str i∧y= .str j∧i.length+j.length≤sizeLine∧Q (.str (i ++ j)) H)∨Tr x y H Q
theorem aV:OpR X (binaryOp .Add) FW:=Oq.or (yQ.or Pb)
def FZ:R2:=fun x y H Q=>(∃ i j,x= .int i∧y= .int j∧CMul i j∧Q (.int (i*j)) H)∨MP x y H Q∨Tt x y H Q
theorem jq:OpR X (binaryOp .Mult) FZ:=Ot.or (zj.or Pg)
theorem Ga {x:Str} {z:Str} {pos:Pos} (hg:Gl X x) (hm:∃ t,X.mg x=some (.str z t)) (hd:autoParam ((x == ("__debug__":Str))=false) L2.auto2._auto_1):PE X (.Name x pos) (tC (.str z)):=
  let ⟨t,e⟩:=hm;Ai hg e ⟨t,rfl⟩ hd
theorem Gb {x:Str} {z:Int} {pos:Pos} (hg:Gl X x) (hm:∃ t,X.mg x=some (.int z t)) (hd:autoParam ((x == ("__debug__":Str))=false) L2.auto2._auto_1):PE X (.Name x pos) (tC (.int z)):=
  let ⟨t,e⟩:=hm;Ai hg e ⟨t,rfl⟩ hd
theorem TJ {x:Str} {T:String} {pos:Pos} (hg:Gl X x) (hm:X.mg x=none) (hv:bootBuiltins x=some (.type T)) (hn:autoParam (x≠"__name__") L2.auto2._auto_1) (hd:autoParam ((x == ("__debug__":Str))=false) L2.auto2._auto_1):PE X (.Name x pos) (tC (.ty T)):=
  Jf hg hm hv rfl hn hd
def J3 (K:PySem.W.Frag):R2:=fun x y H Q=>(∃ i j,x= .str i∧y= .str j∧Q (.bl (!(Builtin.Str.occurrences j i 0 j.length 1).isEmpty)) H)∨rIn K false x y H Q
theorem Pr:OpR X (compareOp .In) (J3 X.K):=Ca.or Ck
def Pu (K:PySem.W.Frag):R2:=fun x y H Q=>rEq x y H Q∨TF K false x y H Q
theorem Px (hu:X.A.units < cLine):OpR X (compareOp .Eq) (Pu X.K):=SQ.or (Cu hu)
def Xe (K:PySem.W.Frag):V→Option Int→Option Int→Hp→VK→Prop:=fun x lo hi H Q=>Tj K x lo hi H Q∨Td K x lo hi H Q∨Tz x lo hi H Q
theorem Py:SlR X (Xe X.K):=JR.or (O5.or Pj)
def J5 (K:PySem.W.Frag) (tl:TE):TI:=fun σ H R=>tl σ H fun x H1=>(∃ a,x= .ref a∧(∃ xs,SqL K H1 a xs)∧R (Jo K a) H1)∨(∃ a,x= .ref a∧(∃ xs,SqT K H1 a xs)∧R (R4 K a) H1)∨(∃ z,x= .str z∧R (MN z) H1)
theorem Pz {tg l:Expr} {tl:TE} (hl:PE X l tl):PI X tg l (J5 X.K tl):=by
  intro pins s σ H R I h
  refine dF (hl pins s σ H _ I h) fun v s1 qq0=>?_
  obtain ⟨x,H1,I1,r1,q1⟩:=qq0
  rcases q1 with ⟨a,rfl,⟨xs,hq⟩,q⟩ | ⟨a,rfl,⟨xs,hq⟩,q⟩ | ⟨z,rfl,q⟩
  · cases r1
    obtain ⟨its,rv,p,hz⟩:=I1.list hq
    refine wpAny_pyIter_list p.isList ?_
    refine ⟨s1.heap.objs.size,[s1.heap.objs.size],_,_,H1,rfl,I1.kept (t':=s1.toks) fun b o e=>Heap.get?_push_of_some _ e,BV a _,⟨_,Heap.get?_push_size _ rfl,rfl,rfl⟩,fun b hb=>?_,q⟩
    have e:b=s1.heap.objs.size:=by simpa using hb
    subst e
    exact I1.fpOk (Nat.le_refl _) (I1.hok.fresh (Nat.le_refl _))
  · cases r1
    obtain ⟨its,rv,p,hz⟩:=I1.tuple hq
    refine wpAny_pyIter_tuple (show s1.heap.IsTuple a its.toArray from p) ?_
    refine ⟨s1.heap.objs.size,[s1.heap.objs.size],_,_,H1,rfl,I1.kept (t':=s1.toks) fun b o e=>Heap.get?_push_of_some _ e,yN a _,⟨_,Heap.get?_push_size _ rfl,rfl,rfl⟩,fun b hb=>?_,q⟩
    have e:b=s1.heap.objs.size:=by simpa using hb
    subst e
    exact I1.fpOk (Nat.le_refl _) (I1.hok.fresh (Nat.le_refl _))
  · obtain ⟨t,rfl⟩:=r1
    have fin:∀ (ty:String) (T:Turn X.prog X.w X.K tg (MN z) [s1.heap.objs.size] s1.heap.objs.size (fun i h=>h.IsStrIter s1.heap.objs.size ty z t i)) (o:Obj),(s1.heap.push o).IsStrIter s1.heap.objs.size ty z t 0→PIE X pins σ tg R (.ref s1.heap.objs.size) {s1 with heap:=s1.heap.push o}:=
      fun ty T o st=>⟨s1.heap.objs.size,[s1.heap.objs.size],_,_,H1,rfl,I1.kept (t':=s1.toks) fun b o e=>Heap.get?_push_of_some _ e,T,st,fun b hb=>by
        have e:b=s1.heap.objs.size:=by simpa using hb
        subst e
        exact I1.fpOk (Nat.le_refl _) (I1.hok.fresh (Nat.le_refl _)),q⟩
    cases ha:z.cps.all (· < 128)
    · exact wpAny_pyIter_wide ha (fin "str_iterator" (xF _ z t _ (by decide) (fun A' hA=>Walks.strWide hA _ z t) fun A i s Q E st h=>wpAny_pyIter_striter_wide st h) _ ⟨_,Heap.get?_push_size _ rfl,rfl,rfl⟩)
    · exact wpAny_pyIter_ascii ha (fin "str_ascii_iterator" (xF _ z t _ (by decide) (fun A' hA=>Walks.strAscii hA _ z t) fun A i s Q E st h=>wpAny_pyIter_striter_ascii st h) _ ⟨_,Heap.get?_push_size _ rfl,rfl,rfl⟩)
end
section
variable {X:Cx} {K:PySem.W.Frag}
theorem J6 (hK:X.K=K):IxR X (O8 K):=hK ▸ O9
theorem Gd (hK:X.K=K):OpR X (compareOp .In) (J3 K):=hK ▸ Pr
theorem PB (hK:X.K=K) (hu:X.A.units < cLine):OpR X (compareOp .Eq) (Pu K):=hK ▸ Px hu
theorem jK (hK:X.K=K):SlR X (Xe K):=hK ▸ Py
theorem J7 {tg l:Expr} {tl:TE} (hK:X.K=K) (hl:PE X l tl):PI X tg l (J5 K tl):=hK ▸ Pz hl
def Cv (K:PySem.W.Frag):List V→Hp→VK→Prop:=fun xs H Q=>∃ x n,xs=[x]∧Tc K x H n∧Q (.int n) H
theorem aZ (hK:X.K=K):CallR X (.builtin "len") (Cv K):=hK ▸ Fe
theorem km (hK:X.K=K):CallR X (.builtin "isinstance") (Pk K):=hK ▸ FQ
def Ge (K:PySem.W.Frag):List V→Hp→VK→Prop:=fun xs H Q=>(∃ p ys,xs=[.ref p]∧(SqL K H p ys∨SqT K H p ys)∧∀ l,H l=none→Q (.ref l) (upd H l (.lst ys)))∨(∃ x,xs=[.str x]∧x.cps.size≤sizeLine∧∀ p,H p=none→Q (.ref p) (upd H p (.lst (sgn x))))
theorem sY (hK:X.K=K) (hc:X.calm=true):CallR X (.type "list") (Ge K):=hK ▸ vJ.or (xH hc)
variable {o e:Expr} {es:List Expr} {to:TE} {t:TA} {name:Str} {apos cpos:Pos} {T id:String} {r:V→List V→Hp→VK→Prop}
theorem PJ (hK:X.K=K) (pa:PlainAttrs T) (slot:Slot T name id) (hty:typeOf (.builtin id)=pure (.type "method_descriptor")) (hm:Te X id r) (ho:PE X o to) (ha:PA X (e :: es) t)
    (hbase:autoParam (attributeBase o name X.env (eval o X.env)=eval o X.env) L2.auto4._auto_1)
    (hfew:((backTo cpos (starEach (e :: es) X.env)).all (fun x=>!x.1) && (backToKw cpos (keywordEach [] X.env)).all (fun x=>x.1.isSome)
      && decide ((e :: es).length+([]:List Keyword).length+(if ([]:List Keyword).isEmpty then 0 else 1) < 30))=true:=by rfl)
    (hline:autoParam ((apos.endLine == cpos.line)=true) L2.auto4._auto_1) (hs:autoParam (starEach (e :: es) X.env=(false,eval e X.env) :: starEach es X.env) L2.auto4._auto_1) (hplain:autoParam ((backTo cpos (starEach es X.env)).any (·.1)=false) L2.auto4._auto_1):
    PE X (.Call (.Attribute o name apos) (e :: es) [] cpos) (Tp K T r to t):=by
  subst hK;exact Tq pa slot hty hm ho ha hbase hfew hline hs hplain
theorem J8 {ts:List Expr} {k:Nat} {gs:yL} {n:Nat} {pos:Pos} (hK:X.K=K) (hc:X.calm=true) (h:R3 X ts gs)
    (hn:autoParam ((assignEach ts X.env).length=n) L2.auto4._auto_1) (hst:autoParam ((assignEach ts X.env).findIdx? (·.1)=none) L2.auto4._auto_1):PG X (.Tuple ts k pos) (Jm K n gs):=by
  subst hK;exact Et hc h hn hst
end
section
variable {X:Cx} {sc scope:Scope} {N':List Str} {C:Addr} {s₀:Shared} {H₀:Hp} {ex:List Addr} {x:Str} {pos:Pos}
theorem pvL (i:Nat) (h:sc.names.lookup x=some .local) (hN:autoParam (X.N[i]?=some x) L2.auto4._auto_1) (hsc:autoParam (X.env.scope=sc) L2.auto4._auto_1) (hd:autoParam ((x == ("__debug__":Str))=false) L2.auto6._auto_1) (hcd:autoParam ((x == ("__classdict__":Str))=false) L2.auto6._auto_1):
    PE X (.Name x pos) (nu i):=vy hN (.inl (by rw [hsc];exact h)) hd hcd
theorem pvC (i:Nat) (h:sc.names.lookup x=some .cell) (hN:autoParam (X.N[i]?=some x) L2.auto4._auto_1) (hsc:autoParam (X.env.scope=sc) L2.auto4._auto_1) (hd:autoParam ((x == ("__debug__":Str))=false) L2.auto6._auto_1) (hcd:autoParam ((x == ("__classdict__":Str))=false) L2.auto6._auto_1):
    PE X (.Name x pos) (nu i):=vy hN (.inr (.inl (by rw [hsc];exact h))) hd hcd
theorem pvBL (i:Nat) (h:scope.names.lookup x=some .local) (hN:autoParam (N'[i]?=some x) L2.auto4._auto_1) (hd:autoParam ((x == ("__debug__":Str))=false) L2.auto6._auto_1) (hcd:autoParam ((x == ("__classdict__":Str))=false) L2.auto6._auto_1):
    PE (nM X N' scope C s₀ H₀ ex) (.Name x pos) (nu i):=vy hN (.inl (lookup_relabel_local h)) hd hcd
theorem pvBF (i:Nat) (h:scope.names.lookup x=some .free) (hN:autoParam (N'[i]?=some x) L2.auto4._auto_1) (hd:autoParam ((x == ("__debug__":Str))=false) L2.auto6._auto_1) (hcd:autoParam ((x == ("__classdict__":Str))=false) L2.auto6._auto_1):
    PE (nM X N' scope C s₀ H₀ ex) (.Name x pos) (nu i):=vy hN (by
      rcases oY (env:=X.env) h with z | z
      · exact .inr (.inl z)
      · exact .inr (.inr z)) hd hcd
theorem bB (h:sc.names.lookup x=some .globalImplicit) (hsc:autoParam (X.env.scope=sc) L2.auto4._auto_1):Gl X x:=by
  show X.env.scope.names.lookup x=_
  rw [hsc];exact h
theorem jn {env:Env}:∀ {names:List (Str×NameKind)} {x:Str},names.lookup x=some .globalImplicit→
    (names.map fun (n,k)=>if (k == NameKind.free && env.scope.kind == .function && env.kindOf n == some .cell) then (n,NameKind.cell) else (n,k)).lookup x=some .globalImplicit
  | [],_,h=>by simp at h
  | (n,k) :: r,x,h=>by
    have ih:=@jn env r x
    show List.lookup x ((if (k == NameKind.free && env.scope.kind == .function && env.kindOf n == some .cell)=true then (n,NameKind.cell) else (n,k)) :: _)=_
    cases hx:x == n with
    | true=>
      simp only [List.lookup_cons,hx] at h
      cases h
      simp [List.lookup_cons,hx]
    | false=>
      simp only [List.lookup_cons,hx] at h
      by_cases hc:(k == NameKind.free && env.scope.kind == .function && env.kindOf n == some .cell)=true
      · rw [if_pos hc];simp only [List.lookup_cons,hx];exact ih h
      · rw [if_neg hc];simp only [List.lookup_cons,hx];exact ih h
theorem R5 (h:scope.names.lookup x=some .globalImplicit):Gl (nM X N' scope C s₀ H₀ ex) x:=jn h
theorem pgB (i:Nat) (h:scope.names.lookup x=some .local) (hN:N'.Nodup) (hi:autoParam (N'[i]?=some x) L2.auto4._auto_1):PG (nM X N' scope C s₀ H₀ ex) (.Name x pos) (nH i):=
  Al hN hi (.inl (lookup_relabel_local h)) (.inr (lookup_relabel_local h))
end
def jr:Expr→Bool
  | .ListComp ..=>false | .SetComp ..=>false | .DictComp ..=>false | _=>true
theorem uZ {value:Expr} {target:Option Expr} {line:Nat} {env:Env} (h:jr value=true):swapsWith value target line env=pure false:=by
  cases value <;> first | rfl | cases h
def o8:Expr→Bool
  | .Slice ..=>false | _=>true
theorem pix {b:Expr} (h:o8 b=true):Ao b:=by
  intro o i
  cases b <;> first | rfl | cases h
def pZ:Expr→Bool
  | .Set ..=>false | _=>true
theorem Gf {e:Expr} {env:Env} (h:pZ e=true):∀ x,foldedSetIterable e env x=pure x:=by
  intro x
  cases e <;> first | rfl | cases h
def notStar:Expr→Bool
  | .Starred ..=>false | _=>true
theorem bV {e:Expr} {es:List Expr} {env:Env} (h:notStar e=true):starEach (e :: es) env=(false,eval e env) :: starEach es env:=by
  cases e <;> first | rfl | cases h
theorem lA {env:Env} {pos:Pos}:∀ {es:List Expr},es.all notStar=true→(backTo pos (starEach es env)).any (·.1)=false
  | [],_=>rfl
  | e :: es,h=>by
    simp only [List.all_cons,Bool.and_eq_true] at h
    rw [bV h.1]
    show (false || (backTo pos (starEach es env)).any (·.1))=false
    rw [lA h.2];rfl
theorem Gg {env:Env} {pos:Pos}:∀ {es:List Expr},es.all notStar=true→(backTo pos (starEach es env)).all (fun x=>!x.1)=true
  | [],_=>rfl
  | e :: es,h=>by
    simp only [List.all_cons,Bool.and_eq_true] at h
    rw [bV h.1]
    show (true && (backTo pos (starEach es env)).all (fun x=>!x.1))=true
    rw [Gg h.2];rfl
section
variable {X:Cx} {K:PySem.W.Frag} {e:Expr} {es:List Expr} {te:TE} {t:TA} {pos p:Pos}
theorem paC (ha:PE X e te) (hr:PA X es t) (h:autoParam (notStar e=true) L2.auto4._auto_1):PA X (e :: es) (Am te t):=JF ha hr (bV h)
theorem TQ {k:Nat} {x:Str} {ps:List Str} {sp:Sp} (F:n8 X.prog X.w X.K X.mg X.base k x ps sp) (hr:Room k X.A) (hg:Gl X x) (ha:PA X (e :: es) t) (hdb:(x == ("__debug__":Str))=false) (h:autoParam ((e :: es).all notStar=true) L2.auto4._auto_1):
    PE X (.Call (.Name x p) (e :: es) [] pos) (uO sp [] E0 t):=by
  simp only [List.all_cons,Bool.and_eq_true] at h
  exact FT F hr hg ha hdb (bV h.1) (lA h.2)
theorem TV {x:Str} {id:String} {r:List V→Hp→VK→Prop} (hc:CallR X (.builtin id) r) (hg:Gl X x) (hm:X.mg x=none) (hv:bootBuiltins x=some (.builtin id)) (ha:PA X (e :: es) t) (hn:x≠"__name__") (hdb:(x == ("__debug__":Str))=false) (h:autoParam ((e :: es).all notStar=true) L2.auto4._auto_1):
    PE X (.Call (.Name x p) (e :: es) [] pos) (O4 r t):=by
  simp only [List.all_cons,Bool.and_eq_true] at h
  exact Fj hc hg hm hv ha hn hdb (bV h.1) (lA h.2)
theorem PK {x:Str} {T:String} {r:List V→Hp→VK→Prop} (hc:CallR X (.type T) r) (hg:Gl X x) (hm:X.mg x=none) (hv:bootBuiltins x=some (.type T)) (ha:PA X (e :: es) t) (hn:x≠"__name__") (hdb:(x == ("__debug__":Str))=false) (h:autoParam ((e :: es).all notStar=true) L2.auto4._auto_1):
    PE X (.Call (.Name x p) (e :: es) [] pos) (O4 r t):=by
  simp only [List.all_cons,Bool.and_eq_true] at h
  exact Cj hc hg hm hv ha hn hdb (bV h.1) (lA h.2)
def rR:Expr→Bool
  | .Call ..=>false | _=>true
theorem TX {o:Expr} {f:Str} {env:Env} {w:Sem Value} (h:rR o=true):attributeBase o f env w=w:=by
  cases o <;> first | rfl | cases h
theorem TY {o:Expr} {to:TE} {name:Str} {apos cpos:Pos} {T id:String} {r:V→List V→Hp→VK→Prop} (hK:X.K=K) (pa:PlainAttrs T) (slot:Slot T name id) (hty:typeOf (.builtin id)=pure (.type "method_descriptor")) (hm:Te X id r) (ho:PE X o to) (ha:PA X (e :: es) t)
    (hbase:autoParam (rR o=true) L2.auto4._auto_1) (hl:autoParam (es.length < 20) L2.auto2._auto_1) (hline:autoParam ((apos.endLine == cpos.line)=true) L2.auto4._auto_1) (h:autoParam ((e :: es).all notStar=true) L2.auto4._auto_1):
    PE X (.Call (.Attribute o name apos) (e :: es) [] cpos) (Tp K T r to t):=by
  have hA:=Gg (env:=X.env) (pos:=cpos) h
  simp only [List.all_cons,Bool.and_eq_true] at h
  refine PJ hK pa slot hty hm ho ha (TX hbase) ?_ hline (bV h.1) (lA h.2)
  rw [hA]
  have:(e :: es).length+([]:List Keyword).length+(if ([]:List Keyword).isEmpty then 0 else 1) < 30:=by simp;omega
  rw [decide_eq_true this];rfl
theorem T4 {i:Nat} {x:Str} {pos':Pos} (hN:X.N.Nodup) (hi:X.N[i]?=some x) (hx:Loc X.env.scope x) (he:PE X e te) (hf:X.fn x=true) (h:autoParam (jr e=true) L2.auto4._auto_1):PS X (.Assign [.Name x pos'] e pos) (vz te (nH i)):=
  Ew hN hi hx he (uZ h) (.inl hf)
theorem PL (he:PE X e te) (h:autoParam (jr e=true) L2.auto4._auto_1):PS X (.Expr e pos) (Aj te):=Jj he (uZ h)
theorem ixE {a b:Expr} {ta tb:TE} (hK:X.K=K) (ha:PE X a ta) (hb:PE X b tb) (h:autoParam (o8 b=true) L2.auto4._auto_1):PE X (.Subscript a b pos) (Ja (O8 K) ta tb):=Tf (J6 hK) ha hb (pix h)
theorem T5 {tg iter:Expr} {body:List Stmt} {wi:TI} {g:TG} {tb:TS} (hp:PassesOwn (model X.prog X.w) X.A X.env X.xe) (hc:X.calm=true) (hi:PI X tg iter wi) (hg:PG X tg g) (hb:PSs X body tb) (h:autoParam (pZ iter=true) L2.auto4._auto_1):PS X (.For tg iter body [] pos) (Jp wi g tb):=
  Om hp hc hi hg hb (Gf h)
end
section
variable {X:Cx} {tg iter elt:Expr} {ifs:List Expr} {scope:Scope} {pos:Pos} {N':List Str} {sub:List (Option Nat)} {wi:TI} {g:TG} {tt:TT} {te:TE} {N:List Str} {sc:Scope}
theorem T6 (S:qL N sc N' scope sub) (hc:X.calm=true) (hN:X.N=N) (hsc:X.env.scope=sc) (hi:PI X tg iter wi)
    (hg:∀ (C:Addr) (s₀:Shared) (H₀:Hp) (ex:List Addr),PG (nM X N' scope C s₀ H₀ ex) tg g)
    (ht:∀ (C:Addr) (s₀:Shared) (H₀:Hp) (ex:List Addr),xq (nM X N' scope C s₀ H₀ ex) ifs tt)
    (he:∀ (C:Addr) (s₀:Shared) (H₀:Hp) (ex:List Addr),PE (nM X N' scope C s₀ H₀ ex) elt te) (h:autoParam (pZ iter=true) L2.auto4._auto_1):
    PE X (.ListComp elt [⟨tg,iter,ifs,0⟩] scope pos) (sV sub wi g tt te):=Av S hc hN hsc hi hg ht he (Gf h)
end
theorem cN:bootBuiltins "len"=some (.builtin "len"):=by decide+kernel
theorem PN:bootBuiltins "max"=some (.builtin "max"):=by decide+kernel
theorem dI:bootBuiltins "isinstance"=some (.builtin "isinstance"):=by decide+kernel
theorem Gh:bootBuiltins "all"=some (.builtin "all"):=by decide+kernel
theorem u0:bootBuiltins "sorted"=some (.builtin "sorted"):=by decide+kernel
theorem rT:bootBuiltins "list"=some (.type "list"):=by decide+kernel
theorem Gi:bootBuiltins "tuple"=some (.type "tuple"):=by decide+kernel
theorem Gj:bootBuiltins "int"=some (.type "int"):=by decide+kernel
theorem PP:bootBuiltins "str"=some (.type "str"):=by decide+kernel
theorem o9:bootBuiltins "enumerate"=some (.type "enumerate"):=by decide+kernel
theorem PQ:bootBuiltins "zip"=some (.type "zip"):=by decide+kernel
theorem mJ:bootBuiltins "reversed"=some (.type "reversed"):=by decide+kernel
theorem Ay:bootBuiltins "bool"=some (.type "bool"):=by decide+kernel
theorem kE {c A B:Prop} [Decidable c] (h1:c→A) (h2:¬ c→B):if decide c=true then A else B:=by
  by_cases h:c
  · rw [if_pos (decide_eq_true h)];exact h1 h
  · rw [if_neg (by rw [decide_eq_false h];exact Bool.false_ne_true)];exact h2 h
theorem J9 {α:Type} {xs:List α} {k:Int} {v:α} (h0:0≤k) (h:xs[k.toNat]?=some v):vC xs k=some v:=by
  have e:((k.toNat:Nat):Int)=k:=by omega
  rw [← e]
  exact dO h
end L2
namespace L2
open PySem PySem.Spec PyProof.Rows
section
variable {σ:St} {H:Hp} {D:Ends} {ta tb te tc:TE} {tt tu:TT} {Q:VK} {t u:TS} {g:TG}
theorem ph (h:t {D with nx:=u D} σ H):Eo t u D σ H:=h
theorem iI (h:D.nx σ H):En D σ H:=h
theorem lQ (h:te σ H fun x H1=>g x σ H1 D.nx):vz te g D σ H:=h
theorem iJ {i:Nat} {v:V} {R:St→Hp→Prop} (h:R (σ.set i (some v)) H):nH i v σ H R:=h
theorem lU {to ti:TE} {ts:yM} {v:V} {R:St→Hp→Prop} (h:to σ H fun o H1=>ti σ H1 fun i H2=>ts o i v H2 fun H3=>R σ H3):Oj to ti ts v σ H R:=h
theorem lV (h:te σ H D.rt):Oe te D σ H:=h
theorem iK (h:te σ H fun _ H1=>D.nx σ H1):Aj te D σ H:=h
theorem qW (h:tt σ H fun b H1=>if b=true then t D σ H1 else u D σ H1):Oh tt t u D σ H:=h
theorem iM {R:Bool→Hp→Prop} (h:te σ H fun x H1=>∃ k,x= .bl k∧R k H1):Fb te σ H R:=h
theorem qX {R:Bool→Hp→Prop} (h:te σ H fun x H1=>∃ k,x= .bl k∧R k H1):tB te σ H R:=h
theorem lW {R:Bool→Hp→Prop} (h:tt σ H fun c H1=>R (!c) H1):N6 tt σ H R:=h
theorem lX {R:Bool→Hp→Prop} (h:tt σ H fun c H1=>if c=true then tu σ H1 R else R false H1):N5 tt tu σ H R:=h
theorem qY {R:Bool→Hp→Prop} (h:tt σ H fun c H1=>if c=true then R true H1 else tu σ H1 R):tOr tt tu σ H R:=h
theorem iQ (h:ta σ H fun x H1=>∃ c,x= .bl c∧if c=true then tb σ H1 Q else Q (.bl false) H1):Ek ta tb σ H Q:=h
theorem iR (h:ta σ H fun x H1=>∃ c,x= .bl c∧Q (.bl (!c)) H1):El ta σ H Q:=h
theorem lY (h:tt σ H fun c H1=>if c=true then ta σ H1 Q else tb σ H1 Q):tIf tt ta tb σ H Q:=h
theorem lZ {i:Nat} {v:V} (e:σ[i]?=some (some v)) (h:Q v H):nu i σ H Q:=⟨v,e,h⟩
theorem Ef {v:V} (h:Q v H):tC v σ H Q:=h
theorem qZ {r:R2} (h:ta σ H fun x H1=>tb σ H1 fun y H2=>r x y H2 Q):Ja r ta tb σ H Q:=h
theorem q9 {r:V→Hp→VK→Prop} (h:ta σ H fun x H1=>r x H1 Q):tUn r ta σ H Q:=h
theorem rm {r:List V→Hp→VK→Prop} {a:TA} (h:a σ H fun vs H1=>r vs H1 Q):O4 r a σ H Q:=h
theorem iT {a:TA} {R:List V→Hp→Prop} (h:te σ H fun x H1=>a σ H1 fun xs H2=>R (x :: xs) H2):Am te a σ H R:=h
theorem mj {R:List V→Hp→Prop} (h:R [] H):JD σ H R:=h
theorem iU {sp:Sp} {E:XK} {a:TA} (h:a σ H fun vs H1=>sp vs H1 Q E):uO sp [] E a σ H Q:=by
  unfold uO
  simpa only [List.append_nil] using h
theorem u5 {a:TA} (h:a σ H fun xs H1=>xs.length≤sizeLine∧∀ p,H1 p=none→Q (.ref p) (upd H1 p (.tup xs))):JK a σ H Q:=h
theorem u6 {a:TA} (h:a σ H fun xs H1=>xs.length≤sizeLine∧∀ p,H1 p=none→Q (.ref p) (upd H1 p (.lst xs))):JL a σ H Q:=h
theorem rn {K:PySem.W.Frag} {T:String} {r:V→List V→Hp→VK→Prop} {a:TA} (h:te σ H fun x H1=>tyV K T x H1∧a σ H1 fun xs H2=>r x xs H2 Q):Tp K T r te a σ H Q:=h
theorem rB {r:V→Option Int→Option Int→Hp→VK→Prop} {tl th:TO} (h:te σ H fun x H1=>tl σ H1 fun l H2=>th σ H2 fun u H3=>r x l u H3 Q):tSl r te tl th σ H Q:=h
theorem my {R:Option Int→Hp→Prop} (h:R none H):vB σ H R:=h
theorem iV {R:Option Int→Hp→Prop} (h:te σ H fun x H1=>∃ i,x= .int i∧R (some i) H1):Fo te σ H R:=h
theorem iW {R:Bool→Hp→Prop} (h:R true H):Fx σ H R:=h
theorem iY {a:TA} {R:It→Hp→Prop} (h:a σ H fun vs H1=>∃ j:Int,vs=[.int j]∧-(2 ^ 62)≤j∧j < 2 ^ 62∧R (Ec 0 j.toNat) H1):Ex a σ H R:=h
theorem iZ {a:TA} {R:It→Hp→Prop} (h:a σ H fun vs H1=>∃ i j:Int,vs=[.int i,.int j]∧(-(2 ^ 62)≤i∧i < 2 ^ 62∧-(2 ^ 62)≤j∧j < 2 ^ 62)∧R (Ec i (j - i).toNat) H1):Ey a σ H R:=h
theorem jb {K:PySem.W.Frag} {R:It→Hp→Prop} (h:te σ H fun x H1=>(∃ a,x= .ref a∧(∃ xs,SqL K H1 a xs)∧R (Jo K a) H1)∨(∃ a,x= .ref a∧(∃ xs,SqT K H1 a xs)∧R (R4 K a) H1)∨(∃ z,x= .str z∧R (MN z) H1)):J5 K te σ H R:=h
theorem jc {sub:List (Option Nat)} {wi:TI} (h:wi σ H fun J H1=>oZ sub g tt te σ Q J H1):sV sub wi g tt te σ H Q:=h
theorem mz {wi:TI} {tbd:TS} (h:wi σ H fun J H1=>∃ W:Nat→Nat→St→Hp→Prop,(∃ m,W 0 m σ H1)∧∀ i m σ H,W i m σ H→
  (J.stop i H∧D.nx σ H)∨(J.go i H∧∃ N:St→Hp→Prop,(∀ σ' H',N σ' H'→∃ m',m' < m∧W (i+1) m' σ' H')∧∀ x H',J.yld i H x H'→g x σ H' fun σ2 H2=>tbd {D with nx:=N,ct:=N,bk:=D.nx} σ2 H2)):Jp wi g tbd D σ H:=h
variable {i j:Int} {x y:Str} {f:Int→Int→V} {C:Int→Int→Prop} {K:PySem.W.Frag}
theorem rC (h:Q (f i j) H):Jr f (.int i) (.int j) H Q:=⟨_,_,rfl,rfl,h⟩
theorem Eg (c:C i j) (h:Q (f i j) H):rI C f (.int i) (.int j) H Q:=⟨_,_,rfl,rfl,c,h⟩
theorem jd (h:Q (.int (i+j)) H):FW (.int i) (.int j) H Q:=.inl ⟨_,_,rfl,rfl,h⟩
theorem PX (c:x.length+y.length≤sizeLine) (h:Q (.str (x ++ y)) H):FW (.str x) (.str y) H Q:=.inr (.inl ⟨_,_,rfl,rfl,c,h⟩)
theorem je (c:CMul i j) (h:Q (.int (i*j)) H):FZ (.int i) (.int j) H Q:=.inl ⟨_,_,rfl,rfl,c,h⟩
theorem bR {p:Addr} {xs:List V} {v:V} (s:SqL K H p xs) (e:vC xs i=some v) (h:Q v H):O8 K (.ref p) (.int i) H Q:=.inl ⟨p,xs,i,v,rfl,rfl,s,e,h⟩
theorem jL {p:Addr} {xs:List V} {v:V} (s:SqT K H p xs) (e:vC xs i=some v) (h:Q v H):O8 K (.ref p) (.int i) H Q:=.inr (.inl ⟨p,xs,i,v,rfl,rfl,s,e,h⟩)
theorem T7 {c:Nat} (s:x.length≤sizeLine) (e:vC x.cps.toList i=some c) (h:Q (.str ⟨#[c]⟩) H):O8 K (.str x) (.int i) H Q:=.inr (.inr ⟨x,i,c,rfl,rfl,s,e,h⟩)
theorem gF {p:Addr} {xs:List V} {n:Nat} {v:V} {R:Hp→Prop} (hp:H p=some (.lst xs)) (e:Fq xs.length i=some n) (h:R (upd H p (.lst (xs.set n v)))):xg (.ref p) (.int i) v H R:=⟨p,xs,i,n,rfl,rfl,hp,e,h⟩
theorem mC (h:Q (.bl (!(Builtin.Str.occurrences y x 0 y.length 1).isEmpty)) H):J3 K (.str x) (.str y) H Q:=.inl ⟨_,_,rfl,rfl,h⟩
theorem rD {b:Bool} {R:Bool→Prop} (h:R b):∃ k,V.bl b= .bl k∧R k:=⟨b,rfl,h⟩
theorem jf {n:Int} {R:Int→Prop} (h:R n):∃ k,V.int n= .int k∧R k:=⟨n,rfl,h⟩
end
theorem Same.upd {H H':Hp} {p:Addr} {o:HO} (s:Same H H') (hn:H' p=none):Same H (upd H' p o):=fun b u e=>by
  have q:=s b u e
  rw [aD (fun z=>by rw [z,hn] at q;cases q)]
  exact q
end L2
namespace L2
open PySem PySem.Spec PyProof.Rows
def Chg (p:Addr) (H H':Hp):Prop:=∀ b o,b≠p→H b=some o→H' b=some o
theorem Chg.refl (p:Addr) (H:Hp):Chg p H H:=fun _ _ _ e=>e
theorem Chg.trans {p:Addr} {H H1 H2:Hp} (a:Chg p H H1) (b:Chg p H1 H2):Chg p H H2:=fun c o n e=>b c o n (a c o n e)
theorem aW {H:Hp} {q b:Addr} {o u:HO} (hq:H q=none) (hb:H b=some u):upd H q o b=some u:=by
  rw [aD (fun z=>by rw [z,hq] at hb;cases hb)];exact hb
theorem T8 {vs:List V} {d:Int} (h0:0≤d) (h1:d < vs.length):∃ v,v∈vs∧vC vs d=some v:=by
  have hl:d.toNat < vs.length:=by omega
  exact ⟨vs[d.toNat],List.getElem_mem hl,J9 h0 (List.getElem?_eq_getElem hl)⟩
theorem zp (sep:Str) (ys:List Str):Txt.join sep ys=Str.join sep ys:=by
  show Builtin.Str.glued sep ys=Str.join sep ys
  exact PySem.StrLaws.glued_eq_join sep ys
theorem sZ (ys:List Str):(Txt.join (Str.ofString "") ys).cps.toList=(ys.map fun y=>y.cps.toList).flatten:=by
  rw [zp]
  have e0:(Str.ofString "").cps= #[]:=by decide+kernel
  have key:∀ ys:List Str,(Str.join (Str.ofString "") ys).cps.toList=(ys.map fun y=>y.cps.toList).flatten:=by
    intro ys
    induction ys with
    | nil=>rfl
    | cons y r ih=>
      cases r with
      | nil=>simp [Str.join]
      | cons z r=>
        show ((y ++ Str.ofString "") ++ Str.join (Str.ofString "") (z :: r)).cps.toList=_
        rw [Str.cps_append,Str.cps_append,e0]
        simp only [Array.append_empty,Array.toList_append,ih,List.map_cons,List.flatten_cons]
  exact key ys
theorem Az (x:Str):x.length=x.cps.toList.length:=by simp [Str.length]
theorem xK {ys:List Str} (h:∀ y∈ys,y.length=1):(Txt.join (Str.ofString "") ys).length=ys.length:=by
  rw [Az,sZ]
  induction ys with
  | nil=>rfl
  | cons y r ih=>
    have h1:=h y (by simp)
    rw [Az] at h1
    simp only [List.map_cons,List.flatten_cons,List.length_append,List.length_cons,h1]
    rw [ih fun z hz=>h z (by simp [hz])]
    omega
theorem xM {ys:List Str} (h:∀ y∈ys,y.length=1):(ys.map (·.length)).sum=ys.length:=by
  induction ys with
  | nil=>rfl
  | cons y r ih=>
    simp only [List.map_cons,List.sum_cons,List.length_cons,h y (by simp),ih fun z hz=>h z (by simp [hz])]
    omega
theorem len1 (c:Nat):(⟨#[c]⟩:Str).length=1:=by simp [Str.length]
section
variable {H:Hp} {Q:VK} {K:PySem.W.Frag}
theorem jg {p:Addr} {xs:List V} (s:SqL K H p xs) (h:Q (.int xs.length) H):Cv K [V.ref p] H Q:=⟨_,_,rfl,.inl ⟨_,s,rfl⟩,h⟩
theorem vM {p:Addr} {xs:List V} (s:SqT K H p xs) (h:Q (.int xs.length) H):Cv K [V.ref p] H Q:=⟨_,_,rfl,.inr ⟨_,s,rfl⟩,h⟩
theorem jT {z:Str} (s:z.length≤sizeLine) (h:Q (.int z.length) H):Cv K [V.str z] H Q:=⟨_,_,rfl,⟨s,rfl⟩,h⟩
theorem rE {i j:Int} {R:Int→Int→Prop} (h:R i j):∃ a b,[V.int i,V.int j]=[.int a,.int b]∧R a b:=⟨_,_,rfl,h⟩
theorem pq {x:V} {T:String} {t:Value} {b:Bool} (ty:TyOf K H x t) (e:PySem.W.kitOne K t (.type T)=some b) (h:Q (.bl b) H):Pk K [x,.ty T] H Q:=⟨x,T,t,b,rfl,ty,e,h⟩
theorem Gk {sep:Str} {p:Addr} {ys:List Str} (hp:H p=some (.lst (ys.map V.str))) (hz:(ys.map (·.length)).sum+ys.length*sep.length≤16777216) (h:Q (.str (Txt.join sep ys)) H):rJoin (.str sep) [.ref p] H Q:=⟨sep,p,ys,rfl,rfl,hp,hz,h⟩
theorem MT {x:Str} {lo hi:Option Int} (hz:x.length≤sizeLine) (h:Q (.str (Txt.slice x lo hi)) H):Xe K (.str x) lo hi H Q:=.inr (.inr ⟨x,rfl,hz,h⟩)
theorem u9 {p:Addr} {xs:List V} {lo hi:Option Int} (s:SqL K H p xs) (h:∀ q,H q=none→Q (.ref q) (upd H q (.lst (nY xs lo hi)))):Xe K (.ref p) lo hi H Q:=.inl ⟨p,xs,rfl,s,h⟩
end
section
variable {σ:St} {H:Hp} {Q:VK}
theorem Ka {K:PySem.W.Frag} {a:Addr} {xs:List V} (s:SqL K H a xs) (h:∀ p,H p=none→Q (.ref p) (upd H p (.lst xs))):Ge K [.ref a] H Q:=.inl ⟨a,xs,rfl,.inl s,h⟩
end
theorem TyOf.mono {K:PySem.W.Frag} {H H':Hp} {v:V} {T:String} (h:TyOf K H v (.type T)) (s:∀ b o,H b=some o→v= .ref b→H' b=some o):TyOf K H' v (.type T):=by
  generalize e:(Value.type T)=t at h
  cases h with
  | non=>exact .non
  | bl x=>exact .bl x
  | int i=>exact .int i
  | str x=>exact .str x
  | flt x=>exact .flt x
  | lst z=>exact .lst (s _ _ z rfl)
  | frz z=>exact .frz (s _ _ z rfl)
  | tup z=>exact .tup (s _ _ z rfl)
  | dK z=>exact .dK (s _ _ z rfl)
  | dT z=>exact .dT (s _ _ z rfl)
  | ins=>cases e
theorem tD {sub:List (Option Nat)} {g:TG} {tt:TT} {te:TE} {σ:St} {Q:VK} {H:Hp} {lo:Int} {n:Nat} (Pv:Nat→List V→Hp→Prop) (hn:n≤sizeLine) (h0:Pv 0 [] H) (hl:∀ i ys H,Pv i ys H→ys.length≤i)
    (hs:∀ i ys H,i < n→Pv i ys H→g (.int (lo+i)) (cT sub σ) H fun σ2 H2=>KeepSt (cT sub σ) σ2∧tt σ2 H2 fun b H3=>if b=true then te σ2 H3 fun y H4=>Pv (i+1) (ys ++ [y]) H4 else Pv (i+1) ys H3)
    (hd:∀ ys H,Pv n ys H→∀ D,H D=none→Q (.ref D) (upd H D (.lst ys))):oZ sub g tt te σ Q (Ec lo n) H:=
  vL (n:=n) Pv hn h0 hl (fun i ys H hi _=>hi) (fun ys H _=>Nat.le_refl _) (fun i ys H x H' hi p y=>by
    obtain ⟨e1,e2⟩:=y
    subst e1 e2
    exact hs i ys _ hi p) hd
theorem Gm {sub:List (Option Nat)} {g:TG} {tt:TT} {te:TE} {σ:St} {Q:VK} {H:Hp} {z:Str} (Pv:Nat→List V→Hp→Prop) (hn:z.cps.size≤sizeLine) (h0:Pv 0 [] H) (hl:∀ i ys H,Pv i ys H→ys.length≤i)
    (hs:∀ i ys H c,z.cps.toList[i]?=some c→Pv i ys H→g (.str ⟨#[c]⟩) (cT sub σ) H fun σ2 H2=>KeepSt (cT sub σ) σ2∧tt σ2 H2 fun b H3=>if b=true then te σ2 H3 fun y H4=>Pv (i+1) (ys ++ [y]) H4 else Pv (i+1) ys H3)
    (hd:∀ ys H,Pv z.cps.size ys H→∀ D,H D=none→Q (.ref D) (upd H D (.lst ys))):oZ sub g tt te σ Q (MN z) H:=
  vL (n:=z.cps.size) Pv hn h0 hl (fun i ys H hi _=>hi) (fun ys H _=>rfl) (fun i ys H x H' hi p y=>by
    obtain ⟨e1,c,e2,e3⟩:=y
    subst e1 e3
    exact hs i ys _ c (by simpa using e2) p) hd
theorem Cw {sub:List (Option Nat)} {g:TG} {tt:TT} {te:TE} {σ:St} {Q:VK} {H:Hp} {K:PySem.W.Frag} {a:Addr} {xs:List V} (Pv:Nat→List V→Hp→Prop) (hn:xs.length≤sizeLine) (h0:Pv 0 [] H) (hl:∀ i ys H,Pv i ys H→ys.length≤i)
    (hq:∀ i ys H,Pv i ys H→SqL K H a xs)
    (hs:∀ i ys H x,xs[i]?=some x→Pv i ys H→g x (cT sub σ) H fun σ2 H2=>KeepSt (cT sub σ) σ2∧tt σ2 H2 fun b H3=>if b=true then te σ2 H3 fun y H4=>Pv (i+1) (ys ++ [y]) H4 else Pv (i+1) ys H3)
    (hd:∀ ys H,Pv xs.length ys H→∀ D,H D=none→Q (.ref D) (upd H D (.lst ys))):oZ sub g tt te σ Q (Jo K a) H:=
  vL (n:=xs.length) Pv hn h0 hl (fun i ys H hi p=>⟨xs,xs[i],hq i ys H p,List.getElem?_eq_getElem hi⟩) (fun ys H p=>⟨xs,hq _ ys H p,Nat.le_refl _⟩) (fun i ys H x H' hi p y=>by
    obtain ⟨e1,e2⟩:=y
    subst e1
    exact hs i ys _ x (e2 xs (hq i ys _ p)) p) hd
end L2
namespace L2
open PySem PySem.Spec PyProof.Rows
structure JE (X:Cx) (e:Expr) (t:TE):Prop where
  run:PE X e t
structure JT (X:Cx) (e:Expr) (t:TT):Prop where
  run:PT X e t
structure JW (X:Cx) (e:Expr) (t:TT):Prop where
  run:PW X e t
structure JA (X:Cx) (es:List Expr) (t:TA):Prop where
  run:PA X es t
structure JS (X:Cx) (s:Stmt) (t:TS):Prop where
  run:PS X s t
structure JB (X:Cx) (s:List Stmt) (t:TS):Prop where
  run:PSs X s t
structure JI (X:Cx) (tg iter:Expr) (t:TI):Prop where
  run:PI X tg iter t
structure JG (X:Cx) (tg:Expr) (t:TG):Prop where
  run:PG X tg t
structure T9 (X:Cx) (tg:List Expr) (t:yL):Prop where
  run:R3 X tg t
structure JO (X:Cx) (e:Option Expr) (t:TO):Prop where
  run:PO X e t
structure JPs (X:Cx) (pos:Pos) (keys:List (Option Expr)) (values:List Expr) (t:List (TE×TE)):Prop where
  run:PPs X pos keys values t
structure Qa (X:Cx) (ifs:List Expr) (t:TT):Prop where
  run:xq X ifs t
section
variable {X:Cx} {K:PySem.W.Frag} {sc scope:Scope} {N':List Str} {C:Addr} {s₀:Shared} {H₀:Hp} {ex:List Addr} {x:Str} {pos p p2 pos' apos cpos tpos:Pos} {a b c e o:Expr} {es:List Expr} {ta tb tc te to ti:TE} {t:TA} {tA tB' tt:TT} {rest:List Expr}
theorem au (i:Nat) (h:sc.names.lookup x=some .local) (hN:autoParam (X.N[i]?=some x) L2.auto4._auto_1) (hsc:autoParam (X.env.scope=sc) L2.auto4._auto_1) (hd:autoParam ((x == ("__debug__":Str))=false) L2.auto6._auto_1) (hcd:autoParam ((x == ("__classdict__":Str))=false) L2.auto6._auto_1):JE X (.Name x pos) (nu i):=⟨pvL i h hN hsc hd hcd⟩
theorem gB (i:Nat) (h:sc.names.lookup x=some .cell) (hN:autoParam (X.N[i]?=some x) L2.auto4._auto_1) (hsc:autoParam (X.env.scope=sc) L2.auto4._auto_1) (hd:autoParam ((x == ("__debug__":Str))=false) L2.auto6._auto_1) (hcd:autoParam ((x == ("__classdict__":Str))=false) L2.auto6._auto_1):JE X (.Name x pos) (nu i):=⟨pvC i h hN hsc hd hcd⟩
theorem gK (i:Nat) (h:scope.names.lookup x=some .local) (hN:autoParam (N'[i]?=some x) L2.auto4._auto_1) (hd:autoParam ((x == ("__debug__":Str))=false) L2.auto6._auto_1) (hcd:autoParam ((x == ("__classdict__":Str))=false) L2.auto6._auto_1):JE (nM X N' scope C s₀ H₀ ex) (.Name x pos) (nu i):=⟨pvBL i h hN hd hcd⟩
theorem dz (i:Nat) (h:scope.names.lookup x=some .free) (hN:autoParam (N'[i]?=some x) L2.auto4._auto_1) (hd:autoParam ((x == ("__debug__":Str))=false) L2.auto6._auto_1) (hcd:autoParam ((x == ("__classdict__":Str))=false) L2.auto6._auto_1):JE (nM X N' scope C s₀ H₀ ex) (.Name x pos) (nu i):=⟨pvBF i h hN hd hcd⟩
theorem aB {i j}:JE X (.Constant (.int i) j pos) (tC (.int i)):=⟨NQ⟩
theorem vN {i j}:JE X (.Constant (.bool i) j pos) (tC (.bl i)):=⟨Su⟩
theorem Gn {i j}:JE X (.Constant (.str i) j pos) (tC (.str i)):=⟨NT⟩
theorem tE {z:Str} (hg:Gl X x) (hm:∃ t,X.mg x=some (.str z t)) (hd:(x == ("__debug__":Str))=false):JE X (.Name x pos) (tC (.str z)):=⟨Ga hg hm hd⟩
theorem Gp {z:Int} (hg:Gl X x) (hm:∃ t,X.mg x=some (.int z t)) (hd:(x == ("__debug__":Str))=false):JE X (.Name x pos) (tC (.int z)):=⟨Gb hg hm hd⟩
theorem zq {T:String} (hg:Gl X x) (hm:X.mg x=none) (hv:bootBuiltins x=some (.type T)) (hn:x≠"__name__") (hd:(x == ("__debug__":Str))=false):JE X (.Name x pos) (tC (.ty T)):=⟨TJ hg hm hv hn hd⟩
theorem bD {op:Operator} {r:R2} (ho:OpR X (binaryOp op) r) (ha:JE X a ta) (hb:JE X b tb):JE X (.BinOp a op b pos) (Ja r ta tb):=⟨Sy ho ha.run hb.run⟩
theorem Kc {op:UnaryOp} {r:V→Hp→VK→Prop} (ho:Xc X (unaryOp op) r) (ha:JE X a ta):JE X (.UnaryOp op a pos) (tUn r ta):=⟨SJ ho ha.run⟩
theorem xN {op:CmpOp} {r:R2} (ho:OpR X (compareOp op) r) (ha:JE X a ta) (hb:JE X b tb) (hm:behindInMarks op b=false):JE X (.Compare a [op] [b] pos) (Ja r ta tb):=⟨Jw ho ha.run hb.run hm⟩
theorem cO {op:CmpOp} {r:R2} (ho:OpR X (compareOp op) r) (ha:JE X a ta) (hb:JE X b tb) (hm:behindInMarks op b=false):JT X (.Compare a [op] [b] pos) (Fb (Ja r ta tb)):=⟨Jx ho ha.run hb.run hm⟩
theorem vO (ha:JT X a tA):JW X (.BoolOp .And [a] pos) tA:=⟨Jg ha.run⟩
theorem tG (ha:JT X a tA):JW X (.BoolOp .Or [a] pos) tA:=⟨N7 ha.run⟩
theorem zr (ha:JT X a tA) (hb:JW X (.BoolOp .And (b :: rest) pos) tB'):JW X (.BoolOp .And (a :: b :: rest) pos) (N5 tA tB'):=⟨N8 ha.run hb.run⟩
theorem xO (ha:JT X a tA) (hb:JW X (.BoolOp .Or (b :: rest) pos) tB'):JW X (.BoolOp .Or (a :: b :: rest) pos) (tOr tA tB'):=⟨Sv ha.run hb.run⟩
theorem qN (h:JW X e tt):JT X e tt:=⟨h.run.pt⟩
theorem jx (ha:JT X a tA):JT X (.UnaryOp .Not a pos) (N6 tA):=⟨Oa ha.run⟩
def plainT:Expr→Bool
  | .BoolOp ..=>false | .UnaryOp ..=>false | .Compare ..=>false | .IfExp ..=>false | _=>true
theorem gO (h:JE X e te) (hp:autoParam (plainT e=true) L2.auto4._auto_1):JT X e (tB te):=⟨NZ h.run (by
  intro whole
  cases e <;> first | rfl | cases hp)⟩
theorem xP {op} (h:JE X a te):JE X (.BoolOp op [a] pos) te:=⟨Ob h.run⟩
theorem xQ (ha:JE X a ta) (hb:JE X (.BoolOp .And (b :: rest) pos) tb):JE X (.BoolOp .And (a :: b :: rest) pos) (Ek ta tb):=⟨Oc ha.run hb.run⟩
theorem M5 (ha:JE X a ta):JE X (.UnaryOp .Not a pos) (El ta):=⟨Od ha.run⟩
theorem j_if (hc:JT X c tA) (ha:JE X a ta) (hb:JE X b tb):JE X (.IfExp c a b pos) (tIf tA ta tb):=⟨Em hc.run ha.run hb.run⟩
theorem fu {x1} (h:JA X es t):JE X (.Tuple es x1 pos) (JK t):=⟨O1 h.run⟩
theorem dX (h:JA X es t):JE X (.List es pos) (JL t):=⟨O2 h.run⟩
theorem ao:JA X [] JD:=⟨OJ⟩
theorem aa (ha:JE X e te) (hr:JA X es t) (h:autoParam (notStar e=true) L2.auto4._auto_1):JA X (e :: es) (Am te t):=⟨paC ha.run hr.run h⟩
theorem lB:JO X none vB:=⟨JN⟩
theorem fM (h:JE X e te):JO X (some e) (Fo te):=⟨JP h.run⟩
theorem jM {r:V→Option Int→Option Int→Hp→VK→Prop} {lo hi:Option Expr} {tl th:TO} (hr:SlR X r) (he:JE X e te) (hl:JO X lo tl) (hu:JO X hi th):JE X (.Subscript e (.Slice lo hi none p2) pos) (tSl r te tl th):=⟨Fp hr he.run hl.run hu.run⟩
theorem bZ (hK:X.K=K) (ha:JE X a ta) (hb:JE X b tb) (h:autoParam (o8 b=true) L2.auto4._auto_1):JE X (.Subscript a b pos) (Ja (O8 K) ta tb):=⟨ixE hK ha.run hb.run h⟩
theorem aU {k:Nat} {ps:List Str} {sp:Sp} (F:n8 X.prog X.w X.K X.mg X.base k x ps sp) (hr:Room k X.A) (hg:Gl X x) (ha:JA X (e :: es) t) (hdb:(x == ("__debug__":Str))=false) (h:autoParam ((e :: es).all notStar=true) L2.auto4._auto_1):
    JE X (.Call (.Name x p) (e :: es) [] pos) (uO sp [] E0 t):=⟨TQ F hr hg ha.run hdb h⟩
theorem aX {id:String} {r:List V→Hp→VK→Prop} (hc:CallR X (.builtin id) r) (hg:Gl X x) (hm:X.mg x=none) (hv:bootBuiltins x=some (.builtin id)) (ha:JA X (e :: es) t) (hn:x≠"__name__") (hdb:(x == ("__debug__":Str))=false) (h:autoParam ((e :: es).all notStar=true) L2.auto4._auto_1):
    JE X (.Call (.Name x p) (e :: es) [] pos) (O4 r t):=⟨TV hc hg hm hv ha.run hn hdb h⟩
theorem xR {T:String} {r:List V→Hp→VK→Prop} (hc:CallR X (.type T) r) (hg:Gl X x) (hm:X.mg x=none) (hv:bootBuiltins x=some (.type T)) (ha:JA X (e :: es) t) (hn:x≠"__name__") (hdb:(x == ("__debug__":Str))=false) (h:autoParam ((e :: es).all notStar=true) L2.auto4._auto_1):
    JE X (.Call (.Name x p) (e :: es) [] pos) (O4 r t):=⟨PK hc hg hm hv ha.run hn hdb h⟩
theorem bU {name:Str} {T id:String} {r:V→List V→Hp→VK→Prop} (hK:X.K=K) (pa:PlainAttrs T) (slot:Slot T name id) (hty:typeOf (.builtin id)=pure (.type "method_descriptor")) (hm:Te X id r) (ho:JE X o to) (ha:JA X (e :: es) t)
    (hbase:autoParam (rR o=true) L2.auto4._auto_1) (hl:autoParam (es.length < 20) L2.auto2._auto_1) (hline:autoParam ((apos.endLine == cpos.line)=true) L2.auto4._auto_1) (h:autoParam ((e :: es).all notStar=true) L2.auto4._auto_1):JE X (.Call (.Attribute o name apos) (e :: es) [] cpos) (Tp K T r to t):=⟨TY hK pa slot hty hm ho.run ha.run hbase hl hline h⟩
theorem cX:Qa X [] Fx:=⟨Fy⟩
variable {tg iter elt:Expr} {ifs:List Expr} {sub:List (Option Nat)} {wi:TI} {g:TG} {N:List Str}
theorem dm {ta:TA} (hg:Gl X "range") (hm:X.mg "range"=none) (ha:JA X [a] ta) (h:autoParam (notStar a=true) L2.auto4._auto_1):JI X tg (.Call (.Name "range" p) [a] [] pos) (Ex ta):=⟨BW hg hm ha.run (bV h)⟩
theorem p6 {ta:TA} (hg:Gl X "range") (hm:X.mg "range"=none) (ha:JA X [a,b] ta) (h:autoParam (notStar a=true) L2.auto4._auto_1) (h2:autoParam (notStar b=true) L2.auto4._auto_1):JI X tg (.Call (.Name "range" p) [a,b] [] pos) (Ey ta):=⟨BX hg hm ha.run (by rw [bV h,bV h2];rfl) (by rw [bV h2];rfl)⟩
theorem jU (hK:X.K=K) (hl:JE X e te):JI X tg e (J5 K te):=⟨J7 hK hl.run⟩
theorem aG {i:Nat} (hN:X.N.Nodup) (hi:X.N[i]?=some x) (hx:Loc X.env.scope x) (hf:X.fn x=true):JG X (.Name x pos) (nH i):=⟨Al hN hi hx (.inl hf)⟩
theorem mK (i:Nat) (h:scope.names.lookup x=some .local) (hN:N'.Nodup) (hi:autoParam (N'[i]?=some x) L2.auto4._auto_1):JG (nM X N' scope C s₀ H₀ ex) (.Name x pos) (nH i):=⟨pgB i h hN hi⟩
theorem dj:T9 X [] Oi:=⟨Jl⟩
theorem aH {gs:yL} (h1:JG X e g) (h2:T9 X es gs) (hs:autoParam ((assignEach (e :: es) X.env).map (·.2)=assign e X.env :: (assignEach es X.env).map (·.2)) L2.auto4._auto_1):T9 X (e :: es) (Er g gs):=⟨Es h1.run h2.run hs⟩
theorem lC {ts:List Expr} {k:Nat} {gs:yL} {n:Nat} (hK:X.K=K) (hc:X.calm=true) (h:T9 X ts gs) (hn:autoParam ((assignEach ts X.env).length=n) L2.auto4._auto_1) (hst:autoParam ((assignEach ts X.env).findIdx? (·.1)=none) L2.auto4._auto_1):JG X (.Tuple ts k pos) (Jm K n gs):=⟨J8 hK hc h.run hn hst⟩
theorem zu {ts:yM} (ho:JE X a ta) (hi:JE X b tb) (hs:Jk X ts) (h:autoParam (o8 b=true) L2.auto4._auto_1):JG X (.Subscript a b pos) (Oj ta tb ts):=⟨Ol ho.run hi.run hs (by
  intro v
  cases b <;> first | rfl | cases h)⟩
theorem gG (S:qL N sc N' scope sub) (hc:X.calm=true) (hN:X.N=N) (hsc:X.env.scope=sc) (hi:JI X tg iter wi)
    (hg:∀ (C:Addr) (s₀:Shared) (H₀:Hp) (ex:List Addr),JG (nM X N' scope C s₀ H₀ ex) tg g)
    (ht:∀ (C:Addr) (s₀:Shared) (H₀:Hp) (ex:List Addr),Qa (nM X N' scope C s₀ H₀ ex) ifs tt)
    (he:∀ (C:Addr) (s₀:Shared) (H₀:Hp) (ex:List Addr),JE (nM X N' scope C s₀ H₀ ex) elt te) (h:autoParam (pZ iter=true) L2.auto4._auto_1):
    JE X (.ListComp elt [⟨tg,iter,ifs,0⟩] scope pos) (sV sub wi g tt te):=⟨T6 S hc hN hsc hi.run (fun C s₀ H₀ ex=>(hg C s₀ H₀ ex).run) (fun C s₀ H₀ ex=>(ht C s₀ H₀ ex).run) (fun C s₀ H₀ ex=>(he C s₀ H₀ ex).run) h⟩
variable {st:Stmt} {sts:List Stmt} {u v:TS}
theorem aP {i:Nat} (hN:X.N.Nodup) (hi:X.N[i]?=some x) (hx:Loc X.env.scope x) (he:JE X e te) (hf:X.fn x=true) (h:autoParam (jr e=true) L2.auto4._auto_1):JS X (.Assign [.Name x pos'] e pos) (vz te (nH i)):=⟨T4 hN hi hx he.run hf h⟩
theorem vP {ts:yM} (he:JE X e te) (hg:JG X (.Subscript a b pos') g) (h:autoParam (jr e=true) L2.auto4._auto_1):JS X (.Assign [.Subscript a b pos'] e pos) (vz te g):=⟨Eu he.run hg.run (by show swapsWith e (some (.Subscript a b pos')) pos.line X.env=pure false;exact uZ h) (by cases e <;> rfl) rfl⟩
theorem aM (he:JE X e te):JS X (.Return (some e) pos) (Oe te):=⟨Og he.run⟩
theorem aJ (he:JE X e te) (h:autoParam (jr e=true) L2.auto4._auto_1):JS X (.Expr e pos) (Aj te):=⟨PL he.run h⟩
theorem dq {sa sb:List Stmt} (hc:JT X c tt) (ha:JB X sa u) (hb:JB X sb v):JS X (.If c sa sb pos) (Oh tt u v):=⟨Sw hc.run ha.run hb.run⟩
theorem dY {body:List Stmt} (hp:PassesOwn (model X.prog X.w) X.A X.env X.xe) (hc:X.calm=true) (hi:JI X tg iter wi) (hg:JG X tg g) (hb:JB X body u) (h:autoParam (pZ iter=true) L2.auto4._auto_1):JS X (.For tg iter body [] pos) (Jp wi g u):=⟨T5 hp hc hi.run hg.run hb.run h⟩
theorem c7:JB X [] En:=⟨Jh⟩
theorem aC (h:JS X st u):JB X [st] u:=⟨Ji h.run⟩
theorem aA (h:JS X st u) (h2:JB X sts v):JB X (st :: sts) (Eo u v):=⟨Ep h.run h2.run⟩
end
section
variable {P:Program} {w:World} {K:PySem.W.Frag} {mg:Str→Option Value} {base:Heap}
theorem iC {x:Str} {st:Stmt} {N ps:List Str} {k:Nat} {sp:Sp} (D:dR K mg x st) (S:aF N ps (az st))
    (hb:∀ (kV doc pm:Value) (an:Option Addr) (cdv ct:Value) (us:List Value),us.length=ps.length→bindArgs (PySem.W.fnOf x x (eG st) (cj st) (az st) .none kV doc pm an cdv ct) ⟨us,[]⟩=pure (ps.zip us))
    (len:∀ vs H Q E,sp vs H Q E→vs.length=ps.length)
    (hbody:∀ (f:Addr) (cdv:Value) (A:Around) (outer:List Env) (s:Shared) (H:Hp) (vs:List V) (Q:VK) (E:XK),Room k (A.deeper (envOfC x (az st) s.heap.objs.size f cdv))→sp vs H Q E→
      ∃ t,JB (nU zb P w K mg base N x (az st) f cdv A outer s H E).nox (cj st) t∧t {nx:=fun _ H'=>Q .non H',rt:=Q} (start N vs) H):n8 P w K mg base (k+1) x ps sp:=
  Pq D S hb len fun f cdv A outer s H vs Q E hr h=>let ⟨t,j,q⟩:=hbody f cdv A outer s H vs Q E hr h;⟨t,j.run,q⟩
theorem okJ {x:Str} {st:Stmt} {N ps:List Str} {k:Nat} {sp:Sp} {f:Addr} {fd:FuncData} (F:Fun K x x st f fd) (S:aF N ps (az st)) (len:∀ vs H Q E,sp vs H Q E→vs.length=ps.length)
    (hbody:∀ (f:Addr) (cdv:Value) (A:Around) (outer:List Env) (s:Shared) (H:Hp) (vs:List V) (Q:VK) (E:XK),Room k (A.deeper (envOfC x (az st) s.heap.objs.size f cdv))→sp vs H Q E→
      ∃ t,JB (nU zb P w K mg base N x (az st) f cdv A outer s H E).nox (cj st) t∧t {nx:=fun _ H'=>Q .non H',rt:=Q} (start N vs) H):oW P w K mg base zb (k+1) f fd ps sp:=
  F.ok S len fun cdv A outer s H vs Q E hr h=>let ⟨t,j,q⟩:=hbody f cdv A outer s H vs Q E hr h;⟨t,j.run,q⟩
end
theorem kI {K:PySem.W.Frag} {mg:Str→Option Value} {h:Heap} (X:K.In h) (G:h.Ns mainGlobals mg) {x:Str} {v:Value} {f:Tok→Value} (a:PySem.W.nsIn K mainGlobals x=some (some v)) (e:∃ t,v=f t):∃ t,mg x=some (f t):=by
  obtain ⟨t,rfl⟩:=e
  exact ⟨t,PySem.W.mg_of X G a⟩
theorem Ua {l:PySem.W.OpenLaw} {q:Program} {loose:List Str} {XP:(Str→Option Value)→Heap→Prop} {YP:World→Heap→Prop} {d:DefRec} {K:Params→PySem.W.Frag} {st:Stmt} {k:Nat} {sp:PySem.W.Frag→Sp} {x:Str}
    (hn:l.most=some 63) (hdf:d.params.defaults=[]) (hdn:d.name="law") (hk:Room k callerA) (hY:∀ (w:World) (h:Heap),YP w h→(K w.params).In h)
    (hb:∀ (kV doc pm:Value) (an:Option Addr) (cdv ct:Value) (us:List Value),us.length=[x].length→bindArgs (PySem.W.fnOf "law" "law" (eG st) (cj st) (az st) .none kV doc pm an cdv ct) ⟨us,[]⟩=pure ([x].zip us))
    (F:∀ (w:World) (mg:Str→Option Value) (h:Heap),(K w.params).In h→h.Ns mainGlobals mg→dR (K w.params) mg "law" st∧∀ (base:Heap) (f:Addr) (fd:FuncData),Fun (K w.params) "law" "law" st f fd→oW l.prog w (K w.params) mg base zb k f fd [x] (sp (K w.params)))
    (hsp:∀ (K:PySem.W.Frag) (H:Hp) (a:Addr) (ns:List Int),ns.length≤63→SqL K H a (ns.map V.int)→sp K [.ref a] H (fun v _=>v= .bl true) fun _ _ _=>False) (him:autoParam (importsNone q=true) L2.auto6._auto_1):
    PySem.W.WalkO q loose XP YP l.row.toRowW d [] (fun f vs=>PySem.call f vs):=
  L2.JZ (n:=63) (k:=k) (x:=x) (CX:=fun _=>zb) (sp:=fun w=>sp (K w.params)) hn (by decide) hdf hk hY (fun w mg fa h X G e=>by
    obtain ⟨⟨f,fd,Fn,hm⟩,ok⟩:=F w mg h X G
    rw [hdn,hm] at e
    have ef:f=fa:=by injection (Option.some.inj e)
    subst ef
    refine ⟨fd,fun s u=>?_,fun base _ _=>ok base f fd Fn⟩
    obtain ⟨oc,od,kV,doc,pm,an,cdv,ct,osl,rfl,lk,hcd⟩:=Fn.ex
    exact .of_eq (hb kV doc pm an cdv ct [u] rfl)) (fun w H a ns hl _ hS=>hsp _ H a ns hl hS) (fun _ _ _ _ _ z=>z) him
end L2
namespace L2
open PySem PySem.Spec PyProof.Rows
def Qc (xs:Nat→List V) (n:Nat):It:=⟨fun i _=>i < n,fun i H v H'=>∃ T,H T=none∧v= .ref T∧H'=upd H T (.tup (xs i)),fun i _=>i=n⟩
theorem Qd {P:Program} {w:World} {K:PySem.W.Frag} {elts:List Expr} {k:Nat} {pos:Pos} {it:Addr} {fp wr:List Addr} {n:Nat} {xs:Nat→List V} {Pt:Nat→Array Value→Prop} {St:Nat→Heap→Prop} {Mid:Nat→Addr→Heap→Prop}
    (W:∀ A:Around,A.handled=none→WalksT P w A it fp wr n Pt St Mid) (hxs:∀ i,(xs i).length≤sizeLine) (hPt:∀ i vals,Pt i vals→Vals (xs i) vals.toList) (hmem:it∈fp)
    (hobj:∀ i h,St i h→∀ b∈fp,∃ o,h.get? b=some o∧∀ v,o.data≠.cell v)
    (hself:∀ (A:Around) (i:Nat) (s:Shared) (Q:Value→Shared→Prop) (E:Value→Shared→Prop),St i s.heap→Q (.ref it) s→wpAny (model P w) A (pyIter (.ref it)) Q E s):
    Turn P w K (.Tuple elts k pos) (Qc xs n) fp it St where
  mem:=hmem
  obj:=hobj
  keep:=fun i h h' st kk=>(W {} rfl).frame i h h' st kk
  item:=by
    intro X hP hw hK hc i pins s σ H E I hf st hg
    subst hP hw hK
    have W':=W X.A (I.ok.hd hc)
    refine W'.item i s _ _ hg st fun T vals h' tk hPv hT isT mid kk=>?_
    refine ⟨.ref T,rfl,W'.go elts k pos i T _ _ _ mid fun h'' st'' kk2=>?_⟩
    have hTn:H T=none:=I.hok.fresh hT
    have hTw:T ∉ wr:=W'.apart i T h' mid
    have kall:∀ b o,b ∉ wr→s.heap.get? b=some o→h''.get? b=some o:=fun b o hb e=>kk2 b o hb (kk b o hb e)
    have nT:∀ b o,s.heap.get? b=some o→b≠T:=fun b o e=>Nat.ne_of_lt (Nat.lt_of_lt_of_le (Heap.lt_size e) hT)
    have nTH:∀ b u,H b=some u→b≠T:=fun b u e z=>by rw [z,hTn] at e;cases e
    have nW:∀ b u,H b=some u→b ∉ wr:=fun b u e hb=>by rw [(hf b (W'.sub b hb)).1] at e;cases e
    have isT':h''.IsTuple T vals:=by
      obtain ⟨o,ho,r⟩:=isT
      exact ⟨o,kk2 T o hTw ho,r⟩
    have hlT:∃ o,h''.get? T=some o:=let ⟨o,ho,_⟩:=isT';⟨o,ho⟩
    have I':Inv X pins σ (upd H T (.tup (xs i))) {s with heap:=h'',toks:=tk}:=by
      refine I.step (g':=s.gens) (d':=s.drawn) (ch:=wr) (fun b hb=>?_) (fun b o _ _ hc e _=>kall b o hc e) (fun b o _ _ hc e _=>⟨o.slots,kall b o hc e⟩) (fun b o _ e hn=>by rw [aD (nT b o e)];exact hn)
        (fun b o hc e=>⟨o,kall b o hc e⟩) (fun b ys e=>by rw [aD (nTH b _ e)];exact e) (fun b o u e=>by rw [aD (nTH b _ e)];exact e) (fun b ps e=>⟨#[],by rw [aD (nTH b _ e),e];simp⟩) (fun m hm=>?_) (fun b u e=>?_) I.bare
      · obtain ⟨f0,f1,f2,f3,f4,f5⟩:=hf b (W'.sub b hb)
        exact ⟨f3,f1,f4,f5⟩
      · obtain ⟨o,es,ep,ho,r⟩:=hm
        exact ⟨o,es,ep,kall _ o (fun hb=>(hf _ (W'.sub _ hb)).2.1 rfl) ho,r⟩
      · by_cases hb:b=T
        · subst hb
          rw [aj] at e;cases e
          obtain ⟨o,ho,hcl,nn,hd⟩:=isT'
          exact ⟨hxs i,vals.toList,hPt i vals hPv,o,ho,hcl,nn,by simpa using hd⟩
        · rw [aD hb] at e
          refine (I.hok b u e).stay (fun c v hc' q=>kall c v ?_ q) (fun c q=>by rw [aD (nTH c _ q)];exact q) fun c ys q=>by rw [aD (nTH c _ q)];exact q
          rcases hc' with z | z
          · rw [z];exact nW b u e
          · exact nW c _ z
    refine ⟨.ref T,upd H T (.tup (xs i)),I',rfl,⟨T,hTn,rfl,rfl⟩,st'',fun b hb=>?_⟩
    obtain ⟨o,e,_⟩:=hobj i _ st b hb
    rw [aD (nT b o e)]
    exact (hf b hb).1
  done:=by
    intro X hP hw hK hc i pins s σ H E I hf st hg
    subst hP hw hK
    have W':=W X.A (I.ok.hd hc)
    have hg:i=n:=hg
    subst hg
    refine W'.done s _ _ st fun h' tk kk=>⟨rfl,?_⟩
    have nW:∀ b u,H b=some u→b ∉ wr:=fun b u e hb=>by rw [(hf b (W'.sub b hb)).1] at e;cases e
    refine I.step (g':=s.gens) (d':=s.drawn) (ch:=wr) (fun b hb=>?_) (fun b o _ _ hc e _=>kk b o hc e) (fun b o _ _ hc e _=>⟨o.slots,kk b o hc e⟩) (fun b o _ e hn=>hn)
        (fun b o hc e=>⟨o,kk b o hc e⟩) (fun b ys e=>e) (fun b o u e=>e) (fun b ps e=>⟨#[],by rw [e];simp⟩) (fun m hm=>?_) (fun b u e=>?_) I.bare
    · obtain ⟨f0,f1,f2,f3,f4,f5⟩:=hf b (W'.sub b hb)
      exact ⟨f3,f1,f4,f5⟩
    · obtain ⟨o,es,ep,ho,r⟩:=hm
      exact ⟨o,es,ep,kk _ o (fun hb=>(hf _ (W'.sub _ hb)).2.1 rfl) ho,r⟩
    · refine (I.hok b u e).stay (fun c v hc' q=>kk c v ?_ q) (fun c q=>q) fun c ys q=>q
      rcases hc' with z | z
      · rw [z];exact nW b u e
      · exact nW c _ z
  self:=hself
def jy (x:Str) (i:Nat):List V:=[.int i,.str ⟨#[x.cps.getD i 0]⟩]
end L2
namespace L2
open PySem PySem.Spec PyProof.Rows
section
variable {prog:Program} {w:World} {A:Around} {E:Value→Shared→Prop} {s:Shared}
theorem tH {it l:Addr} {items:Array Value} (hne:l≠it):∀ (n i:Nat) (s:Shared) (Q:List Value→Shared→Prop),s.heap.IsListIter it l i→s.heap.IsList l items→i+n≤items.size→
    (∀ h',h'.IsListIter it l (i+n)→Heap.SameBut it s.heap h'→Q ((items.toList.drop i).take n) {s with heap:=h'})→wpAny (model prog w) A (draw (.ref it) n) Q E s
  | 0,i,s,Q,hit,_,_,hQ=>by
    show wpAny _ _ (pure []) Q E s
    exact wpAny_pure (by simpa using hQ s.heap hit (Heap.SameBut.refl ..))
  | n+1,i,s,Q,hit,ht,hle,hQ=>by
    have hlt:i < items.size:=by omega
    show wpAny _ _ (pyNext (.ref it) >>=_) Q E s
    refine wpAny_bind (wpAny_pyNext_list_item hit ht (x:=items[i]) (by simp [hlt]) fun h₁ hit₁ hs₁=>?_)
    refine wpAny_bind (wpAny_holding (tH hne n (i+1) _ _ hit₁ (ht.extBut hs₁.extBut hne) (by omega) fun h₂ hit₂ hs₂=>wpAny_pure ?_))
    have hd:items.toList.drop i=items[i] :: items.toList.drop (i+1):=by simp [List.drop_eq_getElem_cons,hlt]
    have:=hQ h₂ (by rw [show i+(n+1)=i+1+n by omega];exact hit₂) (hs₁.trans hs₂)
    rw [hd,List.take_succ_cons] at this
    exact this
theorem pA {l:Addr} {items:Array Value} {Q:List Value→Shared→Prop} (hh:A.handled=none) (ht:s.heap.IsList l items)
    (hQ:∀ h',Heap.ExtBut s.heap.objs.size s.heap h'→Q items.toList {s with heap:=h'}):wpAny (model prog w) A (unpackItems (.ref l) items.size none) Q E s:=by
  have hlt:l≠s.heap.objs.size:=by obtain ⟨o,ho,_⟩:=ht;exact Nat.ne_of_lt (Heap.lt_size ho)
  unfold unpackItems
  refine wpAny_bind ?_
  · unfold notIterableAtAll
    refine wpAny_bind (wpAny_specialOf ht.typeIs slot_list_iter.lookup ?_)
    refine wpAny_pure ?_
    simp only [Bool.false_eq_true,if_false]
    refine wpAny_bind (wpAny_holding (wpAny_pyIter_list ht ?_))
    refine wpAny_bind (wpAny_holding (tH hlt items.size 0 _ _ ⟨_,Heap.get?_push_size _ rfl,rfl,rfl⟩ (let ⟨o,ho,r⟩:=ht;⟨o,Heap.get?_push_of_some _ ho,r⟩) (by omega) fun h₁ hit₁ hs₁=>?_))
    have hall:List.take items.size (List.drop 0 items.toList)=items.toList:=by
      rw [List.drop_zero];exact List.take_of_length_le (by simp)
    rw [hall]
    rw [if_neg (by simp)]
    have ht₁:h₁.IsList l items:=by
      have:(s.heap.push {cls:=.type "list_iterator",data:=.fields #[.ref l,.int 0 0]}).IsList l items:=let ⟨o,ho,r⟩:=ht;⟨o,Heap.get?_push_of_some _ ho,r⟩
      exact this.extBut hs₁.extBut hlt
    refine wpAny_bind (wpAny_holding (wpAny_pyNext_list_end hh hit₁ ht₁ (by simp) fun h₂ he₂=>?_))
    simp only [Option.isSome_none,Bool.false_eq_true,if_false]
    refine wpAny_pure (hQ h₂ fun b o hb e=>he₂ b o hb (hs₁.extBut b o hb (Heap.get?_push_of_some _ e)))
theorem oh {env:Env} {elts:List Expr} {x1} {pos:Pos} {l:Addr} {items:Array Value} {Q:Unit→Shared→Prop} (hh:A.handled=none) (ht:s.heap.IsList l items)
    (hn:(assignEach elts env).length=items.size) (hstar:(assignEach elts env).findIdx? (·.1)=none)
    (h:∀ h',Heap.ExtBut s.heap.objs.size s.heap h'→wpAny (model prog w) A (assignInOrder ((assignEach elts env).map (·.2)) items.toList) Q E {s with heap:=h'}):
    wpAny (model prog w) A (assign (.Tuple elts x1 pos) env (.ref l)) Q E s:=by
  rw [assign_Tuple]
  refine wpAny_bind (wpAny_standAt ?_)
  unfold unpack
  rw [hn,hstar]
  exact wpAny_bind (wpAny_holding (pA hh ht h))
end
def M6 (K:PySem.W.Frag) (n:Nat) (t:yL):TG:=fun v σ H Q=>∃ a xs,v= .ref a∧(SqT K H a xs∨SqL K H a xs)∧xs.length=n∧t xs σ H Q
theorem lD {X:Cx} {K:PySem.W.Frag} {ts:List Expr} {k:Nat} {gs:yL} {n:Nat} {pos:Pos} (hK:X.K=K) (hc:X.calm=true) (h:T9 X ts gs) (hn:autoParam ((assignEach ts X.env).length=n) L2.auto4._auto_1) (hst:autoParam ((assignEach ts X.env).findIdx? (·.1)=none) L2.auto4._auto_1):JG X (.Tuple ts k pos) (M6 K n gs):=⟨by
  subst hK
  intro pins s σ H v u Q I r hw
  obtain ⟨a,xs,e1,hq,hl,hw⟩:=hw
  subst e1
  cases r
  rcases hq with hq | hq
  · exact (Et hc h.run hn hst) pins s σ H (.ref a) (.ref a) Q I (show RelV (.ref a) (Value.ref a) from rfl) ⟨a,xs,rfl,hq,hl,hw⟩
  · obtain ⟨its,rv,ht,hz⟩:=I.list hq
    refine oh (I.ok.hd hc) ht.isList (by simp [hn,← hl,rv.length]) hst fun h' hx=>?_
    have I1:Inv X pins σ H {s with heap:=h'}:=I.kept (t':=s.toks) fun b o e=>hx b o (Nat.ne_of_lt (Heap.lt_size e)) e
    exact h.run pins _ σ H xs _ Q I1 (by simpa using rv) hw⟩
theorem lE {X:Cx} {ts:List Expr} {k:Nat} {e:Expr} {te:TE} {g:TG} {pos pos':Pos} (he:JE X e te) (hg:JG X (.Tuple ts k pos') g) (h:autoParam (jr e=true) L2.auto4._auto_1) (h2:autoParam ((match e with | .Tuple ..=>false | _=>true)=true) L2.auto4._auto_1):JS X (.Assign [.Tuple ts k pos'] e pos) (vz te g):=
  ⟨Eu he.run hg.run (by show swapsWith e (some (.Tuple ts k pos')) pos.line X.env=pure false;exact uZ h) (by cases e <;> first | rfl | cases h2) rfl⟩
section
variable {H:Hp} {Q:VK} {K:PySem.W.Frag} {σ:St}
theorem dg {n:Nat} {gs:yL} {p:Addr} {xs:List V} {R:St→Hp→Prop} (s:SqT K H p xs) (hl:xs.length=n) (h:gs xs σ H R):Jm K n gs (.ref p) σ H R:=⟨p,xs,rfl,s,hl,h⟩
theorem rW {n:Nat} {gs:yL} {p:Addr} {xs:List V} {R:St→Hp→Prop} (s:SqL K H p xs) (hl:xs.length=n) (h:gs xs σ H R):M6 K n gs (.ref p) σ H R:=⟨p,xs,rfl,.inr s,hl,h⟩
theorem fO {t:TG} {u:yL} {v:V} {vs:List V} {R:St→Hp→Prop} (h:t v σ H fun σ' H'=>u vs σ' H' R):Er t u (v :: vs) σ H R:=⟨v,vs,rfl,h⟩
theorem jh {R:St→Hp→Prop} (h:R σ H):Oi [] σ H R:=⟨rfl,h⟩
theorem bz {p:Addr} {xs:List V} {y:V} (hp:H p=some (.lst xs)) (c:xs.length < sizeLine) (h:Q .non (upd H p (.lst (xs ++ [y])))):Ar (.ref p) [y] H Q:=⟨p,xs,y,rfl,rfl,hp,c,h⟩
theorem zx {xs:Nat→List V} {n:Nat} {g:TG} {tb:TS} {D:Ends} {H:Hp} (Pv:Nat→St→Hp→Prop) (h0:Pv 0 σ H)
    (hs:∀ i σ H T,i < n→Pv i σ H→H T=none→g (.ref T) σ (upd H T (.tup (xs i))) fun σ2 H2=>tb {D with nx:=Pv (i+1),ct:=Pv (i+1),bk:=D.nx} σ2 H2) (hd:∀ σ H,Pv n σ H→D.nx σ H):
    ∃ W:Nat→Nat→St→Hp→Prop,(∃ m,W 0 m σ H)∧∀ i m σ H,W i m σ H→
      ((Qc xs n).stop i H∧D.nx σ H)∨((Qc xs n).go i H∧∃ N:St→Hp→Prop,(∀ σ' H',N σ' H'→∃ m',m' < m∧W (i+1) m' σ' H')∧∀ x H',(Qc xs n).yld i H x H'→g x σ H' fun σ2 H2=>tb {D with nx:=N,ct:=N,bk:=D.nx} σ2 H2):=by
  refine ⟨fun i m σ H=>m=n - i∧i≤n∧Pv i σ H,⟨n,by simp,Nat.zero_le _,h0⟩,?_⟩
  rintro i m σ H ⟨rfl,hi,p⟩
  by_cases hlt:i < n
  · refine .inr ⟨hlt,Pv (i+1),fun σ' H' p'=>⟨n - (i+1),by omega,rfl,hlt,p'⟩,fun x H' y=>?_⟩
    obtain ⟨T,hT,e1,e2⟩:=y
    subst e1 e2
    exact hs i σ H T hlt p hT
  · have e:i=n:=by omega
    subst e
    exact .inl ⟨rfl,hd σ H p⟩
theorem Eh {f:Int→V} {i:Int} (h:Q (f i) H):rU f (.int i) H Q:=⟨i,rfl,h⟩
theorem vQ {a:Addr} {xs:List V} {k:Int} (ha:H a=some (.lst xs)) (h0: -(2 ^ 63)≤k) (h1:k < 2 ^ 63) (hz:xs.length*k.toNat≤sizeLine) (h:∀ p,H p=none→Q (.ref p) (upd H p (.lst (List.replicate k.toNat xs).flatten))):FZ (.ref a) (.int k) H Q:=
  .inr (.inr ⟨a,k,xs,rfl,rfl,ha,h0,h1,hz,h⟩)
theorem Ke {z:Str} {g:TG} {tb:TS} {D:Ends} {H:Hp} (Pv:Nat→St→Hp→Prop) (h0:Pv 0 σ H)
    (hs:∀ i σ H c,z.cps.toList[i]?=some c→Pv i σ H→g (.str ⟨#[c]⟩) σ H fun σ2 H2=>tb {D with nx:=Pv (i+1),ct:=Pv (i+1),bk:=D.nx} σ2 H2) (hd:∀ σ H,Pv z.length σ H→D.nx σ H):
    ∃ W:Nat→Nat→St→Hp→Prop,(∃ m,W 0 m σ H)∧∀ i m σ H,W i m σ H→
      ((MN z).stop i H∧D.nx σ H)∨((MN z).go i H∧∃ N:St→Hp→Prop,(∀ σ' H',N σ' H'→∃ m',m' < m∧W (i+1) m' σ' H')∧∀ x H',(MN z).yld i H x H'→g x σ H' fun σ2 H2=>tb {D with nx:=N,ct:=N,bk:=D.nx} σ2 H2):=by
  refine ⟨fun i m σ H=>m=z.cps.size - i∧i≤z.cps.size∧Pv i σ H,⟨z.cps.size,by simp,Nat.zero_le _,h0⟩,?_⟩
  rintro i m σ H ⟨rfl,hi,p⟩
  by_cases hlt:i < z.cps.size
  · refine .inr ⟨hlt,Pv (i+1),fun σ' H' p'=>⟨z.cps.size - (i+1),by omega,rfl,hlt,p'⟩,fun x H' y=>?_⟩
    obtain ⟨e1,c,e2,e3⟩:=y
    subst e1 e3
    exact hs i σ _ c (by simpa using e2) p
  · have e:i=z.cps.size:=by omega
    subst e
    exact .inl ⟨rfl,hd σ H p⟩
end
end L2
namespace L2
open PySem PySem.Spec PyProof.Rows
section
variable {X:Cx} {tg iter elt:Expr} {ifs:List Expr} {scope:Scope} {pos:Pos} {N':List Str} {sub:List (Option Nat)} {wi:TI} {g:TG} {tt:TT} {te:TE}
theorem Gq {N:List Str} {sc:Scope} {use:Option (Value→Sem Unit)} {R:Value→Shared→Prop} {p0:Pos} (S:qL N sc N' scope sub) (hc:X.calm=true) (hN:X.N=N) (hsc:X.env.scope=sc) (hi:PI X tg iter wi)
    (hg:∀ (C:Addr) (s₀:Shared) (H₀:Hp) (ex:List Addr),PG (nM X N' scope C s₀ H₀ ex) tg g)
    (ht:∀ (C:Addr) (s₀:Shared) (H₀:Hp) (ex:List Addr),xq (nM X N' scope C s₀ H₀ ex) ifs tt)
    (he:∀ (C:Addr) (s₀:Shared) (H₀:Hp) (ex:List Addr),PE (nM X N' scope C s₀ H₀ ex) elt te)
    (hs:∀ x,foldedSetIterable iter X.env x=pure x) (pins:List (Addr×Obj)) (s:Shared) (σ:St) (H:Hp) (Q:VK) (I:Inv X pins σ H s) (h:sV sub wi g tt te σ H Q)
    (hend:∀ (D C:Addr) (s5:Shared) (H5:Hp) (m:Str→Option Value),Inv X pins σ H5 s5→jG X pins H5 C→s5.heap.Ns C m→Q (.ref D) H5→compPost (model X.prog X.w) X.A X.xe use R (.ref D) C (.ok .next) s5):
    wpAny (model X.prog X.w) X.A (comprehension (.ListComp elt [⟨tg,iter,ifs,0⟩] scope pos) scope X.env p0 (newList []) false (eval iter X.env) use) R X.xe s:=by
  have hcl:∀ x∈scope.names,x.2=NameKind.free→∃ c,X.env.cells.lookup x.1=some c:=fun x hx hk=>I.ok.has x.1 (by have:=S.free x hx hk;rw [← hsc] at this;exact this)
  refine wpAny_comprehension_free (use:=use) rfl hs (nJ hcl) S.kind S.loc ?_
  refine dF (hi pins s σ H _ I h) fun v s1 h1=>dF h1 fun itv s2 h2=>?_
  obtain ⟨it,fp,tn,J,H2,e,I2,T,st2,f2,W,⟨m0,w0⟩,turn⟩:=h2
  subst e
  refine wpAny_newObj_type (wpAny_newFunctionEnv S.nocell (by intro y hy;simp at hy) (fun h₁ hns₁ hsb₁=>?_) S.kind)
  dsimp only at hns₁ hsb₁ ⊢
  generalize hs3:({s2 with heap:=s2.heap.push {cls:=.type "list",dict:=none,data:=.seq ([]:List Value).toArray}}:Shared)=s3
  have e3:s2.heap.push {cls:=.type "list",dict:=none,data:=.seq ([]:List Value).toArray}=s3.heap:=by rw [← hs3]
  rw [e3] at hns₁ hsb₁ ⊢
  have hD3:s3.heap.get? s2.heap.objs.size=some {cls:=.type "list",dict:=none,data:=.seq ([]:List Value).toArray}:=by rw [← e3];exact Heap.get?_push_size _ rfl
  have I3:Inv X pins σ H2 s3:=by
    rw [← hs3]
    exact I2.kept (t':=s2.toks) fun b o e=>Heap.get?_push_of_some _ e
  have k23:∀ b o,s2.heap.get? b=some o→s3.heap.get? b=some o:=fun b o e=>by rw [← e3];exact Heap.get?_push_of_some _ e
  have hsz:s3.heap.objs.size=s2.heap.objs.size+1:=by rw [← e3,Heap.size_push]
  have hk31:∀ b o,s3.heap.get? b=some o→h₁.get? b=some o:=fun b o e=>hsb₁.extBut b o (Nat.ne_of_lt (Heap.lt_size e)) (Heap.get?_push_of_some _ e)
  have hDn:H2 s2.heap.objs.size=none:=I2.hok.fresh (Nat.le_refl _)
  have fD:jG X pins H2 s2.heap.objs.size:=I2.fpOk (Nat.le_refl _) hDn
  have hfo:∀ b∈fp,b < s2.heap.objs.size:=fun b hb=>let ⟨o,e,_⟩:=T.obj _ _ st2 b hb;Heap.lt_size e
  have hDfp:s2.heap.objs.size ∉ fp:=fun z=>absurd (hfo _ z) (Nat.lt_irrefl _)
  have I4:=uW (tk:=s3.toks+([]:List (Str×Value)).length) S hN hsc I3 f2 (fun b hb=>by rw [hsz];exact Nat.lt_succ_of_lt (hfo b hb)) (D:=s2.heap.objs.size) (by rw [hsz];exact Nat.lt_succ_self _) fD hns₁ hk31
  have stat:∀ {H':Hp} {ob:Obj},(∀ b∈fp,H' b=none)→∀ b∈fp,jG (nM X N' scope s3.heap.objs.size s3 H2 (s2.heap.objs.size :: fp)) [(s2.heap.objs.size,ob)] H' b:=fun {H' ob} hn b hb=>by
    obtain ⟨q1,q2⟩:=I4.ok.exf b (List.mem_cons_of_mem _ hb)
    refine ⟨hn b hb,q1,I4.ok.exfs b (List.mem_cons_of_mem _ hb),.inl (List.mem_cons_of_mem _ hb),q2,fun p hp z=>?_⟩
    have hp':p=(s2.heap.objs.size,ob):=by simpa [nM] using hp
    subst hp'
    have z':s2.heap.objs.size=b:=z
    exact hDfp (by rw [z'];exact hb)
  generalize hXC:nM X N' scope s3.heap.objs.size s3 H2 (s2.heap.objs.size :: fp)=XC at I4 stat
  have eP:XC.prog=X.prog:=by rw [← hXC];rfl
  have eW:XC.w=X.w:=by rw [← hXC];rfl
  have eK:XC.K=X.K:=by rw [← hXC];rfl
  have eA:XC.A=X.A:=by rw [← hXC];rfl
  have eE:XC.env=compEnvC scope (nZ X.env scope.names []) s3.heap.objs.size X.env:=by rw [← hXC];rfl
  have eC:XC.calm=true:=by rw [← hXC];exact hc
  have eX:XC.xe=fun _ _=>False:=by rw [← hXC];rfl
  have eH:XC.H₀=H2:=by rw [← hXC];rfl
  have eS:XC.s₀=s3:=by rw [← hXC];rfl
  have eF:XC.fs=frs X.stack:=by rw [← hXC];rfl
  have eEx:XC.ex=s2.heap.objs.size :: fp:=by rw [← hXC];rfl
  have ePn:XC.pn=[]:=by rw [← hXC];rfl
  have hgC:PG XC tg g:=by rw [← hXC];exact hg _ _ _ _
  have htC:xq XC ifs tt:=by rw [← hXC];exact ht _ _ _ _
  have heC:PE XC elt te:=by rw [← hXC];exact he _ _ _ _
  have pinD:∀ {σ':St} {H':Hp} {s':Shared} {ob:Obj},Inv XC [] σ' H' s'→H' s2.heap.objs.size=none→s'.heap.get? s2.heap.objs.size=some ob→(∀ v,ob.data≠.cell v)→Inv XC [(s2.heap.objs.size,ob)] σ' H' s':=fun {σ' H' s' ob} J hn hg hd=>
    J.pins_of fun p hp=>by
      have hp':p=(s2.heap.objs.size,ob):=by simpa using hp
      subst hp'
      refine ⟨hg,hn,(J.ok.exf _ (by rw [eEx];exact List.mem_cons_self)).1,J.ok.exfs _ (by rw [eEx];exact List.mem_cons_self),hd⟩
  have loop:codeAny (model X.prog X.w) X.A (.compLoop (.ListComp elt [⟨tg,iter,ifs,0⟩] scope pos) 0 (.ref it) (.ref s2.heap.objs.size) (compEnvC scope (nZ X.env scope.names []) s3.heap.objs.size X.env))
      (compPost (model X.prog X.w) X.A X.xe use R (.ref s2.heap.objs.size) s3.heap.objs.size) {s3 with heap:=h₁,toks:=s3.toks+([]:List (Str×Value)).length}:=by
    refine uV (fun n s'=>∃ (i:Nat) (ys:List V) (its:List Value) (nn:Nat) (H':Hp),Inv XC [] (cT sub σ) H' s'∧tn i s'.heap∧(∀ b∈fp,H' b=none)∧H' s2.heap.objs.size=none∧
      s'.heap.get? s2.heap.objs.size=some {cls:=.type "list",data:=.seq its.toArray nn}∧Vals ys its∧W i n ys H') ?_ m0
      ⟨0,[],[],_,H2,I4,T.keep _ _ _ st2 fun b _ o e=>hk31 b o (k23 b o e),fun b hb=>(f2 b hb).1,hDn,hk31 _ _ hD3,.nil,w0⟩
    rintro n s4 ⟨i,ys,its,nn,H4,J4,st4,fr4,dn4,dg4,rv4,w4⟩
    have P4:=pinD J4 dn4 dg4 (fun v z=>by cases z)
    rcases turn i n ys H4 w4 with ⟨stop,hyl,qn⟩ | ⟨go,hyl,N,hN,step⟩
    · have hdone:=T.done XC eP eW eK eC i _ s4 _ H4 (fun _ _=>False) P4 (stat fr4) st4 stop
      rw [eA] at hdone
      refine wpAny_mono hdone (fun r s5 ⟨hr,I5⟩=>?_) fun _ _ z=>z
      subst hr
      obtain ⟨m,hn,_⟩:=id I5.loc
      have hCe:XC.env.locals=s3.heap.objs.size:=by rw [eE];rfl
      rw [hCe] at hn
      have hDg:=(I5.pin (s2.heap.objs.size,_) (by rw [ePn];exact List.mem_cons_self)).1
      have hDne:s2.heap.objs.size≠s3.heap.objs.size:=by rw [hsz];exact Nat.ne_of_lt (Nat.lt_succ_self _)
      have hHC:H4 s3.heap.objs.size=none:=by have:=I5.free;rw [hCe] at this;exact this
      have k56:∀ b o,b≠s3.heap.objs.size→s5.heap.get? b=some o→s5.heap.get? b=some o:=fun b o hb e=>e
      have un:=I5.base
      rw [eF,eEx,eH,eS] at un
      have nC:∀ b o,s3.heap.get? b=some o→b≠s3.heap.objs.size:=fun b o e=>Nat.ne_of_lt (Heap.lt_size e)
      have hok6:HOk X.prog X.w (upd H4 s2.heap.objs.size (.lst ys)) s5.heap:=by
        have h5:=I5.hok
        rw [eP,eW] at h5
        have IW:∀ b u,H4 b=some u→b≠s3.heap.objs.size:=fun b u e z=>by rw [z,hHC] at e;cases e
        intro b u e
        by_cases hb:b=s2.heap.objs.size
        · subst hb
          rw [aj] at e;cases e
          exact ⟨hyl,its,nn,rv4,k56 _ _ hDne hDg⟩
        · rw [aD hb] at e
          have nD:∀ c u,H4 c=some u→c≠s2.heap.objs.size:=fun c u e z=>by rw [z,dn4] at e;cases e
          refine (h5 b u e).stay (fun c v hc' q=>k56 c v ?_ q) (fun c q=>by rw [aD (nD c _ q)];exact q) fun c xs q=>by rw [aD (nD c _ q)];exact q
          rcases hc' with z | z
          · rw [z];exact IW b u e
          · exact IW c _ z
      have nD2:∀ c u,H4 c=some u→c≠s2.heap.objs.size:=fun c u e z=>by rw [z,dn4] at e;cases e
      have un6:Un (frs X.stack) (s2.heap.objs.size :: fp) H2 (upd H4 s2.heap.objs.size (.lst ys)) s3.heap s5.heap:=
        ⟨fun b o e nn' hb hx=>k56 b o (nC b o e) (un.keep b o e nn' hb hx),fun b o e nn' hb hx=>let ⟨sl,q⟩:=un.slot b o e nn' hb hx;⟨sl,k56 b _ (nC b o e) q⟩,
          fun b o e nn' hx=>by rw [aD (fun z=>hx (by rw [z];exact List.mem_cons_self))];exact un.free b o e nn' hx,
          fun b o e hx=>let ⟨o',q⟩:=un.there b o e hx;⟨o',k56 b o' (nC b o e) q⟩,
          fun b xs e=>by have q:=un.tups b xs e;rw [aD (nD2 b _ q)];exact q,
          fun b o u e=>by have q:=un.frzs b o u e;rw [aD (nD2 b _ q)];exact q,
          fun b ps e=>let ⟨more,q⟩:=un.tbls b ps e;⟨more,by rw [aD (nD2 b _ q)];exact q⟩⟩
      have I6:Inv X pins σ (upd H4 s2.heap.objs.size (.lst ys)) s5:=by
        refine I3.call' (s':=s5) (ch:=s2.heap.objs.size :: fp) ?_ un6 hok6 I5.bare fun b hb=>?_
        · show s5.os=s3.os
          have:=I5.os
          rw [eS] at this
          exact this
        · have q:jG X pins H2 b:=by
            rcases List.mem_cons.mp hb with rfl | z
            · exact fD
            · exact f2 b z
          obtain ⟨f0,f1,f2',f3,f4,f5⟩:=q
          exact ⟨f3,f1,f4,f5⟩
      have dC:upd H4 s2.heap.objs.size (.lst ys) s3.heap.objs.size=none:=by rw [aD (Ne.symm hDne)];exact hHC
      exact hend _ _ s5 _ m I6 (I3.fpOk (Nat.le_refl _) dC) hn (qn _ dn4)
    · have hitem:=T.item XC eP eW eK eC i _ s4 _ H4 (fun _ _=>False) P4 (stat fr4) st4 go
      rw [eA] at hitem
      refine wpAny_mono hitem (fun r s5 ⟨u,hr,h5⟩=>?_) fun _ _ z=>z
      subst hr
      dsimp only
      refine wpAny_mono h5 (fun _ s6 ⟨x,H6,I6,r6,y6,st6,fr6⟩=>?_) fun _ _ z=>z
      have P6:=I6.pinned (stat fr6) (T.obj _ _ st6)
      rw [← eE,← eP,← eW,← eA]
      refine wpAny_mono (hgC _ s6 _ H6 x u _ P6 r6 (step x H6 y6)) (fun _ s7 ⟨σ7,H7,I7,kp7,q7⟩=>?_) fun _ _ z=>by rw [eX] at z;exact z
      refine wpAny_mono (htC _ s7 σ7 H7 _ I7 q7) (fun ok s8 ⟨H8,I8,q8⟩=>?_) fun _ _ z=>by rw [eX] at z;exact z
      have fin:∀ {H9:Hp} {s9:Shared},Inv XC ([(s2.heap.objs.size,({cls:=.type "list",data:=.seq its.toArray nn}:Obj))] ++ pW fp s6.heap) σ7 H9 s9→Inv XC [] (cT sub σ) H9 s9∧tn (i+1) s9.heap∧(∀ b∈fp,H9 b=none)∧H9 s2.heap.objs.size=none∧
          s9.heap.get? s2.heap.objs.size=some {cls:=.type "list",data:=.seq its.toArray nn}:=fun {H9 s9} J=>by
        have pD:=J.pin (s2.heap.objs.size,({cls:=.type "list",data:=.seq its.toArray nn}:Obj)) (by rw [ePn];simp)
        have pF:∀ b∈fp,∀ o,s6.heap.get? b=some o→s9.heap.get? b=some o∧H9 b=none:=fun b hb o e=>by
          have q:=J.pin (b,o) (by rw [ePn];exact List.mem_append_right _ (List.mem_append_right _ (lu hb e)))
          exact ⟨q.1,q.2.1⟩
        refine ⟨?_,T.keep _ _ _ st6 fun b hb o e=>(pF b hb o e).1,fun b hb=>?_,pD.2.1,pD.1⟩
        · have J0:Inv XC [] σ7 H9 s9:=J.pins_of fun p hp=>nomatch hp
          exact J0.weak kp7.1.symm fun j v e=>kp7.2 j v e
        · obtain ⟨o,e,_⟩:=T.obj _ _ st6 b hb
          exact (pF b hb o e).2
      cases ok with
      | false=>
        rw [if_neg (by simp)]
        rw [if_neg (by simp)] at q8
        obtain ⟨m',hm,w8⟩:=hN _ _ q8
        obtain ⟨a1,a2,a3,a4,a5⟩:=fin I8
        exact ⟨m',hm,i+1,ys,its,nn,H8,a1,a2,a3,a4,a5,rv4,w8⟩
      | true=>
        rw [if_pos rfl]
        rw [if_pos rfl] at q8
        refine wpAny_mono (heC _ s8 σ7 H8 _ I8 q8) (fun xv s9 ⟨y,H9,I9,r9,n9⟩=>?_) fun _ _ z=>by rw [eX] at z;exact z
        obtain ⟨m',hm,w9⟩:=hN _ _ n9
        obtain ⟨a1,a2,a3,a4,a5⟩:=fin I9
        refine wpAny_list_append_plain (items:=its.toArray) ⟨nn,a5⟩ (fun h' ⟨n',hp'⟩ sb=>?_) (by simp;rw [← rv4.length];omega)
        obtain ⟨q1,q2⟩:=I4.ok.exf s2.heap.objs.size (by rw [eEx];exact List.mem_cons_self)
        have a1':Inv XC [] (cT sub σ) H9 {s9 with heap:=h'}:=a1.turned (t':=s9.toks) (fun b o hb e=>(sb.2 b hb).trans e) a4 q1 (.inl (by rw [eEx];exact List.mem_cons_self)) q2 (fun p hp=>by rw [ePn] at hp;exact nomatch hp)
        refine ⟨m',hm,i+1,ys ++ [y],its ++ [xv],n',H9,a1',T.keep _ _ _ a2 fun b hb o e=>(sb.2 b (fun z=>hDfp (by rw [← z];exact hb))).trans e,a3,a4,?_,rv4.append (.cons r9 .nil),w9⟩
        rw [hp']
        simp
  subst hs3
  exact codeAny_compStart_list loop (T.self _ 0 _ _ _ (T.keep _ _ _ st2 fun b _ o e=>hk31 b o (k23 b o e)) loop)
theorem zy {N:List Str} {sc:Scope} {i:Nat} {x:Str} {pos' spos:Pos} (hNd:X.N.Nodup) (hxi:X.N[i]?=some x) (hx:Loc X.env.scope x) (hf:X.fn x=true) (S:qL N sc N' scope sub) (hc:X.calm=true) (hN:X.N=N) (hsc:X.env.scope=sc) (hi:PI X tg iter wi)
    (hg:∀ (C:Addr) (s₀:Shared) (H₀:Hp) (ex:List Addr),PG (nM X N' scope C s₀ H₀ ex) tg g)
    (ht:∀ (C:Addr) (s₀:Shared) (H₀:Hp) (ex:List Addr),xq (nM X N' scope C s₀ H₀ ex) ifs tt)
    (he:∀ (C:Addr) (s₀:Shared) (H₀:Hp) (ex:List Addr),PE (nM X N' scope C s₀ H₀ ex) elt te)
    (hs:∀ x,foldedSetIterable iter X.env x=pure x):PS X (.Assign [.Name x pos'] (.ListComp elt [⟨tg,iter,ifs,0⟩] scope pos) spos) (vz (sV sub wi g tt te) (nH i)):=by
  intro pins s σ H D I h
  have hsw:∃ b,swapsWith (.ListComp elt [⟨tg,iter,ifs,0⟩] scope pos) (some (.Name x pos')) spos.line X.env=pure b:=⟨_,rfl⟩
  obtain ⟨b,hsw⟩:=hsw
  cases b with
  | false=>exact Ew hNd hxi hx (Av S hc hN hsc hi hg ht he hs) hsw (.inl hf) pins s σ H D I h
  | true=>
    rw [exec_Assign_Name_used _ _ _ _ hsw]
    refine wpAny_bind (wpAny_standAt (wpAny_bind ?_))
    show wpAny _ X.A (do let _ ← comprehension (.ListComp elt [⟨tg,iter,ifs,0⟩] scope pos) scope X.env _ (newList []) false (eval iter X.env) (some (assign (.Name x pos') X.env))) _ _ s
    refine wpAny_bind (wpAny_mono (Gq (use:=some (assign (.Name x pos') X.env)) (R:=fun _ s'=>SP X pins D .next s') S hc hN hsc hi hg ht he hs pins s σ H _ I h ?_) (fun _ s' hq=>wpAny_pure (wpAny_pure hq)) fun _ _ e=>e)
    intro Da C s5 H5 m I5 fC hn q
    show wpAny _ X.A (assign (.Name x pos') X.env (.ref Da)) _ _ _
    refine wpAny_assign_Name (uK I5 hNd hxi hx (v:=.ref Da) rfl (fun s6 I6 qq0=>?_) (.inl hf))
    obtain ⟨a,sb,ha⟩:=qq0
    obtain ⟨f0,f1,f2,f3,f4,f5⟩:=fC
    have hCa:C≠a:=fun z=>by
      rcases ha with e | e
      · exact f1 (z.trans e)
      · exact f4 x a e z.symm
    exact ⟨m,hn.sameBut sb hCa,fun h' hs'=>⟨_,H5,I6.turned (t':=s6.toks) (fun b o hb e=>hs'.extBut b o hb e) f0 f1 f3 f4 f5,q⟩⟩
end
section
variable {X:Cx} {tg iter elt:Expr} {ifs:List Expr} {scope:Scope} {pos:Pos} {N':List Str} {sub:List (Option Nat)} {wi:TI} {g:TG} {tt:TT} {te:TE} {N:List Str} {sc:Scope}
theorem vR {i:Nat} {x:Str} {pos' spos:Pos} (hNd:X.N.Nodup) (hxi:X.N[i]?=some x) (hx:Loc X.env.scope x) (S:qL N sc N' scope sub) (hc:X.calm=true) (hN:X.N=N) (hsc:X.env.scope=sc) (hi:JI X tg iter wi)
    (hg:∀ (C:Addr) (s₀:Shared) (H₀:Hp) (ex:List Addr),JG (nM X N' scope C s₀ H₀ ex) tg g)
    (ht:∀ (C:Addr) (s₀:Shared) (H₀:Hp) (ex:List Addr),Qa (nM X N' scope C s₀ H₀ ex) ifs tt)
    (he:∀ (C:Addr) (s₀:Shared) (H₀:Hp) (ex:List Addr),JE (nM X N' scope C s₀ H₀ ex) elt te) (hf:X.fn x=true) (h:autoParam (pZ iter=true) L2.auto4._auto_1):
    JS X (.Assign [.Name x pos'] (.ListComp elt [⟨tg,iter,ifs,0⟩] scope pos) spos) (vz (sV sub wi g tt te) (nH i)):=
  ⟨zy hNd hxi hx hf S hc hN hsc hi.run (fun C s₀ H₀ ex=>(hg C s₀ H₀ ex).run) (fun C s₀ H₀ ex=>(ht C s₀ H₀ ex).run) (fun C s₀ H₀ ex=>(he C s₀ H₀ ex).run) (Gf h)⟩
end
end L2
namespace L2
open PySem PySem.Spec PyProof.Rows
section
variable {X:Cx} {pins:List (Addr×Obj)} {σ:St} {H:Hp} {s:Shared}
theorem Inv.newtup {wr:List Addr} {T:Addr} {vals:Array Value} {xs:List V} {h'':Heap} {tk:Nat} (I:Inv X pins σ H s) (hf:∀ b∈wr,jG X pins H b) (hT:s.heap.objs.size≤T)
    (kall:∀ b o,b ∉ wr→s.heap.get? b=some o→h''.get? b=some o) (isT':h''.IsTuple T vals) (hv:Vals xs vals.toList) (hx:xs.length≤sizeLine):Inv X pins σ (upd H T (.tup xs)) {s with heap:=h'',toks:=tk}:=by
  have hTn:H T=none:=I.hok.fresh hT
  have nT:∀ b o,s.heap.get? b=some o→b≠T:=fun b o e=>Nat.ne_of_lt (Nat.lt_of_lt_of_le (Heap.lt_size e) hT)
  have nTH:∀ b u,H b=some u→b≠T:=fun b u e z=>by rw [z,hTn] at e;cases e
  have nW:∀ b u,H b=some u→b ∉ wr:=fun b u e hb=>by rw [(hf b hb).1] at e;cases e
  refine I.step (g':=s.gens) (d':=s.drawn) (ch:=wr) (fun b hb=>?_) (fun b o _ _ hc e _=>kall b o hc e) (fun b o _ _ hc e _=>⟨o.slots,kall b o hc e⟩) (fun b o _ e hn=>by rw [aD (nT b o e)];exact hn)
    (fun b o hc e=>⟨o,kall b o hc e⟩) (fun b ys e=>by rw [aD (nTH b _ e)];exact e) (fun b o u e=>by rw [aD (nTH b _ e)];exact e) (fun b ps e=>⟨#[],by rw [aD (nTH b _ e),e];simp⟩) (fun m hm=>?_) (fun b u e=>?_) I.bare
  · obtain ⟨f0,f1,f2,f3,f4,f5⟩:=hf b hb
    exact ⟨f3,f1,f4,f5⟩
  · obtain ⟨o,es,ep,ho,r⟩:=hm
    exact ⟨o,es,ep,kall _ o (fun hb=>(hf _ hb).2.1 rfl) ho,r⟩
  · by_cases hb:b=T
    · subst hb
      rw [aj] at e;cases e
      obtain ⟨o,ho,hcl,nn,hd⟩:=isT'
      exact ⟨hx,vals.toList,hv,o,ho,hcl,nn,by simpa using hd⟩
    · rw [aD hb] at e
      refine (I.hok b u e).stay (fun c v hc' q=>kall c v ?_ q) (fun c q=>by rw [aD (nTH c _ q)];exact q) fun c ys q=>by rw [aD (nTH c _ q)];exact q
      rcases hc' with z | z
      · rw [z];exact nW b u e
      · exact nW c _ z
theorem Inv.only {wr:List Addr} {h':Heap} {tk:Nat} (I:Inv X pins σ H s) (hf:∀ b∈wr,jG X pins H b) (kk:∀ b o,b ∉ wr→s.heap.get? b=some o→h'.get? b=some o):Inv X pins σ H {s with heap:=h',toks:=tk}:=by
  have nW:∀ b u,H b=some u→b ∉ wr:=fun b u e hb=>by rw [(hf b hb).1] at e;cases e
  refine I.step (g':=s.gens) (d':=s.drawn) (ch:=wr) (fun b hb=>?_) (fun b o _ _ hc e _=>kk b o hc e) (fun b o _ _ hc e _=>⟨o.slots,kk b o hc e⟩) (fun b o _ e hn=>hn)
      (fun b o hc e=>⟨o,kk b o hc e⟩) (fun b ys e=>e) (fun b o u e=>e) (fun b ps e=>⟨#[],by rw [e];simp⟩) (fun m hm=>?_) (fun b u e=>?_) I.bare
  · obtain ⟨f0,f1,f2,f3,f4,f5⟩:=hf b hb
    exact ⟨f3,f1,f4,f5⟩
  · obtain ⟨o,es,ep,ho,r⟩:=hm
    exact ⟨o,es,ep,kk _ o (fun hb=>(hf _ hb).2.1 rfl) ho,r⟩
  · refine (I.hok b u e).stay (fun c v hc' q=>kk c v ?_ q) (fun c q=>q) fun c ys q=>q
    rcases hc' with z | z
    · rw [z];exact nW b u e
    · exact nW c _ z
end
def R6 (K:PySem.W.Frag) (a:Addr):It:=
  ⟨fun i H=>∃ xs x,SqL K H a xs∧xs[i]?=some x,
   fun i H v H'=>∃ T x,H T=none∧v= .ref T∧(∀ xs,SqL K H a xs→xs[i]?=some x)∧H'=upd H T (.tup [.int i,x]),
   fun i H=>∃ xs,SqL K H a xs∧xs.length≤i⟩
theorem zA {P:Program} {w:World} {K:PySem.W.Frag} {elts:List Expr} {k:Nat} {pos:Pos} {e it a:Addr} (hne:e≠it):
    Turn P w K (.Tuple elts k pos) (R6 K a) [e,it] e (fun i h=>(∃ old,IsEnum h e it i old)∧h.IsListIter it a i) where
  mem:=by simp
  obj:=fun i h st c hc=>by
    obtain ⟨⟨old,he⟩,⟨o1,e1,c1,d1⟩⟩:=st
    simp only [List.mem_cons,List.mem_nil_iff,or_false] at hc
    rcases hc with rfl | rfl
    · exact ⟨_,he,fun v z=>by cases z⟩
    · exact ⟨_,e1,fun v z=>by rw [d1] at z;cases z⟩
  keep:=fun i h h' st kk=>by
    obtain ⟨⟨old,he⟩,h1⟩:=st
    exact ⟨⟨old,kk e (by simp) _ he⟩,h1.at fun o q=>kk it (by simp) o q⟩
  item:=by
    intro X hP hw hK hc i pins s σ H E I hf st hg
    subst hP hw hK
    obtain ⟨⟨old,he⟩,h1⟩:=st
    obtain ⟨xs,x,hq,hx⟩:=hg
    obtain ⟨its,rv,p,_⟩:=I.list hq
    obtain ⟨u,hu,ru⟩:=rv.get hx
    refine wpAny_pyNext_enum_item he h1 p.isList (x:=u) (by simpa using hu) hne fun h' a1 a2 a3 a4 hk=>?_
    refine ⟨_,rfl,wpAny_letOwnedTupleGo_enum a1 fun h'' a1' sb=>?_⟩
    have lt:∀ {c o},s.heap.get? c=some o→s.heap.objs.size≠c:=fun e=>Nat.ne_of_gt (Heap.lt_size e)
    have lti:s.heap.objs.size≠it:=by obtain ⟨o,q,_⟩:=h1;exact lt q
    have isT:h''.IsTuple s.heap.objs.size #[.int i s.toks,u]:=⟨_,sb.extBut _ _ (lt he) a3,rfl,_,rfl⟩
    have kall:∀ b o,b ∉ [e,it]→s.heap.get? b=some o→h''.get? b=some o:=fun b o hb q=>by
      simp only [List.mem_cons,List.mem_nil_iff,or_false,not_or] at hb
      exact sb.extBut _ _ hb.1 (hk b o hb.1 hb.2 q)
    have hTn:H s.heap.objs.size=none:=I.hok.fresh (Nat.le_refl _)
    refine ⟨.ref s.heap.objs.size,_,I.newtup (tk:=s.toks+1) hf (Nat.le_refl _) kall isT (xs:=[.int i,x]) (.cons ⟨_,rfl⟩ (.cons ru .nil)) (by simp;decide),rfl,⟨_,x,hTn,rfl,fun zs hs=>by rw [I.list_inj hs hq];exact hx,rfl⟩,?_,fun b hb=>?_⟩
    · exact ⟨⟨_,a1'⟩,a2.extBut sb.extBut (Ne.symm hne)⟩
    · have:s.heap.objs.size≠b:=by
        simp only [List.mem_cons,List.mem_nil_iff,or_false] at hb
        rcases hb with rfl | rfl
        · exact lt he
        · exact lti
      rw [aD (Ne.symm this)]
      exact (hf b hb).1
  done:=by
    intro X hP hw hK hc i pins s σ H E I hf st hg
    subst hP hw hK
    obtain ⟨⟨old,he⟩,h1⟩:=st
    obtain ⟨xs,hq,hx⟩:=hg
    obtain ⟨its,rv,p,_⟩:=I.list hq
    have l1:=rv.length
    refine wpAny_pyNext_enum_end (I.ok.hd hc) he h1 p.isList (by simp;omega) fun h' hk=>⟨rfl,I.only (tk:=s.toks) hf fun b o hb q=>?_⟩
    simp only [List.mem_cons,List.mem_nil_iff,or_false,not_or] at hb
    exact hk b o hb.2 q
  self:=fun _ _ _ _ _ st h=>let ⟨⟨_,he⟩,_⟩:=st;wpAny_pyIter_enum he h
theorem Cy {X:Cx} {elts:List Expr} {k:Nat} {tp:Pos} {pins:List (Addr×Obj)} {σ:St} {H1:Hp} {s1:Shared} {x:Str} {t:Tok} {R:It→Hp→Prop} (hc:X.calm=true) (I1:Inv X pins σ H1 s1) (q:R (Qc (jy x) x.cps.size) H1):
    wpAny (model X.prog X.w) X.A (call (.type "enumerate") [.str x t]) (fun v s1=>wpAny (model X.prog X.w) X.A (pyIter v) (PIE X pins σ (.Tuple elts k tp) R) X.xe s1) X.xe s1:=by
  refine call_enumerate_str fun h' he hit hsz hk=>?_
  have J1:Inv X pins σ H1 {s1 with heap:=h'}:=I1.kept (t':=s1.toks) hk
  have ne1:s1.heap.objs.size+1≠s1.heap.objs.size:=Nat.succ_ne_self _
  have nm:s1.heap.objs.size+1 ∉ [s1.heap.objs.size]:=fun z=>ne1 (List.mem_singleton.mp z)
  have hPt:∀ (i:Nat) (vals:Array Value),(∃ t y,SignAt x i y∧vals= #[.int i t,y])→Vals (jy x i) vals.toList:=by
    rintro i vals ⟨t,y,⟨c,u,e1,rfl⟩,rfl⟩
    refine .cons ⟨t,rfl⟩ (.cons ⟨u,?_⟩ .nil)
    rw [show x.cps.getD i 0=c by simp [Array.getD_eq_getD_getElem?,e1]]
  have fin:∀ (ty:String) (Dr:∀ A:Around,A.handled=none→Draws X.prog X.w A s1.heap.objs.size [s1.heap.objs.size] x.cps.size (SignAt x) fun i h=>h.IsStrIter s1.heap.objs.size ty x t i),h'.IsStrIter s1.heap.objs.size ty x t 0→
      wpAny (model X.prog X.w) X.A (pyIter (.ref (s1.heap.objs.size+1))) (PIE X pins σ (.Tuple elts k tp) R) X.xe {s1 with heap:=h'}:=by
    intro ty Dr hit'
    have W:∀ A:Around,A.handled=none→WalksT X.prog X.w A (s1.heap.objs.size+1) [s1.heap.objs.size+1,s1.heap.objs.size] [s1.heap.objs.size+1,s1.heap.objs.size] x.cps.size
        (fun i vals=>∃ t y,SignAt x i y∧vals= #[.int i t,y]) (fun i h=>(∃ old,IsEnum h (s1.heap.objs.size+1) s1.heap.objs.size i old)∧h.IsStrIter s1.heap.objs.size ty x t i)
        (fun i T h=>(∃ y,IsEnumOut h (s1.heap.objs.size+1) s1.heap.objs.size ((i:Int)+1) y T)∧h.IsStrIter s1.heap.objs.size ty x t (i+1)∧T≠s1.heap.objs.size+1∧T≠s1.heap.objs.size):=
      fun A hA=>WalksT.enumerateD (Dr A.in1 hA) (s1.heap.objs.size+1) ne1 nm (by simp)
    have hself:∀ (A:Around) (i:Nat) (s:Shared) (Q:Value→Shared→Prop) (E:Value→Shared→Prop),((∃ old,IsEnum s.heap (s1.heap.objs.size+1) s1.heap.objs.size i old)∧s.heap.IsStrIter s1.heap.objs.size ty x t i)→Q (.ref (s1.heap.objs.size+1)) s→wpAny (model X.prog X.w) A (pyIter (.ref (s1.heap.objs.size+1))) Q E s:=by
      rintro A i s Q E ⟨⟨old,he⟩,_⟩ hQ
      exact wpAny_pyIter_enum he hQ
    refine hself _ 0 _ _ _ ⟨⟨_,he⟩,hit'⟩ ?_
    refine ⟨s1.heap.objs.size+1,[s1.heap.objs.size+1,s1.heap.objs.size],_,_,H1,rfl,J1,Qd W (fun i=>by simp [jy];decide) hPt (by simp) ?_ hself,⟨⟨_,he⟩,hit'⟩,fun b hb=>?_,q⟩
    · rintro i h ⟨⟨old,he⟩,o,ho,hcl,hd⟩ b hb
      rcases List.mem_cons.mp hb with rfl | hb
      · exact ⟨_,he,fun v z=>by cases z⟩
      · rw [List.mem_singleton.mp hb]
        exact ⟨o,ho,fun v z=>by rw [hd] at z;cases z⟩
    · have hb':s1.heap.objs.size≤b:=by
        rcases List.mem_cons.mp hb with rfl | hb
        · exact Nat.le_succ _
        · rw [List.mem_singleton.mp hb];exact Nat.le_refl _
      exact I1.fpOk hb' (I1.hok.fresh hb')
  cases hx:x.cps.all (· < 128)
  · exact fin "str_iterator" (fun A hA=>Draws.strWide hA _ x t) (by simpa [strIterType,hx] using hit)
  · exact fin "str_ascii_iterator" (fun A hA=>Draws.strAscii hA _ x t) (by simpa [strIterType,hx] using hit)
def M9 (K:PySem.W.Frag) (ta:TA):TI:=fun σ H R=>ta σ H fun vs H1=>(∃ x:Str,vs=[.str x]∧R (Qc (jy x) x.cps.size) H1)∨∃ a xs,vs=[.ref a]∧SqL K H1 a xs∧R (R6 K a) H1
theorem lF {X:Cx} {K:PySem.W.Frag} {a:Expr} {ta:TA} {elts:List Expr} {k:Nat} {tp p pos:Pos} (hK:X.K=K) (hc:X.calm=true) (hg:Gl X "enumerate") (hm:X.mg "enumerate"=none) (ha:JA X [a] ta) (h:autoParam (notStar a=true) L2.auto4._auto_1):
    JI X (.Tuple elts k tp) (.Call (.Name "enumerate" p) [a] [] pos) (M9 K ta):=⟨by
  subst hK
  intro pins s σ H R I hq
  refine Call_ (iH I hg hm o9 (PyProof.Rows.callWith_type1 (dF (ha.run pos pins s σ H _ I hq) fun us s1 qq0=>?_) (bV h) rfl))
  obtain ⟨vs,H1,I1,r1,q1⟩:=qq0
  rcases q1 with ⟨x,e,q⟩ | ⟨l,xs,e,hl,q⟩
  · subst e
    obtain ⟨u,rfl,t,rfl⟩:=vals1 r1
    exact Cy hc I1 q
  · subst e
    obtain ⟨u,rfl,ru⟩:=vals1 r1
    cases ru
    obtain ⟨its,rv,p1,_⟩:=I1.list hl
    refine call_enumerate_list p1.isList fun h' z1 z2 z3 hk=>?_
    have J1:Inv X pins σ H1 {s1 with heap:=h'}:=I1.kept (t':=s1.toks) hk
    refine wpAny_pyIter_enum z1 ?_
    refine ⟨s1.heap.objs.size+1,_,_,_,H1,rfl,J1,zA (Nat.succ_ne_self _),⟨⟨_,z1⟩,z2⟩,fun b hb=>?_,q⟩
    have hb':s1.heap.objs.size≤b:=by
      simp only [List.mem_cons,List.mem_nil_iff,or_false] at hb
      have key:∀ n c:Nat,(c=n+1∨c=n)→n≤c:=fun n c h=>by omega
      exact key _ _ hb
    exact I1.fpOk hb' (I1.hok.fresh hb')⟩
end L2
namespace L2
open PySem PySem.Spec PyProof.Rows PySem.SeqAt
mutual
def DR (H:Hp):PyData→V→Prop
  | .none,v=>v= .non
  | .bool b,v=>v= .bl b
  | .int n,v=>v= .int n
  | .str x,v=>v= .str x
  | .list ds,v=>∃ a vs,v= .ref a∧H a=some (.lst vs)∧DRs H ds vs
  | .tuple ds,v=>∃ a vs,v= .ref a∧H a=some (.tup vs)∧DRs H ds vs
  | .dict _,_=>False
def DRs (H:Hp):List PyData→List V→Prop
  | [],vs=>vs=[]
  | d :: ds,vs=>∃ v r,vs=v :: r∧DR H d v∧DRs H ds r
end
theorem Qe {H:Hp} {n:Int} {v:V}:DR H (.int n) v↔v= .int n:=by rw [DR]
theorem Ba {H:Hp} {ds:List PyData} {v:V}:DR H (.list ds) v↔∃ a vs,v= .ref a∧H a=some (.lst vs)∧DRs H ds vs:=by rw [DR]
theorem Gr {H:Hp} {ds:List PyData} {v:V}:DR H (.tuple ds) v↔∃ a vs,v= .ref a∧H a=some (.tup vs)∧DRs H ds vs:=by rw [DR]
theorem Bb {H:Hp} {vs:List V}:DRs H [] vs↔vs=[]:=by rw [DRs]
theorem xT {H:Hp} {d:PyData} {ds:List PyData} {vs:List V}:DRs H (d :: ds) vs↔∃ v r,vs=v :: r∧DR H d v∧DRs H ds r:=by rw [DRs]
theorem tK {H:Hp}:∀ (ns:List Int),DRs H (ns.map PyData.int) (ns.map V.int)
  | []=>Bb.mpr rfl
  | n :: ns=>xT.mpr ⟨_,_,rfl,Qe.mpr rfl,tK ns⟩
mutual
theorem DR.reads {P:Program} {w:World} {H:Hp} {h:Heap} (ok:HOk P w H h):∀ (d:PyData) (v:V) (u:Value),DR H d v→RelV v u→∃ as,Reads h u d as
  | .none,_,u,q,r=>by rw [DR] at q;subst q;cases r;exact ⟨_,.none⟩
  | .bool b,_,u,q,r=>by rw [DR] at q;subst q;cases r;exact ⟨_,.bool _⟩
  | .int n,_,u,q,r=>by rw [DR] at q;subst q;obtain ⟨t,rfl⟩:=r;exact ⟨_,.int _ _⟩
  | .str n,_,u,q,r=>by rw [DR] at q;subst q;obtain ⟨t,rfl⟩:=r;exact ⟨_,.str _ _⟩
  | .list ds,v,u,q,r=>by
    rw [DR] at q
    obtain ⟨a,vs,rfl,e,t⟩:=q
    cases r
    obtain ⟨_,its,n,rv,g⟩:=ok a _ e
    obtain ⟨as,ra⟩:=DRs.reads ok ds vs its t rv
    exact ⟨_,.list g rfl rfl (by simpa using ra)⟩
  | .tuple ds,v,u,q,r=>by
    rw [DR] at q
    obtain ⟨a,vs,rfl,e,t⟩:=q
    cases r
    obtain ⟨_,its,rv,g⟩:=ok a _ e
    obtain ⟨as,ra⟩:=DRs.reads ok ds vs its t rv
    obtain ⟨o,ho,hc,n,hd⟩:=g
    exact ⟨_,.tuple ho hc hd (by simpa using ra)⟩
  | .dict _,_,_,q,_=>by rw [DR] at q;exact q.elim
theorem DRs.reads {P:Program} {w:World} {H:Hp} {h:Heap} (ok:HOk P w H h):∀ (ds:List PyData) (vs:List V) (us:List Value),DRs H ds vs→Vals vs us→∃ as,ReadsAll h us ds as
  | [],_,us,q,r=>by rw [DRs] at q;subst q;cases r;exact ⟨_,.nil⟩
  | d :: ds,_,us,q,r=>by
    rw [DRs] at q
    obtain ⟨v,r',rfl,q1,q2⟩:=q
    cases r with
    | cons a b=>
      obtain ⟨as,h1⟩:=DR.reads ok d v _ q1 a
      obtain ⟨bs,h2⟩:=DRs.reads ok ds r' _ q2 b
      exact ⟨_,.cons h1 h2⟩
end
def Ub:R2:=fun x y H Q=>∃ d e,DR H d x∧DR H e y∧shaped d=true∧shaped e=true∧Q (.bl (PyData.eqv d e)) H
section
variable {X:Cx}
theorem Qf (hu:X.A.units+64 < cLine):OpR X (compareOp .Eq) Ub:=by
  intro pins s σ H x y v u Q I rx ry h
  obtain ⟨d,e,h1,h2,h3,h4,q⟩:=h
  obtain ⟨as,r1⟩:=DR.reads I.hok d x v h1 rx
  obtain ⟨bs,r2⟩:=DR.reads I.hok e y u h2 ry
  exact eq_dataH r1 r2 h3 h4 hu ⟨.bl _,H,I,rfl,q⟩
def Cz (K:PySem.W.Frag):R2:=fun x y H Q=>Pu K x y H Q∨Ub x y H Q
theorem zB {K:PySem.W.Frag} (hK:X.K=K) (hu:X.A.units+64 < cLine):OpR X (compareOp .Eq) (Cz K):=(PB hK (Nat.lt_of_le_of_lt (Nat.le_add_right _ _) hu)).or (Qf hu)
end
section
variable {H:Hp} {Q:VK} {K:PySem.W.Frag} {σ:St}
theorem gP {i j:Int} (h:Q (.bl (decide (V.int i=V.int j))) H):Cz K (.int i) (.int j) H Q:=.inl (.inl ⟨rfl,h⟩)
theorem gQ {i j:Str} (h:Q (.bl (decide (V.str i=V.str j))) H):Cz K (.str i) (.str j) H Q:=.inl (.inl ⟨rfl,h⟩)
theorem Gs {x y:V} {d:PyData} (h1:DR H d x) (h2:DR H d y) (hs:shaped d=true) (h:Q (.bl true) H):Cz K x y H Q:=
  .inr ⟨d,d,h1,h2,hs,hs,by rw [PySem.SeqAt.eqv_refl d (canLay_of_shaped hs)];exact h⟩
theorem Gu {x y:V} {d e:PyData} (h1:DR H d x) (h2:DR H e y) (hs:shaped d=true) (hs2:shaped e=true) (h:Q (.bl (PyData.eqv d e)) H):Cz K x y H Q:=.inr ⟨d,e,h1,h2,hs,hs2,h⟩
theorem fP {a:TA} {R:It→Hp→Prop} (h:a σ H fun vs H1=>(∃ x:Str,vs=[.str x]∧R (Qc (jy x) x.cps.size) H1)∨∃ a xs,vs=[.ref a]∧SqL K H1 a xs∧R (R6 K a) H1):M9 K a σ H R:=h
theorem m5 {a:Addr} {xs:List V} {g:TG} {tb:TS} {D:Ends} (Pv:Nat→St→Hp→Prop) (h0:Pv 0 σ H) (hq:∀ i σ H,i≤xs.length→Pv i σ H→SqL K H a xs)
    (hs:∀ i σ H T x,xs[i]?=some x→Pv i σ H→H T=none→g (.ref T) σ (upd H T (.tup [.int i,x])) fun σ2 H2=>tb {D with nx:=Pv (i+1),ct:=Pv (i+1),bk:=D.nx} σ2 H2) (hd:∀ σ H,Pv xs.length σ H→D.nx σ H):
    ∃ W:Nat→Nat→St→Hp→Prop,(∃ m,W 0 m σ H)∧∀ i m σ H,W i m σ H→
      ((R6 K a).stop i H∧D.nx σ H)∨((R6 K a).go i H∧∃ N:St→Hp→Prop,(∀ σ' H',N σ' H'→∃ m',m' < m∧W (i+1) m' σ' H')∧∀ x H',(R6 K a).yld i H x H'→g x σ H' fun σ2 H2=>tb {D with nx:=N,ct:=N,bk:=D.nx} σ2 H2):=by
  refine ⟨fun i m σ H=>m=xs.length - i∧i≤xs.length∧Pv i σ H,⟨xs.length,by simp,Nat.zero_le _,h0⟩,?_⟩
  rintro i m σ H ⟨rfl,hi,p⟩
  have q1:=hq i σ H hi p
  by_cases hlt:i < xs.length
  · refine .inr ⟨⟨xs,xs[i],q1,List.getElem?_eq_getElem hlt⟩,Pv (i+1),fun σ' H' p'=>⟨xs.length - (i+1),by omega,rfl,hlt,p'⟩,fun x H' y=>?_⟩
    obtain ⟨T,u,hT,e1,e2,e4⟩:=y
    subst e1 e4
    exact hs i σ H T u (e2 xs q1) p hT
  · have e:i=xs.length:=by omega
    subst e
    exact .inl ⟨⟨xs,q1,Nat.le_refl _⟩,hd σ H p⟩
end
end L2
namespace L2
open PySem PySem.Spec PyProof.Rows
theorem Gv:typeLookup (.type "list_reverseiterator") "__len__"=pure none:=by rw [typeLookup_type,builtinLookup_eq_fast];kernel_rfl
theorem CG:typeLookup (.type "list_reverseiterator") "__length_hint__"=pure (some (.builtin "list_reverseiterator.__length_hint__")):=by rw [typeLookup_type,builtinLookup_eq_fast];kernel_rfl
section
variable {prog:Program} {w:World} {A:Around} {E:Value→Shared→Prop} {s:Shared}
theorem Gw {it l:Addr} {i:Int} {Q:Bool→Shared→Prop} (hit:s.heap.IsRevIter it l i) (h:Q false s):wpAny (model prog w) A (Builtin.List.listLengthHint (.ref it)) Q E s:=by
  unfold Builtin.List.listLengthHint
  refine wpAny_bind (wpAny_specialOf hit.typeIs Gv ?_)
  show wpAny _ _ (specialOf (Value.ref it) (Str.ofString "__length_hint__") >>=_) _ _ _
  refine wpAny_bind (wpAny_specialOf hit.typeIs CG ?_)
  generalize hid:("list_reverseiterator.__length_hint__":String)=id0
  wp_delta
  rw [show splitId id0=some ("list_reverseiterator","__length_hint__") from by subst hid;decide+kernel]
  subst hid
  refine wpAny_bind (wpAny_isInstance (T:="list_reverseiterator") (b:=true) hit.typeIs (by rw [isSubtype_type];kernel_rfl) ?_)
  refine wpAny_ite_split (fun hab=>absurd hab (by decide)) (fun _=>?_)
  refine wpAny_ite_split (fun _=>?_) (fun hab=>absurd (by decide+kernel) hab)
  refine wpAny_ite_split (fun hab=>absurd hab (by decide+kernel)) (fun _=>?_)
  exact wpAny_pure h
theorem Gx {it l:Addr} {items:Array Value} {Q:Value→Shared→Prop} (hh:A.handled=none) (hit:s.heap.IsRevIter it l ((items.size:Int) - 1)) (hl:s.heap.IsList l items) (hne:l≠it) (hn:items.size≤sizeLine)
    (hQ:∀ h' tk acc' c',(∀ b o,b≠it→s.heap.get? b=some o→h'.get? b=some o)→h'.get? s.heap.objs.size=some {cls:=.type "list",dict:=none,data:=.seq acc' c',slots:=#[]}→
      ItemsOf (fun i v=>items[items.size - 1 - i]?=some v) acc' items.size→Q (.ref s.heap.objs.size) {s with heap:=h',toks:=tk}):
    wpAny (model prog w) A (call (.type "list") [.ref it]) Q E s:=by
  refine callType_codes (Q₁:=fun obj s₁=>obj= .ref s.heap.objs.size∧s₁={s with heap:=s.heap.push {cls:=.type "list",data:=.seq #[]}}) F.called_list (F.typeCall_list_1 _) F.entry_list_init
    (code_list_new _ ⟨rfl,rfl⟩) fun obj s₁ h₁=>?_
  obtain ⟨rfl,rfl⟩:=h₁
  have iti:it < s.heap.objs.size:=by obtain ⟨o,e,_⟩:=hit;exact Heap.lt_size e
  have itl:l < s.heap.objs.size:=by obtain ⟨o,e,_⟩:=hl;exact Heap.lt_size e
  generalize hS0:s.heap.objs.size=S at iti itl hQ
  have hS:(s.heap.push {cls:=.type "list",data:=.seq #[]}).get? S=some {cls:=.type "list",data:=.seq #[]}:=by rw [← hS0];exact Heap.get?_push_size _ rfl
  have kp:∀ b o,s.heap.get? b=some o→(s.heap.push {cls:=.type "list",data:=.seq #[]}).get? b=some o:=fun b o e=>Heap.get?_push_of_some _ e
  generalize s.heap.push {cls:=.type "list",data:=.seq #[]}=h1 at hS kp
  have hit1:h1.IsRevIter it l ((items.size:Int) - 1):=hit.at fun o e=>kp it o e
  have hl1:h1.IsList l items:=hl.at fun o e=>kp l o e
  refine ⟨⟨_,hS,rfl⟩,F.args_list_init_2 _ _,?_⟩
  have nSi:S≠it:=Nat.ne_of_gt iti
  have nSl:S≠l:=Nat.ne_of_gt itl
  have hSf:S ∉ [it,l]:=by simp [nSi,nSl]
  have W:=(Walks.listRev (prog:=prog) (w:=w) (A:=A.in1.in1) hh it l hne items).toS
  show wpAny _ A.in1.in1 (do let old ← Builtin.List.listItems (.ref S);Builtin.List.listUpdate (.ref S) (fun _=>#[]);letGo old.toList.reverse;Builtin.List.listExtendWith (.ref S) (.ref it) .none) _ _ _
  unfold Builtin.List.listItems
  refine wpAny_bind (wpAny_bind (wpAny_seqItems hS rfl (wpAny_pure ?_)))
  show wpAny _ A.in1.in1 (updateSeq S (fun _=>#[]) >>=fun _=>letGo (#[]:Array Value).toList.reverse >>=fun _=>Builtin.List.listExtendWith (.ref S) (.ref it) .none) _ _ _
  refine wpAny_bind (wpAny_updateSeq hS rfl ?_)
  have hS2:=Heap.get?_update_self (Obj.mapSeq (fun _=>(#[]:Array Value))) hS rfl
  have k2:∀ b o,b≠S→h1.get? b=some o→(h1.update S (Obj.mapSeq (fun _=>(#[]:Array Value)))).get? b=some o:=fun b o hb e=>(Heap.get?_update_other _ _ (Ne.symm hb)).trans e
  generalize h1.update S (Obj.mapSeq (fun _=>(#[]:Array Value)))=h2 at hS2 k2
  have hit2:=hit1.at (h':=h2) fun o e=>k2 it o (Ne.symm nSi) e
  have hl2:=hl1.at (h':=h2) fun o e=>k2 l o (Ne.symm nSl) e
  refine wpAny_bind (wpAny_letGo ?_)
  unfold Builtin.List.listExtendWith
  refine wpAny_bind (wpAny_typeOf (T:="list_reverseiterator") (Heap.IsRevIter.typeIs (s:={s with heap:=h2}) hit2) ?_)
  have e1:Builtin.List.listSameRef (.ref S) (.ref it)=false:=by simp [Builtin.List.listSameRef,nSi]
  have e2:(Value.type "list_reverseiterator" == Value.type "list")=false:=by decide
  have e3:(Value.type "list_reverseiterator" == Value.type "tuple")=false:=by decide
  simp only [e1,e2,e3,Bool.or_false,Bool.false_eq_true,if_false]
  refine wpAny_bind (wpAny_pyIter_revIter (s:={s with heap:=h2}) hit2 ?_)
  refine wpAny_bind (wpAny_holding (Gw (s:={s with heap:=h2}) hit2 ?_))
  refine wpAny_ite_split (fun hab=>absurd hab (by decide+kernel)) (fun _=>?_)
  refine wpAny_pure ⟨plainId_quiet F.plain_extend_loop _,?_⟩
  refine codeAny_extend_loopS W hn S hSf .none items.size 0 _ #[] _ rfl (Nat.zero_le _) ⟨Nat.zero_le _,by simpa using hit2,hl2⟩ hS2 (ItemsOf.nil _) fun s' acc' c' hm hS' hacc=>?_
  rw [Moved.eq_with hm]
  refine ⟨rfl,hQ s'.heap s'.toks acc' c' (fun b o hb e=>hm.heap b o (fun hmem=>?_) (k2 b o (fun z=>?_) (kp b o e))) hS' hacc⟩
  · rcases List.mem_cons.mp hmem with e' | hmem
    · exact absurd (Heap.lt_size e) (by rw [e',hS0];exact Nat.lt_irrefl _)
    · exact hb (List.mem_singleton.mp hmem)
  · exact absurd (Heap.lt_size e) (by rw [z,hS0];exact Nat.lt_irrefl _)
end
end L2
namespace L2
open PySem PySem.Spec PyProof.Rows
section
variable {X:Cx} {K:PySem.W.Frag} {a b c e:Expr} {ta tb tc te:TE} {pos p p2 p3:Pos}
theorem Kf {op op':CmpOp} {r r':R2} (ho:OpR X (compareOp op) r) (ho':OpR X (compareOp op') r') (ha:JE X a ta) (hb:JE X b tb) (hc:JE X c tc) (hm:autoParam (lastMarks [op,op'] [b,c]=false) L2.auto5._auto_1):
    JE X (.Compare a [op,op'] [b,c] pos) (yP r r' ta tb tc):=⟨Fd ho ho' ha.run hb.run hc.run hm⟩
theorem arg1 {Q:List Value→Shared→Prop} {E:Value→Shared→Prop} {s:Shared} (hs:notStar e=true) (h:wpAny (model X.prog X.w) X.A (eval e X.env) (fun u s1=>Q [u] s1) E s):wpAny (model X.prog X.w) X.A (spliced (backTo pos (starEach [e] X.env))) Q E s:=by
  rw [bV hs]
  show wpAny _ _ (spliced ((false,eval e X.env) :: backTo pos (starEach [] X.env))) _ _ s
  exact Calls.spliced_cons (wpAny_mono h (fun u s1 q=>Calls.spliced_nil q) fun _ _ z=>z)
def Gy (K:PySem.W.Frag) (ta:TE):TE:=fun σ H Q=>ta σ H fun x H1=>∃ l xs,x= .ref l∧SqL K H1 l xs∧∀ q,H1 q=none→Q (.ref q) (upd H1 q (.lst xs.reverse))
theorem CJ (hK:X.K=K) (hc:X.calm=true) (hg:Gl X "list") (hm:X.mg "list"=none) (hg2:Gl X "reversed") (hm2:X.mg "reversed"=none) (ha:JE X a ta) (h:autoParam (notStar a=true) L2.auto4._auto_1):
    JE X (.Call (.Name "list" p) [.Call (.Name "reversed" p2) [a] [] p3] [] pos) (Gy K ta):=⟨by
  subst hK
  intro pins s σ H Q I hq
  refine wpAny_Call_Name_kw (iH I hg hm rT (PyProof.Rows.callWith_type1 (arg1 rfl (wpAny_Call_Name_kw (iH I hg2 hm2 mJ (PyProof.Rows.callWith_type1 (arg1 h (dF (ha.run pins s σ H _ I hq) fun u s1 qq0=>?_)) (bV h) rfl)))) rfl rfl))
  obtain ⟨x,H1,I1,rx,l,xs,ex,hx,q⟩:=qq0
  subst ex
  cases rx
  obtain ⟨its,r,ht,hz⟩:=I1.list hx
  have hlen:=r.length
  refine call_reversed_list ht.isList ?_
  have lt:l < s1.heap.objs.size:=by obtain ⟨o,ho,_⟩:=ht.isList;exact Heap.lt_size ho
  have e0:(s1.heap.push (PySem.revObj l ((its.toArray.size:Int) - 1))).get? s1.heap.objs.size=some (PySem.revObj l ((its.toArray.size:Int) - 1)):=Heap.get?_push_size _ rfl
  have k0:∀ b o,s1.heap.get? b=some o→(s1.heap.push (PySem.revObj l ((its.toArray.size:Int) - 1))).get? b=some o:=fun b o q=>Heap.get?_push_of_some _ q
  have s0:(s1.heap.push (PySem.revObj l ((its.toArray.size:Int) - 1))).objs.size=s1.heap.objs.size+1:=Heap.size_push ..
  refine Gx (it:=s1.heap.objs.size) (l:=l) (I1.ok.hd hc) ⟨_,e0,rfl,rfl⟩ (ht.isList.at fun o q=>k0 l o q) (Nat.ne_of_lt lt) (by simp;omega) fun h' tk acc' c' hk hS hacc=>?_
  have eacc:acc'.toList=its.reverse:=by
    apply List.ext_getElem?
    intro i
    have a1:acc'.size=its.length:=by have:=hacc.1;simpa using this
    by_cases hi:i < its.length
    · have hi':i < acc'.size:=by omega
      have a2:=hacc.2 i acc'[i] (Array.getElem?_eq_getElem hi')
      rw [List.getElem?_reverse hi]
      simp at a2
      rw [a2]
      simp [hi']
    · rw [List.getElem?_eq_none (by simp;omega),List.getElem?_eq_none (by simp;omega)]
  have rr:Vals xs.reverse acc'.toList:=by rw [eacc];exact r.reverse
  have k1:∀ b o,s1.heap.get? b=some o→h'.get? b=some o:=fun b o z=>hk b o (Nat.ne_of_lt (Heap.lt_size z)) (k0 b o z)
  have hle:s1.heap.objs.size≤(s1.heap.push (PySem.revObj l ((its.toArray.size:Int) - 1))).objs.size:=by rw [s0];exact Nat.le_succ _
  refine ⟨.ref _,_,I1.laid (t':=tk) (o:=.lst xs.reverse) k1 hle ⟨by simp;omega,acc'.toList,c',rr,by simpa using hS⟩,rfl,q _ (I1.hok.fresh hle)⟩⟩
end
end L2
namespace L2
open PySem PySem.Spec PyProof.Rows
def CK (h:Heap) (T:Addr):Prop:=∃ oT ts,h.get? T=some oT∧oT.data= .fields ts∧3 < ts.size
def fj (C:Addr) (dd:Option Addr) (vs:Array Value):Obj:={cls:=.ref C,dict:=dd,data:=.fields vs}
def Kg (l:List Env):List Addr:=l.filterMap (·.frame)
section
variable {M:Model} {A:Around} {E:Value→Shared→Prop}
theorem vd {base:Heap} {env:Env} {outer:List Env} {L x C:Addr} {dd:Option Addr} {vs:Array Value} {hd:Value} {had:Bool} {Q:Unit→Shared→Prop} {s:Shared}
    (fr:A.frames=some (env :: outer)) (ff:s.heap.FunFrames base (env :: outer)) (fL:env.frame=some L) (ex:s.heap.get? x=some (fj C dd vs)) (sz:1 < vs.size) (nx:x ∉ Kg (env :: outer))
    (k:∀ h' T,h'.get? x=some (fj C dd (vs.setIfInBounds 1 (.ref T)))→s.heap.objs.size≤T→CK h' T→(∀ b o,b≠x→b ∉ Kg (env :: outer)→s.heap.get? b=some o→h'.get? b=some o)→
      (∀ b o,b≠x→s.heap.get? b=some o→∃ sl,h'.get? b=some {o with slots:=sl})→Q () {s with heap:=h'}):
    wpAny M A (do let c ← frameOf env;let pl ← entryPlaceOf L had;let t ← EntryCells.newEntry hd c .none (rawInt L) .none pl;setField (.ref x) 1 t) Q E s:=by
  refine wpAny_bind (wpAny_frameOf_fun fr ff fL fun g1 so=>?_)
  refine wpAny_bind (wpAny_entryPlaceOf fun pl isp=>?_)
  unfold EntryCells.newEntry newFields
  refine wpAny_bind (wpAny_newObj_type ?_ (isp.sizeOk5 _ _ _ _ _))
  have x1:g1.get? x=some (fj C dd vs):=(so.2.1 x nx).trans ex
  have lts:([hd,Value.ref L,.none,rawInt L,.none] ++ (if pl.isEmpty then List.replicate 6 Value.none else pl)).toArray.size > 3:=by
    simp only [List.size_toArray,List.length_append,List.length_cons,List.length_nil];omega
  generalize ([hd,Value.ref L,.none,rawInt L,.none] ++ (if pl.isEmpty then List.replicate 6 Value.none else pl)).toArray=tv at lts
  have x2:(g1.push {cls:=.type "traceback",dict:=none,data:=.fields tv}).get? x=some (fj C dd vs):=Heap.get?_push_of_some _ x1
  have nTx:g1.objs.size≠x:=Nat.ne_of_gt (Heap.lt_size x1)
  have t2:(g1.push {cls:=.type "traceback",dict:=none,data:=.fields tv}).get? g1.objs.size=some {cls:=.type "traceback",dict:=none,data:=.fields tv}:=Heap.get?_push_size _ rfl
  have o2:∀ b o,g1.get? b=some o→(g1.push {cls:=.type "traceback",dict:=none,data:=.fields tv}).get? b=some o:=fun b o e=>Heap.get?_push_of_some _ e
  refine wpAny_setField (vs:=vs) x2 rfl sz ?_
  have e3:=Heap.get?_update_self (Obj.mapFields (·.setIfInBounds 1 (Value.ref g1.objs.size))) x2 rfl
  have ot:∀ b,b≠x→((g1.push {cls:=.type "traceback",dict:=none,data:=.fields tv}).update x (Obj.mapFields (·.setIfInBounds 1 (Value.ref g1.objs.size)))).get? b=(g1.push {cls:=.type "traceback",dict:=none,data:=.fields tv}).get? b:=fun b hb=>Heap.get?_update_other _ _ (Ne.symm hb)
  refine k _ g1.objs.size e3 (by rw [so.1];exact Nat.le_refl _) ⟨_,tv,(ot _ nTx).trans t2,rfl,lts⟩ (fun b o hb hf e=>?_) (fun b o hb e=>?_)
  · rw [ot b hb];exact o2 b o ((so.2.1 b hf).trans e)
  · obtain ⟨sl,q⟩:=so.2.2 b o e
    exact ⟨sl,by rw [ot b hb];exact o2 b _ q⟩
structure Bc (fs:List Addr) (x C:Addr) (dd:Option Addr) (hd:Option Addr) (h h':Heap) (T:Addr):Prop where
  obj:∃ vs,h'.get? x=some (fj C dd vs)∧vs[1]?=some (.ref T)∧vs[2]?=some .none
  tb:CK h' T
  ne:T≠x
  new:h.objs.size≤T∨hd=some T
  keep:∀ b o,b≠x→some b≠hd→b ∉ fs→h.get? b=some o→h'.get? b=some o
  slot:∀ b o,b≠x→some b≠hd→h.get? b=some o→∃ sl,h'.get? b=some {o with slots:=sl}
  tail:∀ b o,hd=some b→h.get? b=some o→∃ o',h'.get? b=some o'
theorem Uc {base:Heap} {env:Env} {outer:List Env} {L x C:Addr} {dd:Option Addr} {vs:Array Value} {Q:Unit→Shared→Prop} {s:Shared}
    (fr:A.frames=some (env :: outer)) (ff:s.heap.FunFrames base (env :: outer)) (fL:env.frame=some L) (ex:s.heap.get? x=some (fj C dd vs)) (h1:vs[1]?=some .none∧vs[2]?=some .none) (nx:x ∉ Kg (env :: outer))
    (k:∀ h' T,Bc (Kg (env :: outer)) x C dd none s.heap h' T→Q () {s with heap:=h'}):wpAny M A (noteFrame (.ref x) env) Q E s:=by
  unfold noteFrame
  simp only [fL]
  refine wpAny_bind (wpAny_field ex rfl h1.1 ?_)
  rw [if_neg (by decide)]
  have sz:1 < vs.size:=(Array.getElem?_eq_some_iff.mp h1.1).1
  refine vd fr ff fL ex sz nx fun h' T a1 a2 a3 a4 a5=>k h' T ⟨⟨_,a1,by simp [sz],by rw [Array.getElem?_setIfInBounds_ne (by decide)];exact h1.2⟩,a3,?_,.inl a2,fun b o hb _ hf e=>a4 b o hb hf e,fun b o hb _ e=>a5 b o hb e,fun b o z=>by cases z⟩
  exact Nat.ne_of_gt (Nat.lt_of_lt_of_le (Heap.lt_size ex) a2)
theorem Ud {base:Heap} {env:Env} {outer:List Env} {L x C T0:Addr} {dd:Option Addr} {vs:Array Value} {Q:Unit→Shared→Prop} {s:Shared}
    (fr:A.frames=some (env :: outer)) (ff:s.heap.FunFrames base (env :: outer)) (fL:env.frame=some L) (ex:s.heap.get? x=some (fj C dd vs)) (h1:vs[1]?=some (.ref T0)∧vs[2]?=some .none) (t0:CK s.heap T0) (ne:T0≠x) (nx:x ∉ Kg (env :: outer)) (nT:T0 ∉ Kg (env :: outer))
    (k:∀ h' T,Bc (Kg (env :: outer)) x C dd (some T0) s.heap h' T→Q () {s with heap:=h'}):wpAny M A (noteFrame (.ref x) env) Q E s:=by
  obtain ⟨oT,ts,g,d,l3⟩:=id t0
  unfold noteFrame
  simp only [fL]
  refine wpAny_bind (wpAny_field ex rfl h1.1 ?_)
  rw [if_pos (show (Value.ref T0 != Value.none)=true from by simp)]
  refine wpAny_bind (wpAny_field g d (Array.getElem?_eq_getElem l3) ?_)
  by_cases q:(ts[3] == rawInt L)=true
  · rw [if_pos q]
    exact wpAny_pure (k _ T0 ⟨⟨vs,ex,h1⟩,t0,ne,.inr rfl,fun b o _ _ _ e=>e,fun b o _ _ e=>⟨o.slots,e⟩,fun b o _ e=>⟨o,e⟩⟩)
  · rw [if_neg q]
    refine wpAny_bind (wpAny_setField g d l3 ?_)
    have tT:=Heap.get?_update_self (Obj.mapFields (·.setIfInBounds 3 Value.none)) g (Obj.isFreed_of_fields (Obj.data_mapFields d _))
    have ot:∀ b,b≠T0→(s.heap.update T0 (Obj.mapFields (·.setIfInBounds 3 Value.none))).get? b=s.heap.get? b:=fun b hb=>Heap.get?_update_other _ _ (Ne.symm hb)
    have sz:1 < vs.size:=(Array.getElem?_eq_some_iff.mp h1.1).1
    have ff2:(s.heap.update T0 (Obj.mapFields (·.setIfInBounds 3 Value.none))).FunFrames base (env :: outer):=ff.of_keeps fun b o hb hn=>by
      refine ⟨o,(ot b (fun z=>?_)).trans hb,rfl⟩
      rw [z,g] at hb;cases hb;exact hn _ d
    refine vd (s:={s with heap:=s.heap.update T0 (Obj.mapFields (·.setIfInBounds 3 Value.none))}) fr ff2 fL ((ot x (Ne.symm ne)).trans ex) sz nx fun h' T a1 a2 a3 a4 a5=>k h' T ⟨⟨_,a1,by simp [sz],by rw [Array.getElem?_setIfInBounds_ne (by decide)];exact h1.2⟩,a3,?_,.inl (by rw [Heap.size_update] at a2;exact a2),fun b o hb h0 hf e=>a4 b o hb hf ((ot b (fun z=>h0 (by rw [z]))).trans e),fun b o hb h0 e=>a5 b o hb ((ot b (fun z=>h0 (by rw [z]))).trans e),fun b o hb e=>?_⟩
    · exact Nat.ne_of_gt (Nat.lt_of_lt_of_le (Heap.lt_size ex) (by rw [Heap.size_update] at a2;exact a2))
    · cases hb
      obtain ⟨sl,z⟩:=a5 T0 _ ne tT
      exact ⟨_,z⟩
theorem Ue {x C T0:Addr} {dd:Option Addr} {vs:Array Value} {Q:Unit→Shared→Prop} {s:Shared} (ex:s.heap.get? x=some (fj C dd vs)) (h1:vs[1]?=some (.ref T0)∧vs[2]?=some .none) (t0:CK s.heap T0) (ne:T0≠x)
    (k:∀ h',Bc [] x C dd (some T0) s.heap h' T0→Q () {s with heap:=h'}):wpAny M A (setFlight (.ref x) none) Q E s:=by
  obtain ⟨oT,ts,g,d,l3⟩:=id t0
  unfold setFlight
  refine wpAny_bind (wpAny_field ex rfl h1.1 ?_)
  rw [if_pos (show (Value.ref T0 != Value.none)=true from by simp)]
  refine wpAny_setField g d l3 (k _ ?_)
  have d2:=Obj.data_mapFields d (·.setIfInBounds 3 ((none:Option Addr).elim Value.none fun f=>rawInt f))
  have tT:=Heap.get?_update_self (Obj.mapFields (·.setIfInBounds 3 ((none:Option Addr).elim Value.none fun f=>rawInt f))) g (Obj.isFreed_of_fields d2)
  have ot:∀ b,b≠T0→(s.heap.update T0 (Obj.mapFields (·.setIfInBounds 3 ((none:Option Addr).elim Value.none fun f=>rawInt f)))).get? b=s.heap.get? b:=fun b hb=>Heap.get?_update_other _ _ (Ne.symm hb)
  exact ⟨⟨vs,(ot x (Ne.symm ne)).trans ex,h1⟩,⟨_,_,tT,d2,by simpa using l3⟩,ne,.inr rfl,fun b o _ h0 _ e=>(ot b (fun z=>h0 (by rw [z]))).trans e,fun b o _ h0 e=>⟨o.slots,(ot b (fun z=>h0 (by rw [z]))).trans e⟩,fun b o hb e=>by cases hb;exact ⟨_,tT⟩⟩
end
end L2
namespace L2
open PySem PySem.Spec PyProof.Rows
def Xf:List Value:=[.type "ValueError",.type "Exception",.type "BaseException",.type "object"]
def R7 (K:PySem.W.Frag) (D:Addr):Bool:=match K.lookup D with
  | some ⟨.type "type",_,.cls cd,sl⟩=>(match cd.mro,sl.toList with
    | .ref E :: bm,[_,_,_,_,some (.builtin n),_]=>E == D && n == "ValueError.__new__" && cd.hasDel == false && cd.hasDict && PySem.W.tailIn K Xf bm
    | _,_=>false)
  | _=>false
theorem zE {K:PySem.W.Frag} {D:Addr} (q:R7 K D=true):∃ nm qn N bs bm sn sub ab col dd k0 k1 k2 k3 k5,K.lookup D=some (excClassObj nm qn D N bs bm true sn sub ab col dd k0 k1 k2 k3 k5 "ValueError.__new__")∧∀ h,K.In h→OwnTail h Xf bm:=by
  unfold R7 at q
  split at q
  · rename_i dd cd sl ho
    split at q
    · rename_i D' bm k0 k1 k2 k3 n k5 hm hs
      simp only [Bool.and_eq_true,beq_iff_eq] at q
      obtain ⟨⟨⟨⟨e1,e2⟩,e3⟩,e4⟩,e5⟩:=q
      subst e1 e2
      obtain ⟨nm,bs,mro,ns,qn,hd,sn,sub,ab,col,del⟩:=cd
      dsimp only at hm e3 e4
      subst hm e3 e4
      have hsl:sl= #[k0,k1,k2,k3,some (.builtin "ValueError.__new__"),k5]:=by
        obtain ⟨l⟩:=sl
        dsimp only at hs
        rw [hs]
      subst hsl
      exact ⟨nm,qn,ns,bs,bm,sn,sub,ab,col,dd,k0,k1,k2,k3,k5,ho,fun h X=>PySem.W.tail_of_in X e5⟩
    · cases q
  · cases q
section
variable {prog:Program} {w:World} {A:Around} {K:PySem.W.Frag} {D f:Addr} {E:Value→Shared→Prop}
theorem xU {h:Heap} {g:Array GenState} {d:Drawn} {t:Nat} {os:OsState} {us:List Value} {Q:Fin→Shared→Prop} (X:K.In h) (hx:R7 K D=true)
    (hi:PySem.W.findIn K (.ref D) "__init__"=some (some (.ref f))) (hf:PySem.W.typeIn K (.ref f)=some (.type "function")) (hl:us.length≤sizeLine)
    (k:wpAny (model prog w) A (call (.ref f) (.ref (h.objs.size+1) :: us)) (fun r s'=>r= .none∧Q (.done (.ret (.ref (h.objs.size+1)))) s') E
      ⟨(h.push {cls:=.type "tuple",data:=.seq us.toArray}).push (fj D none #[.ref h.objs.size,.none,.none,.none,.bool false,.none]),g,d,t,os⟩):
    wpAny (model prog w) A (Builtin.«type.__call__» ⟨.ref D :: us,[]⟩) Q E ⟨h,g,d,t,os⟩:=by
  obtain ⟨nm,qn,N,bs,bm,sn,sub,ab,col,dd,k0,k1,k2,k3,k5,lk0,tl⟩:=zE hx
  have T:=tl h X
  have hD:=X _ _ lk0
  have L3:=PySem.W.looks_findIn (M:=model prog w) X hi
  have L4:=PySem.W.bind_fn (M:=model prog w) X (.ref (h.objs.size+1)) hf
  repeat (first | with_reducible refine wpAny_loadPart_at hD ?_ | with_reducible refine wpAny_madeBy_exc hD ?_ | wp_step)
  refine codeAny_call_builtin_code (Code.quiet_builtin _ F.excBase_ValueError.quiet) (wpAny_check_new_subT F.excBase_ValueError T hD (codeAny_exc_new_subT F.excBase_ValueError T hD ?_ hl))
  show wpAny _ _ _ _ _ _
  have keep:∀ b o,h.get? b=some o→((h.push {cls:=.type "tuple",data:=.seq us.toArray}).push (fj D none #[.ref h.objs.size,.none,.none,.none,.bool false,.none])).get? b=some o:=fun b o q=>Heap.get?_push_of_some _ (Heap.get?_push_of_some _ q)
  have gx:((h.push {cls:=.type "tuple",data:=.seq us.toArray}).push (fj D none #[.ref h.objs.size,.none,.none,.none,.bool false,.none])).get? (h.objs.size+1)=some (fj D none #[.ref h.objs.size,.none,.none,.none,.bool false,.none]):=by
    have:=Heap.get?_push_size (h.push {cls:=.type "tuple",data:=.seq us.toArray}) (o:=fj D none #[.ref h.objs.size,.none,.none,.none,.bool false,.none]) rfl
    rwa [Heap.size_push] at this
  have hD1:=keep _ _ hD
  have M3:=L3.keeps keep
  have M4:=L4.keeps keep
  have cD:(Value.ref D :: bm).contains (.ref D)=true:=by simp
  unfold fj at gx M3 M4 hD1 k
  unfold isInstance
  repeat (first | with_reducible refine wpAny_loadPart_at gx ?_ | (with_reducible refine wpAny_isSubtype_exc hD1 ?_;rw [cD]) | wp_step)
  show wpAny _ _ (typeLookup (.ref D) _) _ _ _
  refine M3.at ?_
  refine wpAny_holding (wpAny_bind (M4.at ?_))
  dsimp only
  refine wpAny_bind (wpAny_mono k (fun r s' hr=>?_) fun _ _ z=>z)
  obtain ⟨rfl,z⟩:=hr
  wp_walk
  exact z
theorem Qg {s:Shared} {us:List Value} {Q:Value→Shared→Prop} (X:K.In s.heap) (hx:R7 K D=true)
    (hi:PySem.W.findIn K (.ref D) "__init__"=some (some (.ref f))) (hf:PySem.W.typeIn K (.ref f)=some (.type "function")) (hl:us.length≤sizeLine)
    (k:wpAny (model prog w) (A.under (.builtin "type.__call__" ⟨.ref D :: us,[]⟩)) (call (.ref f) (.ref (s.heap.objs.size+1) :: us)) (fun r s'=>r= .none∧Q (.ref (s.heap.objs.size+1)) s') E
      {s with heap:=(s.heap.push {cls:=.type "tuple",data:=.seq us.toArray}).push (fj D none #[.ref s.heap.objs.size,.none,.none,.none,.bool false,.none])}):
    wpAny (model prog w) A (call (.ref D) us) Q E s:=by
  obtain ⟨h,g,d,t,os⟩:=s
  obtain ⟨nm,qn,N,bs,bm,sn,sub,ab,col,dd,k0,k1,k2,k3,k5,lk0,tl⟩:=zE hx
  have hD:=X _ _ lk0
  have f1:=tc_lookup
  have f2:=tc_bind (.ref D)
  have hT:(⟨h,g,d,t,os⟩:Shared).TypeIs (.ref D) "type":=⟨_,hD,rfl⟩
  refine wpAny_call (codeAny_of_tree ?_)
  show wpAny _ _ (callAny (.ref D) _) _ _ _
  repeat (any_goals (first | assumption | with_reducible refine wpAny_loadPart_at hD ?_ | wp_step))
  refine ⟨rfl,codeAny_call_builtin_at (Code.quiet_builtin _ (by decide+kernel)) entry_typeCall (wpAny_check_type_call_sub hD (xU X hx hi hf hl ?_))⟩
  exact k
end
end L2
namespace L2
open PySem PySem.Spec PyProof.Rows
def rF (x C dx:Addr):HO:=.ext fun h=>∃ vs,h.get? x=some (fj C (some dx) vs)∧vs[2]?=some .none
def jz (x C:Addr):HO:=.ext fun h=>∃ t,h.get? x=some (fj C none #[.ref t,.none,.none,.none,.bool false,.none])
theorem Be {P:Program} {w:World} {H:Hp} {h:Heap} {x C dx:Addr} {vs:Array Value} (e:h.get? x=some (fj C (some dx) vs)) (h2:vs[2]?=some .none):ObjOk P w H h x (rF x C dx):=
  ⟨⟨vs,e,h2⟩,⟨_,e⟩,fun h1 h2 ⟨vs,e,z⟩ k=>⟨vs,k _ e,z⟩⟩
theorem Kh {P:Program} {w:World} {H:Hp} {h:Heap} {x C dx:Addr} (ok:HOk P w H h) (e:H x=some (rF x C dx)):∃ vs,h.get? x=some (fj C (some dx) vs)∧vs[2]?=some .none:=(ok _ _ e).1
structure Head (X:Cx) (pins:List (Addr×Obj)) (H:Hp) (x C dx T:Addr) (h:Heap):Prop where
  obj:∃ vs,h.get? x=some (fj C (some dx) vs)∧vs[1]?=some (.ref T)∧vs[2]?=some .none
  tb:CK h T
  fp:jG X pins H T
  tr:H x=some (rF x C dx)
theorem Head.ne {X:Cx} {pins:List (Addr×Obj)} {H:Hp} {x C dx T:Addr} {h:Heap} (a:Head X pins H x C dx T h):T≠x:=fun z=>by
  have:=a.fp.1
  rw [z,a.tr] at this;cases this
def Fly (X:Cx) (pins:List (Addr×Obj)) (H:Hp) (x C dx:Addr) (h:Heap):Prop:=
  H x=some (rF x C dx)∧((∃ vs,h.get? x=some (fj C (some dx) vs)∧vs[1]?=some .none∧vs[2]?=some .none)∨∃ T,Head X pins H x C dx T h)
section
variable {X:Cx} {pins:List (Addr×Obj)} {σ:St} {H:Hp} {s:Shared} {x C dx:Addr} {h':Heap} {T:Addr} {hd:Option Addr}
theorem Inv.noted {fs:List Addr} (I:Inv X pins σ H s) (hx:H x=some (rF x C dx)) (hh:∀ b,hd=some b→jG X pins H b) (hf:∀ b∈fs,b∈X.env.locals :: X.fs) (N:Bc fs x C (some dx) hd s.heap h' T):Inv X pins σ H {s with heap:=h'}:=by
  obtain ⟨m,⟨oL,esL,epL,hoL,rL⟩,_⟩:=id I.loc
  have fsF:∀ b∈fs,H b=none:=fun b hb=>by
    rcases List.mem_cons.mp (hf b hb) with e | hb
    · rw [e];exact I.free
    · obtain ⟨_,o,ho,_⟩:=I.ok.funs.mem hb
      exact I.base.free b o ho (I.ok.frf b hb) fun z=>I.ok.exfs b z hb
  have nx:∀ b,H b=none→b≠x:=fun b n z=>by rw [z,hx] at n;cases n
  have hdF:∀ b,hd=some b→H b=none:=fun b e=>(hh b e).1
  have mem:∀ b,b ∉ hd.toList→some b≠hd:=fun b nb z=>nb (by rw [← z];simp)
  refine I.step (g':=s.gens) (d':=s.drawn) (t':=s.toks) (ch:=hd.toList) (fun b hb=>?_) (fun b o hL hb hc e n=>?_) (fun b o hL hb hc e n=>?_) (fun _ _ _ _ n=>n) (fun b o hc e=>?_) (fun _ _ e=>e) (fun _ _ _ e=>e) (fun b ps e=>⟨#[],by rw [e];simp⟩) (fun m hm=>?_) (fun b u e=>?_) I.bare
  · have e:hd=some b:=by cases hd <;> simp_all
    obtain ⟨_,a2,_,a4,a5,a6⟩:=hh b e
    exact ⟨a4,a2,a5,a6⟩
  · refine N.keep b o (nx b n) (mem b hc) (fun z=>?_) e
    rcases List.mem_cons.mp (hf b z) with q | q
    · exact hL q
    · exact hb q
  · exact N.slot b o (nx b n) (mem b hc) e
  · by_cases q:b=x
    · obtain ⟨vs,z,_⟩:=N.obj
      exact ⟨_,by rw [q];exact z⟩
    · obtain ⟨sl,z⟩:=N.slot b o q (mem b hc) e
      exact ⟨_,z⟩
  · obtain ⟨o,es,ep,ho,r⟩:=hm
    obtain ⟨sl,z⟩:=N.slot _ o (nx _ I.free) (fun q=>(hh _ q.symm).2.1 rfl) ho
    exact ⟨_,es,ep,z,r⟩
  · by_cases q:b=x
    · subst q
      rw [hx] at e;cases e
      obtain ⟨vs,z,_,z2⟩:=N.obj
      exact Be z z2
    · refine (I.hok b u e).stay (fun c v hc z=>?_) (fun _ q=>q) fun _ _ q=>q
      have tc:∃ u,H c=some u:=by
        rcases hc with rfl | hc
        · exact ⟨_,e⟩
        · exact ⟨_,hc⟩
      obtain ⟨uc,tc⟩:=tc
      refine N.keep c v (fun zz=>?_) (fun zz=>?_) (fun zz=>?_) z
      · rcases hc with rfl | hc
        · exact q zz
        · rw [zz,hx] at hc;cases hc
      · rw [hdF c zz.symm] at tc;cases tc
      · rw [fsF c zz] at tc;cases tc
theorem Gz {A:Around} {E:Value→Shared→Prop} {Q:Unit→Shared→Prop} (I:Inv X pins σ H s) (hst:X.stack=X.env :: X.outer) (hfr:X.env.frame=some X.env.locals) (hA:A.frames=some X.stack) (F:Fly X pins H x C dx s.heap)
    (k:∀ h' T,Inv X pins σ H {s with heap:=h'}→Head X pins H x C dx T h'→Q () {s with heap:=h'}):wpAny (model X.prog X.w) A (noteFrame (.ref x) X.env) Q E s:=by
  have ff:s.heap.FunFrames X.base (X.env :: X.outer):=hst ▸ I.stack
  have sub:∀ b∈Kg (X.env :: X.outer),b∈X.env.locals :: X.fs:=fun b hb=>I.stkSub b (by rw [hst];exact hb)
  have nf:∀ b u,H b=some u→b ∉ Kg (X.env :: X.outer):=fun b u e z=>by
    rw [I.stkFree b (by rw [hst];exact z)] at e;cases e
  obtain ⟨hx,⟨vs,e,h1⟩ | ⟨T0,hT⟩⟩:=F
  · refine Uc (hst ▸ hA) ff hfr e h1 (nf x _ hx) fun h' T N=>?_
    have J:=I.noted hx (fun b z=>by cases z) sub N
    refine k h' T J ⟨N.obj,N.tb,?_,hx⟩
    have zT:s.heap.objs.size≤T:=by rcases N.new with z | z;exact z;cases z
    exact I.fpOk zT (I.hok.fresh zT)
  · obtain ⟨vs,e,h1⟩:=hT.obj
    refine Ud (hst ▸ hA) ff hfr e h1 hT.tb hT.ne (nf x _ hx) (fun z=>?_) fun h' T N=>?_
    · rcases List.mem_cons.mp (sub T0 z) with q | q
      · exact hT.fp.2.1 q
      · exact hT.fp.2.2.1 q
    · have J:=I.noted hx (fun b z=>by cases z;exact hT.fp) sub N
      refine k h' T J ⟨N.obj,N.tb,?_,hx⟩
      rcases N.new with z | z
      · exact I.fpOk z (I.hok.fresh z)
      · cases z;exact hT.fp
theorem GC {A:Around} {E:Value→Shared→Prop} {Q:Unit→Shared→Prop} (I:Inv X pins σ H s) (F:Head X pins H x C dx T s.heap)
    (k:∀ h',Inv X pins σ H {s with heap:=h'}→Head X pins H x C dx T h'→Q () {s with heap:=h'}):wpAny (model X.prog X.w) A (setFlight (.ref x) none) Q E s:=by
  obtain ⟨vs,e,h1⟩:=F.obj
  refine Ue e h1 F.tb F.ne fun h' N=>?_
  exact k h' (I.noted F.tr (fun b z=>by cases z;exact F.fp) (fun b z=>absurd z (by simp)) N) ⟨N.obj,N.tb,F.fp,F.tr⟩
def Kl (P:Program) (w:World):Ed:=fun outer H s E e s'=>∃ x C dx T H',e= .ref x∧s'.os=s.os∧AllBare s'.gens∧Un (frs outer) [] H H' s.heap s'.heap∧HOk P w H' s'.heap∧H' x=some (rF x C dx)∧H' T=none∧s.heap.objs.size≤T∧
  (∃ vs,s'.heap.get? x=some (fj C (some dx) vs)∧vs[1]?=some (.ref T)∧vs[2]?=some .none)∧CK s'.heap T∧E (.ref C) (some x) H'
def XE (X:Cx) (pins:List (Addr×Obj)) (R:St→XK) (e:Value) (s':Shared):Prop:=∃ x C dx σ H',e= .ref x∧Inv X pins σ H' s'∧Fly X pins H' x C dx s'.heap∧R σ (.ref C) (some x) H'
theorem Bf {R:St→XK} {e:Value} {s':Shared} (I:Inv X pins σ H s) (c:Kl X.prog X.w X.stack H s (R σ) e s'):XE X pins R e s':=by
  obtain ⟨x,C,dx,T,H',rfl,os,bare,un,hok,tx,tT,zT,ob,tb,r⟩:=c
  obtain ⟨hh,g,d,t,os'⟩:=s'
  obtain rfl:os'=s.os:=os
  have J:=I.call (h':=hh) (g':=g) (d':=d) (t':=t) (ch:=[]) un hok bare (fun b z=>absurd z (by simp))
  exact ⟨x,C,dx,σ,H',rfl,J,⟨tx,.inr ⟨T,ob,tb,I.fpOk zT tT,tx⟩⟩,r⟩
def kJ (X:Cx) (R:St→XK):Prop:=∀ (pins:List (Addr×Obj)) (e:Value) (s':Shared),XE X pins R e s'→X.xe e s'
end
theorem aO {P:Program} {w:World} {K:PySem.W.Frag} {mg:Str→Option Value} {base:Heap} {N:List Str} {qual:Str} {scope:Scope} {f:Addr} {cd:Value} {A:Around} {outer:List Env} {s:Shared} {H:Hp} {E:XK}:
    kJ (nU (Kl P w) P w K mg base N qual scope f cd A outer s H E) (fun _=>E):=by
  rintro pins e s' ⟨x,C,dx,σ,H',he,I,F,r⟩
  subst he
  show wpAny _ _ (leaving _ _) _ _ _
  unfold leaving
  refine wpAny_bind (Gz (X:=nU (Kl P w) P w K mg base N qual scope f cd A outer s H E) I rfl rfl I.ok.frames F fun h1 T J1 F1=>?_)
  refine GC (X:=nU (Kl P w) P w K mg base N qual scope f cd A outer s H E) J1 F1 fun h2 J2 F2=>?_
  refine ⟨x,C,dx,T,H',rfl,J2.os,J2.bare,J2.base,J2.hok,F2.tr,F2.fp.1,?_,F2.obj,F2.tb,r⟩
  rcases F2.fp.2.2.2.1 with z | z
  · exact absurd (show T∈([]:List Addr) from z) (by simp)
  · exact z
end L2
namespace L2
open PySem PySem.Spec PyProof.Rows
def lG (d:Addr) (fs:List (Str×V)):HO:=.ext fun h=>∃ mA,h.Ns1 d mA∧∀ f,RelO (fs.lookup f) (mA f)
theorem vU {P:Program} {w:World} {H:Hp} {h:Heap} {d:Addr} {fs:List (Str×V)} {mA:Str→Option Value} (n:h.Ns1 d mA) (r:∀ f,RelO (fs.lookup f) (mA f)):ObjOk P w H h d (lG d fs):=by
  refine ⟨⟨mA,n,r⟩,let ⟨o,_,_,e,_⟩:=n;⟨o,e⟩,fun h1 h2 ⟨m,n,r⟩ k=>⟨m,?_,r⟩⟩
  obtain ⟨o,es,ep,e,q⟩:=n
  exact ⟨o,es,ep,k _ e,q⟩
theorem vV {P:Program} {w:World} {H:Hp} {h:Heap} {d:Addr} {fs:List (Str×V)} (ok:HOk P w H h) (e:H d=some (lG d fs)):∃ mA,h.Ns1 d mA∧∀ f,RelO (fs.lookup f) (mA f):=(ok _ _ e).1
def gb (x C d:Addr):HO:=.ext fun h=>∃ t,h.get? x=some (fj C (some d) #[.ref t,.none,.none,.none,.bool false,.none])
theorem CN {P:Program} {w:World} {H:Hp} {h:Heap} {x C d t:Addr} (e:h.get? x=some (fj C (some d) #[.ref t,.none,.none,.none,.bool false,.none])):ObjOk P w H h x (gb x C d):=
  ⟨⟨t,e⟩,⟨_,e⟩,fun h1 h2 ⟨t,e⟩ k=>⟨t,k _ e⟩⟩
theorem p8 {P:Program} {w:World} {H:Hp} {h:Heap} {x C d:Addr} (ok:HOk P w H h) (e:H x=some (gb x C d)):∃ t,h.get? x=some (fj C (some d) #[.ref t,.none,.none,.none,.bool false,.none]):=(ok _ _ e).1
def fB:List Value→Bool
  | [.type a,.type b,.type c,.type d]=>a == "ValueError" && b == "Exception" && c == "BaseException" && d == "object"
  | .ref _ :: r=>fB r
  | _=>false
theorem qO {l:List Value} (e:fB l=true):(∃ a r,l= .ref a :: r∧fB r=true)∨l=Xf:=by
  unfold fB at e
  split at e
  · simp only [Bool.and_eq_true,beq_iff_eq] at e
    obtain ⟨⟨⟨rfl,rfl⟩,rfl⟩,rfl⟩:=e
    exact .inr rfl
  · exact .inl ⟨_,_,rfl,e⟩
  · cases e
theorem qP (self:Value):∀ (l:List Value),fB l=true→refuseLoop self "__setattr__" l=pure ()
  | [],e=>by cases e
  | v :: r,e=>by
    rcases qO e with ⟨a,r',q,e'⟩ | q
    · cases q
      rw [refuseLoop_ref]
      exact qP self r e'
    · rw [q]
      exact F.store_ValueError.passes self
theorem tL:∀ (l:List Value),fB l=true→l.contains (.type "object")=true∧l.contains (.type "BaseException")=true
  | [],e=>by cases e
  | v :: r,e=>by
    rcases qO e with ⟨a,r',q,e'⟩ | q
    · cases q
      obtain ⟨h1,h2⟩:=tL r e'
      exact ⟨by rw [List.contains_cons,h1,Bool.or_true],by rw [List.contains_cons,h2,Bool.or_true]⟩
    · rw [q]
      decide
def Qh (K:PySem.W.Frag) (C:Addr):Bool:=R7 K C && (PySem.W.clsIn K C).any (fun cd=>fB cd.mro && cd.hasDict) && PySem.W.findIn K (.ref C) "__setattr__" == some (some (.builtin "object.__setattr__")) &&
  PySem.W.findIn K (.ref C) "__getattribute__" == some (some (.builtin "BaseException.__getattribute__")) && PySem.W.findIn K (.ref C) "__getattr__" == some none
structure XCls (K:PySem.W.Frag) (C:Addr):Prop where
  xi:R7 K C=true
  ov:∃ cd,PySem.W.clsIn K C=some cd∧fB cd.mro=true∧cd.hasDict=true
  sa:PySem.W.findIn K (.ref C) "__setattr__"=some (some (.builtin "object.__setattr__"))
  ga:PySem.W.findIn K (.ref C) "__getattribute__"=some (some (.builtin "BaseException.__getattribute__"))
  gh:PySem.W.findIn K (.ref C) "__getattr__"=some none
theorem Km {K:PySem.W.Frag} {C:Addr} (h:Qh K C=true):XCls K C:=by
  unfold Qh at h
  simp only [Bool.and_eq_true,beq_iff_eq] at h
  obtain ⟨⟨⟨⟨h1,h2⟩,h3⟩,h4⟩,h5⟩:=h
  obtain ⟨cd,a,b⟩:=PySem.W.any_some h2
  simp only [Bool.and_eq_true] at b
  exact ⟨h1,⟨cd,a,b.1,b.2⟩,h3,h4,h5⟩
theorem Ko {l:List Value} (e:fB l=true):l.isEmpty=false:=by
  cases l with
  | nil=>cases e
  | cons _ _=>rfl
section
variable {prog:Program} {w:World} {A:Around} {s:Shared} {K:PySem.W.Frag} {x C:Addr} {R:Result→Shared→Prop}
theorem XCls.mro {c:Value} {b:Bool} (k:XCls K C) (h:∀ cd,PySem.W.clsIn K C=some cd→fB cd.mro=true→cd.mro.contains c=b):PySem.W.mroIn K C c=some b:=by
  obtain ⟨cd,a,o,_⟩:=k.ov
  unfold PySem.W.mroIn
  rw [a,Option.bind_some,if_neg (by rw [Ko o];decide),h cd a o]
theorem XCls.isObj (k:XCls K C):PySem.W.mroIn K C (.type "object")=some true:=k.mro fun cd _ o=>(tL _ o).1
theorem XCls.isExc (k:XCls K C):PySem.W.mroIn K C (.type "BaseException")=some true:=k.mro fun cd _ o=>(tL _ o).2
theorem Nb {ox:Obj} {od:Option Obj} {name:Str} {tk:Tok} {v:Value} (X:K.In s.heap) (I:PySem.W.InstAt s.heap x ox C od) (c:XCls K C) (ht:NoAttr K C name)
    (h:wpAny (model prog w) A.in1 (Builtin.ObjectAttr.storeInOwnDict (.ref x) (.ref C) (.str name tk) name v false)
      (fun fin s'=>match fin with | .done f=>R (.ok f) s' | .again c'=>c'.quiet=true∧codeAny (model prog w) A c' R s') (fun e s'=>R (.error e) s') s):
    codeAny (model prog w) A (.call (.builtin "object.__setattr__") ⟨[.ref x,.str name tk,v],[]⟩) R s:=by
  obtain ⟨cd,hc,ho,_⟩:=c.ov
  have sub:PySem.W.Looks (model prog w) s.heap (isInstance (.ref x) (.type "object")) true:=I.type.andThen (PySem.W.looks_mroIn X c.isObj)
  refine codeAny_call_builtin F.store_object.slot.plain F.store_object.entry (@PySem.W.check_slot (model prog w) _ _ s "object.__setattr__" "object" "__setattr__" (.ref x) [.str name tk,v] [] _ F.store_object.kind F.store_object.split sub (F.store_object.args (.ref x) (.str name tk) v) ?_)
  have hm:PySem.W.Looks (model prog w) s.heap (mroOf (.ref C)) cd.mro:=(PySem.W.looks_clsIn X hc).andThen .now
  have L3:PySem.W.Looks (model prog w) s.heap (Builtin.ObjectAttr.storeTaker? none) none:=.now
  rw [PySem.W.osa_eq,refuse_eq]
  refine wpAny_bind (wpAny_bind (I.type.here (wpAny_bind (hm.here ?_))))
  rw [qP _ _ ho]
  refine wpAny_pure (wpAny_bind (I.type.here (wpAny_bind ((PySem.W.looks_findIn X ht).here (wpAny_bind (L3.here ?_))))))
  exact h
end
theorem GD {H:Hp} {d x:Addr} {a b c:HO} (n:d≠x):upd (upd (upd H d a) x b) d c=upd (upd H x b) d c:=by
  funext y
  unfold upd
  by_cases h:y=d
  · simp [h]
  · simp [h]
section
variable {X:Cx} {pins:List (Addr×Obj)} {σ:St} {H:Hp} {s:Shared} {x C d:Addr} {fs:List (Str×V)} {f:Str} {v y:V} {u:Value} {A:Around} {E:Value→Shared→Prop}
theorem Ug {Q:Unit→Shared→Prop} (I:Inv X pins σ H s) (e:H x=some (jz x C)) (c:XCls X.K C) (n:NoAttr X.K C f) (ry:RelV y u)
    (h:∀ s' d,H d=none→d≠x→Inv X pins σ (upd (upd H x (gb x C d)) d (lG d [(f,y)])) s'→Q () s'):wpAny (model X.prog X.w) A (setAttr (.ref x) f u) Q E s:=by
  obtain ⟨⟨t,hx⟩,-,-⟩:ObjOk X.prog X.w H s.heap x (jz x C):=I.hok x _ e
  obtain ⟨cd,hc,ho,hd⟩:=c.ov
  have J:PySem.W.InstAt s.heap x (fj C none #[.ref t,.none,.none,.none,.bool false,.none]) C none:=⟨hx,rfl,rfl,True.intro⟩
  refine PySem.W.set_plain I.kIn J c.sa (Nb (s:={s with toks:=s.toks+1}) I.kIn J c n ?_)
  refine wpAny_bind (wpAny_pure (wpAny_bind (wpAny_bind (wpAny_loadPart hx (wpAny_bind ((PySem.W.looks_clsIn (M:=model X.prog X.w) I.kIn hc).here (s:={s with toks:=s.toks+1}) ?_))))))
  rw [hd]
  have hp:s.heap.objs.size≠x:=Nat.ne_of_gt (Heap.lt_size hx)
  have hx1:(s.heap.push {cls:=.type "dict",data:=.dict #[]}).get? x=some (fj C none #[.ref t,.none,.none,.none,.bool false,.none]):=Heap.get?_push_of_some _ hx
  have d1:(s.heap.push {cls:=.type "dict",data:=.dict #[]}).get? s.heap.objs.size=some {cls:=.type "dict",data:=.dict #[]}:=Heap.get?_push_size _ rfl
  have n1:∀ {hh:Heap},hh.get? s.heap.objs.size=some {cls:=.type "dict",data:=.dict #[]}→hh.Ns1 s.heap.objs.size (fun _=>none):=fun q=>Heap.Ns1.of_empty ⟨_,#[],_,q,rfl,fun e he=>absurd he (by simp),fun _=>rfl⟩
  have I1:Inv X pins σ (upd H s.heap.objs.size (lG s.heap.objs.size [])) {s with heap:=s.heap.push {cls:=.type "dict",data:=.dict #[]},toks:=s.toks+1}:=
    I.laid (t':=s.toks+1) (fun b o q=>Heap.get?_push_of_some _ q) (Nat.le_refl _) (vU (n1 d1) fun g=>True.intro)
  refine wpAny_bind (wpAny_alloc' ?_)
  refine wpAny_bind (wpAny_update' hx1 ?_)
  have hx2:=Heap.get?_update_self (fun o:Obj=>({o with dict:=some s.heap.objs.size}:Obj)) hx1 rfl
  have ot:∀ b,b≠x→((s.heap.push {cls:=.type "dict",data:=.dict #[]}).update x fun o=>{o with dict:=some s.heap.objs.size}).get? b=(s.heap.push {cls:=.type "dict",data:=.dict #[]}).get? b:=fun b hb=>Heap.get?_update_other _ _ (Ne.symm hb)
  have e1:upd H s.heap.objs.size (lG s.heap.objs.size []) x=some (jz x C):=(aD (Ne.symm hp)).trans e
  have I2:Inv X pins σ (upd (upd H s.heap.objs.size (lG s.heap.objs.size [])) x (gb x C s.heap.objs.size)) {s with heap:=(s.heap.push {cls:=.type "dict",data:=.dict #[]}).update x fun o=>{o with dict:=some s.heap.objs.size},toks:=s.toks+1}:=
    I1.write (t':=s.toks+1) (x:=x) (e:=x) (by rw [e1];exact True.intro) (.inl rfl) (fun b o hb q=>(ot b hb).trans q) ⟨_,hx2⟩ (CN hx2)
  refine wpAny_pure (wpAny_bind (wpAny_pure (wpAny_bind ?_)))
  refine wpAny_nsSet1 (n1 ((ot _ hp).trans d1)) fun h' hn' hs=>?_
  obtain ⟨oD,esD,epD,hoD,hdD,hcD⟩:=hn'.count (PySem.Within.cons f u PySem.Within.nil)
  refine wpAny_bind (wpAny_lookBehind hoD (by rw [hdD];exact pastItsLine_dict (Nat.le_trans hcD (by rw [List.length_cons,List.length_nil,sizeLine_eq];omega))) ?_)
  refine wpAny_pure (h _ s.heap.objs.size (I.hok.fresh (Nat.le_refl _)) hp ?_)
  rw [← GD (a:=lG s.heap.objs.size []) hp]
  refine I2.write (x:=s.heap.objs.size) (e:=s.heap.objs.size) (by rw [aD hp,aj];exact True.intro) (.inl rfl) (fun b o hb q=>(hs.2 b hb).trans q) ⟨_,hoD⟩ (vU hn' fun g=>?_)
  by_cases q:g=f
  · have qb:(g == f)=true:=beq_iff_eq.mpr q
    simp only [List.lookup,qb,if_pos q]
    exact ry
  · have qb:(g == f)=false:=beq_eq_false_iff_ne.mpr q
    simp only [List.lookup,qb,if_neg q]
    exact True.intro
end
end L2
namespace L2
open PySem PySem.Spec PyProof.Rows
section
variable {X:Cx} {pins:List (Addr×Obj)} {σ:St} {H:Hp} {s:Shared} {x C d:Addr} {fs:List (Str×V)} {f:Str} {v y:V} {u:Value} {A:Around} {E:Value→Shared→Prop}
theorem Kp {h:Heap} {P:Program} {w:World} (ok:HOk P w H h) (e:H x=some (gb x C d)) (e2:H d=some (lG d fs)):d≠x:=fun z=>by
  subst z
  obtain ⟨t,a⟩:=p8 ok e
  obtain ⟨mA,⟨o,es,ep,b,q,_⟩,_⟩:=vV ok e2
  rw [a] at b;cases b;cases q
theorem Uh {Q:Unit→Shared→Prop} (I:Inv X pins σ H s) (e:H x=some (gb x C d)) (e2:H d=some (lG d fs)) (hl:fs.length < 1000) (c:XCls X.K C) (n:NoAttr X.K C f) (ry:RelV y u)
    (h:∀ s',Inv X pins σ (upd H d (lG d (jH f y fs))) s'→Q () s'):wpAny (model X.prog X.w) A (setAttr (.ref x) f u) Q E s:=by
  have ne:=Kp I.hok e e2
  obtain ⟨vs,hx⟩:=p8 I.hok e
  obtain ⟨mA,nA,rA⟩:=vV I.hok e2
  obtain ⟨cd,hc,ho,hd⟩:=c.ov
  have J:PySem.W.InstAt s.heap x (fj C (some d) #[.ref vs,.none,.none,.none,.bool false,.none]) C (some (Classical.choose nA)):=⟨hx,rfl,rfl,let ⟨_,_,q,_⟩:=Classical.choose_spec nA;q⟩
  refine PySem.W.set_plain I.kIn J c.sa (Nb (s:={s with toks:=s.toks+1}) I.kIn J c n ?_)
  refine wpAny_bind (wpAny_pure (wpAny_bind (wpAny_bind (wpAny_loadPart hx (wpAny_bind ((PySem.W.looks_clsIn (M:=model X.prog X.w) I.kIn hc).here (s:={s with toks:=s.toks+1}) ?_))))))
  rw [hd]
  refine wpAny_pure (a:=some d) (wpAny_bind (wpAny_pure (wpAny_bind ?_)))
  refine wpAny_nsSet1 (s:={s with toks:=s.toks+1}) nA fun h' hn' hs=>?_
  have wi:PySem.Within mA (fs.map (·.1)):=fun z hz=>by
    have r:=rA z
    cases q:fs.lookup z with
    | none=>rw [q] at r;exact absurd (RelO.none_of r) hz
    | some a=>exact List.mem_map.mpr ⟨(z,a),PySem.mem_of_lookup q,rfl⟩
  obtain ⟨oD,esD,epD,hoD,hdD,hcD⟩:=hn'.count (PySem.Within.cons f u wi)
  refine wpAny_bind (wpAny_lookBehind hoD (by rw [hdD];exact pastItsLine_dict (Nat.le_trans hcD (by rw [List.length_cons,List.length_map,sizeLine_eq];omega))) ?_)
  refine wpAny_pure (h _ ?_)
  refine I.write (x:=d) (e:=d) (by rw [e2];exact True.intro) (.inl rfl) (fun b o hb q=>(hs.2 b hb).trans q) ⟨_,hoD⟩ (vU hn' fun g=>?_)
  rw [mH]
  by_cases q:g=f
  · rw [if_pos q,if_pos q];exact ry
  · rw [if_neg q,if_neg q];exact rA g
end
end L2
namespace L2
open PySem PySem.Spec PyProof.Rows
def Bg (K:PySem.W.Frag) (C:Addr):Bool:=Qh K C && PySem.W.findIn K (.ref C) "__class__" == some (some (.builtin "object.__class__")) && PySem.W.specialIn K (.builtin "object.__class__") "__get__" == some (some (.builtin "getset_descriptor.__get__")) && PySem.W.takesIn K (.builtin "object.__class__") == some true
structure Nf (K:PySem.W.Frag) (C:Addr):Prop where
  cls:XCls K C
  ca:PySem.W.findIn K (.ref C) "__class__"=some (some (.builtin "object.__class__"))
  cg:PySem.W.specialIn K (.builtin "object.__class__") "__get__"=some (some (.builtin "getset_descriptor.__get__"))
  ct:PySem.W.takesIn K (.builtin "object.__class__")=some true
theorem GF {K:PySem.W.Frag} {C:Addr} (h:Bg K C=true):Nf K C:=by
  unfold Bg at h
  simp only [Bool.and_eq_true,beq_iff_eq] at h
  exact ⟨Km h.1.1.1,h.1.1.2,h.1.2,h.2⟩
section
variable {prog:Program} {w:World} {A:Around} {E:Value→Shared→Prop} {s:Shared} {K:PySem.W.Frag} {x C:Addr} {ox od:Obj}
theorem CP {Q:Option Value→Shared→Prop} (c:Nf K C) (KI:K.In s.heap) (J:PySem.W.InstAt s.heap x ox C (some od)) (h:Q (some (.ref C)) {s with toks:=s.toks+1}):wpAny (model prog w) A (getAttr? (.ref x) "__class__") Q E s:=by
  obtain ⟨cd,hc,ho,hd⟩:=c.cls.ov
  have hf:PySem.W.findObj K C (some od) "__class__"=some (.bind (.builtin "getset_descriptor.__get__") (.builtin "object.__class__")):=PySem.W.findObj_data (by rw [hc];rfl) c.ca c.cg c.ct
  obtain ⟨hh,g,dr,t,os⟩:=s
  have L0:=J.type (M:=model prog w)
  have L1:=PySem.W.looks_findIn (M:=model prog w) KI c.cls.ga
  have L2:=PySem.W.looks_findIn (M:=model prog w) KI c.cls.gh
  have L3:=PySem.W.looks_find (M:=model prog w) KI J hf
  have sub:PySem.W.Looks (model prog w) hh (isInstance (.ref x) (.type "BaseException")) true:=L0.andThen (PySem.W.looks_mroIn KI c.cls.isExc)
  have hb0:(onTheHeap (Value.ref C) && Value.builtin "BaseException.__getattribute__" == Value.builtin "object.__getattribute__")=false:=by
    rw [show (Value.builtin "BaseException.__getattribute__" == Value.builtin "object.__getattribute__")=false from by decide+kernel,Bool.and_false]
  unfold getAttr? getAttrBy? getAttrBy
  refine wpAny_bind (wpAny_mkText (wpAny_bind (wpAny_attempt (wpAny_holding (wpAny_bind (L0.at (wpAny_bind (L1.at ?_))))))))
  dsimp only
  rw [hb0,if_neg Bool.false_ne_true]
  unfold getAttrByItsOwn hookBefore
  refine wpAny_bind ?_
  rw [if_pos (show onTheHeap (Value.ref C)=true from rfl)]
  refine L2.at ?_
  refine wpAny_bind (wpAny_attempt (wpAny_holding ?_))
  unfold callGetattribute
  rw [if_neg (show ¬ ((false && onTheHeap (Value.builtin "BaseException.__getattribute__"))=true) from by decide)]
  unfold boundAndCalled
  refine wpAny_bind (wpAny_of_eq (F.attrBase_ValueError.ga.bind (.ref x)) ?_)
  refine wpAny_call (codeAny_call_builtin F.attrBase_ValueError.ga.plain F.entry_bexc_ga (@PySem.W.check_slot (model prog w) _ _ ⟨hh,g,dr,t+1,os⟩ "BaseException.__getattribute__" "BaseException" "__getattribute__" (.ref x) [.str "__class__" t] [] _ (by decide+kernel) (by decide+kernel) sub (F.args_bexc_ga (.ref x) (.str "__class__" t)) ?_))
  refine wpAny_bind (wpAny_pure (wpAny_bind (wpAny_pure (wpAny_bind (L0.at (wpAny_bind (L3.at ?_)))))))
  show wpAny _ _ (holding [.builtin "object.__class__"] (call (.builtin "getset_descriptor.__get__") [.builtin "object.__class__",.ref x,.ref C]) >>=ret) _ _ _
  refine wpAny_bind (wpAny_holding (wpAny_call (PySem.W.class_get (s:=⟨hh,g,dr,t+1,os⟩) KI J c.cls.isObj ?_)))
  refine wpAny_pure ?_
  show wpAny _ _ (handedOut (.ref C)) _ _ _
  rw [PySem.W.handedOut_of rfl]
  exact wpAny_pure (wpAny_pure h)
theorem GJ (c:Nf K C):PySem.W.KitX K (.ref x) (.ref C) (fun h=>PySem.W.InstAt h x ox C (some od)) where
  ty:=fun _ _ _ I=>I.type
  it:=fun _ _ X _=>by
    obtain ⟨cd,hc,_⟩:=c.cls.ov
    unfold PySem.W.clsIn at hc
    split at hc
    · rename_i a1 a2 a3 a4 ho
      intro A1 Q1 E1 s1 k q
      unfold isType loadHead
      exact wpAny_bind (wpAny_loadPart (k _ _ (X _ _ ho)) (wpAny_pure q))
    · cases hc
  ne:=fun h tp dd its n sl X htp=>by
    obtain ⟨cd,hc,_⟩:=c.cls.ov
    refine Bool.eq_false_iff.mpr fun q=>?_
    obtain rfl:C=tp:=Value.ref.inj (beq_iff_eq.mp q)
    unfold PySem.W.clsIn at hc
    split at hc
    · rename_i a1 a2 a3 a4 ho
      cases (X _ _ ho).symm.trans htp
    · cases hc
  ca:=fun X I k=>CP c X I k
end
def Jb (H:Hp) (x C:Addr) (fs:List (Str×V)):Prop:=∃ d,H x=some (rF x C d)∧H d=some (lG d fs)
def clV:V→Option Value
  | .ty T=>some (.type T)
  | .ref C=>some (.ref C)
  | _=>none
theorem GK {v:V} {u c:Value} (e:clV v=some c) (r:RelV v u):u=c:=by
  cases v <;> first | cases e;exact r | cases e
def GP:List V→Option (List Value)
  | []=>some []
  | v :: r=>match clV v,GP r with
    | some c,some l=>some (c :: l)
    | _,_=>none
theorem Bh:∀ {vs:List V} {us cs:List Value},GP vs=some cs→Vals vs us→us=cs
  | [],us,cs,e,r=>by cases r;cases e;rfl
  | v :: vs,us,cs,e,r=>by
    cases r with
    | cons r1 r2=>
      unfold GP at e
      split at e
      · rename_i c l h1 h2
        cases e
        rw [GK h1 r1,Bh h2 r2]
      · cases e
def Ng (K:PySem.W.Frag):List V→Hp→VK→Prop:=fun xs H Q=>∃ x t b,(TyOf K H x t∨∃ a C fs,x= .ref a∧Jb H a C fs∧Nf K C∧t= .ref C)∧
  ((∃ v c,xs=[x,v]∧clV v=some c∧PySem.W.kitOne K t c=some b)∨(∃ p vs cs,xs=[x,.ref p]∧H p=some (.tup vs)∧GP vs=some cs∧PySem.W.kitAny K t cs=some b))∧Q (.bl b) H
section
variable {X:Cx} {pins:List (Addr×Obj)} {σ:St} {H:Hp} {s:Shared} {A:Around} {E:Value→Shared→Prop} {Q:Value→Shared→Prop} {c:Value} {b:Bool}
theorem GQ {x:V} {u t:Value} (I:Inv X pins σ H s) (rx:RelV x u) (ty:TyOf X.K H x t∨∃ a C fs,x= .ref a∧Jb H a C fs∧Nf X.K C∧t= .ref C):
    ∃ φ:Heap→Prop,PySem.W.KitX X.K u t φ∧φ s.heap∧u≠.builtin "__main__.__loader__#opaque":=by
  rcases ty with ty | ⟨a,C,fs,rfl,⟨d,e1,e2⟩,c,rfl⟩
  · cases ty with
    | non=>cases (show u=Value.none from rx);exact ⟨_,PySem.W.kitx_none,True.intro,(fun z=>nomatch z)⟩
    | bl y=>cases (show u=Value.bool y from rx);exact ⟨_,PySem.W.kitx_bool,True.intro,(fun z=>nomatch z)⟩
    | int i=>obtain ⟨t,q⟩:=(show ∃ t,u=Value.int i t from rx);cases q;exact ⟨_,PySem.W.kitx_int,True.intro,(fun z=>nomatch z)⟩
    | str y=>obtain ⟨t,q⟩:=(show ∃ t,u=Value.str y t from rx);cases q;exact ⟨_,PySem.W.kitx_str,True.intro,(fun z=>nomatch z)⟩
    | flt y=>obtain ⟨t,q⟩:=(show ∃ t,u=Value.float y t from rx);cases q;exact ⟨_,PySem.W.kitx_float,True.intro,(fun z=>nomatch z)⟩
    | @lst a xs ea=>
      cases (show u=Value.ref a from rx)
      obtain ⟨_,_,n,_,h1⟩:=(show ObjOk X.prog X.w H s.heap a (.lst xs) from I.hok a _ ea)
      exact ⟨_,PySem.W.kitx_list,⟨_,h1,rfl⟩,(fun z=>nomatch z)⟩
    | @frz a ob xs ea=>
      cases (show u=Value.ref a from rx)
      obtain ⟨_,_,_,n,_,h1⟩:=(show ObjOk X.prog X.w H s.heap a (.frz ob (.lst xs)) from I.hok a _ ea)
      exact ⟨_,PySem.W.kitx_list,⟨_,h1,rfl⟩,(fun z=>nomatch z)⟩
    | @tup a xs ea=>
      cases (show u=Value.ref a from rx)
      obtain ⟨_,_,_,p⟩:=(show ObjOk X.prog X.w H s.heap a (.tup xs) from I.hok a _ ea)
      obtain ⟨o,h1,h2,_⟩:=p
      exact ⟨_,PySem.W.kitx_tuple,⟨o,h1,h2⟩,(fun z=>nomatch z)⟩
    | @dK a kvs ea=>
      cases (show u=Value.ref a from rx)
      obtain ⟨_,_,vs,_,p⟩:=(show ObjOk X.prog X.w H s.heap a (.dK kvs) from I.hok a _ ea)
      obtain ⟨o,es,ep,h1,h2,_⟩:=p
      exact ⟨_,PySem.W.kitx_dict,⟨o,h1,h2.1⟩,(fun z=>nomatch z)⟩
    | @dT a kvs ea=>
      cases (show u=Value.ref a from rx)
      obtain ⟨_,_,xs,_,o,es,ep,h1,h2,_⟩:=(show ObjOk X.prog X.w H s.heap a (.dT kvs) from I.hok a _ ea)
      exact ⟨_,PySem.W.kitx_dict,⟨o,h1,h2.1⟩,(fun z=>nomatch z)⟩
    | @ins a C dx fs ea cl ha hn htk hm=>
      cases (show u=Value.ref a from rx)
      obtain ⟨mA,O,_⟩:=oV I.hok ea
      obtain ⟨od,J,_⟩:=O.look
      exact ⟨_,PySem.W.kitx_own (cl.get _) cl.hd ha hn htk hm,J,(fun z=>nomatch z)⟩
  · cases (show u=Value.ref a from rx)
    obtain ⟨vs,hx,_⟩:=Kh I.hok e1
    obtain ⟨mA,nA,rA⟩:=vV I.hok e2
    obtain ⟨od,hod,lk⟩:=uN nA
    exact ⟨_,GJ (ox:=fj C (some d) vs) (od:=od) c,⟨hx,rfl,rfl,hod⟩,(fun z=>nomatch z)⟩
theorem CQ {K:PySem.W.Frag} (hK:X.K=K):CallR X (.builtin "isinstance") (Ng K):=by
  subst hK
  intro pins s σ H xs us Q I r h
  obtain ⟨x,t,b,ty,w,q⟩:=h
  rcases w with ⟨v,c,rfl,ec,e⟩ | ⟨p,vs,cs,rfl,ep,ec,e⟩
  · obtain ⟨u,u2,rfl,ru,rv⟩:=vals2 r
    obtain rfl:=GK ec rv
    obtain ⟨φ,Z,hφ,hne⟩:=GQ I ru ty
    exact PySem.W.kia_one Z I.kIn hφ e hne fun tk=>⟨.bl b,H,I.tok _,rfl,q⟩
  · obtain ⟨u,u2,rfl,ru,rv⟩:=vals2 r
    cases (show u2=Value.ref p from rv)
    obtain ⟨φ,Z,hφ,hne⟩:=GQ I ru ty
    obtain ⟨_,its,rt,o,h1,h2,n,h3⟩:=(show ObjOk X.prog X.w H s.heap p (.tup vs) from I.hok p _ ep)
    obtain rfl:=Bh ec rt
    obtain ⟨oc,odd,oda,osl⟩:=o
    dsimp only at h2 h3
    subst h2 h3
    exact PySem.W.kia_tup Z I.kIn hφ h1 e hne fun tk=>⟨.bl b,H,I.tok _,rfl,q⟩
end
end L2
namespace L2
open PySem PySem.Spec PyProof.Rows
def uy (P:Program) (w:World) (K:PySem.W.Frag) (mg:Str→Option Value) (base:Heap) (k:Nat) (x:Str) (ps:List Str) (sp:Sp):Prop:=
  ∃ f fd,mg x=some (.ref f)∧PySem.W.keepIn K (.ref f)=true∧Binds K fd ps []∧oW P w K mg base (Kl P w) k f fd ps sp
def zF (sp:Sp) (R:St→XK) (t:TA):TE:=fun σ H Q=>t σ H fun vs H1=>sp vs H1 Q (R σ)
theorem mL {X:Cx} (h:∀ (e:Value) (s:Shared),X.xe e s=False):kJ X (fun _ _ _ _=>False):=fun _ _ _ ⟨_,_,_,_,_,_,_,_,z⟩=>z.elim
section
variable {X:Cx} {k:Nat} {f C:Addr} {fd:FuncData} {ps:List Str} {sp:Sp} {R:St→XK} {x:Str} {p pos:Pos} {e:Expr} {es:List Expr} {t:TA} {pins:List (Addr×Obj)} {σ:St} {H:Hp} {s:Shared} {Q:VK} {us:List Value} {vs:List V}
theorem vW (F:oW X.prog X.w X.K X.mg X.base (Kl X.prog X.w) k f fd ps sp) (hr:Room k X.A) (hb:Binds X.K fd ps []) (hx:kJ X R) (I:Inv X pins σ H s) (r:Vals vs us) (h:sp vs H Q (R σ)):
    wpAny (model X.prog X.w) X.A (call (.ref f) us) (EP X pins σ Q) X.xe s:=by
  have hl:(us ++ []).length=ps.length:=by rw [List.append_nil,← r.length];exact F.len _ _ _ _ h
  have bd:=hb s us I.kIn hl
  rw [List.append_nil] at bd
  refine wpAny_call (codeAny_mono (F.run X.A X.stack s H ⟨us,[]⟩ us vs Q (R σ) hr I.env0 bd r h) fun rr s' hq=>?_)
  cases rr with
  | error e=>exact hx pins e s' (Bf I hq)
  | ok fl=>
    cases fl with
    | ret u=>exact I.after hq
    | next=>exact False.elim hq
    | brk=>exact False.elim hq
    | cont=>exact False.elim hq
theorem GR (F:uy X.prog X.w X.K X.mg X.base k x ps sp) (hr:Room k X.A) (hg:Gl X x) (hx:kJ X R) (ha:PA X (e :: es) t) (hdb:(x == ("__debug__":Str))=false)
    (he:starEach (e :: es) X.env=(false,eval e X.env) :: starEach es X.env) (hpl:(backTo pos (starEach es X.env)).any (·.1)=false):PE X (.Call (.Name x p) (e :: es) [] pos) (zF sp R t):=by
  obtain ⟨f,fd,a,b,c,d⟩:=F
  intro pins s σ H Q I h
  refine wpAny_Call_Name_kw (oR I hg a ?_ hdb)
  refine PySem.W.callWith_K (h₀:=X.base) I.ok.mod.kin b (dF (ha pos pins s σ H _ I h) fun us s1 ⟨vs,H1,I1,r,q⟩=>⟨I1.kIn,?_⟩) he hpl
  exact vW d hr c hx I1 r q
def xV (K:PySem.W.Frag) (ta tv:TE) (f:Str):TS:=fun D σ H=>tv σ H fun y H1=>ta σ H1 fun x H2=>∃ a C,x= .ref a∧XCls K C∧NoAttr K C f∧
  ((H2 a=some (jz a C)∧∀ d,H2 d=none→d≠a→D.nx σ (upd (upd H2 a (gb a C d)) d (lG d [(f,y)])))∨
   (∃ d fs,H2 a=some (gb a C d)∧H2 d=some (lG d fs)∧fs.length < 1000∧D.nx σ (upd H2 d (lG d (jH f y fs)))))
theorem Kq {o value:Expr} {ta tv:TE} {fn:Str} {pos':Pos} (ha:PE X o ta) (hv:PE X value tv) (hs:swapsWith value (some (.Attribute o fn pos')) pos.line X.env=pure false):PS X (.Assign [.Attribute o fn pos'] value pos) (xV X.K ta tv fn):=by
  intro pins s σ H D I h
  refine plainObj_wpAny_Assign_Attribute (dF (hv pins s σ H _ I h) fun u s1 ⟨y,H1,I1,ry,q⟩=>dF (ha pins s1 σ H1 _ I1 q) fun ov s2 qq0=>?_) hs
  obtain ⟨x,H2,I2,rx,a,C,ex,c,n,q2⟩:=qq0
  subst ex
  obtain rfl:ov=Value.ref a:=rx
  rcases q2 with ⟨e,q2⟩ | ⟨d,fs,e,e2,hl,q2⟩
  · exact Ug I2 e c n ry fun s3 d z1 z2 I3=>⟨σ,_,I3,q2 d z1 z2⟩
  · exact Uh I2 e e2 hl c n ry fun s3 I3=>⟨σ,_,I3,q2⟩
def tM (C:Addr) (fl:List Str):Sp:=fun vs H Q E=>∃ x ws,vs= .ref x :: ws∧ws.length=fl.length∧H x=some (jz x C)∧∀ d,H d=none→d≠x→Q .non (upd (upd H x (gb x C d)) d (lG d (fl.zip ws)))
structure Ks (P:Program) (w:World) (K:PySem.W.Frag) (mg:Str→Option Value) (base:Heap) (k:Nat) (x:Str) (C:Addr) (fl:List Str):Prop where
  at_:mg x=some (.ref C)
  cl:Nf K C
  kp:PySem.W.keepIn K (.ref C)=true
  na:∀ f∈fl,NoAttr K C f
  run:∃ f fd ps,PySem.W.findIn K (.ref C) "__init__"=some (some (.ref f))∧PySem.W.typeIn K (.ref f)=some (.type "function")∧Binds K fd ps []∧oW P w K mg base zb k f fd ps (tM C fl)
def zG (C:Addr) (fl:List Str) (R:St→XK) (t:TA):TS:=fun _ σ H=>t σ H fun vs H1=>vs.length=fl.length∧vs.length≤sizeLine∧∀ x H2,Same H1 H2→Jb H2 x C (fl.zip vs)→R σ (.ref C) (some x) H2
theorem Qi {Q:Value→Shared→Prop} {E:Value→Shared→Prop} {fl:List Str} (M:Ks X.prog X.w X.K X.mg X.base k x C fl) (hr:Room (k+1) X.A) (I:Inv X pins σ H s) (r:Vals vs us) (hl:vs.length=fl.length) (hz:vs.length≤sizeLine)
    (q:∀ a d s',H a=none→H d=none→d≠a→Inv X pins σ (upd (upd (upd H a (jz a C)) a (gb a C d)) d (lG d (fl.zip vs))) s'→Q (.ref a) s'):wpAny (model X.prog X.w) X.A (call (.ref C) us) Q E s:=by
  obtain ⟨f,fd,ps,hi,hf,hb,F⟩:=M.run
  refine Qg I.kIn M.cl.cls.xi hi hf (by rw [← r.length];exact hz) ?_
  have I1:Inv X pins σ H {s with heap:=s.heap.push {cls:=.type "tuple",data:=.seq us.toArray}}:=I.kept (t':=s.toks) fun b o e=>Heap.get?_push_of_some _ e
  have sz1:(s.heap.push {cls:=.type "tuple",data:=.seq us.toArray}).objs.size=s.heap.objs.size+1:=Heap.size_push _ _
  have hfr:H (s.heap.objs.size+1)=none:=I.hok.fresh (Nat.le_succ _)
  have gx:((s.heap.push {cls:=.type "tuple",data:=.seq us.toArray}).push (fj C none #[.ref s.heap.objs.size,.none,.none,.none,.bool false,.none])).get? (s.heap.objs.size+1)=some (fj C none #[.ref s.heap.objs.size,.none,.none,.none,.bool false,.none]):=by
    rw [← sz1];exact Heap.get?_push_size _ rfl
  have I2:Inv X pins σ (upd H (s.heap.objs.size+1) (jz (s.heap.objs.size+1) C)) {s with heap:=(s.heap.push {cls:=.type "tuple",data:=.seq us.toArray}).push (fj C none #[.ref s.heap.objs.size,.none,.none,.none,.bool false,.none])}:=
    I1.laid (t':=s.toks) (fun b o e=>Heap.get?_push_of_some _ e) (by show (s.heap.push _).objs.size≤_;rw [sz1];exact Nat.le_refl _) ⟨⟨_,gx⟩,⟨_,gx⟩,fun h1 h2 ⟨t,z⟩ kk=>⟨t,kk _ z⟩⟩
  have r2:Vals (V.ref (s.heap.objs.size+1) :: vs) (Value.ref (s.heap.objs.size+1) :: us):=.cons rfl r
  have sp0:tM C fl (V.ref (s.heap.objs.size+1) :: vs) (upd H (s.heap.objs.size+1) (jz (s.heap.objs.size+1) C)) (fun v H2=>v= .non∧∃ d,H d=none∧d≠s.heap.objs.size+1∧H2=upd (upd (upd H (s.heap.objs.size+1) (jz (s.heap.objs.size+1) C)) (s.heap.objs.size+1) (gb (s.heap.objs.size+1) C d)) d (lG d (fl.zip vs))) E0:=
    ⟨_,_,rfl,hl,aj,fun d hd ne=>⟨rfl,d,by rw [aD ne] at hd;exact hd,ne,rfl⟩⟩
  have hl2:((Value.ref (s.heap.objs.size+1) :: us) ++ []).length=ps.length:=by rw [List.append_nil,← r2.length];exact F.len _ _ _ _ sp0
  have bd:=hb _ (Value.ref (s.heap.objs.size+1) :: us) I2.kIn hl2
  rw [List.append_nil] at bd
  refine wpAny_call (codeAny_mono (F.run _ X.stack _ _ ⟨Value.ref (s.heap.objs.size+1) :: us,[]⟩ (Value.ref (s.heap.objs.size+1) :: us) _ _ E0 (hr.make C us []) (I2.env0.make C us []) bd r2 sp0) fun rr s' hq=>?_)
  cases rr with
  | error e=>exact False.elim hq
  | ok fl=>
    cases fl with
    | ret u=>
      obtain ⟨v,H',I3,rv,ev,d,hd,ne,eH⟩:=I2.after hq
      subst ev
      rw [eH] at I3
      exact ⟨rv,q _ d s' hfr hd ne I3⟩
    | next=>exact False.elim hq
    | brk=>exact False.elim hq
    | cont=>exact False.elim hq
theorem thrown {env:Env} {C:Addr} {Q:Flow→Shared→Prop} {m:Sem Value} (hc:X.calm=true) (c:Nf X.K C) (hx:kJ X R)
    (h:wpAny (model X.prog X.w) X.A m (fun v s1=>∃ x d H1,v= .ref x∧Inv X pins σ H1 s1∧H1 x=some (gb x C d)∧R σ (.ref C) (some x) (upd H1 x (rF x C d))) X.xe s):
    wpAny (model X.prog X.w) X.A (raiseStmt env (some m) none) Q X.xe s:=by
  obtain ⟨nm,qn,N,bs,bm,sn,sub,ab,col,dd,k0,k1,k2,k3,k5,lk0,tl⟩:=zE c.cls.xi
  unfold raiseStmt
  refine wpAny_bind (dF h fun v s1 qq0=>?_)
  obtain ⟨x,d,H1,ev,I1,e1,r1⟩:=qq0
  subst ev
  have KI:=I1.kIn
  obtain ⟨t,he⟩:=p8 I1.hok e1
  have hh:X.A.handled=none:=I1.ok.hd hc
  have hcB:(Value.ref C :: bm).contains (.type "BaseException")=true:=by
    rw [List.contains_cons,(tl _ KI).hasType (show Xf.contains (.type "BaseException")=true from by decide)];rfl
  have fin:X.xe (.ref x) s1:=by
    have I2:Inv X pins σ (upd H1 x (rF x C d)) s1:=I1.write (t':=s1.toks) (x:=x) (e:=x) (h':=s1.heap) (by rw [e1];exact True.intro) (.inl rfl) (fun b o _ z=>z) ⟨_,he⟩ (Be he rfl)
    exact hx pins _ s1 ⟨x,C,d,σ,_,rfl,I2,⟨aj,.inl ⟨_,he,rfl,rfl⟩⟩,r1⟩
  have hD:=KI _ _ lk0
  obtain ⟨hp,g,dr,tk,os⟩:=s1
  unfold fj at he
  repeat (first | with_reducible refine wpAny_loadPart_at he ?_ | with_reducible refine wpAny_loadPart_at hD ?_ | (with_reducible refine wpAny_isSubtype_exc hD ?_;rw [hcB]) | wp_step)
  exact wpAny_raiseNew_none hh fin
end
end L2
namespace L2
open PySem PySem.Spec PyProof.Rows
section
variable {X:Cx} {k:Nat} {C:Addr} {R:St→XK} {x:Str} {p cpos pos:Pos} {e:Expr} {es:List Expr} {t:TA} {fl:List Str}
theorem xW {H:Hp} {a d:Addr} {vs:List V} (ha:H a=none) (hd:H d=none) (ne:d≠a):Same H (upd (upd (upd (upd H a (jz a C)) a (gb a C d)) d (lG d (fl.zip vs))) a (rF a C d))∧
    Jb (upd (upd (upd (upd H a (jz a C)) a (gb a C d)) d (lG d (fl.zip vs))) a (rF a C d)) a C (fl.zip vs):=by
  refine ⟨fun b o h=>?_,d,aj,by rw [aD ne,aj]⟩
  have na:b≠a:=fun z=>by rw [z,ha] at h;cases h
  have nd:b≠d:=fun z=>by rw [z,hd] at h;cases h
  rw [aD na,aD nd,aD na,aD na]
  exact h
theorem GX (M:Ks X.prog X.w X.K X.mg X.base k x C fl) (hr:Room (k+1) X.A) (hc:X.calm=true) (hg:Gl X x) (hx:kJ X R) (ha:PA X (e :: es) t) (hdb:(x == ("__debug__":Str))=false)
    (he:starEach (e :: es) X.env=(false,eval e X.env) :: starEach es X.env) (hpl:(backTo cpos (starEach es X.env)).any (·.1)=false):PS X (.Raise (some (.Call (.Name x p) (e :: es) [] cpos)) none pos) (zG C fl R t):=by
  intro pins s σ H D I h
  rw [arm_exec_Raise]
  refine wpAny_bind (wpAny_standAt (thrown (pins:=pins) (σ:=σ) (C:=C) hc M.cl hx (wpAny_bind (dF (Q:=fun v s1=>∃ x d H1,v= .ref x∧Inv X pins σ H1 s1∧H1 x=some (gb x C d)∧R σ (.ref C) (some x) (upd H1 x (rF x C d))) ?_ fun v s3 h3=>wpAny_bind (wpAny_standAt (wpAny_pure h3))))))
  refine wpAny_Call_Name_kw (oR I hg M.at_ ?_ hdb)
  refine PySem.W.callWith_K (h₀:=X.base) I.ok.mod.kin M.kp (dF (ha cpos pins s σ H _ I h) fun us s1 ⟨vs,H1,I1,r,hl,hz,q⟩=>⟨I1.kIn,?_⟩) he hpl
  refine Qi M hr I1 r hl hz fun a d s2 z1 z2 ne I2=>⟨a,d,_,rfl,I2,?_,?_⟩
  · rw [aD (Ne.symm ne),aj]
  · obtain ⟨w1,w2⟩:=xW (C:=C) (fl:=fl) (vs:=vs) z1 z2 ne
    exact q a _ w1 w2
theorem PS.nox {st:Stmt} {t:TS} (h:PS X.nox st t):PS X st t:=fun pins s σ H D I hw=>
  wpAny_mono (h pins s σ H D (I.wish _) hw) (fun _ _ q=>q.unwish) fun _ _ z=>False.elim z
end
section
variable {X:Cx} {pins:List (Addr×Obj)} {σ σ':St} {H:Hp} {s:Shared} {h':Heap}
end
end L2
namespace L2
open PySem PySem.Spec PyProof.Rows
section
variable {X:Cx} {pins pins':List (Addr×Obj)} {σ:St} {H:Hp} {s:Shared} {x C d T:Addr} {R:St→XK} {D:Ends}
abbrev TH:=Ends→St→Addr→Addr→Hp→Prop
def PH (X:Cx) (hs:List ExceptHandler) (th:TH):Prop:=∀ (pins:List (Addr×Obj)) (s:Shared) (σ:St) (H:Hp) (D:Ends) (x C d T:Addr),Inv X pins σ H s→Head X pins H x C d T s.heap→th D σ x C H→
  wpAny (model X.prog X.w) X.A (handleBy (.ref x) X.env hs) (SP X pins D) X.xe s
variable {nm n:Str} {P:Addr} {i:Nat} {p pos:Pos} {b0:Stmt} {suite:List Stmt} {ts:TS} {th:TH} {hs:List ExceptHandler}
end
end L2
namespace L2
open PySem PySem.Spec PyProof.Rows
def aK (mg:Str→Option Value) (x:Str):Addr:=match mg x with
  | some (.ref a)=>a
  | _=>0
theorem pB {mg:Str→Option Value} {x:Str} {C:Addr} (h:mg x=some (.ref C)):aK mg x=C:=by unfold aK;rw [h]
structure Qj (K:PySem.W.Frag) (mg:Str→Option Value) (x:Str):Prop where
  at_:mg x=some (.ref (aK mg x))
  cl:Nf K (aK mg x)
theorem Ui {K:PySem.W.Frag} {mg:Str→Option Value} {h:Heap} (X:K.In h) (G:h.Ns mainGlobals mg) {x:Str} {C:Addr} (a:PySem.W.nsIn K mainGlobals x=some (some (.ref C))) (b:Bg K C=true):Qj K mg x:=by
  have m:=PySem.W.mg_of X G a
  have e:=pB m
  exact ⟨by rw [e];exact m,by rw [e];exact GF b⟩
structure rG (K:PySem.W.Frag) (mg:Str→Option Value) (x:Str) (fl:List Str) (qual:Str) (st:Stmt):Prop where
  c:Qj K mg x
  kp:PySem.W.keepIn K (.ref (aK mg x))=true
  na:∀ f∈fl,NoAttr K (aK mg x) f
  ini:∃ f fd,PySem.W.findIn K (.ref (aK mg x)) "__init__"=some (some (.ref f))∧PySem.W.typeIn K (.ref f)=some (.type "function")∧Fun K "__init__" qual st f fd
def GZ (K:PySem.W.Frag) (C:Addr) (fl:List Str):Bool:=fl.all fun n=>PySem.W.findIn K (.ref C) n == some none
theorem xX {K:PySem.W.Frag} {mg:Str→Option Value} {h:Heap} (X:K.In h) (G:h.Ns mainGlobals mg) {x qual:Str} {C f:Addr} {fl:List Str} {st:Stmt} {oc:Value} {od an:Option Addr} {osl:Array (Option Value)} {kV doc pm cdv ct:Value}
    (a:PySem.W.nsIn K mainGlobals x=some (some (.ref C))) (b:Bg K C=true) (kp:PySem.W.keepIn K (.ref C)=true) (na:GZ K C fl=true)
    (i:PySem.W.findIn K (.ref C) "__init__"=some (some (.ref f))) (t:PySem.W.typeIn K (.ref f)=some (.type "function"))
    (l:K.lookup f=some ⟨oc,od,.func (PySem.W.fnOf "__init__" qual (eG st) (cj st) (az st) .none kV doc pm an cdv ct),osl⟩) (c:PySem.W.codeIn K cdv qual=true) (k:PySem.W.keepIn K (.ref f)=true):rG K mg x fl qual st:=by
  have m:=PySem.W.mg_of X G a
  have e:=pB m
  refine ⟨Ui X G a b,by rw [e];exact kp,fun n hn=>?_,f,_,by rw [e];exact i,t,zc l c k⟩
  rw [e]
  have:=List.all_eq_true.mp na n hn
  exact beq_iff_eq.mp this
structure Sub (K:PySem.W.Frag) (mg:Str→Option Value) (x y:Str) (b:Bool):Prop where
  mro:PySem.W.mroIn K (aK mg x) (.ref (aK mg y))=some b
  one:PySem.W.kitOne K (.ref (aK mg x)) (.ref (aK mg y))=some b
structure JH (X:Cx) (hs:List ExceptHandler) (th:TH):Prop where
  run:PH X hs th
section
variable {X:Cx} {K:PySem.W.Frag} {k:Nat} {x n fn:Str} {ps:List Str} {sp:Sp} {R:St→XK} {p pos cpos pos':Pos} {e o value:Expr} {es:List Expr} {t:TA} {ta tv:TE} {st:Stmt} {u ts:TS} {th:TH} {hs:List ExceptHandler} {i:Nat}
theorem cR (F:uy X.prog X.w X.K X.mg X.base k x ps sp) (hr:Room k X.A) (hg:Gl X x) (hx:kJ X R) (ha:JA X (e :: es) t) (hdb:(x == ("__debug__":Str))=false) (h:autoParam ((e :: es).all notStar=true) L2.auto4._auto_1):
    JE X (.Call (.Name x p) (e :: es) [] pos) (zF sp R t):=by
  have h1:notStar e=true:=by simp only [List.all_cons,Bool.and_eq_true] at h;exact h.1
  have h2:es.all notStar=true:=by simp only [List.all_cons,Bool.and_eq_true] at h;exact h.2
  exact ⟨GR F hr hg hx ha.run hdb (bV h1) (lA h2)⟩
theorem Qk (h:JS X.nox st u):JS X st u:=⟨h.run.nox⟩
theorem m6 (hK:X.K=K) (ha:JE X o ta) (hv:JE X value tv) (h:autoParam (jr value=true) L2.auto4._auto_1):JS X (.Assign [.Attribute o fn pos'] value pos) (xV K ta tv fn):=by
  subst hK
  exact ⟨Kq ha.run hv.run (uZ h)⟩
theorem mO {fl:List Str} (M:Ks X.prog X.w X.K X.mg X.base k x (aK X.mg x) fl) (hr:Room (k+1) X.A) (hc:X.calm=true) (hg:Gl X x) (hx:kJ X R) (ha:JA X (e :: es) t) (hdb:(x == ("__debug__":Str))=false) (h:autoParam ((e :: es).all notStar=true) L2.auto4._auto_1):
    JS X (.Raise (some (.Call (.Name x p) (e :: es) [] cpos)) none pos) (zG (aK X.mg x) fl R t):=by
  have h1:notStar e=true:=by simp only [List.all_cons,Bool.and_eq_true] at h;exact h.1
  have h2:es.all notStar=true:=by simp only [List.all_cons,Bool.and_eq_true] at h;exact h.2
  exact ⟨GX M hr hc hg hx ha.run hdb (bV h1) (lA h2)⟩
end
section
variable {P:Program} {w:World} {K:PySem.W.Frag} {mg:Str→Option Value} {base:Heap}
theorem tO {x:Str} {st:Stmt} {N ps:List Str} {k:Nat} {sp:Sp} (D:dR K mg x st) (S:aF N ps (az st))
    (hb:∀ (kV doc pm:Value) (an:Option Addr) (cdv ct:Value) (us:List Value),us.length=ps.length→bindArgs (PySem.W.fnOf x x (eG st) (cj st) (az st) .none kV doc pm an cdv ct) ⟨us,[]⟩=pure (ps.zip us))
    (len:∀ vs H Q E,sp vs H Q E→vs.length=ps.length)
    (hbody:∀ (f:Addr) (cdv:Value) (A:Around) (outer:List Env) (s:Shared) (H:Hp) (vs:List V) (Q:VK) (E:XK),Room k (A.deeper (envOfC x (az st) s.heap.objs.size f cdv))→sp vs H Q E→
      ∃ t,JB (nU (Kl P w) P w K mg base N x (az st) f cdv A outer s H E) (cj st) t∧t {nx:=fun _ H'=>Q .non H',rt:=Q} (start N vs) H):uy P w K mg base (k+1) x ps sp:=by
  obtain ⟨f,fd,F,hm⟩:=D
  refine ⟨f,fd,hm,F.kp,F.binds hb,?_⟩
  obtain ⟨oc,od,kV,doc,pm,an,cdv,ct,osl,rfl,lk,hcd⟩:=F.ex
  exact Fi lk hcd S len fun A outer s H vs Q E hr h=>let ⟨t,j,q⟩:=hbody f cdv A outer s H vs Q E hr h;⟨t,j.run,q⟩
theorem Uj {x qual:Str} {st:Stmt} {N ps:List Str} {fl:List Str} {k:Nat} (D:rG K mg x fl qual st) (S:aF N ps (az st))
    (hb:∀ (kV doc pm:Value) (an:Option Addr) (cdv ct:Value) (us:List Value),us.length=ps.length→bindArgs (PySem.W.fnOf "__init__" qual (eG st) (cj st) (az st) .none kV doc pm an cdv ct) ⟨us,[]⟩=pure (ps.zip us))
    (hl:ps.length=fl.length+1)
    (hbody:∀ (f:Addr) (cdv:Value) (A:Around) (outer:List Env) (s:Shared) (H:Hp) (vs:List V) (Q:VK) (E:XK),Room k (A.deeper (envOfC qual (az st) s.heap.objs.size f cdv))→tM (aK mg x) fl vs H Q E→
      ∃ t,JB (nU zb P w K mg base N qual (az st) f cdv A outer s H E).nox (cj st) t∧t {nx:=fun _ H'=>Q .non H',rt:=Q} (start N vs) H):Ks P w K mg base (k+1) x (aK mg x) fl:=by
  obtain ⟨f,fd,a,b,F⟩:=D.ini
  refine ⟨D.c.at_,D.c.cl,D.kp,D.na,f,fd,ps,a,b,F.binds hb,F.ok S (fun vs H Q E h=>?_) fun cdv A outer s H vs Q E hr h=>let ⟨t,j,q⟩:=hbody f cdv A outer s H vs Q E hr h;⟨t,j.run,q⟩⟩
  obtain ⟨y,ws,rfl,hw,_⟩:=h
  rw [List.length_cons,hw,hl]
end
end L2
namespace L2
open PySem PySem.Spec PyProof.Rows
def initOf:Stmt→Stmt
  | .ClassDef _ _ _ (s :: _) _ _ _ _ _ _ _=>s
  | s=>s
section
variable {σ:St} {H:Hp} {D:Ends} {Q:VK} {sp:Sp} {R:St→XK} {a:TA} {K:PySem.W.Frag} {C P:Addr} {fl:List Str} {th:TH} {ts:TS} {i:Nat} {ta:TE} {f:Str}
theorem fQ (h:a σ H fun vs H1=>sp vs H1 Q (R σ)):zF sp R a σ H Q:=h
theorem fU (h:a σ H fun vs H1=>vs.length=fl.length∧vs.length≤sizeLine∧∀ x H2,Same H1 H2→Jb H2 x C (fl.zip vs)→R σ (.ref C) (some x) H2):zG C fl R a D σ H:=h
theorem vX {x:V} {t:Value} {p:Addr} {vs:List V} {cs:List Value} {b:Bool} (ty:TyOf K H x t) (hp:H p=some (.tup vs)) (e:GP vs=some cs) (o:PySem.W.kitAny K t cs=some b) (h:Q (.bl b) H):Ng K [x,.ref p] H Q:=
  ⟨x,t,b,.inl ty,.inr ⟨p,vs,cs,rfl,hp,e,o⟩,h⟩
theorem Xg {f1 p0 p1:Str} {vs:List V} {E:XK} (c:XCls K C) (n:NoAttr K C f1) (h:tM C [f1] vs H Q E):xV K (nu 0) (nu 1) f1 {nx:=fun _ H'=>Q .non H',rt:=Q} (start [p0,p1] vs) H:=by
  obtain ⟨x,ws,rfl,hw,hx,q⟩:=h
  match ws,hw with
  | [v],_=>exact ⟨v,rfl,.ref x,rfl,x,C,rfl,c,n,.inl ⟨hx,fun d hd ne=>q d hd ne⟩⟩
theorem rd2 {f1 f2 p0 p1 p2:Str} {vs:List V} {E:XK} (c:XCls K C) (n:NoAttr K C f1) (n2:NoAttr K C f2) (ne:f1≠f2) (h:tM C [f1,f2] vs H Q E):
    Eo (xV K (nu 0) (nu 1) f1) (xV K (nu 0) (nu 2) f2) {nx:=fun _ H'=>Q .non H',rt:=Q} (start [p0,p1,p2] vs) H:=by
  obtain ⟨x,ws,rfl,hw,hx,q⟩:=h
  match ws,hw with
  | [v,u],_=>
    refine ⟨v,rfl,.ref x,rfl,x,C,rfl,c,n,.inl ⟨hx,fun d hd nd=>?_⟩⟩
    refine ⟨u,rfl,.ref x,rfl,x,C,rfl,c,n2,.inr ⟨d,[(f1,v)],?_,aj,by show 1 < 1000;decide,?_⟩⟩
    · rw [aD (Ne.symm nd),aj]
    · rw [Jd]
      have e:jH f2 u [(f1,v)]=[(f1,v),(f2,u)]:=by
        show (if f1=f2 then _ else _)=_
        rw [if_neg ne]
        rfl
      rw [e]
      exact q d hd nd
end
end L2
namespace L2
open PySem PySem.Spec PyProof.Rows
section
variable {X:Cx} {tg:Expr}
end
section
variable {σ:St} {H:Hp} {Q:VK}
end
section
variable {X:Cx} {e:Expr} {te:TE} {lo hi:Option Expr} {st:Expr} {tl th ts:TO} {pos p2:Pos}
theorem Ku:JE X (.Dict [] [] pos) zg:=⟨FN⟩
end
section
variable {σ:St} {H:Hp} {Q:VK} {te:TE}
theorem ji (h:∀ p,H p=none→Q (.ref p) (upd H p (.dK []))):zg σ H Q:=h
end
def Uk (K:PySem.W.Frag) (neg:Bool):R2:=fun x y H Q=>∃ a b xs,x= .ref a∧y= .ref b∧SqL K H a xs∧SqL K H b xs∧(∀ v∈xs,j9 v=true∨∃ r,v= .ref r)∧Q (.bl (!neg)) H
theorem xY {v:V} (f:j9 v=true):Aq v v=true:=by
  cases v <;> first | (cases f;done) | rfl | (simp [Aq])
section
variable {X:Cx}
theorem Ql (hu:X.A.units < cLine):OpR X (compareOp .Eq) (Uk X.K false):=by
  intro pins s σ H x y v u Q I rx ry h
  obtain ⟨a,b,xs,rfl,rfl,ha,hb,fx,q⟩:=h
  cases rx
  cases ry
  obtain ⟨its,r1,p1,z1⟩:=I.list ha
  obtain ⟨jts,r2,p2,z2⟩:=I.list hb
  have l1:its.toArray.size=xs.length:=by simpa using r1.length.symm
  have l2:jts.toArray.size=xs.length:=by simpa using r2.length.symm
  refine SeqAt.eq_listAt (e:=fun _=>true) p1.isList p2.isList (by rw [l1,l2]) hu (fun j h1 h2=>?_) ?_
  · have hj:j < xs.length:=by omega
    obtain ⟨u1,e1,q1⟩:=r1.get (List.getElem?_eq_getElem hj)
    obtain ⟨u2,e2,q2⟩:=r2.get (List.getElem?_eq_getElem hj)
    have f1:its.toArray[j]=u1:=by
      obtain ⟨_,z⟩:=List.getElem?_eq_some_iff.mp e1
      simpa using z
    have f2:jts.toArray[j]=u2:=by
      obtain ⟨_,z⟩:=List.getElem?_eq_some_iff.mp e2
      simpa using z
    rw [f1,f2]
    rcases fx _ (List.getElem_mem hj) with f | ⟨r,f⟩
    · rw [← xY f]
      exact vH q1 q2 f f
    · rw [f] at q1 q2
      cases (show u1=Value.ref r from q1)
      cases (show u2=Value.ref r from q2)
      exact SeqAt.EqAt.same _
  · have e:(List.range its.toArray.size).all (fun _=>true)=true:=by simp
    rw [e]
    exact ⟨.bl true,H,I,rfl,q⟩
def Kv (K:PySem.W.Frag):R2:=fun x y H Q=>Cz K x y H Q∨Uk K false x y H Q
theorem Qm {K:PySem.W.Frag} (hK:X.K=K) (hu:X.A.units+64 < cLine):OpR X (compareOp .Eq) (Kv K):=by
  subst hK
  exact (zB rfl hu).or (Ql (Nat.lt_of_le_of_lt (Nat.le_add_right _ _) hu))
end
section
variable {H:Hp} {Q:VK} {K:PySem.W.Frag}
theorem gU {i j:Int} (h:Q (.bl (decide (V.int i=V.int j))) H):Kv K (.int i) (.int j) H Q:=.inl (gP h)
theorem gW {i j:Str} (h:Q (.bl (decide (V.str i=V.str j))) H):Kv K (.str i) (.str j) H Q:=.inl (gQ h)
end
end L2
namespace L2
open PySem PySem.Spec PyProof.Rows
open AutoSeq1 (wpAny_loadPart')
theorem Qn:isSubtype (.type "dict") (.type "dict")=pure true:=by rw [isSubtype_type];kernel_rfl
theorem CV {prog:Program} {w:World} {A:Around} {E:Value→Shared→Prop} {s:Shared} {Q:Value→Shared→Prop} {a:Addr} {o:Obj} {e:DictEntry} {ep:Nat} {k:Key} (ho:s.heap.get? a=some o) (hc:o.cls= .type "dict") (hd:o.data= .dict #[e] ep)
    (hkey:(cW prog w).is k e.key=true) (hh:e.hash=(cW prog w).hash k) (hsm:(a == sysModules)=false) (hu:A.units < cLine) (h:Q (.bool true) s):wpAny (model prog w) A (compareOp .Eq (.ref a) (.ref a)) Q E s:=by
  show wpAny _ _ (richCompare .Eq (.ref a) (.ref a)) _ _ _
  refine wpAny_richCompare_same_room ⟨o,ho,hc⟩ ⟨o,ho,hc⟩ F.slot_dict_eq (wpAny_call (codeAny_call_builtin F.slot_dict_eq.plain F.entry_dict_eq (F.slot_dict_eq.check _ _ _ _ _ _ _ _ ⟨o,ho,hc⟩ (F.args_dict_eq_2 _ _) ?_))) hu
  have ko:KeysOf (cW prog w) #[e]:=fun x hx=>by
    simp at hx
    subst hx
    exact ⟨k,hkey,hh⟩
  have f2:=Qn
  obtain ⟨hp,g,d,tk,os⟩:=s
  have hT:(⟨hp,g,d,tk,os⟩:Shared).TypeIs (.ref a) "dict":=⟨_,ho,hc⟩
  unfold Builtin.«dict.__eq__»
  wp_walk using wpAny_loadPart' ho
  have en:∀ (Q:Array DictEntry→Shared→Prop) (E:Value→Shared→Prop),Q #[e] ⟨hp,g,d,tk,os⟩→wpAny (model prog w) A.in1 (dictEntries a) Q E ⟨hp,g,d,tk,os⟩:=fun Q E q=>by
    unfold dictEntries
    refine wpAny_bind (wpAny_loadPart ho ?_)
    simp only [hd]
    exact wpAny_pure q
  have eo:∀ (Q:Nat→Shared→Prop) (E:Value→Shared→Prop),Q ep ⟨hp,g,d,tk,os⟩→wpAny (model prog w) A.in1 (dictEpoch a) Q E ⟨hp,g,d,tk,os⟩:=fun Q E q=>by
    unfold dictEpoch
    refine wpAny_bind (wpAny_loadPart ho ?_)
    simp only [hd]
    exact wpAny_pure q
  simp only [hd]
  refine wpAny_pure ?_
  refine wpAny_bind (en _ _ ?_)
  rw [if_neg (by simp)]
  refine wpAny_bind (eo _ _ ?_)
  refine wpAny_bind ?_
  rw [Std.Legacy.Range.forIn_eq_forIn_range']
  simp only [Std.Legacy.Range.size,Nat.sub_zero,Nat.add_sub_cancel,Nat.div_one]
  show wpAny _ _ (forIn [0] _ _) _ _ _
  rw [List.forIn_cons]
  refine wpAny_bind (wpAny_bind (en _ _ ?_))
  show wpAny _ _ (holding [e.key,e.val] _ >>=_) _ _ _
  refine wpAny_bind (wpAny_holding ?_)
  refine wpAny_bind (show wpAny (model prog w) A.in1 (dictFind a e.key e.hash) _ _ _ from ?_)
  rw [hh]
  refine wpAny_dictFind_of hkey ho hd ko ?_
  have fi:(#[e]:Array DictEntry).findIdx? (fun e=>(cW prog w).is k e.key)=some 0:=by simp [hkey]
  rw [fi]
  refine wpAny_bind (en _ _ ?_)
  show wpAny _ _ (holding [e.val] (eqBool e.val e.val)) _ _ _
  refine wpAny_holding (SeqAt.EqAt.same e.val prog w _ _ ?_)
  rw [if_neg (by simp)]
  refine wpAny_bind (eo _ _ ?_)
  rw [if_neg (by simp)]
  refine wpAny_pure ?_
  show wpAny _ _ (forIn [] _ _) _ _ _
  rw [List.forIn_nil]
  refine wpAny_pure (wpAny_pure ?_)
  exact wpAny_pure ⟨(fun z=>nomatch z),h⟩
section
variable {X:Cx}
def Nh (K:PySem.W.Frag):R2:=fun x y H Q=>∃ a b xs,x= .ref a∧y= .ref b∧SqT K H a xs∧SqT K H b xs∧(∀ v∈xs,j9 v=true∨∃ r,v= .ref r)∧Q (.bl true) H
theorem Kw (hu:X.A.units < cLine):OpR X (compareOp .Eq) (Nh X.K):=by
  intro pins s σ H x y v u Q I rx ry h
  obtain ⟨a,b,xs,rfl,rfl,ha,hb,fx,q⟩:=h
  cases rx
  cases ry
  obtain ⟨its,r1,p1,z1⟩:=I.tuple ha
  obtain ⟨jts,r2,p2,z2⟩:=I.tuple hb
  have l1:its.toArray.size=xs.length:=by simpa using r1.length.symm
  have l2:jts.toArray.size=xs.length:=by simpa using r2.length.symm
  refine SeqAt.eq_tupleAt (e:=fun _=>true) p1 p2 hu (fun j h1 h2=>?_) ?_
  · have hj:j < xs.length:=by omega
    obtain ⟨u1,e1,q1⟩:=r1.get (List.getElem?_eq_getElem hj)
    obtain ⟨u2,e2,q2⟩:=r2.get (List.getElem?_eq_getElem hj)
    have f1:its.toArray[j]=u1:=by
      obtain ⟨_,z⟩:=List.getElem?_eq_some_iff.mp e1
      simpa using z
    have f2:jts.toArray[j]=u2:=by
      obtain ⟨_,z⟩:=List.getElem?_eq_some_iff.mp e2
      simpa using z
    rw [f1,f2]
    rcases fx _ (List.getElem_mem hj) with f | ⟨r,f⟩
    · rw [← xY f]
      exact vH q1 q2 f f
    · rw [f] at q1 q2
      cases (show u1=Value.ref r from q1)
      cases (show u2=Value.ref r from q2)
      exact SeqAt.EqAt.same _
  · have e:((List.range (min its.toArray.size jts.toArray.size)).all (fun _=>true) && its.toArray.size == jts.toArray.size)=true:=by rw [l1,l2];simp
    rw [e]
    exact ⟨.bl true,H,I,rfl,q⟩
def Ni:R2:=fun x y H Q=>∃ a k v,x= .ref a∧y= .ref a∧H a=some (.dK [(k,v)])∧Q (.bl true) H
theorem Ky (hu:X.A.units < cLine):OpR X (compareOp .Eq) Ni:=by
  intro pins s σ H x y v u Q I rx ry h
  obtain ⟨a,k,z,rfl,rfl,ha,q⟩:=h
  cases rx
  cases ry
  obtain ⟨_,hsm,vs,kv,o,es,ep,h1,h2,h3,h4,h5,h6⟩:=(show ObjOk X.prog X.w H s.heap a (.dK [(k,z)]) from I.hok a _ ha)
  cases kv with
  | cons a1 a2=>
    cases a2
    obtain ⟨l⟩:=es
    dsimp only at h5
    cases h5 with
    | @cons en _ _ _ p1 p2 p3=>
      cases p3
      obtain ⟨k',b1,b2⟩:=h4 en (by simp)
      exact CV (e:=en) h1 h2.1 h3 b1 b2 hsm hu ⟨.bl true,H,I,rfl,q⟩
def Kz (K:PySem.W.Frag):R2:=fun x y H Q=>Kv K x y H Q∨Nh K x y H Q∨Ni x y H Q
theorem gH {K:PySem.W.Frag} (hK:X.K=K) (hu:X.A.units+64 < cLine):OpR X (compareOp .Eq) (Kz K):=by
  subst hK
  exact (Qm rfl hu).or ((Kw (Nat.lt_of_le_of_lt (Nat.le_add_right _ _) hu)).or (Ky (Nat.lt_of_le_of_lt (Nat.le_add_right _ _) hu)))
end
section
variable {H:Hp} {Q:VK} {K:PySem.W.Frag}
theorem fV {σ:St} {r r':R2} {ta tb tc:TE} (h:ta σ H fun x H1=>tb σ H1 fun y H2=>r x y H2 fun z H3=>∃ k,z= .bl k∧if k=true then tc σ H3 fun w H4=>r' y w H4 Q else Q (.bl false) H3):yP r r' ta tb tc σ H Q:=h
theorem jj {i j:Int} (h:Q (.bl (decide (V.int i=V.int j))) H):Kz K (.int i) (.int j) H Q:=.inl (gU h)
theorem jk {i j:Str} (h:Q (.bl (decide (V.str i=V.str j))) H):Kz K (.str i) (.str j) H Q:=.inl (gW h)
end
end L2
namespace L2
open PySem PySem.Spec PyProof.Rows PySem.SeqAt
theorem KC (lo hi:Option Int) (n:Nat):Builtin.Str.strSliceIndices lo hi 1 n=(List.range (HT.sIx n n hi - HT.sIx n 0 lo)).map fun k=>HT.sIx n 0 lo+k:=by
  have c:∀ (i:Int) (d:Nat),max 0 (min (if i < 0 then i+(n:Int) else i) (n:Int))=((HT.sIx n d (some i):Nat):Int):=by
    intro i d
    rw [← HT.clip_eq]
    split <;> omega
  have key:∀ a b:Nat,(List.range (if (a:Int) < (b:Int) then ((b:Int) - a+1 - 1) / 1 else 0).toNat).map (fun k:Nat=>((a:Int)+1*(k:Int)).toNat)=(List.range (b - a)).map fun k=>a+k:=by
    intro a b
    have e3:(if (a:Int) < (b:Int) then ((b:Int) - a+1 - 1) / 1 else 0).toNat=b - a:=by split <;> omega
    rw [e3]
    refine List.map_congr_left fun k _=>?_
    omega
  unfold Builtin.Str.strSliceIndices sliceRange
  simp only [show (1:Int) > 0 by decide,if_true]
  cases lo with
  | none=>
    cases hi with
    | none=>exact key 0 n
    | some j=>rw [← key,← c j n];rfl
  | some i=>
    cases hi with
    | none=>rw [← key,← c i 0];rfl
    | some j=>rw [← key,← c i 0,← c j n]
theorem Nj {α β:Type} {f:α→Option β} {g:α→β}:∀ (l:List α),(∀ k∈l,f k=some (g k))→l.filterMap f=l.map g
  | [],_=>rfl
  | k :: l,h=>by rw [List.filterMap_cons,h k (by simp),List.map_cons,Nj l fun j hj=>h j (List.mem_cons_of_mem _ hj)]
theorem CW (l:List Nat) (a m:Nat) (h:a+m≤l.length):((List.range m).map fun k=>a+k).filterMap (fun i=>l[i]?)=(l.drop a).take m:=by
  rw [List.filterMap_map,Nj (g:=fun k=>l.getD (a+k) 0)]
  · refine List.ext_getElem? fun i=>?_
    rw [List.getElem?_map,List.getElem?_take]
    by_cases hi:i < m
    · rw [if_pos hi,List.getElem?_range hi,List.getElem?_drop,List.getElem?_eq_getElem (by omega)]
      simp [List.getElem?_eq_getElem (show a+i < l.length by omega)]
    · rw [if_neg hi,List.getElem?_eq_none (by simp;omega)];rfl
  · intro k hk
    have hk:=List.mem_range.mp hk
    show l[a+k]?=_
    rw [List.getD_eq_getElem?_getD,List.getElem?_eq_getElem (by omega)];rfl
theorem CZ (z:Str) (lo hi:Option Int):(Txt.slice z lo hi).cps.toList=(z.cps.toList.drop (HT.sIx z.length 0 lo)).take (HT.sIx z.length z.length hi - HT.sIx z.length 0 lo):=by
  have hn:z.cps.toList.length=z.length:=by simp [Str.length]
  have la:=HT.sIx_le z.length 0 (Nat.zero_le _) lo
  have lb:=HT.sIx_le z.length z.length (Nat.le_refl _) hi
  unfold Txt.slice
  rw [KC]
  generalize HT.sIx z.length 0 lo=a at la ⊢
  generalize HT.sIx z.length z.length hi=b at lb ⊢
  split
  · rename_i h
    simp at h
    have ha:a=0:=by
      rcases Nat.eq_zero_or_pos z.length with h0 | h0
      · omega
      · omega
    subst ha
    rw [List.drop_zero,List.take_of_length_le (by omega)]
  · show List.filterMap (fun x=>z.cps[x]?) _=_
    have e:(fun x:Nat=>z.cps[x]?)=fun x=>z.cps.toList[x]?:=by funext x;simp
    rw [e]
    by_cases h:a≤b
    · exact CW _ a (b - a) (by omega)
    · rw [show b - a=0 by omega];simp
theorem ou (z:Str) (k:Nat):(Txt.slice z (some (k:Int)) none).cps.toList=z.cps.toList.drop k:=by
  rw [CZ,HT.sIx_none,HT.sIx_nat]
  have hn:z.cps.toList.length=z.length:=by simp [Str.length]
  by_cases h:k≤z.length
  · rw [Nat.min_eq_left h,List.take_of_length_le (by rw [List.length_drop];omega)]
  · rw [Nat.min_eq_right (by omega),List.drop_eq_nil_of_le (by omega),List.drop_eq_nil_of_le (by omega)];simp
theorem zH {n:Nat}:∀ {ds:List PyData},(∀ d∈ds,d.canLay0=true∧d.depth≤n)→PyData.canLayAll0 ds=true∧PyData.depthAll ds≤n
  | [],_=>⟨rfl,by simp [PyData.depthAll]⟩
  | d :: ds,h=>by
    obtain ⟨a,b⟩:=zH fun e he=>h e (List.mem_cons_of_mem _ he)
    obtain ⟨c,e⟩:=h d (by simp)
    rw [PyData.canLayAll0,PyData.depthAll,a,c]
    exact ⟨rfl,by omega⟩
theorem xZ {n:Nat} {ds:List PyData} (h:∀ d∈ds,d.canLay0=true∧d.depth≤n):(PyData.list ds).canLay0=true∧(PyData.list ds).depth≤n+1:=by
  obtain ⟨a,b⟩:=zH h
  rw [PyData.canLay0,PyData.depth]
  exact ⟨a,by omega⟩
theorem Dc {n:Nat} {ds:List PyData} (h:∀ d∈ds,d.canLay0=true∧d.depth≤n):(PyData.tuple ds).canLay0=true∧(PyData.tuple ds).depth≤n+1:=by
  obtain ⟨a,b⟩:=zH h
  rw [PyData.canLay0,PyData.depth]
  exact ⟨a,by omega⟩
theorem Bj (s:Int):(PyData.int s).canLay0=true∧(PyData.int s).depth≤0:=by simp [PyData.canLay0,PyData.depth]
theorem tQ {d:PyData} {n:Nat} (h:d.canLay0=true∧d.depth≤n) (hn:n≤64):shaped d=true:=by
  unfold shaped
  rw [h.1,decide_eq_true (by omega)];rfl
theorem jo {xs:List V} {H:Hp} {R:Addr→Prop} (c:Nat.ble xs.length 64=true) (h:∀ p,H p=none→R p):xs.length≤sizeLine∧∀ p,H p=none→R p:=
  ⟨Nat.le_trans (Nat.le_of_ble_eq_true c) (by decide),h⟩
theorem mD {A B:Prop} (h:A):if (!false)=true then A else B:=(if_pos (show (!false)=true from rfl)).mpr h
theorem mF {A B:Prop} (h:B):if (!true)=true then A else B:=by rw [if_neg (by simp)];exact h
theorem qQ {t u:TS} {D:Ends} {σ:St} {H:Hp} (M:St→Hp→Prop) (h1:∀ σ H,M σ H→u D σ H) (h2:∀ N,(∀ σ H,M σ H→N σ H)→t {D with nx:=N} σ H):Eo t u D σ H:=h2 _ h1
theorem Qo {α:Type} {xs:List α} {n:Nat} {v:α} (h:xs.length=n+1) (e:xs[n]?=some v):vC xs (-1)=some v:=by
  unfold vC Fq
  rw [h,if_neg (by omega),if_pos (by omega)]
  show xs[((-1:Int)+((n+1:Nat):Int)).toNat]?=some v
  rw [show ((-1:Int)+((n+1:Nat):Int)).toNat=n by omega];exact e
end L2
namespace L2
open PySem PySem.Spec PyProof.Rows PySem.SeqAt
open AutoSeq1 (wpAny_loadPart')
section
variable {X:Cx}
end
section
variable {X:Cx}
end
section
variable {H:Hp} {Q:VK} {K:PySem.W.Frag} {σ:St} {D:Ends}
end
end L2
namespace L2
open PySem PySem.Spec PyProof.Rows
def vY:List V→Hp→VK→Prop:=fun xs H Q=>∃ (p:Addr) (ns:List Int),xs=[.ref p]∧H p=some (.lst (ns.map V.int))∧ns.length < 64∧∀ (q:Addr) (ms:List Int),H q=none→ms.Perm ns→ms.Pairwise (· ≤ ·)→Q (.ref q) (upd H q (.lst (ms.map V.int)))
section
variable {X:Cx}
theorem Dd:∀ {us:List Value} {ns:List Int},IntsAre us ns→Vals (ns.map V.int) us:=by
  intro us
  induction us with
  | nil=>intro ns h;cases h;exact .nil
  | cons u us ih=>
    intro ns h
    cases h with
    | cons a b=>exact .cons ⟨_,rfl⟩ (ih (by assumption))
theorem pC:CallR X (.builtin "sorted") vY:=by
  intro pins s σ H xs us Q I r h
  obtain ⟨p,ns,rfl,hp,h64,q⟩:=h
  obtain ⟨u,rfl,ru⟩:=vals1 r
  cases ru
  obtain ⟨hz,its,n,rv,g⟩:=I.hok p _ hp
  have hi:IntsAre its ns:=intsAre_of rv
  have hl:=rv.length
  rw [List.length_map] at hl
  refine sorted_ints (vs:=its) ⟨_,g,rfl,n,rfl⟩ hi (by omega) fun out ms ho hperm hs=>?_
  obtain ⟨e,he⟩:=sortedAll_at s.heap its out
  have hm:ms.length=ns.length:=hperm.length_eq
  rw [List.length_map] at hz
  refine ⟨.ref (s.heap.objs.size+1),_,I.laid (t':=s.toks) (o:=.lst (ms.map V.int)) (fun b ob q=>sortedAll_old q) (Nat.le_succ _) ⟨by rw [List.length_map];omega,out.toList,e,Dd ho,by simpa using he⟩,rfl,q _ ms (I.hok.fresh (Nat.le_succ _)) hperm hs⟩
end
section
variable {σ:St} {H:Hp} {Q:VK} {D:Ends}
theorem G6 {p:Addr} {ns:List Int} (hp:H p=some (.lst (ns.map V.int))) (hn:ns.length < 64) (h:∀ (q:Addr) (ms:List Int),H q=none→ms.Perm ns→ms.Pairwise (· ≤ ·)→Q (.ref q) (upd H q (.lst (ms.map V.int)))):vY [.ref p] H Q:=⟨p,ns,rfl,hp,hn,h⟩
end
end L2
namespace L2
open PySem PySem.Spec PyProof.Rows
def rInD (K:PySem.W.Frag):R2:=fun x y H Q=>J3 K x y H Q∨∃ a o,y= .ref a∧DGet H a x o∧Q (.bl o.isSome) H
def Nk:yM:=fun o i v H R=>xg o i v H R∨∃ a H4,o= .ref a∧DPut H a i v H4∧R H4
section
variable {X:Cx}
end
section
variable {X:Cx}
theorem Qp {K:PySem.W.Frag} (hK:X.K=K) (hu:X.A.units+64 < cLine):OpR X (compareOp .In) (rInD K):=(Gd hK).or (by
  intro pins s σ H x y v u Q I rx ry h
  obtain ⟨a,o,rfl,g,q⟩:=h
  obtain rfl:u=Value.ref a:=ry
  exact d_in (by omega) I g rx fun s3 I3=>⟨.bl o.isSome,H,I3,rfl,q⟩)
theorem KD (hu:X.A.units+64 < cLine):Jk X Nk:=by
  intro pins s σ H o i v ov iv u Q I ro ri rv h
  rcases h with h | ⟨a,H4,rfl,g,q⟩
  · exact set_list pins s σ H o i v ov iv u Q I ro ri rv h
  · obtain rfl:ov=Value.ref a:=ro
    exact Cq (by omega) I g ri rv fun s4 I4=>⟨H4,I4,q⟩
end
section
variable {σ:St} {H:Hp} {Q:VK} {K:PySem.W.Frag}
end
end L2
namespace L2
open PySem PySem.Spec PyProof.Rows
def Ul (i j:Int):Prop:=0 < j∧j < 1606938044258990275541962092341162602522202993782792835301376
section
variable {X:Cx}
theorem yc:OpR X (binaryOp .FloorDiv) (rI Ul fun i j=>.int (i / j)):=Xd fun i j _ _ _ _ _ hc q=>by
  have h1:(0:Int) < j:=hc.1
  have h2:=hc.2
  refine floordiv_int (by omega) (by rw [Int.fdiv_eq_ediv_of_nonneg i (by omega)];exact q) (.inl (PyProof.noPylong_of_log2 ?_))
  have h3:j.natAbs.log2 < 200:=(Nat.log2_lt (by omega)).mpr (by omega)
  omega
end
end L2
namespace L2
open PySem PySem.Spec PyProof.Rows
open PySem.Sem (wp)
open PySem.AutoSeq1 (wpAny_loadPart')
section
variable {prog:Program} {w:World} {A:Around} {E:Value→Shared→Prop} {s:Shared}
end
end L2
namespace L2
open PySem PySem.Spec PyProof.Rows
section
variable {K:PySem.W.Frag} {σ:St} {H:Hp}
end
def oA (xs:List V) (lo hi:Option Int) (c:Int):List V:=
  (sliceRange (sliceBounds lo hi (some c) xs.length).1 (sliceBounds lo hi (some c) xs.length).2.1 (sliceBounds lo hi (some c) xs.length).2.2).filterMap (xs[·]?)
theorem Vals.places {xs:List V} {us:List Value} (h:Vals xs us):∀ ps:List Nat,Vals (ps.filterMap (xs[·]?)) (ps.filterMap (us[·]?))
  | []=>.nil
  | p :: ps=>by
    have ih:=Vals.places h ps
    have hl:=h.length
    rw [List.filterMap_cons,List.filterMap_cons]
    cases e:xs[p]? with
    | none=>
      have:us[p]?=none:=by rw [List.getElem?_eq_none_iff] at e ⊢;omega
      rw [this]
      exact ih
    | some x=>
      obtain ⟨u,hu,r⟩:=h.get e
      rw [hu]
      exact .cons r ih
def Nm (K:PySem.W.Frag) (te:TE) (tl th ts:TO):TE:=fun σ H Q=>te σ H fun x H1=>tl σ H1 fun l H2=>th σ H2 fun u H3=>ts σ H3 fun c H4=>∃ a xs c',x= .ref a∧c=some c'∧c'≠0∧SqL K H4 a xs∧(oA xs l u c').length≤sizeLine∧∀ q,H4 q=none→Q (.ref q) (upd H4 q (.lst (oA xs l u c')))
section
variable {X:Cx} {e:Expr} {te:TE} {lo hi:Option Expr} {st:Expr} {tl th ts:TO} {pos p2:Pos}
theorem De {K:PySem.W.Frag} (hK:X.K=K) (he:JE X e te) (hl:JO X lo tl) (hu:JO X hi th) (hs:JO X (some st) ts):JE X (.Subscript e (.Slice lo hi (some st) p2) pos) (Nm K te tl th ts):=⟨by
  subst hK
  intro pins s σ H Q I h
  refine Subscript_ (dF (he.run pins s σ H _ I h) fun v s1 qq0=>?_)
  obtain ⟨x,H1,I1,r1,q1⟩:=qq0
  refine wpAny_Slice (dF (hl.run pins s1 σ H1 _ I1 q1) fun vl s2 ⟨l,H2,I2,pl,q2⟩=>dF (hu.run pins s2 σ H2 _ I2 q2) fun vu s3 ⟨u,H3,I3,pu,q3⟩=>dF (hs.run pins s3 σ H3 _ I3 q3) fun vc s4 qq0=>?_)
  obtain ⟨c,H4,I4,pc,q4⟩:=qq0
  obtain ⟨a,xs,c',rfl,rfl,hc0,hq,hz,q⟩:=q4
  cases r1
  have I5:Inv X pins σ H4 {s4 with heap:=s4.heap.push {cls:=.type "slice",data:=.fields #[vl,vu,vc]}}:=I4.kept (t':=s4.toks) fun b ob q=>Heap.get?_push_of_some _ q
  obtain ⟨its,rv,p,hz2⟩:=I5.list hq
  have hlen:its.toArray.size=xs.length:=by rw [List.size_toArray];exact rv.length.symm
  show wpAny (model X.prog X.w) X.A (subscriptTail e (.Slice lo hi (some st) p2) (.ref a) (.ref s4.heap.objs.size)) (EP X pins σ Q) X.xe _
  refine tail_any (T:="list") (ops:=[.ref a,.ref s4.heap.objs.size]) p.isList.typeIs list_getitem_lookup ?_ (by with_unfolding_all rfl)
  refine wpAny_getItem_list_slice p.isList (Heap.IsSliceOf.new ..) pl pu pc (fun z=>hc0 (Option.some.inj z)) ?_ (by rw [hlen];exact hz2)
  refine ⟨.ref _,_,I5.laid (t':=s4.toks) (o:=.lst (oA xs l u c')) (fun b ob q=>Heap.get?_push_of_some _ q) (Nat.le_refl _) ?_,rfl,q _ (I5.hok.fresh (Nat.le_refl _))⟩
  have e1:slicePick its.toArray l u (some c')=((sliceRange (sliceBounds l u (some c') xs.length).1 (sliceBounds l u (some c') xs.length).2.1 (sliceBounds l u (some c') xs.length).2.2).filterMap (its[·]?)).toArray:=by
    unfold slicePick
    rw [hlen]
    simp
  rw [e1]
  exact ⟨hz,_,0,rv.places _,Heap.get?_push_size _ rfl⟩⟩
end
theorem G7 {K:PySem.W.Frag} {σ:St} {H:Hp} {Q:VK} {te:TE} {tl th ts:TO} (h:te σ H fun x H1=>tl σ H1 fun l H2=>th σ H2 fun u H3=>ts σ H3 fun c H4=>∃ a xs c',x= .ref a∧c=some c'∧c'≠0∧SqL K H4 a xs∧(oA xs l u c').length≤sizeLine∧∀ q,H4 q=none→Q (.ref q) (upd H4 q (.lst (oA xs l u c')))):Nm K te tl th ts σ H Q:=h
theorem yd (xs:List V):oA xs none none (-1)=xs.reverse:=by
  have e:∀ n:Nat,sliceRange (sliceBounds none none (some (-1)) n).1 (sliceBounds none none (some (-1)) n).2.1 (sliceBounds none none (some (-1)) n).2.2=(List.range n).map fun k=>n - 1 - k:=fun n=>by
    show sliceRange ((n:Int) - 1) (-1) (-1)=_
    unfold sliceRange
    rw [if_neg (by decide)]
    have ec:(if (n:Int) - 1 > -1 then ((n:Int) - 1 - -1 - -1 - 1) / (- -1) else 0).toNat=n:=by
      by_cases h:(n:Int) - 1 > -1
      · rw [if_pos h]
        have:((n:Int) - 1 - -1 - -1 - 1) / (- -1)=n:=by
          rw [show (- -1:Int)=1 from rfl,Int.ediv_one];omega
        rw [this];simp
      · rw [if_neg h]
        show 0=n
        omega
    show List.map _ (List.range (if (n:Int) - 1 > -1 then ((n:Int) - 1 - -1 - -1 - 1) / (- -1) else 0).toNat)=_
    rw [ec]
    refine List.map_congr_left fun k hk=>?_
    have:=List.mem_range.mp hk
    omega
  unfold oA
  rw [e,List.filterMap_map]
  have e2:((List.range xs.length).filterMap ((fun x=>xs[x]?) ∘ fun k=>xs.length - 1 - k))=(List.range xs.length).filterMap (fun k=>xs.reverse[k]?):=by
    have gen:∀ (l:List Nat) (f g:Nat→Option V),(∀ k∈l,f k=g k)→l.filterMap f=l.filterMap g:=fun l f g h=>by
      induction l with
      | nil=>rfl
      | cons a l ih=>rw [List.filterMap_cons,List.filterMap_cons,h a (by simp),ih fun k hk=>h k (by simp [hk])]
    refine gen _ _ _ fun k hk=>?_
    have:=List.mem_range.mp hk
    show xs[xs.length - 1 - k]?=xs.reverse[k]?
    rw [List.getElem?_reverse (by omega)]
  rw [e2]
  have key:∀ ys:List V,(List.range ys.length).filterMap (fun k=>ys[k]?)=ys:=fun ys=>by
    induction ys with
    | nil=>rfl
    | cons y ys ih=>
      rw [List.length_cons,List.range_succ_eq_map,List.filterMap_cons,List.filterMap_map]
      exact congrArg (y :: ·) ih
  have k2:=key xs.reverse
  rw [List.length_reverse] at k2
  exact k2
end L2
namespace L2
open PySem PySem.Spec PyProof.Rows
end L2
namespace L2
open PySem PySem.Spec PyProof.Rows
open PySem.Sem (wp)
open PySem.AutoSeq1 (wpAny_loadPart')
section
variable {prog:Program} {w:World} {A:Around} {E:Value→Shared→Prop} {s:Shared}
theorem rH {it l:Addr} {i:Nat} {items:Array Value} {x:Value} {Q:Value→Shared→Prop} (hit:s.heap.IsRevIter it l (i:Int)) (hl:s.heap.IsList l items) (hx:items[i]?=some x)
    (hQ:∀ h',h'.IsRevIter it l ((i:Int) - 1)→Heap.SameBut it s.heap h'→Q x {s with heap:=h'}):wpAny (model prog w) A (Builtin.SmallTypes.nextOf (.ref it)) Q E s:=by
  obtain ⟨o,ho,hc,hd⟩:=id hit
  obtain ⟨ol,hol,_,nl,hdl⟩:=hl
  unfold Builtin.SmallTypes.nextOf
  refine wpAny_bind (wpAny_callSpecial?_slot (name:=Str.ofString "__next__") hit.typeIs F.slot_lri_next
    (wpAny_call_entry F.slot_lri_next hit.typeIs F.entry_lri_next ?_ (F.args_lri_next_1 _)))
  unfold Builtin.«list_reverseiterator.__next__»
  refine wpAny_bind (wpAny_of_eq (a:=(Value.ref it,[])) rfl ?_)
  try dsimp only
  refine wpAny_bind (wpAny_field ho hd (x:=rawInt (i:Int)) rfl ?_)
  show wpAny _ _ (if (i:Int) < 0 then _ else _) _ _ s
  rw [if_neg (by omega)]
  show wpAny _ _ (field (.ref it) 0 >>=_) _ _ s
  refine wpAny_bind (wpAny_field ho hd (x:=.ref l) rfl ?_)
  show wpAny _ _ (seqItems? (.ref l) >>=_) _ _ s
  refine wpAny_bind (wpAny_seqItems hol hdl ?_)
  simp only [Int.toNat_natCast,hx]
  refine wpAny_bind (wpAny_setField ho hd (by simp) ?_)
  first
  | refine wpAny_pure ⟨x,rfl,wpAny_pure (hQ _ ?_ (Heap.SameBut.update ..))⟩
  | refine wpAny_bind (wpAny_pure (wpAny_pure ⟨x,rfl,wpAny_pure (hQ _ ?_ (Heap.SameBut.update ..))⟩))
  exact ⟨_,Heap.get?_update_self _ ho (Obj.isFreed_of_fields (Obj.data_mapFields hd _)),(Obj.cls_mapFields ..).trans hc,by
    rw [Obj.data_mapFields hd];simp⟩
theorem mQ {it l:Addr} {Q:Value→Shared→Prop} (hh:A.handled=none) (hit:s.heap.IsRevIter it l (-1))
    (hE:∀ h' e,Heap.ExtBut it s.heap h'→(∃ o,h'.get? e=some o∧o.cls= .type "StopIteration")→E (.ref e) {s with heap:=h'}):wpAny (model prog w) A (Builtin.SmallTypes.nextOf (.ref it)) Q E s:=by
  obtain ⟨o,ho,hc,hd⟩:=id hit
  unfold Builtin.SmallTypes.nextOf
  refine wpAny_bind (wpAny_callSpecial?_slot (name:=Str.ofString "__next__") hit.typeIs F.slot_lri_next
    (wpAny_call_entry F.slot_lri_next hit.typeIs F.entry_lri_next ?_ (F.args_lri_next_1 _)))
  unfold Builtin.«list_reverseiterator.__next__»
  refine wpAny_bind (wpAny_of_eq (a:=(Value.ref it,[])) rfl ?_)
  try dsimp only
  refine wpAny_bind (wpAny_field ho hd (x:=rawInt (-1)) rfl ?_)
  show wpAny _ _ (if (-1:Int) < 0 then _ else _) _ _ s
  rw [if_pos (by decide)]
  refine wpAny_bind (wpAny_rule ?_)
  first
  | show wpAny _ _ (newExc (.type "StopIteration") [] >>=_) _ _ _
  | (refine wpAny_bind ?_;show wpAny _ _ (newExc (.type "StopIteration") [] >>=_) _ _ _)
  refine wpAny_bind ?_
  simp only [newExc,newTuple]
  refine wpAny_bind (wpAny_newObj_type ?_ (by size_fits))
  refine wpAny_bind (m:=firstArgMember _ _) (wpAny_of_eq (a:=Value.none) (by first | rfl | (simp only [firstArgMember];rfl)) ?_)
  refine wpAny_newObj_type ?_ (by size_fits)
  simp only [raiseNew]
  refine wpAny_bind (wpAny_handled ?_)
  first | rw [show A.in1.handled=none from hh] | rw [hh]
  refine wpAny_bind (wpAny_pure (wpAny_throw ?_))
  exact hE _ _ (((Heap.ExtBut.refl _ _).push _).push _) ⟨_,Heap.get?_push_size _ rfl,rfl⟩
end
theorem mR (it l:Addr) (i:Int) (dct:Option Addr) (sl:Array (Option Value)):
    Meets (Builtin.«enumerate.__new__» ⟨[.type "enumerate",.ref it],[]⟩) (fun _ R s=>s.heap.get? it=some {cls:=.type "list_reverseiterator",dict:=dct,data:=.fields #[.ref l,rawInt i],slots:=sl}∧
      R (.ok (.ret (.ref s.heap.objs.size)))
        {s with heap:=s.heap.push {cls:=.type "enumerate",data:=.fields #[.none,.bool false,.ref it,rawInt 0,.none,.none]}}):=
  .of_wp fun prog w A R s h=>by
    obtain ⟨hp,g,d,tk,os⟩:=s;obtain ⟨hl,h⟩:=h
    have hsub:=sub_enumerate
    have hL:Heap.IsRevIter (Shared.heap ⟨hp,g,d,tk,os⟩) it l i:=⟨_,hl,rfl,rfl⟩
    wp_walk using wpAny_loadPart' hl
    refine wpAny_stack_any fun st=>wpAny_pure ?_
    split
    · rename_i c _ _ _ _ _
      cases (c == Value.type "enumerate")
      · wp_walk using wpAny_loadPart' hl,wpAny_pyIter_revIter hL
        exact ⟨_,rfl,h⟩
      · wp_walk using wpAny_loadPart' hl,wpAny_pyIter_revIter hL
        exact ⟨_,rfl,h⟩
    · wp_walk using wpAny_loadPart' hl,wpAny_pyIter_revIter hL
      exact ⟨_,rfl,h⟩
end L2
namespace L2
open PySem PySem.Spec PyProof.Rows
section
variable {prog:Program} {w:World} {A:Around} {E:Value→Shared→Prop} {s:Shared}
theorem oE {it l:Addr} {i:Int} {Q:Value→Shared→Prop} (hL:s.heap.IsRevIter it l i)
    (h:∀ h',IsEnum h' s.heap.objs.size it 0 .none→(∀ b o,s.heap.get? b=some o→h'.get? b=some o)→Q (.ref s.heap.objs.size) {s with heap:=h'}):
    wpAny (model prog w) A (call (.type "enumerate") [.ref it]) Q E s:=by
  obtain ⟨⟨c,dct,dt,sl⟩,hl,hc,hd⟩:=hL
  replace hc:c= .type "list_reverseiterator":=hc
  replace hd:dt= .fields #[.ref l,rawInt i]:=hd
  subst hc hd
  refine callType_new F.called_enumerate (by decide) (F.typeCall_enumerate_1 _) (F.newCall_enumerate_1 _) (fun obj=>F.args_object_init_2 obj _) F.entry_enumerate_new
    (mR it l i dct sl) ⟨hl,?_⟩
  show _∧_
  have he:IsEnum (s.heap.push {cls:=.type "enumerate",data:=.fields #[.none,.bool false,.ref it,rawInt 0,.none,.none]}) s.heap.objs.size it 0 .none:=Heap.get?_push_size _ rfl
  exact ⟨⟨_,he,rfl⟩,h _ he fun b o x=>Heap.get?_push_of_some _ x⟩
end
theorem Df {prog:Program} {w:World} {A:Around} (hh:A.handled=none) (it l:Addr) (hne:l≠it) (items:Array Value):
    Draws prog w A it [it,l] items.size (fun i v=>items[items.size - 1 - i]?=some v) (fun i h=>i≤items.size∧h.IsRevIter it l ((items.size:Int) - 1 - (i:Int))∧h.IsList l items) where
  live:=fun _ _ st=>let ⟨o,ho,_⟩:=st.2.1;⟨o,ho⟩
  frame:=fun _ _ _ x hk=>⟨x.1,x.2.1.at fun o e=>hk it (by simp) o e,x.2.2.at fun o e=>hk l (by simp) o e⟩
  item:=fun i s Q E hi x hQ=>by
    have e:(items.size:Int) - 1 - (i:Int)=((items.size - 1 - i:Nat):Int):=by omega
    have hit:=x.2.1
    rw [e] at hit
    have hx:items[items.size - 1 - i]?=some (items[items.size - 1 - i]'(by omega)):=Array.getElem?_eq_getElem (by omega)
    refine rH hit x.2.2 hx fun h' hit' hs'=>?_
    have e2:((items.size - 1 - i:Nat):Int) - 1=(items.size:Int) - 1 - ((i+1:Nat):Int):=by omega
    rw [e2] at hit'
    exact hQ _ h' s.toks hx ⟨hi,hit',x.2.2.at fun o eo=>(hs'.2 l hne).trans eo⟩ hs'
  done:=fun s Q E x hE=>by
    have e:(items.size:Int) - 1 - (items.size:Int)= -1:=by omega
    have hit:=x.2.1
    rw [e] at hit
    exact mQ hh hit hE
def Dg (K:PySem.W.Frag) (a:Addr) (n:Nat):It:=
  ⟨fun i H=>i < n∧∃ xs,SqL K H a xs∧xs.length=n,
   fun i H v H'=>∃ T x,H T=none∧v= .ref T∧(∀ xs,SqL K H a xs→xs[n - 1 - i]?=some x)∧H'=upd H T (.tup [.int i,x]),
   fun i _=>i=n⟩
theorem zJ {P:Program} {w:World} {K:PySem.W.Frag} {elts:List Expr} {k n:Nat} {pos:Pos} {e it a:Addr} (hne:e≠it) (hea:e≠a) (hai:a≠it):
    Turn P w K (.Tuple elts k pos) (Dg K a n) [e,it] e (fun i h=>(∃ old,IsEnum h e it i old)∧i≤n∧h.IsRevIter it a ((n:Int) - 1 - (i:Int))) where
  mem:=by simp
  obj:=fun i h st c hc=>by
    obtain ⟨⟨old,he⟩,_,⟨o1,e1,c1,d1⟩⟩:=st
    simp only [List.mem_cons,List.mem_nil_iff,or_false] at hc
    rcases hc with rfl | rfl
    · exact ⟨_,he,fun v z=>by cases z⟩
    · exact ⟨_,e1,fun v z=>by rw [d1] at z;cases z⟩
  keep:=fun i h h' st kk=>by
    obtain ⟨⟨old,he⟩,hi,h1⟩:=st
    exact ⟨⟨old,kk e (by simp) _ he⟩,hi,h1.at fun o q=>kk it (by simp) o q⟩
  item:=by
    intro X hP hw hK hc i pins s σ H E I hf st hg
    subst hP hw hK
    obtain ⟨⟨old,he⟩,hi,h1⟩:=st
    obtain ⟨hlt,xs,hq,hlen⟩:=hg
    obtain ⟨its,rv,p,_⟩:=I.list hq
    have l1:=rv.length
    have sz:its.toArray.size=n:=by rw [List.size_toArray];omega
    obtain ⟨x,hx⟩:∃ x,xs[n - 1 - i]?=some x:=⟨_,List.getElem?_eq_getElem (by omega)⟩
    obtain ⟨u,hu,ru⟩:=rv.get hx
    have h1':s.heap.IsRevIter it a ((its.toArray.size:Int) - 1 - (i:Int)):=by rw [sz];exact h1
    refine wpAny_pyNext_enum_itemD (Df (A:=X.A.in1) (I.ok.hd hc) it a hai its.toArray) he ⟨by omega,h1',p.isList⟩ (by omega) hne (by simp [hne,hea]) fun x' h' tk hx' a1 a2 a3 a4 hk=>?_
    have ex:x'=u:=by
      have h2:its[its.length - 1 - i]?=some x':=by simpa using hx'
      rw [show its.length - 1 - i=n - 1 - i by omega,hu] at h2
      exact (Option.some.inj h2).symm
    subst ex
    refine ⟨_,rfl,wpAny_letOwnedTupleGo_enum a1 fun h'' a1' sb=>?_⟩
    have lt:∀ {c o},s.heap.get? c=some o→s.heap.objs.size≠c:=fun e=>Nat.ne_of_gt (Heap.lt_size e)
    have lti:s.heap.objs.size≠it:=by obtain ⟨o,q,_⟩:=h1;exact lt q
    have isT:h''.IsTuple s.heap.objs.size #[.int i tk,x']:=⟨_,sb.extBut _ _ (lt he) a3,rfl,_,rfl⟩
    have kall:∀ b o,b ∉ [e,it]→s.heap.get? b=some o→h''.get? b=some o:=fun b o hb q=>by
      simp only [List.mem_cons,List.mem_nil_iff,or_false,not_or] at hb
      exact sb.extBut _ _ hb.1 (hk b o hb.1 hb.2 q)
    have hTn:H s.heap.objs.size=none:=I.hok.fresh (Nat.le_refl _)
    refine ⟨.ref s.heap.objs.size,_,I.newtup (tk:=tk+1) hf (Nat.le_refl _) kall isT (xs:=[.int i,x]) (.cons ⟨_,rfl⟩ (.cons ru .nil)) (by simp;decide),rfl,⟨_,x,hTn,rfl,fun zs hs=>by rw [I.list_inj hs hq];exact hx,rfl⟩,?_,fun b hb=>?_⟩
    · refine ⟨⟨_,a1'⟩,hlt,?_⟩
      have:=a2.2.1
      rw [sz] at this
      exact this.at fun o q=>sb.extBut _ _ (Ne.symm hne) q
    · have:s.heap.objs.size≠b:=by
        simp only [List.mem_cons,List.mem_nil_iff,or_false] at hb
        rcases hb with rfl | rfl
        · exact lt he
        · exact lti
      rw [aD (Ne.symm this)]
      exact (hf b hb).1
  done:=by
    intro X hP hw hK hc i pins s σ H E I hf st hg
    subst hP hw hK
    obtain ⟨⟨old,he⟩,hi,h1⟩:=st
    have hin:i=n:=hg
    subst hin
    rw [show (i:Int) - 1 - (i:Int)= -1 by omega] at h1
    have ht:s.TypeIs (.ref e) "enumerate":=⟨_,he,rfl⟩
    unfold pyNext
    refine wpAny_bind (wpAny_attempt (wpAny_callSpecial?_slot (name:=Str.ofString "__next__") ht F.slot_enumerate_next
      (wpAny_call_entry F.slot_enumerate_next ht F.entry_enumerate_next ?_ (F.args_enumerate_next_1 _))))
    show wpAny _ _ (field (.ref e) 2 >>=_) _ _ _
    refine wpAny_bind (wpAny_field he rfl (x:=.ref it) rfl ?_)
    refine wpAny_bind (mQ (A:=X.A.in1) (I.ok.hd hc) h1 fun h' x he' hx'=>?_)
    obtain ⟨o,ho,hc'⟩:=hx'
    refine wpAny_bind (wpAny_isInstance (T:="StopIteration") (b:=true) ⟨o,ho,hc'⟩ isSubtype_stop ?_)
    refine wpAny_pure ⟨rfl,I.only (tk:=s.toks) hf fun b o hb q=>?_⟩
    simp only [List.mem_cons,List.mem_nil_iff,or_false,not_or] at hb
    exact he' b o hb.2 q
  self:=fun _ _ _ _ _ st h=>let ⟨⟨_,he⟩,_⟩:=st;wpAny_pyIter_enum he h
end L2
namespace L2
open PySem PySem.Spec PyProof.Rows
def ye (K:PySem.W.Frag) (ta:TE):TI:=fun σ H R=>ta σ H fun x H1=>∃ l xs,x= .ref l∧SqL K H1 l xs∧R (Dg K l xs.length) H1
theorem zK {X:Cx} {K:PySem.W.Frag} {a:Expr} {ta:TE} {elts:List Expr} {k:Nat} {tp p p2 p3 pos:Pos} (hK:X.K=K) (hg:Gl X "enumerate") (hm:X.mg "enumerate"=none) (hg2:Gl X "reversed") (hm2:X.mg "reversed"=none) (ha:JE X a ta) (h:autoParam (notStar a=true) L2.auto4._auto_1):
    JI X (.Tuple elts k tp) (.Call (.Name "enumerate" p) [.Call (.Name "reversed" p2) [a] [] p3] [] pos) (ye K ta):=⟨by
  subst hK
  intro pins s σ H R I hq
  refine Call_ (iH I hg hm o9 (PyProof.Rows.callWith_type1 (arg1 rfl (wpAny_Call_Name_kw (iH I hg2 hm2 mJ (PyProof.Rows.callWith_type1 (arg1 h (dF (ha.run pins s σ H _ I hq) fun u s1 qq0=>?_)) (bV h) rfl)))) rfl rfl))
  obtain ⟨x,H1,I1,rx,l,xs,ex,hx,q⟩:=qq0
  subst ex
  cases rx
  obtain ⟨its,rv,ht,hz⟩:=I1.list hx
  have hlen:=rv.length
  have lt:l < s1.heap.objs.size:=by obtain ⟨o,ho,_⟩:=ht.isList;exact Heap.lt_size ho
  refine call_reversed_list ht.isList ?_
  have e0:(s1.heap.push (PySem.revObj l ((its.toArray.size:Int) - 1))).get? s1.heap.objs.size=some (PySem.revObj l ((its.toArray.size:Int) - 1)):=Heap.get?_push_size _ rfl
  have s0:(s1.heap.push (PySem.revObj l ((its.toArray.size:Int) - 1))).objs.size=s1.heap.objs.size+1:=Heap.size_push ..
  have k0:∀ b o,s1.heap.get? b=some o→(s1.heap.push (PySem.revObj l ((its.toArray.size:Int) - 1))).get? b=some o:=fun b o q=>Heap.get?_push_of_some _ q
  refine oE (it:=s1.heap.objs.size) (l:=l) (i:=(its.toArray.size:Int) - 1) ⟨_,e0,rfl,rfl⟩ fun h' z1 hk=>?_
  have z1':IsEnum h' (s1.heap.objs.size+1) s1.heap.objs.size 0 .none:=by rw [← s0];exact z1
  have z2:h'.IsRevIter s1.heap.objs.size l ((xs.length:Int) - 1 - ((0:Nat):Int)):=⟨_,hk _ _ e0,rfl,by
    show Data.fields #[.ref l,rawInt ((its.toArray.size:Int) - 1)]=_
    rw [show ((its.toArray.size:Int) - 1)=(xs.length:Int) - 1 - ((0:Nat):Int) by rw [List.size_toArray];omega]⟩
  have J1:Inv X pins σ H1 {s1 with heap:=h'}:=I1.kept (t':=s1.toks) fun b o q=>hk b o (k0 b o q)
  rw [s0]
  refine wpAny_pyIter_enum z1' ?_
  have key2:∀ n l:Nat,l < n→n+1≠l∧l≠n:=fun n l h=>⟨by omega,by omega⟩
  refine ⟨s1.heap.objs.size+1,_,_,_,H1,rfl,J1,zJ (n:=xs.length) (Nat.succ_ne_self _) (key2 _ _ lt).1 (key2 _ _ lt).2,⟨⟨_,z1'⟩,Nat.zero_le _,z2⟩,fun b hb=>?_,q⟩
  have hb':s1.heap.objs.size≤b:=by
    simp only [List.mem_cons,List.mem_nil_iff,or_false] at hb
    have key:∀ n c:Nat,(c=n+1∨c=n)→n≤c:=fun n c h=>by omega
    exact key _ _ hb
  exact I1.fpOk hb' (I1.hok.fresh hb')⟩
section
variable {K:PySem.W.Frag} {σ:St} {H:Hp}
theorem m7 {ta:TE} {R:It→Hp→Prop} (h:ta σ H fun x H1=>∃ l xs,x= .ref l∧SqL K H1 l xs∧R (Dg K l xs.length) H1):ye K ta σ H R:=h
theorem Dh {a:Addr} {xs:List V} {g:TG} {tb:TS} {D:Ends} (Pv:Nat→St→Hp→Prop) (h0:Pv 0 σ H) (hq:∀ i σ H,i≤xs.length→Pv i σ H→SqL K H a xs)
    (hs:∀ i σ H T x,i < xs.length→xs[xs.length - 1 - i]?=some x→Pv i σ H→H T=none→g (.ref T) σ (upd H T (.tup [.int i,x])) fun σ2 H2=>tb {D with nx:=Pv (i+1),ct:=Pv (i+1),bk:=D.nx} σ2 H2) (hd:∀ σ H,Pv xs.length σ H→D.nx σ H):
    ∃ W:Nat→Nat→St→Hp→Prop,(∃ m,W 0 m σ H)∧∀ i m σ H,W i m σ H→
      ((Dg K a xs.length).stop i H∧D.nx σ H)∨((Dg K a xs.length).go i H∧∃ N:St→Hp→Prop,(∀ σ' H',N σ' H'→∃ m',m' < m∧W (i+1) m' σ' H')∧∀ x H',(Dg K a xs.length).yld i H x H'→g x σ H' fun σ2 H2=>tb {D with nx:=N,ct:=N,bk:=D.nx} σ2 H2):=by
  refine ⟨fun i m σ H=>m=xs.length - i∧i≤xs.length∧Pv i σ H,⟨xs.length,by simp,Nat.zero_le _,h0⟩,?_⟩
  rintro i m σ H ⟨rfl,hi,p⟩
  have q1:=hq i σ H hi p
  by_cases hlt:i < xs.length
  · refine .inr ⟨⟨hlt,xs,q1,rfl⟩,Pv (i+1),fun σ' H' p'=>⟨xs.length - (i+1),by omega,rfl,hlt,p'⟩,fun x H' y=>?_⟩
    obtain ⟨T,u,hT,e1,e2,e4⟩:=y
    subst e1 e4
    exact hs i σ H T u hlt (e2 xs q1) p hT
  · have e:i=xs.length:=by omega
    subst e
    exact .inl ⟨rfl,hd σ H p⟩
end
end L2
namespace L2
open PySem PySem.Spec PyProof.Rows
structure Sml (d:PyData):Prop where
  sh:d.showable=true
  dp:d.depth≤58
  lv:d.leavesShort 60=true
  bk:d.bulk≤10000
end L2
namespace L2
open PySem PySem.Spec PyProof.Rows
open PySem.Sem (wp)
section
variable {X:Cx} {pos:Pos} {σ:St} {H:Hp} {Q:VK} {K:PySem.W.Frag}
end
end L2
namespace L2
open PySem PySem.Spec PyProof.Rows
end L2
namespace L2
open PySem PySem.Spec PyProof.Rows
structure Np (k:Nat) (A:Around):Prop where
  dp:A.depth+3*k+5 < recursionLimit
  un:A.units+16*k+200 < cLine
  gd:A.guards=some []
structure FnU (P:Program) (w:World) (K:PySem.W.Frag) (mg:Str→Option Value) (base:Heap) (k:Nat) (f:Addr) (fd:FuncData) (ps:List Str) (sp:Sp):Prop where
  len:∀ vs H Q E,sp vs H Q E→vs.length=ps.length
  run:∀ (A:Around) (outer:List Env) (s:Shared) (H:Hp) (args:Args) (us:List Value) (vs:List V) (Q:VK) (E:XK),Np k A→Env0 P w K mg base A outer s H→BindsTo s fd args (ps.zip us)→Vals vs us→sp vs H Q E→
    codeAny (model P w) A (.call (.ref f) args) (CR zb outer P w H s Q E) s
end L2
namespace L2
open PySem PySem.Spec PyProof.Rows
section
variable {prog:Program} {w:World} {A:Around} {E:Value→Shared→Prop} {s:Shared} {K:PySem.W.Frag} {x C:Addr} {ox:Obj} {od:Option Obj}
end
section
variable {prog:Program} {w:World} {A:Around} {K:PySem.W.Frag} {D:Addr} {E:Value→Shared→Prop}
end
structure X0 (K:PySem.W.Frag) (mg:Str→Option Value) (x:Str):Prop where
  c:Qj K mg x
  ini:PySem.W.findIn K (.ref (aK mg x)) "__init__"=some (some (.builtin "ValueError.__init__"))
  kp:PySem.W.keepIn K (.ref (aK mg x))=true
section
variable {X:Cx} {x:Str} {p pos:Pos} {e:Expr} {es:List Expr} {t:TA}
end
end L2
namespace L2
open PySem PySem.Spec PyProof.Rows
open PySem.Sem (wp)
structure qd (z TI TO i1 i2:Addr) (fp1 fp2:List Addr):Prop where
  TIz:TI≠z
  TOz:TO≠z
  i1z:i1≠z
  i2z:i2≠z
  TITO:TI≠TO
  TIi1:TI≠i1
  TIi2:TI≠i2
  TOi1:TO≠i1
  TOi2:TO≠i2
  i12:i1≠i2
  f1:∀ b∈fp1,b≠z∧b≠TO∧b≠i2
  f2:∀ b∈fp2,b≠z∧b≠TO∧b≠i1
section
variable {prog:Program} {w:World} {A:Around} {E:Value→Shared→Prop} {s:Shared} {z TI TO i1 i2:Addr} {fp1 fp2:List Addr} {n1 n2 k1 k2:Nat} {P1 P2:Nat→Value→Prop} {St1 St2:Nat→Heap→Prop} {a b:Value}
theorem Di {Q:Value→Shared→Prop} (D1:Draws prog w A i1 fp1 n1 P1 St1) (D2:Draws prog w A i2 fp2 n2 P2 St2) (D:qd z TI TO i1 i2 fp1 fp2)
    (hz:IsZip s.heap z TI TO .none) (hTI:IsPair s.heap TI (.ref i1) (.ref i2)) (hTO:IsPair s.heap TO a b) (s1:St1 k1 s.heap) (s2:St2 k2 s.heap) (l1:k1 < n1) (l2:k2 < n2)
    (hQ:∀ x y h' tk,P1 k1 x→P2 k2 y→IsZip h' z TI TO (rawInt s.heap.objs.size)→IsPair h' TO x y→St1 (k1+1) h'→St2 (k2+1) h'→IsPair h' s.heap.objs.size x y→
      (∀ c o,c≠z→c≠TO→c≠i1→c≠i2→s.heap.get? c=some o→h'.get? c=some o)→Q (.ref s.heap.objs.size) {s with heap:=h',toks:=tk}):
    wpAny (model prog w) A (Builtin.«zip.__next__» ⟨[.ref z],[]⟩) (fun fin s'=>∃ v,fin= .done (.ret v)∧Q v s') E s:=by
  have sb:∀ {x:Addr} {h h':Heap},Heap.SameBut x h h'→∀ c o,c≠x→h.get? c=some o→h'.get? c=some o:=fun g c o n e=>g.extBut _ _ n e
  show wpAny _ _ (field (.ref z) 2 >>=_) _ _ _
  refine wpAny_bind (wpAny_field hz rfl (x:=.bool false) rfl ?_)
  show wpAny _ _ (field (.ref z) 3 >>=_) _ _ _
  refine wpAny_bind (wpAny_field hz rfl (x:=.ref TI) rfl (wpAny_bind (wpAny_seqItems hTI rfl ?_)))
  show wpAny _ _ (Builtin.SmallTypes.ownedTupleIsFree (.ref z) >>=_) _ _ _
  unfold Builtin.SmallTypes.ownedTupleIsFree
  refine wpAny_bind (wpAny_bind (wpAny_field hz rfl (x:=.none) rfl (wpAny_pure ?_)))
  simp only [if_true]
  refine wpAny_bind (wpAny_rule (wpAny_bind (wpAny_field hz rfl (x:=.ref TO) rfl ?_)))
  refine wpAny_bind (wpAny_setField_rec hz (by simp) fun g1 y1 e1=>?_)
  replace y1:IsZip g1 z TI TO .ellipsis:=y1
  refine wpAny_bind ?_
  simp only [List.zipIdx_cons,List.zipIdx_nil,List.forIn_cons,List.forIn_nil]
  refine wpAny_bind (wpAny_bind (wpAny_onRaise ?_))
  show wpAny _ _ (Builtin.SmallTypes.nextOf (.ref i1) >>=_) _ _ _
  have t1:St1 k1 g1:=D1.frame _ _ _ s1 fun c hc o e=>sb e1 c o (D.f1 c hc).1 e
  have t2:St2 k2 g1:=D2.frame _ _ _ s2 fun c hc o e=>sb e1 c o (D.f2 c hc).1 e
  refine wpAny_bind (D1.item k1 _ _ _ l1 t1 fun x g2 tk px u1 e2=>wpAny_pure ?_)
  have p2:IsPair g2 TO a b:=sb e2 _ _ D.TOi1 (sb e1 _ _ D.TOz hTO)
  refine wpAny_bind (wpAny_seqItems p2 rfl (wpAny_bind (wpAny_updateSeq_pair p2 fun g3 p3 e3=>?_)))
  replace p3:IsPair g3 TO x b:=p3
  refine wpAny_bind (wpAny_letGo (wpAny_pure ?_))
  refine wpAny_bind (wpAny_bind (wpAny_onRaise ?_))
  show wpAny _ _ (Builtin.SmallTypes.nextOf (.ref i2) >>=_) _ _ _
  have t3:St2 k2 g3:=D2.frame _ _ _ t2 fun c hc o e=>sb e3 c o (D.f2 c hc).2.1 (sb e2 c o (D.f2 c hc).2.2 e)
  refine wpAny_bind (D2.item k2 _ _ _ l2 t3 fun y g4 tk2 py u2 e4=>wpAny_pure ?_)
  have p4:IsPair g4 TO x b:=sb e4 _ _ D.TOi2 p3
  refine wpAny_bind (wpAny_seqItems p4 rfl (wpAny_bind (wpAny_updateSeq_pair p4 fun g5 p5 e5=>?_)))
  replace p5:IsPair g5 TO x y:=p5
  refine wpAny_bind (wpAny_letGo (wpAny_pure (wpAny_pure ?_)))
  refine wpAny_bind (wpAny_seqItems p5 rfl (wpAny_bind (wpAny_newTuple ?_)))
  have sz:g5.objs.size=s.heap.objs.size:=by rw [e5.1,e4.1,e3.1,e2.1,e1.1]
  have z5:IsZip g5 z TI TO .ellipsis:=sb e5 _ _ D.TOz.symm (sb e4 _ _ D.i2z.symm (sb e3 _ _ D.TOz.symm (sb e2 _ _ D.i1z.symm y1)))
  have k5:∀ c o,c≠z→c≠TO→c≠i1→c≠i2→s.heap.get? c=some o→g5.get? c=some o:=fun c o c1 c2 c3 c4 e=>
    sb e5 _ _ c2 (sb e4 _ _ c4 (sb e3 _ _ c2 (sb e2 _ _ c3 (sb e1 _ _ c1 e))))
  have v1:St1 (k1+1) g5:=D1.frame _ _ _ u1 fun c hc o e=>sb e5 c o (D.f1 c hc).2.1 (sb e4 c o (D.f1 c hc).2.2 (sb e3 c o (D.f1 c hc).2.1 e))
  have v2:St2 (k2+1) g5:=D2.frame _ _ _ u2 fun c hc o e=>sb e5 c o (D.f2 c hc).2.1 e
  have zlt:z < g5.objs.size:=Heap.lt_size z5
  show wpAny _ _ (Builtin.SmallTypes.ownedTupleHandOut (.ref z) (.ref g5.objs.size) >>=_) _ _ _
  unfold Builtin.SmallTypes.ownedTupleHandOut
  have z6:IsZip (g5.push {cls:=.type "tuple",data:=.seq #[x,y]}) z TI TO .ellipsis:=Heap.get?_push_of_some _ z5
  refine wpAny_bind (wpAny_bind (wpAny_setField_rec z6 (by simp) fun g7 z7 e7=>?_))
  replace z7:IsZip g7 z TI TO (rawInt g5.objs.size):=z7
  refine wpAny_setField_rec z7 (by simp) fun g8 z8 e8=>?_
  replace z8:IsZip g8 z TI TO (rawInt g5.objs.size):=z8
  have up:∀ c o,c≠z→g5.get? c=some o→g8.get? c=some o:=fun c o c1 e=>sb e8 _ _ c1 (sb e7 _ _ c1 (Heap.get?_push_of_some _ e))
  have pT:IsPair g8 g5.objs.size x y:=sb e8 _ _ (Nat.ne_of_gt zlt) (sb e7 _ _ (Nat.ne_of_gt zlt) (Heap.get?_push_size _ rfl))
  rw [sz] at z8 pT
  refine wpAny_pure ⟨_,rfl,?_⟩
  show Q (.ref g5.objs.size) _
  rw [sz]
  exact hQ x y g8 _ px py z8 (up _ _ D.TOz p5) (D1.frame _ _ _ v1 fun c hc o e=>up c o (D.f1 c hc).1 e) (D2.frame _ _ _ v2 fun c hc o e=>up c o (D.f2 c hc).1 e) pT fun c o c1 c2 c3 c4 e=>up c o c1 (k5 c o c1 c2 c3 c4 e)
theorem G8 {Q:Fin→Shared→Prop} (D1:Draws prog w A i1 fp1 n1 P1 St1) (D:qd z TI TO i1 i2 fp1 fp2)
    (hz:IsZip s.heap z TI TO .none) (hTI:IsPair s.heap TI (.ref i1) (.ref i2)) (s1:St1 n1 s.heap)
    (hE:∀ h' e,(∀ c o,c≠z→c≠i1→s.heap.get? c=some o→h'.get? c=some o)→(∃ o,h'.get? e=some o∧o.cls= .type "StopIteration")→E (.ref e) {s with heap:=h'}):
    wpAny (model prog w) A (Builtin.«zip.__next__» ⟨[.ref z],[]⟩) Q E s:=by
  have sb:∀ {x:Addr} {h h':Heap},Heap.SameBut x h h'→∀ c o,c≠x→h.get? c=some o→h'.get? c=some o:=fun g c o n e=>g.extBut _ _ n e
  show wpAny _ _ (field (.ref z) 2 >>=_) _ _ _
  refine wpAny_bind (wpAny_field hz rfl (x:=.bool false) rfl ?_)
  show wpAny _ _ (field (.ref z) 3 >>=_) _ _ _
  refine wpAny_bind (wpAny_field hz rfl (x:=.ref TI) rfl (wpAny_bind (wpAny_seqItems hTI rfl ?_)))
  show wpAny _ _ (Builtin.SmallTypes.ownedTupleIsFree (.ref z) >>=_) _ _ _
  unfold Builtin.SmallTypes.ownedTupleIsFree
  refine wpAny_bind (wpAny_bind (wpAny_field hz rfl (x:=.none) rfl (wpAny_pure ?_)))
  simp only [if_true]
  refine wpAny_bind (wpAny_rule (wpAny_bind (wpAny_field hz rfl (x:=.ref TO) rfl ?_)))
  refine wpAny_bind (wpAny_setField_rec hz (by simp) fun g1 y1 e1=>?_)
  replace y1:IsZip g1 z TI TO .ellipsis:=y1
  refine wpAny_bind ?_
  simp only [List.zipIdx_cons,List.zipIdx_nil,List.forIn_cons,List.forIn_nil]
  refine wpAny_bind (wpAny_bind (wpAny_onRaise ?_))
  show wpAny _ _ (Builtin.SmallTypes.nextOf (.ref i1) >>=_) _ _ _
  have t1:St1 n1 g1:=D1.frame _ _ _ s1 fun c hc o e=>sb e1 c o (D.f1 c hc).1 e
  refine wpAny_bind (D1.done _ _ _ t1 fun g2 e e2 he=>?_)
  obtain ⟨oe,hoe,hce⟩:=he
  have y2:IsZip g2 z TI TO .ellipsis:=e2 _ _ D.i1z.symm y1
  have hez:e≠z:=fun x=>by subst x;rw [y2] at hoe;cases hoe;simp at hce
  exact wpAny_setField_rec y2 (by simp) fun g3 _ e3=>hE g3 e (fun c o c1 c3 x=>sb e3 _ _ c1 (e2 _ _ c3 (sb e1 _ _ c1 x))) ⟨oe,sb e3 _ _ hez hoe,hce⟩
end
abbrev Xh (h:Heap) (x:Str) (t:Tok):Heap:=h.push {cls:=.type (strIterType x),data:=.fields #[.str x t,.int 0 0]}
abbrev Xi (h:Heap) (x:Str) (t:Tok) (l:Addr):Heap:=(Xh h x t).push {cls:=.type "list_iterator",data:=.fields #[.ref l,.int 0 0]}
abbrev Xj (h:Heap) (x:Str) (t:Tok) (l:Addr):Heap:=(Xi h x t l).push {cls:=.type "tuple",data:=.seq #[.ref h.objs.size,.ref (Xh h x t).objs.size]}
abbrev Xk (h:Heap) (x:Str) (t:Tok) (l:Addr):Heap:=(Xj h x t l).push {cls:=.type "tuple",data:=.seq #[.none,.none]}
abbrev R8 (h:Heap) (x:Str) (t:Tok) (l:Addr):Heap:=(Xk h x t l).push {cls:=.type "zip",data:=.fields #[.none,.bool false,.bool false,.ref (Xi h x t l).objs.size,.ref (Xj h x t l).objs.size]}
theorem rJ (x:Str) (t:Tok) (l2:Addr) (ys:Array Value):
    Meets (Builtin.«zip.__new__» ⟨[.type "zip",.str x t,.ref l2],[]⟩) (fun _ R s=>s.heap.IsList l2 ys∧R (.ok (.ret (.ref (Xk s.heap x t l2).objs.size))) {s with heap:=R8 s.heap x t l2}):=
  .of_wp fun prog w A R s h=>by
    obtain ⟨hp,g,d,tk,os⟩:=s;obtain ⟨hl2,h⟩:=h
    have hsub:=sub_zip
    have hL2:Heap.IsList (Shared.heap ⟨hp.push {cls:=.type (strIterType x),data:=.fields #[.str x t,.int 0 0]},g,d,tk,os⟩) l2 ys:=Heap.IsList.push hl2 _
    wp_walk using wpAny_pyIter_strU,wpAny_pyIter_list hL2
    exact ⟨_,rfl,h⟩
theorem zL {prog:Program} {w:World} {A:Around} {E:Value→Shared→Prop} {s:Shared} {x:Str} {t:Tok} {l:Addr} {ys:Array Value} {Q:Value→Shared→Prop} (hl:s.heap.IsList l ys)
    (h:∀ h',IsZip h' (s.heap.objs.size+4) (s.heap.objs.size+2) (s.heap.objs.size+3) .none→IsPair h' (s.heap.objs.size+2) (.ref s.heap.objs.size) (.ref (s.heap.objs.size+1))→
      IsPair h' (s.heap.objs.size+3) .none .none→h'.IsStrIter s.heap.objs.size (strIterType x) x t 0→h'.IsListIter (s.heap.objs.size+1) l 0→
      (∀ c o,s.heap.get? c=some o→h'.get? c=some o)→Q (.ref (s.heap.objs.size+4)) {s with heap:=h'}):
    wpAny (model prog w) A (call (.type "zip") [.str x t,.ref l]) Q E s:=by
  refine callType_new F.called_zip (by decide) (F.typeCall_zip_2 _ _) (F.newCall_zip_2 _ _) (fun obj=>F.args_object_init_3 obj _ _) F.entry_zip_new (rJ x t l ys) ⟨hl,?_⟩
  have a1:(Xh s.heap x t).objs.size=s.heap.objs.size+1:=Heap.size_push ..
  have a2:(Xi s.heap x t l).objs.size=s.heap.objs.size+2:=by rw [Heap.size_push,a1]
  have a3:(Xj s.heap x t l).objs.size=s.heap.objs.size+3:=by rw [Heap.size_push,a2]
  have a4:(Xk s.heap x t l).objs.size=s.heap.objs.size+4:=by rw [Heap.size_push,a3]
  have pu:∀ {g:Heap} {o u:Obj} {c:Addr},g.get? c=some u→(g.push o).get? c=some u:=fun e=>Heap.get?_push_of_some _ e
  have g5:(R8 s.heap x t l).get? (Xk s.heap x t l).objs.size=some _:=Heap.get?_push_size _ rfl
  have g4:(R8 s.heap x t l).get? (Xj s.heap x t l).objs.size=some _:=pu (Heap.get?_push_size _ rfl)
  have g3:(R8 s.heap x t l).get? (Xi s.heap x t l).objs.size=some _:=pu (pu (Heap.get?_push_size _ rfl))
  have g2:(R8 s.heap x t l).get? (Xh s.heap x t).objs.size=some _:=pu (pu (pu (Heap.get?_push_size _ rfl)))
  have g1:(R8 s.heap x t l).get? s.heap.objs.size=some _:=pu (pu (pu (pu (Heap.get?_push_size _ rfl))))
  show _∧_
  rw [a2,a3,a4] at g5
  rw [a1,a2] at g3
  rw [a3] at g4
  rw [a1] at g2
  rw [a4]
  exact ⟨⟨_,g5,rfl⟩,h _ g5 g3 g4 ⟨_,g1,rfl,rfl⟩ ⟨_,g2,rfl,rfl⟩ fun c o e=>pu (pu (pu (pu (pu e))))⟩
def Dj (K:PySem.W.Frag) (x:Str) (b:Addr):It:=
  ⟨fun i H=>i < x.cps.size∧∃ ys y,SqL K H b ys∧ys[i]?=some y,
   fun i H v H'=>∃ T y,H T=none∧v= .ref T∧(∀ ys,SqL K H b ys→ys[i]?=some y)∧H'=upd H T (.tup [.str ⟨#[x.cps.getD i 0]⟩,y]),
   fun i _=>i=x.cps.size⟩
theorem tU {P:Program} {w:World} {K:PySem.W.Frag} {elts:List Expr} {k:Nat} {pos:Pos} {z TI TO i1 i2 b:Addr} {x:Str} {t:Tok} {ty:String} (D:qd z TI TO i1 i2 [i1] [i2,b]) (hb2:b≠i2)
    (Dr:∀ A:Around,A.handled=none→Draws P w A i1 [i1] x.cps.size (fun i v=>∃ c u,x.cps[i]?=some c∧v= .str ⟨#[c]⟩ u) (fun i h=>h.IsStrIter i1 ty x t i)):
    Turn P w K (.Tuple elts k pos) (Dj K x b) [z,TI,TO,i1,i2] z (fun i h=>IsZip h z TI TO .none∧IsPair h TI (.ref i1) (.ref i2)∧(∃ c d,IsPair h TO c d)∧h.IsStrIter i1 ty x t i∧h.IsListIter i2 b i) where
  mem:=by simp
  obj:=fun i h st c hc=>by
    obtain ⟨hz,hTI,⟨_,_,hTO⟩,⟨o1,e1,_,d1⟩,⟨o2,e2,_,d2⟩⟩:=st
    simp only [List.mem_cons,List.mem_nil_iff,or_false] at hc
    rcases hc with rfl | rfl | rfl | rfl | rfl
    · exact ⟨_,hz,nofun⟩
    · exact ⟨_,hTI,nofun⟩
    · exact ⟨_,hTO,nofun⟩
    · exact ⟨_,e1,fun v z=>by rw [d1] at z;cases z⟩
    · exact ⟨_,e2,fun v z=>by rw [d2] at z;cases z⟩
  keep:=fun i h h' st kk=>by
    obtain ⟨hz,hTI,⟨_,_,hTO⟩,⟨o1,e1,r1⟩,h2⟩:=st
    exact ⟨kk z (by simp) _ hz,kk TI (by simp) _ hTI,⟨_,_,kk TO (by simp) _ hTO⟩,⟨o1,kk i1 (by simp) _ e1,r1⟩,h2.at fun o e=>kk i2 (by simp) o e⟩
  item:=by
    intro X hP hw hK hc i pins s σ H E I hf st hg
    subst hP hw hK
    obtain ⟨hz,hTI,⟨c,d,hTO⟩,h1,h2⟩:=st
    obtain ⟨hlt,ys,y,hq,hy⟩:=hg
    obtain ⟨its,rv,p,_⟩:=I.list hq
    obtain ⟨u,hu,ru⟩:=rv.get hy
    have hlt2:i < its.toArray.size:=by
      have:=(List.getElem?_eq_some_iff.mp hu).1
      simpa using this
    have hT:s.TypeIs (.ref z) "zip":=⟨_,hz,rfl⟩
    have hh:X.A.in1.handled=none:=I.ok.hd hc
    unfold pyNext
    refine wpAny_bind (wpAny_attempt (wpAny_callSpecial?_slot (name:=Str.ofString "__next__") hT F.slot_zip_next (wpAny_call_entry F.slot_zip_next hT F.entry_zip_next
      (Di (Dr X.A.in1 hh) (Draws.list hh i2 b hb2 its.toArray) D hz hTI hTO h1 ⟨h2,p.isList⟩ hlt hlt2 fun a1 a2 h' tk px py b1 b2 b3 b4 b5 hk=>wpAny_pure ?_) (F.args_zip_next_1 _))))
    obtain ⟨ch,tu,hch,rfl⟩:=px
    have eu:a2=u:=by
      have h2:its[i]?=some a2:=by simpa using py
      rw [hu] at h2
      exact (Option.some.inj h2).symm
    subst eu
    refine ⟨_,rfl,wpAny_letOwnedTupleGo_zip b1 fun h'' b1' sb=>?_⟩
    have lt:∀ {c o},s.heap.get? c=some o→s.heap.objs.size≠c:=fun e=>Nat.ne_of_gt (Heap.lt_size e)
    have isT:h''.IsTuple s.heap.objs.size #[.str ⟨#[ch]⟩ tu,a2]:=⟨_,sb.extBut _ _ (lt hz) b5,rfl,_,rfl⟩
    have kall:∀ b o,b ∉ [z,TI,TO,i1,i2]→s.heap.get? b=some o→h''.get? b=some o:=fun b o hb e=>by
      simp only [List.mem_cons,List.mem_nil_iff,or_false,not_or] at hb
      exact sb.extBut _ _ hb.1 (hk b o hb.1 hb.2.2.1 hb.2.2.2.1 hb.2.2.2.2 e)
    have hTn:H s.heap.objs.size=none:=I.hok.fresh (Nat.le_refl _)
    have ech:x.cps.getD i 0=ch:=by simp [Array.getD_eq_getD_getElem?,hch]
    refine ⟨.ref s.heap.objs.size,_,I.newtup (tk:=tk) hf (Nat.le_refl _) kall isT (xs:=[.str ⟨#[x.cps.getD i 0]⟩,y]) (.cons ⟨tu,by rw [ech]⟩ (.cons ru .nil)) (by simp;decide),rfl,⟨_,y,hTn,rfl,fun zs hs=>by rw [I.list_inj hs hq];exact hy,rfl⟩,?_,fun b hb=>?_⟩
    · obtain ⟨o1,e1,r1⟩:=b3
      exact ⟨b1',sb.extBut _ _ D.TIz (hk _ _ D.TIz D.TITO D.TIi1 D.TIi2 hTI),⟨_,_,sb.extBut _ _ D.TOz b2⟩,⟨o1,sb.extBut _ _ D.i1z e1,r1⟩,b4.1.extBut sb.extBut D.i2z⟩
    · have:s.heap.objs.size≠b:=by
        simp only [List.mem_cons,List.mem_nil_iff,or_false] at hb
        rcases hb with rfl | rfl | rfl | rfl | rfl
        · exact lt hz
        · exact lt hTI
        · exact lt hTO
        · obtain ⟨o,e,_⟩:=h1;exact lt e
        · obtain ⟨o,e,_⟩:=h2;exact lt e
      rw [aD (Ne.symm this)]
      exact (hf b hb).1
  done:=by
    intro X hP hw hK hc i pins s σ H E I hf st hg
    subst hP hw hK
    obtain ⟨hz,hTI,⟨c,d,hTO⟩,h1,h2⟩:=st
    have hin:i=x.cps.size:=hg
    subst hin
    have hT:s.TypeIs (.ref z) "zip":=⟨_,hz,rfl⟩
    have hh:X.A.in1.handled=none:=I.ok.hd hc
    unfold pyNext
    refine wpAny_bind (wpAny_attempt (wpAny_callSpecial?_slot (name:=Str.ofString "__next__") hT F.slot_zip_next (wpAny_call_entry F.slot_zip_next hT F.entry_zip_next
      (G8 (Dr X.A.in1 hh) D hz hTI h1 fun h' e hk he=>?_) (F.args_zip_next_1 _))))
    obtain ⟨o,ho,hcl⟩:=he
    refine wpAny_bind (wpAny_isInstance (T:="StopIteration") (b:=true) ⟨o,ho,hcl⟩ isSubtype_stop ?_)
    refine wpAny_pure ⟨rfl,I.only (tk:=s.toks) hf fun b o hb e=>?_⟩
    simp only [List.mem_cons,List.mem_nil_iff,or_false,not_or] at hb
    exact hk b o hb.1 hb.2.2.2.1 e
  self:=fun _ _ _ _ _ st h=>wpAny_pyIter_zip st.1 h
end L2
namespace L2
open PySem PySem.Spec PyProof.Rows
open PySem.Sem (wp)
def G9 (K:PySem.W.Frag) (ta:TA):TI:=fun σ H R=>ta σ H fun vs H1=>∃ x b ys,vs=[.str x,.ref b]∧SqL K H1 b ys∧R (Dj K x b) H1
theorem Ha {X:Cx} {K:PySem.W.Frag} {a b:Expr} {ta:TA} {elts:List Expr} {k:Nat} {tp p pos:Pos} (hc:X.calm=true) (hK:X.K=K) (hg:Gl X "zip") (hm:X.mg "zip"=none) (ha:JA X [a,b] ta) (h:autoParam (notStar a=true) L2.auto4._auto_1) (h2:autoParam (notStar b=true) L2.auto4._auto_1):
    JI X (.Tuple elts k tp) (.Call (.Name "zip" p) [a,b] [] pos) (G9 K ta):=⟨by
  subst hK
  intro pins s σ H R I hq
  refine Call_ (iH I hg hm PQ (PyProof.Rows.callWith_type1 (dF (ha.run pos pins s σ H _ I hq) fun us s1 qq0=>?_) (bV h) (by rw [bV h2];rfl)))
  obtain ⟨vs,H1,I1,r1,q1⟩:=qq0
  obtain ⟨x,l,ys,e,hl,q⟩:=q1
  subst e
  obtain ⟨u,u2,rfl,e1,e2⟩:∃ u u2,us=[u,u2]∧RelV (.str x) u∧RelV (.ref l) u2:=by
    cases r1 with
    | cons x r=>cases r with
      | cons y r=>cases r with
        | nil=>exact ⟨_,_,rfl,x,y⟩
  obtain ⟨t,rfl⟩:=e1
  cases e2
  obtain ⟨its,rv,p1,_⟩:=I1.list hl
  have lt1:l < s1.heap.objs.size:=by obtain ⟨o,ho,_⟩:=p1.isList;exact Heap.lt_size ho
  refine zL p1.isList fun h' z1 z2 z3 z4 z5 hk=>?_
  have J1:Inv X pins σ H1 {s1 with heap:=h'}:=I1.kept (t':=s1.toks) hk
  have D:qd (s1.heap.objs.size+4) (s1.heap.objs.size+2) (s1.heap.objs.size+3) s1.heap.objs.size (s1.heap.objs.size+1) [s1.heap.objs.size] [s1.heap.objs.size+1,l]:=by
    have key:∀ n b:Nat,b < n→qd (n+4) (n+2) (n+3) n (n+1) [n] [n+1,b]:=fun n b h2=>by
      have k1:∀ c:Nat,c=n→c≠n+4∧c≠n+3∧c≠n+1:=fun c hc=>by omega
      have k2:∀ c:Nat,(c=n+1∨c=b)→c≠n+4∧c≠n+3∧c≠n:=fun c hc=>by omega
      refine ⟨?_,?_,?_,?_,?_,?_,?_,?_,?_,?_,fun c hc=>k1 c (List.mem_singleton.mp hc),fun c hc=>k2 c (by simpa only [List.mem_cons,List.mem_nil_iff,or_false] using hc)⟩
      all_goals (show (_:Nat)≠_;omega)
    exact key _ _ lt1
  have nb:l≠s1.heap.objs.size+1:=Nat.ne_of_lt (Nat.lt_succ_of_lt lt1)
  refine wpAny_pyIter_zip z1 ?_
  have fpk:∀ b∈[s1.heap.objs.size+4,s1.heap.objs.size+2,s1.heap.objs.size+3,s1.heap.objs.size,s1.heap.objs.size+1],s1.heap.objs.size≤b:=by
    intro b hb
    simp only [List.mem_cons,List.mem_nil_iff,or_false] at hb
    have key:∀ n c:Nat,(c=n+4∨c=n+2∨c=n+3∨c=n∨c=n+1)→n≤c:=fun n c h=>by omega
    exact key _ _ hb
  cases hx:x.cps.all (· < 128)
  · exact ⟨s1.heap.objs.size+4,_,_,_,H1,rfl,J1,tU (ty:="str_iterator") (x:=x) (t:=t) D nb (fun A hA=>Draws.strWide hA _ x t),⟨z1,z2,⟨_,_,z3⟩,by simpa [strIterType,hx] using z4,z5⟩,fun b hb=>I1.fpOk (fpk b hb) (I1.hok.fresh (fpk b hb)),q⟩
  · exact ⟨s1.heap.objs.size+4,_,_,_,H1,rfl,J1,tU (ty:="str_ascii_iterator") (x:=x) (t:=t) D nb (fun A hA=>Draws.strAscii hA _ x t),⟨z1,z2,⟨_,_,z3⟩,by simpa [strIterType,hx] using z4,z5⟩,fun b hb=>I1.fpOk (fpk b hb) (I1.hok.fresh (fpk b hb)),q⟩⟩
section
variable {σ:St} {H:Hp} {K:PySem.W.Frag}
theorem rY {a:TA} {R:It→Hp→Prop} (h:a σ H fun vs H1=>∃ x b ys,vs=[.str x,.ref b]∧SqL K H1 b ys∧R (Dj K x b) H1):G9 K a σ H R:=h
theorem Dk {x:Str} {b:Addr} {ys:List V} {g:TG} {tb:TS} {D:Ends} (Pv:Nat→St→Hp→Prop) (hl:x.cps.size=ys.length) (h0:Pv 0 σ H) (hq:∀ i σ H,i≤ys.length→Pv i σ H→SqL K H b ys)
    (hs:∀ i σ H T y,ys[i]?=some y→Pv i σ H→H T=none→g (.ref T) σ (upd H T (.tup [.str ⟨#[x.cps.getD i 0]⟩,y])) fun σ2 H2=>tb {D with nx:=Pv (i+1),ct:=Pv (i+1),bk:=D.nx} σ2 H2) (hd:∀ σ H,Pv ys.length σ H→D.nx σ H):
    ∃ W:Nat→Nat→St→Hp→Prop,(∃ m,W 0 m σ H)∧∀ i m σ H,W i m σ H→
      ((Dj K x b).stop i H∧D.nx σ H)∨((Dj K x b).go i H∧∃ N:St→Hp→Prop,(∀ σ' H',N σ' H'→∃ m',m' < m∧W (i+1) m' σ' H')∧∀ z H',(Dj K x b).yld i H z H'→g z σ H' fun σ2 H2=>tb {D with nx:=N,ct:=N,bk:=D.nx} σ2 H2):=by
  refine ⟨fun i m σ H=>m=ys.length - i∧i≤ys.length∧Pv i σ H,⟨ys.length,by simp,Nat.zero_le _,h0⟩,?_⟩
  rintro i m σ H ⟨rfl,hi,p⟩
  have q1:=hq i σ H hi p
  by_cases hlt:i < ys.length
  · refine .inr ⟨⟨by omega,ys,ys[i],q1,List.getElem?_eq_getElem hlt⟩,Pv (i+1),fun σ' H' p'=>⟨ys.length - (i+1),by omega,rfl,hlt,p'⟩,fun z H' y=>?_⟩
    obtain ⟨T,u,hT,e1,e2,e4⟩:=y
    subst e1 e4
    exact hs i σ H T u (e2 ys q1) p hT
  · have e:i=ys.length:=by omega
    subst e
    exact .inl ⟨hl.symm,hd σ H p⟩
end
end L2
namespace L2
open PySem PySem.Spec PyProof.Rows
open PySem.Sem (wp)
open AutoSeq1 (wpAny_loadPart')
section
variable {X:Cx}
end
section
variable {H:Hp} {Q:VK} {K:PySem.W.Frag}
end
end L2
namespace L2
open PySem PySem.W PySem.Spec PyProof.Rows
section
variable {g:Nat→Int} {N:Nat}
end
end L2
namespace L2
open PySem PySem.W PySem.Spec PyProof.Rows
section
variable {prog:Program} {w:World} {A:Around} {E:Value→Shared→Prop} {s:Shared}
end
end L2
namespace L2
open PySem PySem.W PySem.Spec PyProof.Rows
section
variable {prog:Program} {w:World} {A:Around} {E:Value→Shared→Prop} {s:Shared}
end
section
variable {X:Cx}
end
section
variable {H:Hp} {Q:VK}
end
end L2
namespace L2
open PySem PySem.Spec PyProof.Rows
open PySem.Sem (wp)
section
variable {prog:Program} {w:World} {A:Around} {E:Value→Shared→Prop} {s:Shared} {z TI TO i1 i2:Addr} {fp1 fp2:List Addr} {n1 n2 k1 k2:Nat} {P1 P2:Nat→Value→Prop} {St1 St2:Nat→Heap→Prop} {a b f0 f1:Value}
end
end L2
namespace L2
open PySem PySem.Spec PyProof.Rows
open PySem.Sem (wp)
open PySem.AutoSeq1 (wpAny_loadPart')
section
variable {prog:Program} {w:World} {A:Around} {E:Value→Shared→Prop} {s:Shared} {z TI TO i1 i2 e:Addr} {fp1 fp2:List Addr} {n1 n2 k1 k2:Nat} {P1 P2:Nat→Value→Prop} {St1 St2:Nat→Heap→Prop} {a b f0 f1:Value}
end
structure EApart (e z TI TO i1 i2 a b:Addr):Prop where
  Z:qd z TI TO i1 i2 [i1,a] [i2,b]
  ez:e≠z
  eTI:e≠TI
  eTO:e≠TO
  ei1:e≠i1
  ei2:e≠i2
  a1:a≠i1
  b2:b≠i2
end L2
namespace L2
open PySem PySem.Spec PyProof.Rows
open PySem.Sem (wp)
open PySem.AutoSeq1 (wpAny_loadPart')
section
variable {σ:St} {H:Hp} {K:PySem.W.Frag}
end
end L2
namespace L2
open PySem PySem.Spec PyProof.Rows
open PySem.Sem (wp)
section
variable {prog:Program} {w:World} {A:Around} {E:Value→Shared→Prop} {s:Shared}
end
structure TurnU (P:Program) (w:World) (K:PySem.W.Frag) (tg:Expr) (J:It) (fp:List Addr) (it:Addr) (tn:Nat→Heap→Prop) (xh:Addr):Prop where
  mem:it∈fp
  obj:∀ i h,tn i h→∀ b∈fp,∃ o,h.get? b=some o∧∀ v,o.data≠.cell v
  keep:∀ i h h',tn i h→(∀ b∈fp,∀ o,h.get? b=some o→h'.get? b=some o)→tn i h'
  item:∀ (X:Cx),X.prog=P→X.w=w→X.K=K→X.A.handled=some (.ref xh)→∀ (i:Nat) (pins:List (Addr×Obj)) (s:Shared) (σ:St) (H:Hp) (E:Value→Shared→Prop),Inv X pins σ H s→(∀ b∈fp,jG X pins H b)→tn i s.heap→J.go i H→
    wpAny (model P w) X.A (pyNext (.ref it)) (fun r s1=>∃ u,r=some u∧
      wpAny (model P w) X.A (letOwnedTupleGo tg (.ref it) u) (fun _ s2=>∃ x H',Inv X pins σ H' s2∧RelV x u∧J.yld i H x H'∧tn (i+1) s2.heap∧∀ b∈fp,H' b=none) E s1) E s
  done:∀ (X:Cx),X.prog=P→X.w=w→X.K=K→X.A.handled=some (.ref xh)→∀ (i:Nat) (pins:List (Addr×Obj)) (s:Shared) (σ:St) (H:Hp) (E:Value→Shared→Prop),Inv X pins σ H s→(∀ b∈fp,jG X pins H b)→tn i s.heap→J.stop i H→
    wpAny (model P w) X.A (pyNext (.ref it)) (fun r s1=>r=none∧Inv X pins σ H s1) E s
  self:∀ (A:Around) (i:Nat) (s:Shared) (Q:Value→Shared→Prop) (E:Value→Shared→Prop),tn i s.heap→Q (.ref it) s→wpAny (model P w) A (pyIter (.ref it)) Q E s
section
variable {X:Cx} {tg iter elt:Expr} {ifs:List Expr} {scope:Scope} {pos:Pos} {N':List Str} {sub:List (Option Nat)} {wi:TI} {g:TG} {tt:TT} {te:TE}
end
structure FnV (P:Program) (w:World) (K:PySem.W.Frag) (mg:Str→Option Value) (base:Heap) (k:Nat) (f:Addr) (fd:FuncData) (ps:List Str) (sp:Addr→Sp):Prop where
  len:∀ xh vs H Q E,sp xh vs H Q E→vs.length=ps.length
  run:∀ (A:Around) (outer:List Env) (s:Shared) (H:Hp) (args:Args) (us:List Value) (vs:List V) (Q:VK) (E:XK) (xh:Addr),A.handled=some (.ref xh)→Np k A→Env0 P w K mg base A outer s H→BindsTo s fd args (ps.zip us)→Vals vs us→sp xh vs H Q E→
    codeAny (model P w) A (.call (.ref f) args) (CR zb outer P w H s Q E) s
end L2
namespace L2
open PySem PySem.Spec PyProof.Rows
section
variable {X:Cx} {nm n:Str} {P:Addr} {i:Nat} {p pos:Pos} {b0:Stmt} {suite:List Stmt} {ts:Addr→TS} {th:TH} {hs:List ExceptHandler}
variable {K:PySem.W.Frag} {x:Str}
end
end L2
namespace L2
open PySem PySem.Spec PyProof.Rows
def R9 (K:PySem.W.Frag) (a:Addr) (n:Nat):It:=
  ⟨fun i H=>i < n∧∃ xs,SqL K H a xs∧xs.length=n,
   fun i H v H'=>H'=H∧∀ xs,SqL K H a xs→xs[n - 1 - i]?=some v,
   fun i _=>i=n⟩
theorem Hb {P:Program} {w:World} {K:PySem.W.Frag} {tg:Expr} {n:Nat} {it a:Addr} (hai:a≠it):
    Turn P w K tg (R9 K a n) [it] it (fun i h=>i≤n∧h.IsRevIter it a ((n:Int) - 1 - (i:Int))) where
  mem:=by simp
  obj:=fun i h st c hc=>by
    obtain ⟨_,⟨o1,e1,c1,d1⟩⟩:=st
    have e:c=it:=by simpa using hc
    subst e
    exact ⟨_,e1,fun v z=>by rw [d1] at z;cases z⟩
  keep:=fun i h h' st kk=>⟨st.1,st.2.at fun o q=>kk it (by simp) o q⟩
  item:=by
    intro X hP hw hK hc i pins s σ H E I hf st hg
    subst hP hw hK
    obtain ⟨hi,h1⟩:=st
    obtain ⟨hlt,xs,hq,hlen⟩:=hg
    obtain ⟨its,rv,p,_⟩:=I.list hq
    have l1:=rv.length
    obtain ⟨x,hx⟩:∃ x,xs[n - 1 - i]?=some x:=⟨_,List.getElem?_eq_getElem (by omega)⟩
    obtain ⟨u,hu,ru⟩:=rv.get hx
    obtain ⟨f0,f1,f2,f3,f4,f5⟩:=hf it (by simp)
    have e:(n:Int) - 1 - (i:Int)=((n - 1 - i:Nat):Int):=by omega
    rw [e] at h1
    refine wpAny_pyNext_rev_item h1 p.isList (x:=u) (by simpa using hu) fun h' st' sb=>?_
    have I1:Inv X pins σ H {s with heap:=h'}:=I.turned (t':=s.toks) (fun b o hb e=>(sb.2 b hb).trans e) f0 f1 f3 f4 f5
    obtain ⟨o,eo,c,d⟩:=id st'
    refine ⟨u,rfl,uL (s:={s with heap:=h'}) eo c d (by decide) ⟨x,H,I1,ru,⟨rfl,fun ys hy=>by rw [I.list_inj hy hq];exact hx⟩,⟨hlt,?_⟩,fun b hb=>(hf b hb).1⟩⟩
    have e2:((n - 1 - i:Nat):Int) - 1=(n:Int) - 1 - ((i+1:Nat):Int):=by omega
    rw [← e2]
    exact st'
  done:=by
    intro X hP hw hK hc i pins s σ H E I hf st hg
    subst hP hw hK
    obtain ⟨hi,h1⟩:=st
    have hin:i=n:=hg
    subst hin
    rw [show (i:Int) - 1 - (i:Int)= -1 by omega] at h1
    obtain ⟨f0,f1,f2,f3,f4,f5⟩:=hf it (by simp)
    exact wpAny_pyNext_rev_end (I.ok.hd hc) h1 fun h' eb=>⟨rfl,I.turned (t':=s.toks) (fun b o hb e=>eb b o hb e) f0 f1 f3 f4 f5⟩
  self:=fun _ _ _ _ _ st h=>wpAny_pyIter_revIter st.2 h
section
variable {K:PySem.W.Frag} {σ:St} {H:Hp}
end
section
variable {X:Cx}
end
section
variable {K:PySem.W.Frag} {H:Hp} {Q:VK}
end
end L2
namespace L2
open PySem PySem.Spec PyProof.Rows
structure rK (K:PySem.W.Frag) (mg:Str→Option Value) (x:Str):Prop where
  at_:mg x=some (.ref (aK mg x))
  cl:Cls K (aK mg x)
  makes:PySem.W.makesIn K (aK mg x)=true
  kp:PySem.W.keepIn K (.ref (aK mg x))=true
def clsIn (K:PySem.W.Frag) (C:Addr):Bool:=PySem.W.plainGet K C Str.empty && PySem.W.hasDictIn K C && PySem.W.plainOver K C
theorem Hc {K:PySem.W.Frag} {mg:Str→Option Value} {h:Heap} (X:K.In h) (G:h.Ns mainGlobals mg) {x:Str} {C:Addr} (a:PySem.W.nsIn K mainGlobals x=some (some (.ref C))) (b:clsIn K C=true)
    (s:PySem.W.findIn K (.ref C) "__setattr__"=some (some (.builtin "object.__setattr__"))) (m:PySem.W.makesIn K C=true) (k:PySem.W.keepIn K (.ref C)=true):rK K mg x:=by
  have e0:=PySem.W.mg_of X G a
  have e:=pB e0
  unfold clsIn at b
  simp only [Bool.and_eq_true] at b
  exact ⟨by rw [e];exact e0,by rw [e];exact ⟨b.1.1,b.1.2,b.2,s⟩,by rw [e];exact m,by rw [e];exact k⟩
structure gC (K:PySem.W.Frag) (mg:Str→Option Value) (x m qual:Str) (st:Stmt):Prop where
  ex:∃ f fd,Meth K (aK mg x) m f∧Fun K m qual st f fd
theorem jN {K:PySem.W.Frag} {mg:Str→Option Value} {h:Heap} (X:K.In h) (G:h.Ns mainGlobals mg) {x m qual:Str} {C f:Addr} {st:Stmt} {oc:Value} {od an:Option Addr} {osl:Array (Option Value)} {kV doc pm cdv ct:Value}
    (a:PySem.W.nsIn K mainGlobals x=some (some (.ref C))) (i:PySem.W.findIn K (.ref C) m=some (some (.ref f))) (n:PySem.W.isFn K (.ref f)=true)
    (l:K.lookup f=some ⟨oc,od,.func (PySem.W.fnOf m qual (eG st) (cj st) (az st) .none kV doc pm an cdv ct),osl⟩) (c:PySem.W.codeIn K cdv qual=true) (k:PySem.W.keepIn K (.ref f)=true):gC K mg x m qual st:=by
  have e:=pB (PySem.W.mg_of X G a)
  exact ⟨f,_,by rw [e];exact ⟨i,n,k⟩,zc l c k⟩
theorem Hd {K:PySem.W.Frag} {mg:Str→Option Value} {h:Heap} (X:K.In h) (G:h.Ns mainGlobals mg) {x:Str} {C:Addr} {fl:List Str} (a:PySem.W.nsIn K mainGlobals x=some (some (.ref C))) (b:GZ K C fl=true):∀ f∈fl,NoAttr K (aK mg x) f:=fun n hn=>by
  rw [pB (PySem.W.mg_of X G a)]
  have:=List.all_eq_true.mp b n hn
  first | exact of_decide_eq_true this | exact beq_iff_eq.mp this | simpa using this
def jO (j:Nat):Stmt→Stmt
  | .ClassDef _ _ _ ss _ _ _ _ _ _ _=>ss.getD j (.Pass ⟨0,0,0,0⟩)
  | s=>s
def kO (P:Program) (w:World) (K:PySem.W.Frag) (mg:Str→Option Value) (base:Heap) (k:Nat) (x m:Str) (ps:List Str) (sp:Sp):Prop:=
  ∃ f fd,Meth K (aK mg x) m f∧Binds K fd ps []∧oW P w K mg base (Kl P w) k f fd ps sp
section
variable {P:Program} {w:World} {K:PySem.W.Frag} {mg:Str→Option Value} {base:Heap}
theorem pG {x m qual:Str} {st:Stmt} {N ps:List Str} {k:Nat} {sp:Sp} (D:gC K mg x m qual st) (S:aF N ps (az st))
    (hb:∀ (kV doc pm:Value) (an:Option Addr) (cdv ct:Value) (us:List Value),us.length=ps.length→bindArgs (PySem.W.fnOf m qual (eG st) (cj st) (az st) .none kV doc pm an cdv ct) ⟨us,[]⟩=pure (ps.zip us))
    (len:∀ vs H Q E,sp vs H Q E→vs.length=ps.length)
    (hbody:∀ (f:Addr) (cdv:Value) (A:Around) (outer:List Env) (s:Shared) (H:Hp) (vs:List V) (Q:VK) (E:XK),Room k (A.deeper (envOfC qual (az st) s.heap.objs.size f cdv))→sp vs H Q E→
      ∃ t,JB (nU (Kl P w) P w K mg base N qual (az st) f cdv A outer s H E) (cj st) t∧t {nx:=fun _ H'=>Q .non H',rt:=Q} (start N vs) H):kO P w K mg base (k+1) x m ps sp:=by
  obtain ⟨f,fd,hm,F⟩:=D.ex
  refine ⟨f,fd,hm,F.binds hb,?_⟩
  obtain ⟨oc,od,kV,doc,pm,an,cdv,ct,osl,rfl,lk,hcd⟩:=F.ex
  exact Fi lk hcd S len fun A outer s H vs Q E hr h=>let ⟨t,j,q⟩:=hbody f cdv A outer s H vs Q E hr h;⟨t,j.run,q⟩
end
def vZ (C:Addr) (m:Str) (sp:Sp) (R:St→XK) (ta:TE) (t:TA):TE:=fun σ H Q=>ta σ H fun x H1=>∃ a dx fs,x= .ref a∧H1 a=some (.ins C dx fs)∧fs.lookup m=none∧t σ H1 fun vs H2=>sp (x :: vs) H2 Q (R σ)
def Hf (C:Addr) (sp:Sp) (R:St→XK) (t:TA):TE:=fun σ H Q=>t σ H fun vs H1=>∀ x dx,H1 x=none→H1 dx=none→dx≠x→
  sp (.ref x :: vs) (upd (upd H1 dx (.own x)) x (.ins C dx [])) (fun v H2=>v= .non∧Q (.ref x) H2) (R σ)
section
variable {X:Cx} {K:PySem.W.Frag} {k:Nat} {f C:Addr} {ps:List Str} {sp:Sp} {R:St→XK} {x m fn:Str} {p pos apos pos':Pos} {e o value:Expr} {es:List Expr} {ta tv:TE} {t:TA} {pins:List (Addr×Obj)} {σ:St} {H:Hp} {s:Shared} {Q:VK} {us:List Value} {vs:List V}
theorem eO {pl:Sem Bool} (he:JE X o ta) (c:rK X.K X.mg x) (F:kO X.prog X.w X.K X.mg X.base k x m ps sp) (hr:Room k X.A) (hx:kJ X R) (ha:JA X (e :: es) t)
    (hs:autoParam ((e :: es).all notStar=true) L2.auto4._auto_1)
    (ht:eval (.Call (.Attribute o m apos) (e :: es) [] pos) X.env=(do
      let ov ← eval o X.env
      standAt apos.atName
      let (f,first) ← holding [ov] (getMethod ov m pl)
      callWith pos f first (backTo pos (starEach (e :: es) X.env)) (backToKw pos (keywordEach [] X.env))):=by rfl):
    JE X (.Call (.Attribute o m apos) (e :: es) [] pos) (vZ (aK X.mg x) m sp R ta t):=⟨by
  have h1:notStar e=true:=by simp only [List.all_cons,Bool.and_eq_true] at hs;exact hs.1
  have h2:es.all notStar=true:=by simp only [List.all_cons,Bool.and_eq_true] at hs;exact hs.2
  obtain ⟨f,fd,hm,hb,F⟩:=F
  intro pins s σ H Q I h
  refine PySem.W.methodCall_KW (pl:=pl) (dF (he.run pins s σ H _ I h) fun u s1 qq0=>?_) ht
  obtain ⟨x,H1,I1,rx,a,dx,fs,ex,ea,l,q⟩:=qq0
  subst ex
  obtain rfl:u=Value.ref a:=rx
  refine sJ I1 ea c.cl hm l ?_
  refine PySem.W.callWith_K (first:=[.ref a]) (h₀:=X.base) I.ok.mod.kin hm.kp (dF (ha.run pos pins s1 σ H1 _ I1 q) fun us s2 ⟨vs,H2,I2,r,q2⟩=>⟨I2.kIn,?_⟩) (bV h1) (lA h2)
  exact vW (us:=.ref a :: us) (vs:=.ref a :: vs) F hr hb hx I2 (.cons rfl r) q2⟩
theorem yf {pl:Sem Bool} (he:JE X o ta) (c:rK X.K X.mg x) (F:kO X.prog X.w X.K X.mg X.base k x m ps sp) (hr:Room k X.A) (hx:kJ X R)
    (ht:eval (.Call (.Attribute o m apos) [] [] pos) X.env=(do
      let ov ← eval o X.env
      standAt apos.atName
      let (f,first) ← holding [ov] (getMethod ov m pl)
      callWith pos f first (backTo pos (starEach [] X.env)) (backToKw pos (keywordEach [] X.env))):=by rfl):
    JE X (.Call (.Attribute o m apos) [] [] pos) (vZ (aK X.mg x) m sp R ta JD):=⟨by
  obtain ⟨f,fd,hm,hb,F⟩:=F
  intro pins s σ H Q I h
  refine PySem.W.methodCall_KW (pl:=pl) (dF (he.run pins s σ H _ I h) fun u s1 qq0=>?_) ht
  obtain ⟨x,H1,I1,rx,a,dx,fs,ex,ea,l,q⟩:=qq0
  subst ex
  obtain rfl:u=Value.ref a:=rx
  refine sJ I1 ea c.cl hm l ?_
  exact PySem.W.callWith_K0 (first:=[.ref a]) I1.kIn hm.kp (vW (us:=[.ref a]) (vs:=[.ref a]) F hr hb hx I1 (.cons rfl .nil) q)⟩
theorem Dl (c:rK X.K X.mg x) (F:kO X.prog X.w X.K X.mg X.base k x "__init__" ps sp) (hr:Room (k+1) X.A) (hx:kJ X R) (I:Inv X pins σ H s) (r:Vals vs us)
    (h:∀ y dx,H y=none→H dx=none→dx≠y→sp (.ref y :: vs) (upd (upd H dx (.own y)) y (.ins (aK X.mg x) dx [])) (fun v H2=>v= .non∧Q (.ref y) H2) (R σ)):
    wpAny (model X.prog X.w) X.A (call (.ref (aK X.mg x)) us) (EP X pins σ Q) X.xe s:=by
  obtain ⟨f,fd,hm,hb,F⟩:=F
  have hq:=h (s.heap.objs.size+1) s.heap.objs.size (I.hok.fresh (Nat.le_succ _)) (I.hok.fresh (Nat.le_refl _)) (Nat.ne_of_lt (Nat.lt_succ_self _))
  have I2:=Inv.made (C:=aK X.mg x) I
  have r2:Vals (V.ref (s.heap.objs.size+1) :: vs) (Value.ref (s.heap.objs.size+1) :: us):=.cons rfl r
  have hl:((Value.ref (s.heap.objs.size+1) :: us) ++ []).length=ps.length:=by
    have e:=r2.length
    rw [F.len _ _ _ _ hq] at e
    rw [List.append_nil]
    exact e.symm
  have bd:=hb _ (Value.ref (s.heap.objs.size+1) :: us) I2.kIn hl
  rw [List.append_nil] at bd
  refine wpAny_call (Fg (f:=f) I.kIn c.makes hm.at_ (beq_iff_eq.mp hm.fn) (codeAny_mono (F.run _ X.stack _ _ ⟨Value.ref (s.heap.objs.size+1) :: us,[]⟩ (Value.ref (s.heap.objs.size+1) :: us) _ _ (R σ) (hr.make (aK X.mg x) us [])
    (I2.env0.make (aK X.mg x) us []) bd r2 hq) fun r s' hq'=>?_))
  cases r with
  | error e=>exact hx pins e s' (Bf I2 hq')
  | ok fl=>
    cases fl with
    | ret u=>
      obtain ⟨v,H',I3,rv,ev,q3⟩:=I2.after hq'
      subst ev
      exact ⟨rv,⟨V.ref (s.heap.objs.size+1),H',I3,rfl,q3⟩⟩
    | next=>exact False.elim hq'
    | brk=>exact False.elim hq'
    | cont=>exact False.elim hq'
theorem v4 (c:rK X.K X.mg x) (F:kO X.prog X.w X.K X.mg X.base k x "__init__" ps sp) (hr:Room (k+1) X.A) (hg:Gl X x) (hx:kJ X R) (ha:JA X (e :: es) t) (hdb:(x == ("__debug__":Str))=false) (h:autoParam ((e :: es).all notStar=true) L2.auto4._auto_1):
    JE X (.Call (.Name x p) (e :: es) [] pos) (Hf (aK X.mg x) sp R t):=⟨by
  have h1:notStar e=true:=by simp only [List.all_cons,Bool.and_eq_true] at h;exact h.1
  have h2:es.all notStar=true:=by simp only [List.all_cons,Bool.and_eq_true] at h;exact h.2
  intro pins s σ H Q I h
  refine wpAny_Call_Name_kw (oR I hg c.at_ ?_ hdb)
  refine PySem.W.callWith_K (h₀:=X.base) I.ok.mod.kin c.kp (dF (ha.run pos pins s σ H _ I h) fun us s1 ⟨vs,H1,I1,r,q⟩=>⟨I1.kIn,?_⟩) (bV h1) (lA h2)
  exact Dl c F hr hx I1 r q⟩
theorem fG (hK:X.K=K) (he:JE X e ta) (h:autoParam (rR e=true) L2.auto4._auto_1):JE X (.Attribute e fn pos) (Ow K ta fn):=by
  subst hK
  exact ⟨Oz he.run (by cases e <;> first | rfl | cases h)⟩
theorem jA (hK:X.K=K) (ha:JE X o ta) (hv:JE X value tv) (h:autoParam (jr value=true) L2.auto4._auto_1):JS X (.Assign [.Attribute o fn pos'] value pos) (Ox K ta tv fn):=by
  subst hK
  exact ⟨OD ha.run hv.run (uZ h)⟩
end
section
variable {σ:St} {H:Hp} {D:Ends} {Q:VK} {sp:Sp} {R:St→XK} {a:TA} {K:PySem.W.Frag} {C:Addr} {ta tv:TE} {f m:Str}
theorem fW (h:ta σ H fun x H1=>∃ b dx fs,x= .ref b∧H1 b=some (.ins C dx fs)∧fs.lookup m=none∧a σ H1 fun vs H2=>sp (x :: vs) H2 Q (R σ)):vZ C m sp R ta a σ H Q:=h
theorem fX (h:a σ H fun vs H1=>∀ x dx,H1 x=none→H1 dx=none→dx≠x→sp (.ref x :: vs) (upd (upd H1 dx (.own x)) x (.ins C dx [])) (fun v H2=>v= .non∧Q (.ref x) H2) (R σ)):Hf C sp R a σ H Q:=h
theorem mG (h:ta σ H fun x H1=>∃ a C dx fs v,x= .ref a∧H1 a=some (.ins C dx fs)∧Cls K C∧NoAttr K C f∧fs.lookup f=some v∧Q v H1):Ow K ta f σ H Q:=h
theorem jl (h:tv σ H fun y H1=>ta σ H1 fun x H2=>∃ a C dx fs,x= .ref a∧H2 a=some (.ins C dx fs)∧Cls K C∧NoAttr K C f∧fs.length < 1000∧D.nx σ (upd H2 a (.ins C dx (jH f y fs)))):Ox K ta tv f D σ H:=h
end
end L2
namespace L2
open PySem PySem.Spec PyProof.Rows
section
variable {X:Cx} {mg:Str→Option Value} {o:Expr} {ta:TE} {t:TA} {x m:Str} {ps:List Str} {sp:Sp} {k:Nat} {R:St→XK} {e:Expr} {es:List Expr} {pos apos:Pos}
theorem yg {pl:Sem Bool} (hmg:X.mg=mg) (he:JE X o ta) (c:rK X.K X.mg x) (F:kO X.prog X.w X.K X.mg X.base k x m ps sp) (hr:Room k X.A) (hx:kJ X R) (ha:JA X (e :: es) t)
    (hs:autoParam ((e :: es).all notStar=true) L2.auto4._auto_1)
    (ht:eval (.Call (.Attribute o m apos) (e :: es) [] pos) X.env=(do
      let ov ← eval o X.env
      standAt apos.atName
      let (f,first) ← holding [ov] (getMethod ov m pl)
      callWith pos f first (backTo pos (starEach (e :: es) X.env)) (backToKw pos (keywordEach [] X.env))):=by rfl):
    JE X (.Call (.Attribute o m apos) (e :: es) [] pos) (vZ (aK mg x) m sp R ta t):=by
  subst hmg
  exact eO he c F hr hx ha hs ht
end
end L2
namespace L2
open PySem PySem.Spec PyProof.Rows
section
variable {σ:St} {H:Hp} {Q:VK}
def Qq (o:HO) (n:Nat) (H:Hp) (Q:VK):Prop:=n≤sizeLine∧∀ p,H p=none→Q (.ref p) (upd H p o)
theorem qe {a:TA} (h:a σ H fun xs H1=>Qq (.lst xs) xs.length H1 Q):JL a σ H Q:=h
theorem qg {a:TA} (h:a σ H fun xs H1=>Qq (.tup xs) xs.length H1 Q):JK a σ H Q:=h
theorem bO {o:HO} {n:Nat} (c:Nat.ble n 64=true) (h:∀ p H',H p=none→Same H H'→H' p=some o→Q (.ref p) H'):Qq o n H Q:=
  ⟨Nat.le_trans (Nat.le_of_ble_eq_true c) (by decide),fun p np=>h p _ np ((Same.refl H).upd np) aj⟩
end
end L2
namespace L2
open PySem PySem.Spec PyProof.Rows
section
variable {X:Cx}
end
end L2
namespace L2
open PySem PySem.Spec PyProof.Rows
section
variable {sub:List (Option Nat)} {g:TG} {tt:TT} {te:TE} {σ:St} {Q:VK} {H:Hp} {K:PySem.W.Frag} {a:Addr} {xs:List V} {lo:Int} {n:Nat} {z:Str}
theorem eQ (Pv:Nat→List V→Hp→Prop) (hn:n≤sizeLine) (h0:Pv 0 [] H) (hl:∀ i ys H,Pv i ys H→ys.length≤i)
    (hs:∀ i ys H,i < n→Pv i ys H→g (.int (lo+i)) (cT sub σ) H fun σ2 H2=>KeepSt (cT sub σ) σ2∧tt σ2 H2 fun b H3=>if b=true then te σ2 H3 fun y H4=>Pv (i+1) (ys ++ [y]) H4 else Pv (i+1) ys H3)
    (hd:∀ ys H D H',Pv n ys H→H D=none→Same H H'→H' D=some (.lst ys)→Q (.ref D) H'):oZ sub g tt te σ Q (Ec lo n) H:=
  tD Pv hn h0 hl hs fun ys H p D nD=>hd ys H D _ p nD ((Same.refl H).upd nD) aj
theorem oF (Pv:Nat→List V→Hp→Prop) (hn:xs.length≤sizeLine) (h0:Pv 0 [] H) (hl:∀ i ys H,Pv i ys H→ys.length≤i) (hq:∀ i ys H,Pv i ys H→SqL K H a xs)
    (hs:∀ i ys H x,xs[i]?=some x→Pv i ys H→g x (cT sub σ) H fun σ2 H2=>KeepSt (cT sub σ) σ2∧tt σ2 H2 fun b H3=>if b=true then te σ2 H3 fun y H4=>Pv (i+1) (ys ++ [y]) H4 else Pv (i+1) ys H3)
    (hd:∀ ys H D H',Pv xs.length ys H→H D=none→Same H H'→H' D=some (.lst ys)→Q (.ref D) H'):oZ sub g tt te σ Q (Jo K a) H:=
  Cw Pv hn h0 hl hq hs fun ys H p D nD=>hd ys H D _ p nD ((Same.refl H).upd nD) aj
theorem lH {f:Nat→V} {i:Nat} {y:V} (h:y=f i):(List.range i).map f ++ [y]=(List.range (i+1)).map f:=by rw [h,List.range_succ,List.map_append];rfl
theorem qi (f:Nat→V) (hn:n≤sizeLine)
    (hs:∀ i,i < n→g (.int (lo+i)) (cT sub σ) H fun σ2 H2=>KeepSt (cT sub σ) σ2∧tt σ2 H2 fun b H3=>if b=true then te σ2 H3 fun y H4=>H4=H∧(List.range i).map f ++ [y]=(List.range (i+1)).map f else H3=H∧(List.range i).map f=(List.range (i+1)).map f)
    (hd:∀ D H',H D=none→Same H H'→H' D=some (.lst ((List.range n).map f))→Q (.ref D) H'):oZ sub g tt te σ Q (Ec lo n) H:=by
  refine eQ (fun i ys H'=>H'=H∧ys=(List.range i).map f) hn ⟨rfl,rfl⟩ ?_ ?_ ?_
  · rintro i ys H' ⟨_,rfl⟩
    simp
  · rintro i ys H' hi ⟨rfl,rfl⟩
    exact hs i hi
  · rintro ys H1 D H' ⟨rfl,rfl⟩ nD s e
    exact hd D H' nD s e
theorem tV (f:Nat→V) (hn:xs.length≤sizeLine) (hq:SqL K H a xs)
    (hs:∀ i x,xs[i]?=some x→g x (cT sub σ) H fun σ2 H2=>KeepSt (cT sub σ) σ2∧tt σ2 H2 fun b H3=>if b=true then te σ2 H3 fun y H4=>H4=H∧(List.range i).map f ++ [y]=(List.range (i+1)).map f else H3=H∧(List.range i).map f=(List.range (i+1)).map f)
    (hd:∀ D H',H D=none→Same H H'→H' D=some (.lst ((List.range xs.length).map f))→Q (.ref D) H'):oZ sub g tt te σ Q (Jo K a) H:=by
  refine oF (xs:=xs) (fun i ys H'=>H'=H∧ys=(List.range i).map f) hn ⟨rfl,rfl⟩ ?_ ?_ ?_ ?_
  · rintro i ys H' ⟨_,rfl⟩
    simp
  · rintro i ys H' ⟨rfl,_⟩
    exact hq
  · rintro i ys H' x hx ⟨rfl,rfl⟩
    exact hs i x hx
  · rintro ys H1 D H' ⟨rfl,rfl⟩ nD s e
    exact hd D H' nD s e
end
end L2
namespace L2
open PySem PySem.Spec PyProof.Rows
def Kr (rk:Keyed→Int) (xs:Array Keyed) (i:Nat):Int:=match xs[i]? with
  | some p=>rk p
  | none=>0
structure SB (a₀:Array Keyed) (kd:SortKind) (st:SortSt):Prop where
  perm:(arrOf st).Perm a₀
  kind:kindOf st=kd
  failed:failedOf st=none
section
variable {M:Model} {A:Around} {E:Value→Shared→Prop} {s:Shared} {kd:SortKind} {rk:Keyed→Int} {a₀:Array Keyed}
structure Nx (a₀:Array Keyed) (kd:SortKind) (rk:Keyed→Int) (lo:Nat) (st st':SortSt):Prop where
  sb:SB a₀ kd st'
  fr:∀ k,k < lo→Kr rk (arrOf st') k=Kr rk (arrOf st) k
  pe:pendingOf st'=pendingOf st
end
end L2
namespace L2
open PySem PySem.Spec PyProof.Rows
section
variable {M:Model} {A:Around} {E:Value→Shared→Prop} {s:Shared} {kd:SortKind} {rk:Keyed→Int} {a₀:Array Keyed}
end
end L2
namespace L2
open PySem PySem.Spec PyProof.Rows
section
variable {M:Model} {A:Around} {E:Value→Shared→Prop} {s:Shared} {kd:SortKind} {rk:Keyed→Int} {a₀:Array Keyed}
abbrev PwL (rk:Keyed→Int) (l:List Keyed):Prop:=l.Pairwise fun p q=>rk p≤rk q
structure Sm (st st':SortSt):Prop where
  arr:arrOf st'=arrOf st
  kind:kindOf st'=kindOf st
  failed:failedOf st'=failedOf st
  pend:pendingOf st'=pendingOf st
structure MI (rk:Keyed→Int) (a b out:Array Keyed) (ia ib:Nat):Prop where
  ha:ia≤a.size
  hb:ib≤b.size
  so:PwL rk out.toList
  le:∀ p∈out.toList,∀ q∈a.toList.drop ia ++ b.toList.drop ib,rk p≤rk q
  pm:(out.toList ++ (a.toList.drop ia ++ b.toList.drop ib)).Perm (a.toList ++ b.toList)
end
end L2
set_option maxHeartbeats 8000000
namespace L2
open PySem PySem.Spec PyProof.Rows
section
variable {M:Model} {A:Around} {E:Value→Shared→Prop} {s:Shared} {kd:SortKind} {rk:Keyed→Int} {a₀:Array Keyed}
end
end L2
namespace L2
open PySem PySem.Spec PyProof.Rows
section
variable {M:Model} {A:Around} {E:Value→Shared→Prop} {s:Shared} {kd:SortKind} {rk:Keyed→Int} {a₀:Array Keyed}
structure MH (rk:Keyed→Int) (a b out:Array Keyed) (na nb:Nat):Prop where
  ha:na≤a.size
  hb:nb≤b.size
  so:PwL rk out.toList.reverse
  le:∀ p∈a.toList.take na ++ b.toList.take nb,∀ q∈out.toList,rk p≤rk q
  pm:((a.toList.take na ++ b.toList.take nb) ++ out.toList.reverse).Perm (a.toList ++ b.toList)
end
end L2
namespace L2
open PySem PySem.Spec PyProof.Rows
section
variable {M:Model} {A:Around} {E:Value→Shared→Prop} {s:Shared} {kd:SortKind} {rk:Keyed→Int} {a₀:Array Keyed}
end
end L2
namespace L2
open PySem PySem.Spec PyProof.Rows
section
variable {M:Model} {A:Around} {E:Value→Shared→Prop} {s:Shared} {kd:SortKind} {rk:Keyed→Int} {a₀:Array Keyed}
end
end L2
namespace L2
open PySem PySem.W PySem.Spec PyProof.Rows
section
variable {prog:Program} {w:World} {A:Around} {E:Value→Shared→Prop} {s:Shared}
end
section
variable {X:Cx}
end
section
variable {H:Hp} {Q:VK}
end
end L2
namespace L2
open PySem PySem.Spec PyProof.Rows
theorem vf:Manifest.owners.lookup (String.ofList ['d','e','s','r','e','v','e','r'].reverse)=some Manifest.sig_reversed:=by kernel_rfl
theorem fH:Slot "reversed" "__next__" "reversed.__next__":=
  .of (owner:="reversed") (n:="__next__") (by rw [typeLookup_type,builtinLookup_eq_fast];kernel_rfl) (by decide+kernel) (by decide+kernel) (by decide+kernel)
    (by first | exact .inl (by decide+kernel) | exact .inr (by decide+kernel)) (by rw [isSubtype_type];kernel_rfl)
theorem mU:entryFor table "reversed.__next__"=some Builtin.«reversed.__next__»:=entryFor_of_tree (by kernel_rfl)
theorem nO (a:Value):argsOk "reversed.__next__" ⟨[a],[]⟩:=by
  unfold argsOk;rw [signature?_of (id:="reversed.__next__") (n:=['_','_','t','x','e','n','_','_']) (o:=['d','e','s','r','e','v','e','r']) (by kernel_rfl) vf];kernel_rfl
theorem nP:Slot "reversed" "__iter__" "reversed.__iter__":=
  .of (owner:="reversed") (n:="__iter__") (by rw [typeLookup_type,builtinLookup_eq_fast];kernel_rfl) (by decide+kernel) (by decide+kernel) (by decide+kernel)
    (by first | exact .inl (by decide+kernel) | exact .inr (by decide+kernel)) (by rw [isSubtype_type];kernel_rfl)
theorem uz (a:Value):argsOk "reversed.__iter__" ⟨[a],[]⟩:=by
  unfold argsOk;rw [signature?_of (id:="reversed.__iter__") (n:=['_','_','r','e','t','i','_','_']) (o:=['d','e','s','r','e','v','e','r']) (by kernel_rfl) vf];kernel_rfl
theorem tW:entryFor table "reversed.__iter__"=some Builtin.«dict_keyiterator.__iter__»:=
  entryFor_alias (id':="dict_keyiterator.__iter__") (by kernel_rfl) (by first | rfl | decide+kernel | (unfold String.splitOn;simp+decide [String.splitOnAux])) (by decide+kernel) (by kernel_rfl)
theorem qj:typeLookup (.type "tuple") "__reversed__"=pure none:=by rw [typeLookup_type,builtinLookup_eq_fast];kernel_rfl
theorem sub_tuple_dict:isSubtype (.type "tuple") (.type "dict")=pure false:=by rw [isSubtype_type];kernel_rfl
theorem uA:Slot "reversed" "__init__" "object.__init__":=
  .of (owner:="object") (n:="__init__") (by rw [typeLookup_type,builtinLookup_eq_fast];kernel_rfl) (by decide+kernel) (by decide+kernel) (by decide+kernel)
    (by first | exact .inl (by decide+kernel) | exact .inr (by decide+kernel)) (by rw [isSubtype_type];kernel_rfl)
theorem oG:TypeCalled "reversed" "reversed.__new__" "object.__init__":=
  ⟨by decide+kernel,F.create_reversed,⟨_,_,F.mro_reversed⟩,F.made_reversed,F.plain_reversed_new,F.sub_reversed_self,uA⟩
section
variable {prog:Program} {w:World} {A:Around} {E:Value→Shared→Prop} {s:Shared}
def oH (l:Addr) (i:Int):Obj:={cls:=.type "reversed",data:=.fields #[.ref l,rawInt i]}
def IsRvd (h:Heap) (a l:Addr) (i:Int):Prop:=∃ o,h.get? a=some o∧o.cls= .type "reversed"∧o.data= .fields #[.ref l,rawInt i]
theorem IsRvd.typeIs {a l:Addr} {i:Int} (x:IsRvd s.heap a l i):s.TypeIs (.ref a) "reversed":=let ⟨o,ho,hc,_⟩:=x;⟨o,ho,hc⟩
theorem IsRvd.at {h h':Heap} {a l:Addr} {i:Int} (x:IsRvd h a l i) (e:∀ o,h.get? a=some o→h'.get? a=some o):IsRvd h' a l i:=let ⟨o,ho,r⟩:=x;⟨o,e _ ho,r⟩
theorem Hg {l:Addr} {items:Array Value} {Q₁:Value→Shared→Prop} (hl:IsTup s.heap l items) (hz:items.size < 2 ^ 62)
    (h:∀ k,Q₁ (.ref s.heap.objs.size) {s with heap:=s.heap.push (oH l ((items.size:Int) - 1)),toks:=k}):
    codeAny (model prog w) A (.call (.builtin "reversed.__new__") ⟨[.type "reversed",.ref l],[]⟩) (wants Q₁ E) s:=by
  refine codeAny_of_tree ?_
  show wpAny _ A.in1 (do checkBuiltinCall "reversed.__new__" ⟨[.type "reversed",.ref l],[]⟩;again (.builtin "reversed.__new__" ⟨[.type "reversed",.ref l],[]⟩)) _ _ s
  refine wpAny_bind (wpAny_of_eq (F.newCall_reversed_1 _) (wpAny_pure ⟨plainId_quiet F.plain_reversed_new _,codeAny_builtin F.entry_reversed_new ?_⟩))
  rw [Around.under_plainId F.plain_reversed_new _]
  unfold Builtin.«reversed.__new__»
  refine wpAny_bind (wpAny_of_eq (newClass_reversed _) ?_)
  try dsimp only
  refine wpAny_bind (wpAny_of_eq (a:=()) (by first | rfl | kernel_rfl) ?_)
  refine wpAny_bind (wpAny_of_eq (a:=()) (by first | rfl | kernel_rfl) ?_)
  try dsimp only
  refine wpAny_bind (wpAny_specialOf hl.typeIs qj ?_)
  try dsimp only
  refine wpAny_bind ?_
  refine wpAny_bind (wpAny_isInstance hl.typeIs sub_tuple_dict ?_)
  rw [if_neg (by decide)]
  refine wpAny_bind (wpAny_specialOf hl.typeIs F.slot_tuple_getitem.lookup ?_)
  dsimp only
  rw [if_pos (by decide+kernel)]
  refine wpAny_pure ?_
  rw [if_neg (by decide)]
  refine wpAny_bind (len_tuple hl (by omega) ?_)
  refine wpAny_bind (wpAny_of_eq (a:=some ((items.size:Nat):Int)) rfl ?_)
  dsimp only
  refine wpAny_bind ?_
  unfold Builtin.SmallTypes.newRecord
  refine wpAny_newObj_type ?_
  exact wpAny_pure (h _)
theorem Hh {l:Addr} {items:Array Value} {Q:Value→Shared→Prop} (hl:IsTup s.heap l items) (hz:items.size < 2 ^ 62)
    (h:∀ k,Q (.ref s.heap.objs.size) {s with heap:=s.heap.push (oH l ((items.size:Int) - 1)),toks:=k}):wpAny (model prog w) A (call (.type "reversed") [.ref l]) Q E s:=by
  refine callType_codes oG (F.typeCall_reversed_1 _) F.entry_object_init (Hg (Q₁:=fun obj s₁=>obj= .ref s.heap.objs.size∧∃ k,s₁={s with heap:=s.heap.push (oH l ((items.size:Int) - 1)),toks:=k}) hl hz fun k=>⟨rfl,k,rfl⟩) ?_
  rintro obj s₁ ⟨rfl,k,rfl⟩
  have hT:Shared.TypeIs {s with heap:=s.heap.push (oH l ((items.size:Int) - 1)),toks:=k} (.ref s.heap.objs.size) "reversed":=⟨_,Heap.get?_push_size _ rfl,rfl⟩
  exact ⟨hT,F.args_object_init_2 _ _,(object_init_meets oG.init.lookup oG.made (by decide)) prog w A.in1 _ _ ⟨hT,rfl,h k⟩⟩
theorem Hi {it l:Addr} {i:Nat} {items:Array Value} {x:Value} {Q:Option Value→Shared→Prop} (hit:IsRvd s.heap it l (i:Int)) (hl:IsTup s.heap l items) (hx:items[i]?=some x) (hz:items.size < 2 ^ 62)
    (hQ:∀ h' k,IsRvd h' it l ((i:Int) - 1)→Heap.SameBut it s.heap h'→Q (some x) {s with heap:=h',toks:=k}):wpAny (model prog w) A (pyNext (.ref it)) Q E s:=by
  obtain ⟨o,ho,hc,hd⟩:=id hit
  have hi:i < items.size:=(Array.getElem?_eq_some_iff.mp hx).1
  unfold pyNext
  refine wpAny_bind (wpAny_attempt (wpAny_callSpecial?_slot (name:=Str.ofString "__next__") hit.typeIs fH
    (wpAny_call_entry fH hit.typeIs mU ?_ (nO _))))
  unfold Builtin.«reversed.__next__»
  refine wpAny_bind (wpAny_of_eq (a:=(Value.ref it,[])) rfl ?_)
  try dsimp only
  refine wpAny_bind (wpAny_field ho hd (x:=.ref l) rfl ?_)
  refine wpAny_bind (wpAny_field ho hd (x:=rawInt (i:Int)) rfl ?_)
  show wpAny _ _ (if (i:Int) < 0 then _ else _) _ _ s
  rw [if_neg (by omega)]
  refine wpAny_bind (wpAny_specialOf hl.typeIs F.slot_tuple_getitem.lookup ?_)
  rw [if_neg (by decide)]
  refine wpAny_bind (wpAny_mkInt ?_)
  refine wpAny_bind (wpAny_attempt (getItem_tuple (j:=i) hl (by omega) (by omega) ?_ hx ?_))
  · unfold seqIndex?
    simp
    omega
  dsimp only
  refine wpAny_bind (wpAny_field (s:={s with toks:=s.toks+1}) ho hd (x:=rawInt (i:Int)) rfl ?_)
  refine wpAny_bind (wpAny_setField (s:={s with toks:=s.toks+1}) ho hd (by simp) ?_)
  refine wpAny_pure ⟨x,rfl,wpAny_pure (hQ _ _ ?_ (Heap.SameBut.update ..))⟩
  exact ⟨_,Heap.get?_update_self _ ho (Obj.isFreed_of_fields (Obj.data_mapFields hd _)),(Obj.cls_mapFields ..).trans hc,by
    rw [Obj.data_mapFields hd];simp⟩
theorem KH {it l:Addr} {Q:Option Value→Shared→Prop} (hh:A.handled=none) (hit:IsRvd s.heap it l (-1))
    (hQ:∀ h',Heap.ExtBut it s.heap h'→Q none {s with heap:=h'}):wpAny (model prog w) A (pyNext (.ref it)) Q E s:=by
  obtain ⟨o,ho,hc,hd⟩:=id hit
  unfold pyNext
  refine wpAny_bind (wpAny_attempt (wpAny_callSpecial?_slot (name:=Str.ofString "__next__") hit.typeIs fH
    (wpAny_call_entry fH hit.typeIs mU ?_ (nO _))))
  unfold Builtin.«reversed.__next__»
  refine wpAny_bind (wpAny_of_eq (a:=(Value.ref it,[])) rfl ?_)
  try dsimp only
  refine wpAny_bind (wpAny_field ho hd (x:=.ref l) rfl ?_)
  refine wpAny_bind (wpAny_field ho hd (x:=rawInt (-1)) rfl ?_)
  show wpAny _ _ (if (-1:Int) < 0 then _ else _) _ _ s
  rw [if_pos (by decide)]
  refine wpAny_bind (wpAny_rule ?_)
  refine wpAny_bind ?_
  refine wpAny_bind (wpAny_setField ho hd (by simp) ?_)
  have sb1:Heap.SameBut it s.heap (s.heap.update it (Obj.mapFields (·.setIfInBounds 1 (rawInt (-1))))):=Heap.SameBut.update ..
  have ho2:=Heap.get?_update_self (Obj.mapFields (·.setIfInBounds 1 (rawInt (-1)))) ho (Obj.isFreed_of_fields (Obj.data_mapFields hd _))
  refine wpAny_setField ho2 (Obj.data_mapFields hd _) (by simp) ?_
  have sb2:Heap.SameBut it (s.heap.update it (Obj.mapFields (·.setIfInBounds 1 (rawInt (-1))))) ((s.heap.update it (Obj.mapFields (·.setIfInBounds 1 (rawInt (-1))))).update it (Obj.mapFields (·.setIfInBounds 0 .none))):=Heap.SameBut.update ..
  have eb:Heap.ExtBut it s.heap ((s.heap.update it (Obj.mapFields (·.setIfInBounds 1 (rawInt (-1))))).update it (Obj.mapFields (·.setIfInBounds 0 .none))):=sb1.extBut.trans sb2.extBut
  show wpAny _ _ _ _ _ {s with heap:=((s.heap.update it (Obj.mapFields (·.setIfInBounds 1 (rawInt (-1))))).update it (Obj.mapFields (·.setIfInBounds 0 .none)))}
  generalize ((s.heap.update it (Obj.mapFields (·.setIfInBounds 1 (rawInt (-1))))).update it (Obj.mapFields (·.setIfInBounds 0 .none)))=h2 at eb ⊢
  refine wpAny_bind ?_
  show wpAny _ _ (newExc (.type "StopIteration") [] >>=_) _ _ _
  refine wpAny_bind ?_
  simp only [newExc,newTuple]
  refine wpAny_bind (wpAny_newObj_type ?_ (by size_fits))
  refine wpAny_bind (m:=firstArgMember _ _) (wpAny_of_eq (a:=Value.none) (by first | rfl | (simp only [firstArgMember];rfl)) ?_)
  refine wpAny_newObj_type ?_ (by size_fits)
  simp only [raiseNew]
  refine wpAny_bind (wpAny_handled ?_)
  first | rw [show A.in1.handled=none from hh] | rw [hh]
  refine wpAny_bind (wpAny_pure (wpAny_throw ?_))
  refine wpAny_bind (wpAny_isInstance (T:="StopIteration") (b:=true) ⟨_,Heap.get?_push_size _ rfl,rfl⟩ isSubtype_stop ?_)
  exact wpAny_pure (hQ _ ((eb.push _).push _))
theorem yh {it l:Addr} {i:Int} {Q:Value→Shared→Prop} (hit:IsRvd s.heap it l i) (h:Q (.ref it) s):wpAny (model prog w) A (pyIter (.ref it)) Q E s:=by
  refine wpAny_pyIter_slot hit.typeIs nP (wpAny_call_entry nP hit.typeIs tW ?_ (uz _))
  show wpAny _ _ (ret (.ref it)) _ _ s
  exact wpAny_pure ⟨_,rfl,"reversed",_,hit.typeIs,fH.lookup,h⟩
end
end L2
namespace L2
open PySem PySem.Spec PyProof.Rows
def Sd (K:PySem.W.Frag) (a:Addr) (n:Nat):It:=
  ⟨fun i H=>i < n∧n < 2 ^ 62∧∃ xs,SqT K H a xs∧xs.length=n,
   fun i H v H'=>H'=H∧∀ xs,SqT K H a xs→xs[n - 1 - i]?=some v,
   fun i _=>i=n⟩
theorem Hj {P:Program} {w:World} {K:PySem.W.Frag} {tg:Expr} {n:Nat} {it a:Addr} (hai:a≠it):
    Turn P w K tg (Sd K a n) [it] it (fun i h=>i≤n∧IsRvd h it a ((n:Int) - 1 - (i:Int))) where
  mem:=by simp
  obj:=fun i h st c hc=>by
    obtain ⟨_,⟨o1,e1,c1,d1⟩⟩:=st
    have e:c=it:=by simpa using hc
    subst e
    exact ⟨_,e1,fun v z=>by rw [d1] at z;cases z⟩
  keep:=fun i h h' st kk=>⟨st.1,st.2.at fun o q=>kk it (by simp) o q⟩
  item:=by
    intro X hP hw hK hc i pins s σ H E I hf st hg
    subst hP hw hK
    obtain ⟨hi,h1⟩:=st
    obtain ⟨hlt,h62,xs,hq,hlen⟩:=hg
    obtain ⟨its,rv,p,_⟩:=I.tuple hq
    have l1:=rv.length
    obtain ⟨x,hx⟩:∃ x,xs[n - 1 - i]?=some x:=⟨_,List.getElem?_eq_getElem (by omega)⟩
    obtain ⟨u,hu,ru⟩:=rv.get hx
    obtain ⟨f0,f1,f2,f3,f4,f5⟩:=hf it (by simp)
    have e:(n:Int) - 1 - (i:Int)=((n - 1 - i:Nat):Int):=by omega
    rw [e] at h1
    refine Hi h1 p (x:=u) (by simpa using hu) (by simp;omega) fun h' k st' sb=>?_
    have I1:Inv X pins σ H {s with heap:=h',toks:=k}:=I.turned (t':=k) (fun b o hb e=>(sb.2 b hb).trans e) f0 f1 f3 f4 f5
    obtain ⟨o,eo,c,d⟩:=id st'
    refine ⟨u,rfl,uL (s:={s with heap:=h',toks:=k}) eo c d (by decide) ⟨x,H,I1,ru,⟨rfl,fun ys hy=>by rw [I.tuple_inj hy hq];exact hx⟩,⟨hlt,?_⟩,fun b hb=>(hf b hb).1⟩⟩
    have e2:((n - 1 - i:Nat):Int) - 1=(n:Int) - 1 - ((i+1:Nat):Int):=by omega
    rw [← e2]
    exact st'
  done:=by
    intro X hP hw hK hc i pins s σ H E I hf st hg
    subst hP hw hK
    obtain ⟨hi,h1⟩:=st
    have hin:i=n:=hg
    subst hin
    rw [show (i:Int) - 1 - (i:Int)= -1 by omega] at h1
    obtain ⟨f0,f1,f2,f3,f4,f5⟩:=hf it (by simp)
    exact KH (I.ok.hd hc) h1 fun h' eb=>⟨rfl,I.turned (t':=s.toks) (fun b o hb e=>eb b o hb e) f0 f1 f3 f4 f5⟩
  self:=fun _ _ _ _ _ st h=>yh st.2 h
def Nq (K:PySem.W.Frag) (ta:TE):TI:=fun σ H R=>ta σ H fun x H1=>(∃ l xs,x= .ref l∧SqL K H1 l xs∧R (R9 K l xs.length) H1)∨∃ l xs,x= .ref l∧SqT K H1 l xs∧xs.length < 2 ^ 62∧R (Sd K l xs.length) H1
theorem KJ {X:Cx} {K:PySem.W.Frag} {a tg:Expr} {ta:TE} {p pos:Pos} (hK:X.K=K) (hg:Gl X "reversed") (hm:X.mg "reversed"=none) (ha:JE X a ta) (h:autoParam (notStar a=true) L2.auto4._auto_1):
    JI X tg (.Call (.Name "reversed" p) [a] [] pos) (Nq K ta):=⟨by
  subst hK
  intro pins s σ H R I hq
  refine Call_ (iH I hg hm mJ (PyProof.Rows.callWith_type1 (arg1 h (dF (ha.run pins s σ H _ I hq) fun u s1 qq0=>?_)) (bV h) rfl))
  obtain ⟨x,H1,I1,rx,hx⟩:=qq0
  rcases hx with ⟨l,xs,ex,hx,q⟩ | ⟨l,xs,ex,hx,h62,q⟩
  · subst ex
    cases rx
    obtain ⟨its,rv,ht,hz⟩:=I1.list hx
    have hlen:=rv.length
    have lt:l < s1.heap.objs.size:=by obtain ⟨o,ho,_⟩:=ht.isList;exact Heap.lt_size ho
    refine call_reversed_list ht.isList ?_
    have e0:(s1.heap.push (PySem.revObj l ((its.toArray.size:Int) - 1))).get? s1.heap.objs.size=some (PySem.revObj l ((its.toArray.size:Int) - 1)):=Heap.get?_push_size _ rfl
    have z2:(s1.heap.push (PySem.revObj l ((its.toArray.size:Int) - 1))).IsRevIter s1.heap.objs.size l ((xs.length:Int) - 1 - ((0:Nat):Int)):=⟨_,e0,rfl,by
      show Data.fields #[.ref l,rawInt ((its.toArray.size:Int) - 1)]=_
      rw [show ((its.toArray.size:Int) - 1)=(xs.length:Int) - 1 - ((0:Nat):Int) by rw [List.size_toArray];omega]⟩
    refine wpAny_pyIter_revIter z2 ?_
    refine ⟨s1.heap.objs.size,[s1.heap.objs.size],_,_,H1,rfl,I1.kept (t':=s1.toks) fun b o q=>Heap.get?_push_of_some _ q,Hb (n:=xs.length) (Nat.ne_of_lt lt),⟨Nat.zero_le _,z2⟩,fun b hb=>?_,q⟩
    have e:b=s1.heap.objs.size:=by simpa using hb
    subst e
    exact I1.fpOk (Nat.le_refl _) (I1.hok.fresh (Nat.le_refl _))
  · subst ex
    cases rx
    obtain ⟨its,rv,ht,hz⟩:=I1.tuple hx
    have hlen:=rv.length
    have lt:l < s1.heap.objs.size:=by obtain ⟨o,ho,_⟩:=id ht;exact Heap.lt_size ho
    refine Hh ht (by simp;omega) fun k=>?_
    have e0:(s1.heap.push (oH l ((its.toArray.size:Int) - 1))).get? s1.heap.objs.size=some (oH l ((its.toArray.size:Int) - 1)):=Heap.get?_push_size _ rfl
    have z2:IsRvd (s1.heap.push (oH l ((its.toArray.size:Int) - 1))) s1.heap.objs.size l ((xs.length:Int) - 1 - ((0:Nat):Int)):=⟨_,e0,rfl,by
      show Data.fields #[.ref l,rawInt ((its.toArray.size:Int) - 1)]=_
      rw [show ((its.toArray.size:Int) - 1)=(xs.length:Int) - 1 - ((0:Nat):Int) by rw [List.size_toArray];omega]⟩
    refine yh z2 ?_
    refine ⟨s1.heap.objs.size,[s1.heap.objs.size],_,_,H1,rfl,I1.kept (t':=k) fun b o q=>Heap.get?_push_of_some _ q,Hj (n:=xs.length) (Nat.ne_of_lt lt),⟨Nat.zero_le _,z2⟩,fun b hb=>?_,q⟩
    have e:b=s1.heap.objs.size:=by simpa using hb
    subst e
    exact I1.fpOk (Nat.le_refl _) (I1.hok.fresh (Nat.le_refl _))⟩
section
variable {K:PySem.W.Frag} {σ:St} {H:Hp}
theorem Hk {ta:TE} {R:It→Hp→Prop} (h:ta σ H fun x H1=>(∃ l xs,x= .ref l∧SqL K H1 l xs∧R (R9 K l xs.length) H1)∨∃ l xs,x= .ref l∧SqT K H1 l xs∧xs.length < 2 ^ 62∧R (Sd K l xs.length) H1):Nq K ta σ H R:=h
theorem KN {a:Addr} {xs:List V} {g:TG} {tb:TS} {D:Ends} (Pv:Nat→St→Hp→Prop) (h0:Pv 0 σ H) (hl:∀ i σ H,i≤xs.length→Pv i σ H→SqL K H a xs)
    (hs:∀ i x σ H,i < xs.length→xs[xs.length - 1 - i]?=some x→Pv i σ H→g x σ H fun σ2 H2=>tb {D with nx:=Pv (i+1),ct:=Pv (i+1),bk:=D.nx} σ2 H2) (hd:∀ σ H,Pv xs.length σ H→D.nx σ H):
    ∃ W:Nat→Nat→St→Hp→Prop,(∃ m,W 0 m σ H)∧∀ i m σ H,W i m σ H→
      ((R9 K a xs.length).stop i H∧D.nx σ H)∨((R9 K a xs.length).go i H∧∃ N:St→Hp→Prop,(∀ σ' H',N σ' H'→∃ m',m' < m∧W (i+1) m' σ' H')∧∀ x H',(R9 K a xs.length).yld i H x H'→g x σ H' fun σ2 H2=>tb {D with nx:=N,ct:=N,bk:=D.nx} σ2 H2):=by
  refine ⟨fun i m σ H=>m=xs.length - i∧i≤xs.length∧Pv i σ H,⟨xs.length,by simp,Nat.zero_le _,h0⟩,?_⟩
  rintro i m σ H ⟨rfl,hi,p⟩
  have hq:=hl i σ H hi p
  by_cases hlt:i < xs.length
  · refine .inr ⟨⟨hlt,xs,hq,rfl⟩,Pv (i+1),fun σ' H' h=>⟨xs.length - (i+1),by omega,rfl,by omega,h⟩,fun x H' y=>?_⟩
    obtain ⟨rfl,hy⟩:=y
    exact hs i x σ _ hlt (hy xs hq) p
  · obtain rfl:i=xs.length:=by omega
    exact .inl ⟨rfl,hd σ H p⟩
theorem KQ {a:Addr} {xs:List V} {g:TG} {tb:TS} {D:Ends} (h62:xs.length < 2 ^ 62) (Pv:Nat→St→Hp→Prop) (h0:Pv 0 σ H) (hl:∀ i σ H,i≤xs.length→Pv i σ H→SqT K H a xs)
    (hs:∀ i x σ H,i < xs.length→xs[xs.length - 1 - i]?=some x→Pv i σ H→g x σ H fun σ2 H2=>tb {D with nx:=Pv (i+1),ct:=Pv (i+1),bk:=D.nx} σ2 H2) (hd:∀ σ H,Pv xs.length σ H→D.nx σ H):
    ∃ W:Nat→Nat→St→Hp→Prop,(∃ m,W 0 m σ H)∧∀ i m σ H,W i m σ H→
      ((Sd K a xs.length).stop i H∧D.nx σ H)∨((Sd K a xs.length).go i H∧∃ N:St→Hp→Prop,(∀ σ' H',N σ' H'→∃ m',m' < m∧W (i+1) m' σ' H')∧∀ x H',(Sd K a xs.length).yld i H x H'→g x σ H' fun σ2 H2=>tb {D with nx:=N,ct:=N,bk:=D.nx} σ2 H2):=by
  refine ⟨fun i m σ H=>m=xs.length - i∧i≤xs.length∧Pv i σ H,⟨xs.length,by simp,Nat.zero_le _,h0⟩,?_⟩
  rintro i m σ H ⟨rfl,hi,p⟩
  have hq:=hl i σ H hi p
  by_cases hlt:i < xs.length
  · refine .inr ⟨⟨hlt,h62,xs,hq,rfl⟩,Pv (i+1),fun σ' H' h=>⟨xs.length - (i+1),by omega,rfl,by omega,h⟩,fun x H' y=>?_⟩
    obtain ⟨rfl,hy⟩:=y
    exact hs i x σ _ hlt (hy xs hq) p
  · obtain rfl:i=xs.length:=by omega
    exact .inl ⟨rfl,hd σ H p⟩
end
end L2
namespace My
open PySem L2
abbrev aN (d:Stmt) (x:Str):Prop:=(az d).names.lookup x=some NameKind.local
abbrev zM (d:Stmt) (x:Str):Prop:=(az d).names.lookup x=some NameKind.cell
abbrev cu (d:Stmt) (x:Str):Prop:=(az d).names.lookup x=some NameKind.globalImplicit
def nI (cs:List Nat):List Int:=cs.map fun i:Nat=>(i:Int)
def wks (E:List Nat) (p:Nat):Bool:=decide (E.getD p 0 < E.getD (p+1) 0)
def Nr (E:List Nat) (p:Nat):List Nat:=if wks E p=true then (E.set p (E.getD (p+1) 0)).set (p+1) (E.getD p 0) else E
def Hl (E:List Nat) (ps:List Nat):List Nat:=ps.foldl Nr E
def wrk (E:List Nat) (ps:List Nat) (i:Nat):List Nat:=(List.range i).filter fun j=>wks (Hl E (ps.take j)) (ps.getD j 0)
def inv (E:List Nat):List Nat:=(List.range E.length).map fun x=>E.idxOf x
theorem Hm {E:List Nat} (hn:E.Nodup) {i x:Nat} (h:E[i]?=some x):E.idxOf x=i:=by
  obtain ⟨hi,rfl⟩:=List.getElem?_eq_some_iff.mp h
  exact hn.idxOf_getElem i hi
structure Prm (t:List Nat):Prop where
  le:t.length≤96
  pm:t.Perm (List.range t.length)
theorem Prm.nd {t:List Nat} (h:Prm t):t.Nodup:=h.pm.nodup_iff.mpr List.nodup_range
theorem Prm.lt {t:List Nat} (h:Prm t) {x:Nat} (hx:x∈t):x < t.length:=List.mem_range.mp (h.pm.mem_iff.mp hx)
def Wk:List Nat→List Nat→Prop
  | _,[]=>True
  | B,p :: us=>wks B p=true∧Wk (Nr B p) us
structure Sx (B0:List Nat) (n:Nat) (B u:List Nat):Prop where
  len:B.length=n
  pm:B.Perm (List.range n)
  lt:∀ p∈u,p+1 < n
  back:Hl B u.reverse=B0
  wk:Wk B u.reverse
  link:∀ i,i < n→B.getD i 0=B0.getD ((Hl (List.range n) u).getD i 0) 0
structure Und (t u:List Nat):Prop where
  lt:∀ p∈u,p+1 < t.length
  back:Hl (List.range t.length) u.reverse=inv t
  wk:wrk (List.range t.length) u.reverse u.reverse.length=List.range u.reverse.length
  fw:Hl (List.range t.length) u=t
structure Pn (n:Nat) (A:List Nat):Prop where
  len:A.length=n
  lt:∀ x∈A,x < n
structure Two (n:Nat) (x y:List Nat):Prop where
  px:Prm x
  py:Prm y
  lx:x.length=n
  ly:y.length=n
def top (i:Nat):Stmt:=PySem.Challenge.pw_panethread_k44_whole_windows_of_boards.main.body.getD i (.Pass ⟨0,0,0,0⟩)
abbrev dZ:Stmt:=top 13
abbrev d7:Stmt:=top 14
abbrev gY:Stmt:=top 15
abbrev cY:Stmt:=top 16
abbrev dB:Stmt:=top 17
abbrev fJ:Stmt:=top 19
abbrev gZ:Stmt:=top 20
abbrev gm:Stmt:=top 21
abbrev dJ:Stmt:=top 25
abbrev bc:Stmt:=top 26
abbrev cz:Stmt:=top 27
abbrev bF:Stmt:=top 28
abbrev cU:Stmt:=top 29
abbrev aY:Stmt:=top 30
abbrev cL:Stmt:=top 31
abbrev bI:Stmt:=top 34
abbrev du:Stmt:=top 35
abbrev cZ:Stmt:=top 36
abbrev cB:Stmt:=top 40
abbrev gn:Stmt:=top 42
abbrev ie:Stmt:=top 44
abbrev bQ:Stmt:=top 45
abbrev gf:Stmt:=top 46
abbrev dM:Stmt:=top 47
abbrev d8:Stmt:=top 48
abbrev gq:Stmt:=top 49
abbrev bM:Stmt:=top 50
abbrev eU:Stmt:=top 51
abbrev cM:Stmt:=top 52
abbrev bu:Stmt:=top 53
abbrev bG:Stmt:=top 54
abbrev bL:Stmt:=top 55
abbrev cA:Stmt:=top 56
abbrev cF:Stmt:=top 57
abbrev aQ:Stmt:=jO 0 (top 32)
abbrev fK:Stmt:=jO 3 (top 32)
abbrev bN:Stmt:=jO 0 (top 38)
abbrev cG:Stmt:=jO 1 (top 38)
abbrev bJ:Stmt:=jO 0 (top 41)
abbrev bK:Stmt:=jO 1 (top 41)
abbrev bw:Stmt:=jO 2 (top 41)
abbrev b7:Stmt:=jO 3 (top 41)
abbrev cP:Stmt:=jO 4 (top 41)
abbrev bW:Stmt:=jO 5 (top 41)
abbrev dh:Stmt:=jO 6 (top 41)
abbrev di:Stmt:=jO 7 (top 41)
abbrev bY:Stmt:=jO 8 (top 41)
abbrev eV:Stmt:=jO 9 (top 41)
abbrev pH:Stmt:=initOf (top 3)
abbrev kW:Stmt:=initOf (top 4)
abbrev kY:Stmt:=initOf (top 5)
abbrev iD:Stmt:=initOf (top 6)
abbrev jB:Stmt:=initOf (top 7)
local macro_rules | `(tactic| walk_at "sts") => `(tactic| (with_reducible repeat (first | refine qZ ?_ | refine nF ?_ | refine oX ?_ | refine mD ?_ | refine mF ?_ | (refine' lZ ?hz0 ?_; (case hz0 => with_unfolding_all rfl)) | refine Ef ?_ | refine rC ?_ | refine jd ?_ | refine iT ?_ | refine mj ?_ | refine ph ?_ | refine lQ ?_ | refine iJ ?_ | refine lV ?_ | refine iI ?_ | refine qW ?_ | refine iM ?_ | refine rD ?_ | refine rm ?_ | refine iU ?_ | refine qX ?_ | refine lW ?_ | refine lX ?_ | refine qY ?_ | refine iQ ?_ | refine iR ?_ | refine lY ?_ | refine lU ?_ | refine iK ?_ | refine q9 ?_ | refine u5 ?_ | refine u6 ?_ | refine rn ?_ | refine rB ?_ | refine my ?_ | refine iV ?_ | refine iW ?_ | refine iY ?_ | refine iZ ?_ | refine jb ?_ | refine jc ?_ | refine mz ?_ | refine Eh ?_ | refine fO ?_ | refine jh ?_ | (refine' dg (SqT.of ?hz0) ?hz1 ?_; (case hz0 => first | assumption | exact aj); (case hz1 => rfl)) | refine fQ ?_ | refine fV ?_ | refine fU ?_ | refine ji ?_ | refine gU ?_ | refine gW ?_ | refine jj ?_ | refine jk ?_ | refine rE ?_ | refine gP ?_ | refine gQ ?_ | refine fP ?_ | refine mC ?_ | refine jf ?_ | (refine' Eg ?hz0 ?_; (case hz0 => with_unfolding_all first | assumption | omega | (dsimp only <;> omega) | exact ⟨by omega, by omega⟩ | exact .inl ⟨by omega, by omega⟩ | exact .inr ⟨by omega, by omega⟩ | exact ⟨by decide, by decide, by decide⟩)) | (refine' je ?hz0 ?_; (case hz0 => with_unfolding_all first | assumption | omega | (dsimp only <;> omega) | exact ⟨by omega, by omega⟩ | exact .inl ⟨by omega, by omega⟩ | exact .inr ⟨by omega, by omega⟩ | exact ⟨by decide, by decide, by decide⟩)) | (refine' bR (SqL.of ?hz0) ?hz1 ?_; (case hz0 => first | assumption | exact aj); (case hz1 => with_unfolding_all rfl)) | (refine' jL (SqT.of ?hz0) ?hz1 ?_; (case hz0 => first | assumption | exact aj); (case hz1 => with_unfolding_all rfl)) | (refine' gF ?hz0 ?hz1 ?_; (case hz0 => first | assumption | exact aj); (case hz1 => with_unfolding_all rfl)) | refine fW ?_ | refine fX ?_ | refine mG ?_ | refine jl ?_ | refine rY ?_ | refine m7 ?_)))
local macro_rules | `(tactic| walk_at "stn") => `(tactic| (with_reducible repeat (first | refine qZ ?_ | refine nF ?_ | refine oX ?_ | refine mD ?_ | refine mF ?_ | (refine' lZ ?hz0 ?_; (case hz0 => with_unfolding_all rfl)) | refine Ef ?_ | refine rC ?_ | refine jd ?_ | refine iT ?_ | refine mj ?_ | refine lQ ?_ | refine iJ ?_ | refine lV ?_ | refine iI ?_ | refine qW ?_ | refine iM ?_ | refine rD ?_ | refine rm ?_ | refine iU ?_ | refine qX ?_ | refine lW ?_ | refine lX ?_ | refine qY ?_ | refine iQ ?_ | refine iR ?_ | refine lY ?_ | refine lU ?_ | refine iK ?_ | refine q9 ?_ | refine u5 ?_ | refine u6 ?_ | refine rn ?_ | refine rB ?_ | refine my ?_ | refine iV ?_ | refine iW ?_ | refine iY ?_ | refine iZ ?_ | refine jb ?_ | refine jc ?_ | refine mz ?_ | refine Eh ?_ | refine fO ?_ | refine jh ?_ | (refine' dg (SqT.of ?hz0) ?hz1 ?_; (case hz0 => first | assumption | exact aj); (case hz1 => rfl)) | refine fQ ?_ | refine fV ?_ | refine fU ?_ | refine ji ?_ | refine gU ?_ | refine gW ?_ | refine jj ?_ | refine jk ?_ | refine rE ?_ | refine gP ?_ | refine gQ ?_ | refine fP ?_ | refine mC ?_ | refine jf ?_ | (refine' Eg ?hz0 ?_; (case hz0 => with_unfolding_all first | assumption | omega | (dsimp only <;> omega) | exact ⟨by omega, by omega⟩ | exact .inl ⟨by omega, by omega⟩ | exact .inr ⟨by omega, by omega⟩ | exact ⟨by decide, by decide, by decide⟩)) | (refine' je ?hz0 ?_; (case hz0 => with_unfolding_all first | assumption | omega | (dsimp only <;> omega) | exact ⟨by omega, by omega⟩ | exact .inl ⟨by omega, by omega⟩ | exact .inr ⟨by omega, by omega⟩ | exact ⟨by decide, by decide, by decide⟩)) | (refine' bR (SqL.of ?hz0) ?hz1 ?_; (case hz0 => first | assumption | exact aj); (case hz1 => with_unfolding_all rfl)) | (refine' jL (SqT.of ?hz0) ?hz1 ?_; (case hz0 => first | assumption | exact aj); (case hz1 => with_unfolding_all rfl)) | (refine' gF ?hz0 ?hz1 ?_; (case hz0 => first | assumption | exact aj); (case hz1 => with_unfolding_all rfl)) | refine fW ?_ | refine fX ?_ | refine mG ?_ | refine jl ?_ | refine rY ?_ | refine m7 ?_)))
mutual
def gA (m:Nat) (C:Nat→Nat→Bool) (i:Nat):Nat→Nat
  | 0=>m - 1 - i
  | j+1=>if C i j=true then gD m C j i else gA m C i j
termination_by j=>i+j
def gD (m:Nat) (C:Nat→Nat→Bool) (j:Nat):Nat→Nat
  | 0=>m+j
  | i+1=>if C i j=true then gA m C i j else gD m C j i
termination_by i=>i+j
end
section
variable {m:Nat} {C:Nat→Nat→Bool}
theorem gJ (i:Nat):gA m C i 0=m - 1 - i:=by rw [gA]
theorem iB (i j:Nat):gA m C i (j+1)=if C i j=true then gD m C j i else gA m C i j:=by rw [gA]
theorem jt (j:Nat):gD m C j 0=m+j:=by rw [gD]
theorem fY (i j:Nat):gD m C j (i+1)=if C i j=true then gA m C i j else gD m C j i:=by rw [gD]
theorem yj (i far:Nat):∀ j,j≤far→((List.range j).map (fun l=>gD m C l (i+1)) ++ gA m C i j :: (List.range' j (far - j)).map (fun l=>gD m C l i)).Perm (gA m C i 0 :: (List.range far).map (fun l=>gD m C l i))
  | 0,_=>by rw [List.range_eq_range' (n:=far)];exact List.Perm.refl _
  | j+1,h=>by
    refine List.Perm.trans ?_ (yj i far j (by omega))
    rw [List.range_succ,List.map_append,List.append_assoc,show far - j=(far - (j+1))+1 by omega,List.range'_succ,List.map_cons]
    refine List.Perm.append_left _ ?_
    show (gD m C j (i+1) :: gA m C i (j+1) :: _).Perm _
    rw [iB,fY]
    by_cases hc:C i j=true
    · rw [if_pos hc,if_pos hc];exact List.Perm.refl _
    · rw [if_neg hc,if_neg hc]
      exact List.Perm.swap _ _ _
theorem row_end (i far:Nat):((List.range far).map (fun l=>gD m C l (i+1)) ++ [gA m C i far]).Perm ((m - 1 - i) :: (List.range far).map (fun l=>gD m C l i)):=by
  have h:=yj (m:=m) (C:=C) i far far (Nat.le_refl _)
  rw [Nat.sub_self,gJ] at h
  exact h
theorem yl (far:Nat):∀ i,((List.range i).map (fun k=>gA m C k far) ++ (List.range far).map (fun l=>gD m C l i)).Perm ((List.range i).map (fun k=>m - 1 - k) ++ (List.range far).map (fun l=>m+l))
  | 0=>by
    simp only [List.range_zero,List.map_nil,List.nil_append,jt]
    exact List.Perm.refl _
  | i+1=>by
    have ih:=yl far i
    rw [List.range_succ,List.map_append,List.map_append,List.append_assoc,List.append_assoc]
    refine List.Perm.trans (List.Perm.append_left _ (List.perm_append_comm.trans (row_end i far))) ?_
    show ((List.range i).map _ ++ ([m - 1 - i] ++ _)).Perm _
    refine List.Perm.trans (List.perm_append_comm_assoc _ _ _) ?_
    refine List.Perm.trans ?_ (List.perm_append_comm_assoc _ _ _)
    exact List.Perm.append_left _ ih
theorem ql (far:Nat):((List.range m).map (fun k=>gA m C k far) ++ (List.range far).map (fun l=>gD m C l m)).Perm (List.range (m+far)):=by
  refine (yl far m).trans ?_
  rw [List.range_add]
  refine List.Perm.append_right _ ?_
  have e:(List.range m).map (fun k=>m - 1 - k)=(List.range m).reverse:=by
    refine List.ext_getElem (by simp) fun i h1 h2=>?_
    simp
  rw [e]
  exact List.reverse_perm _
end
def ig (z:Nat→Bool) (ab:List Int) (left:Int):Nat→List Int×Int
  | 0=>([],left)
  | j+1=>if z j=true then ((ig z ab left j).1 ++ [(ig z ab left j).2],ab.getD j 0) else ((ig z ab left j).1 ++ [ab.getD j 0],(ig z ab left j).2)
theorem ym (z:Nat→Bool) (ab:List Int) (left:Int):∀ j,(ig z ab left j).1.length=j
  | 0=>rfl
  | j+1=>by
    have ih:=ym z ab left j
    rw [ig]
    split <;> simp [ih]
def qm (m:Nat) (C:Nat→Nat→Bool) (far i:Nat):List Int:=(List.range far).map fun l=>((gD m C l i:Nat):Int)
def Dm (m:Nat) (C:Nat→Nat→Bool) (far i:Nat):List Int:=(List.range i).map fun k=>((gA m C k far:Nat):Int)
theorem zN {m:Nat} {C:Nat→Nat→Bool} {far i j:Nat} (h:j < far):(qm m C far i).getD j 0=((gD m C j i:Nat):Int):=by
  unfold qm
  rw [List.getD_eq_getElem?_getD,List.getElem?_map,List.getElem?_range h];rfl
theorem Qs {m:Nat} {C:Nat→Nat→Bool} {far i j:Nat} (h:j < i):(Dm m C far i)[j]?=some ((gA m C j far:Nat):Int):=by
  unfold Dm
  rw [List.getElem?_map,List.getElem?_range h];rfl
theorem KR {m:Nat} {C:Nat→Nat→Bool} {far i j:Nat} (h:j < far):(qm m C far i)[j]?=some ((gD m C j i:Nat):Int):=by
  unfold qm
  rw [List.getElem?_map,List.getElem?_range h];rfl
theorem v5 {m:Nat} {C:Nat→Nat→Bool} {far i:Nat}:∀ j,j≤far→ig (C i) (qm m C far i) ((gA m C i 0:Nat):Int) j=(qm m C j (i+1),((gA m C i j:Nat):Int))
  | 0,_=>rfl
  | j+1,h=>by
    have ih:=v5 (m:=m) (C:=C) (far:=far) (i:=i) j (by omega)
    rw [ig,ih,zN (by omega),iB]
    have e:qm m C (j+1) (i+1)=qm m C j (i+1) ++ [((gD m C j (i+1):Nat):Int)]:=by unfold qm;rw [List.range_succ,List.map_append];rfl
    rw [e,fY]
    by_cases hc:C i j=true
    · rw [if_pos hc,if_pos hc,if_pos hc]
    · rw [if_neg hc,if_neg hc,if_neg hc]
theorem yo {m:Nat} {C:Nat→Nat→Bool} {far:Nat}:(∀ i,i < m→gA m C i far < m+far)∧∀ j,j < far→gD m C j m < m+far:=by
  have p:=ql (m:=m) (C:=C) far
  refine ⟨fun i hi=>?_,fun j hj=>?_⟩
  · exact List.mem_range.mp (p.mem_iff.mp (List.mem_append_left _ (List.mem_map.mpr ⟨i,List.mem_range.mpr hi,rfl⟩)))
  · exact List.mem_range.mp (p.mem_iff.mp (List.mem_append_right _ (List.mem_map.mpr ⟨j,List.mem_range.mpr hj,rfl⟩)))
theorem tX {m:Nat} {C:Nat→Nat→Bool} {far:Nat}:((List.range m).map (fun k=>gA m C k far) ++ (List.range far).map (fun l=>gD m C l m)).Nodup:=
  (ql (m:=m) (C:=C) far).nodup_iff.mpr List.nodup_range
theorem Um {m:Nat} {C:Nat→Nat→Bool} {far i k:Nat} (hi:i < m) (hk:k < m) (h:i≠k):gA m C i far≠gA m C k far:=by
  have n:=(List.nodup_append.mp (tX (m:=m) (C:=C) (far:=far))).1
  have key:=List.pairwise_iff_getElem.mp n
  intro z
  rcases Nat.lt_or_gt_of_ne h with l | l
  · exact key i k (by simpa using hi) (by simpa using hk) l (by simpa using z)
  · exact key k i (by simpa using hk) (by simpa using hi) l (by simpa using z.symm)
theorem Uo {m:Nat} {C:Nat→Nat→Bool} {far i k:Nat} (hi:i < far) (hk:k < far) (h:i≠k):gD m C i m≠gD m C k m:=by
  have n:=(List.nodup_append.mp (tX (m:=m) (C:=C) (far:=far))).2.1
  have key:=List.pairwise_iff_getElem.mp n
  intro z
  rcases Nat.lt_or_gt_of_ne h with l | l
  · exact key i k (by simpa using hi) (by simpa using hk) l (by simpa using z)
  · exact key k i (by simpa using hk) (by simpa using hi) l (by simpa using z.symm)
theorem Up {m:Nat} {C:Nat→Nat→Bool} {far i j:Nat} (hi:i < m) (hj:j < far):gA m C i far≠gD m C j m:=
  (List.nodup_append.mp (tX (m:=m) (C:=C) (far:=far))).2.2 _ (List.mem_map.mpr ⟨i,List.mem_range.mpr hi,rfl⟩) _ (List.mem_map.mpr ⟨j,List.mem_range.mpr hj,rfl⟩)
def oJ (m:Nat) (C:Nat→Nat→Bool) (far:Nat) (R:List Int):Prop:=R.length=m+far∧(∀ j,j < far→R[gD m C j m]?=some (j:Int))∧∀ i,i < m→R[gA m C i far]?=some (((far+(m - 1 - i):Nat)):Int)
def tY:Str:=Str.ofString "abcdefghijklmnopqrstuvwxyz"
def GOOD:List Nat:=(tY ++ Str.ofString ".").cps.toList
def Row (z:Str):Prop:=z.length≤48∧∀ c∈z.cps.toList,c∈GOOD
def Dn (l:Str) (c:Nat):Bool:=(Builtin.Str.occurrences l ⟨#[c]⟩ 0 l.length 1).isEmpty
theorem KY:∀ c∈GOOD,Dn (tY ++ Str.ofString ".") c=false:=by decide+kernel
def GoodS (ys:List Str):Prop:=∀ y∈ys,∃ c,y=⟨#[c]⟩∧c∈GOOD
theorem GoodS.ones {ys:List Str} (h:GoodS ys):∀ y∈ys,y.length=1:=fun y hy=>by
  obtain ⟨c,rfl,_⟩:=h y hy
  exact len1 c
theorem Qt {zs:List Str} (h:GoodS zs) (hl:zs.length≤48):Row (Txt.join (Str.ofString "") zs):=by
  refine ⟨by rw [xK h.ones];exact hl,fun c hc=>?_⟩
  rw [sZ] at hc
  obtain ⟨l,hl1,hl2⟩:=List.mem_flatten.mp hc
  obtain ⟨y,hy,e⟩:=List.mem_map.mp hl1
  obtain ⟨d,rfl,hd⟩:=h y hy
  subst e
  simp at hl2
  subst hl2
  exact hd
theorem over {H H':Hp} {r:Addr} {o:HO} (s:Same H H') (hn:H r=none):Same H (upd H' r o):=fun b u e=>by
  rw [aD (fun z=>by rw [z,hn] at e;cases e)];exact s b u e
def Thing (K:PySem.W.Frag) (H:Hp) (v:V):Prop:=(∃ z,v= .str z∧z.length≤5000)∨∃ T,TyOf K H v (.type T)∧PySem.W.kitOne K (.type T) (.type "str")=some false
def among (z l:Str):Bool:=z.cps.toList.all fun c=>!(Builtin.Str.occurrences l ⟨#[c]⟩ 0 l.length 1).isEmpty
def nQ (v:V) (l:Str) (m:Int):Bool:=match v with
  | .str z=>decide ((z.length:Int)≤m) && among z l
  | _=>false
def spIs (K:PySem.W.Frag) (l:Str) (m:Int):Sp:=fun vs H Q _=>∃ (v:V),vs=[v]∧Thing K H v∧∀ H',Same H H'→Q (.bl (nQ v l m)) H'
structure Txt (K:PySem.W.Frag) (mg:Str→Option Value):Prop where
  b_all:mg "all"=none
  b_bool:mg "bool"=none
  b_enumerate:mg "enumerate"=none
  b_int:mg "int"=none
  b_isinstance:mg "isinstance"=none
  b_len:mg "len"=none
  b_list:mg "list"=none
  b_max:mg "max"=none
  b_range:mg "range"=none
  b_reversed:mg "reversed"=none
  b_sorted:mg "sorted"=none
  b_str:mg "str"=none
  b_tuple:mg "tuple"=none
  b_zip:mg "zip"=none
  c_CROSS:∃ t,mg "CROSS"=some (.str "x" t)
  c_LETTERS:∃ t,mg "LETTERS"=some (.str "abcdefghijklmnopqrstuvwxyz" t)
  c_MOST_LINES:∃ t,mg "MOST_LINES"=some (.int 96 t)
  c_MOST_SIGNS:∃ t,mg "MOST_SIGNS"=some (.int 48 t)
  c_POINT:∃ t,mg "POINT"=some (.str "." t)
  c_TOUCH:∃ t,mg "TOUCH"=some (.str "o" t)
  d_is_number:dR K mg "is_number" dZ
  d_is_within:dR K mg "is_within" d7
  d_is_span:dR K mg "is_span" gY
  d_need_place:dR K mg "need_place" cY
  d_need_span:dR K mg "need_span" dB
  d_is_row:dR K mg "is_row" fJ
  d_need_row:dR K mg "need_row" gZ
  d_need_rows:dR K mg "need_rows" gm
  d_lines_above:dR K mg "lines_above" dJ
  d_signs_of_row:dR K mg "signs_of_row" bc
  d_over_row:dR K mg "over_row" cz
  d_cells_of:dR K mg "cells_of" bF
  d_ends_of:dR K mg "ends_of" cU
  d_over_cells:dR K mg "over_cells" aY
  d_ways_of:dR K mg "ways_of" cL
  d_is_turning:dR K mg "is_turning" bI
  d_need_turning:dR K mg "need_turning" du
  d_counts:dR K mg "counts" cZ
  d_need_window:dR K mg "need_window" cB
  d_asks_of:dR K mg "asks_of" gn
  d_law_cell:dR K mg "_law_cell" ie
  d_law_numbers:dR K mg "_law_numbers" bQ
  d_law_menu:dR K mg "_law_menu" gf
  d_law_row:dR K mg "_law_row" dM
  d_law_whole:dR K mg "_law_whole" d8
  d_law_sizes:dR K mg "_law_sizes" gq
  d_law_table:dR K mg "_law_table" bM
  d_law_due:dR K mg "_law_due" eU
  d_law_all:dR K mg "_law_all" cM
  d_law_by_cell:dR K mg "_law_by_cell" bu
  d_law_right:dR K mg "_law_right" bG
  d_law_both:dR K mg "_law_both" bL
  d_law_stretches:dR K mg "_law_stretches" cA
  d_law:dR K mg "law" cF
  x_NoRow:rG K mg "NoRow" ["found"] "NoRow.__init__" pH
  x_NoPlace:rG K mg "NoPlace" ["found"] "NoPlace.__init__" kW
  x_NoSpan:rG K mg "NoSpan" ["begin","end"] "NoSpan.__init__" kY
  x_NoTurning:rG K mg "NoTurning" ["found"] "NoTurning.__init__" iD
  x_NoWindow:rG K mg "NoWindow" ["found"] "NoWindow.__init__" jB
  o_Board:rK K mg "Board"
  n_Board:∀ f∈(["held_side","held_top","held_cells","held_coming","held_lines","held_ways"]:List Str),NoAttr K (aK mg "Board") f
  o_Tally:rK K mg "Tally"
  n_Tally:∀ f∈(["held_ends","held_counts"]:List Str),NoAttr K (aK mg "Tally") f
  o_Asks:rK K mg "Asks"
  n_Asks:∀ f∈(["held_tally","held_many","held_far"]:List Str),NoAttr K (aK mg "Asks") f
  m_Board___init__:gC K mg "Board" "__init__" "Board.__init__" aQ
  m_Board_lines:gC K mg "Board" "lines" "Board.lines" fK
  m_Tally___init__:gC K mg "Tally" "__init__" "Tally.__init__" bN
  m_Tally_below:gC K mg "Tally" "below" "Tally.below" cG
  m_Asks___init__:gC K mg "Asks" "__init__" "Asks.__init__" bJ
  m_Asks_reckoned:gC K mg "Asks" "reckoned" "Asks.reckoned" bK
  m_Asks_reckoned_stretch:gC K mg "Asks" "reckoned_stretch" "Asks.reckoned_stretch" bw
  m_Asks_window:gC K mg "Asks" "window" "Asks.window" b7
  m_Asks_stretch:gC K mg "Asks" "stretch" "Asks.stretch" cP
  m_Asks_beginning:gC K mg "Asks" "beginning" "Asks.beginning" bW
  m_Asks_ending:gC K mg "Asks" "ending" "Asks.ending" dh
  m_Asks_across:gC K mg "Asks" "across" "Asks.across" di
  m_Asks_table_row:gC K mg "Asks" "table_row" "Asks.table_row" bY
  m_Asks_table:gC K mg "Asks" "table" "Asks.table" eV
section
variable {P:Program} {w:World} {K:PySem.W.Frag} {mg:Str→Option Value} {base:Heap}
theorem qp:(["column","many"]:List Str).Nodup:=by decide+kernel
theorem kz00:cu dJ "range":=by decide+kernel
theorem kz01:aN dJ "far":=by decide+kernel
theorem KZ:aN cz "left":=by decide+kernel
theorem K1:aN cz "below":=by decide+kernel
theorem Qu:aN cz "coming":=by decide+kernel
theorem kz05:cu cz "zip":=by decide+kernel
theorem kz06:aN cz "above":=by decide+kernel
theorem kz07:aN cz "signs":=by decide+kernel
theorem K3:aN cz "line":=by decide+kernel
theorem Uq:aN cz "sign":=by decide+kernel
theorem kz0a:cu cz "TOUCH":=by decide+kernel
def K4:Sp:=fun vs H Q _=>∃ m f:Nat,vs=[.int m,.int f]∧m≤48∧f≤48∧∀ D,H D=none→Q (.ref D) (upd H D (.lst (((List.range f).map fun l=>((m+l:Nat):Int)).map V.int)))
theorem tZ:aF ["many","far"] ["many","far"] (az dJ):=⟨rfl,rfl,rfl,by decide+kernel,rfl,by decide+kernel,by decide+kernel⟩
theorem dN (T:Txt K mg):n8 P w K mg base 1 "lines_above" ["many","far"] K4:=by
  refine iC T.d_lines_above tZ (fun _ _ _ _ _ _ us hl=>L2.nj (fun _ _=>rfl) us hl) ?_ fun f cdv A outer s H vs Q E hr h=>?_
  · rintro vs H Q E ⟨m,f,rfl,_⟩;rfl
  obtain ⟨m,f,rfl,hm,hf,q⟩:=h
  have hu:=hr.units0
  have hu64:=hr.units
  refine ⟨_,(aC (aM (gG (sub:=[none,some 0]) (b8 (N:=["many","far"]) (sc:=az dJ) (N':=["column","many"]) (by decide+kernel)) rfl rfl rfl (dm (bB kz00) T.b_range (aa (au 1 kz01) ao)) (fun C s₀ H₀ ex=>(mK 0 (by decide+kernel) qp)) (fun C s₀ H₀ ex=>cX) (fun C s₀ H₀ ex=>(bD aV (dz 1 (by decide+kernel)) (gK 0 (by decide+kernel))))))),?_⟩
  walk_at "sts"
  refine ⟨_,rfl,by omega,by omega,?_⟩
  refine tD (n:=f) (fun i ys H'=>H'=H∧ys=((List.range i).map fun l=>((m+l:Nat):Int)).map V.int) (Nat.le_trans hf (by decide)) ⟨rfl,rfl⟩ ?_ ?_ ?_
  · rintro i ys H' ⟨_,rfl⟩
    simp
  · rintro i ys H' hi ⟨rfl,rfl⟩
    walk_at "sts"
    refine ⟨KeepSt.set rfl,?_⟩
    walk_at "sts"
    refine ⟨rfl,?_⟩
    rw [List.range_succ,List.map_append,List.map_append]
    simp
  · rintro ys H' ⟨rfl,rfl⟩ D hD
    walk_at "sts"
    exact q D hD
def PrI (H:Hp):List V→List (Int×Int)→Prop
  | [],[]=>True
  | v :: vs,(x,y) :: L=>(∃ p,v= .ref p∧H p=some (.tup [.int x,.int y]))∧PrI H vs L
  | _,_=>False
theorem PrI.imp {H H':Hp} (h:∀ p us,H p=some (.tup us)→H' p=some (.tup us)):∀ {ws:List V} {L:List (Int×Int)},PrI H ws L→PrI H' ws L
  | [],[],_=>trivial
  | v :: vs,(x,y) :: L,⟨⟨p,e,hp⟩,r⟩=>⟨⟨p,e,h _ _ hp⟩,PrI.imp h r⟩
  | [],_ :: _,z=>z.elim
  | _ :: _,[],z=>z.elim
theorem PrI.same {H H':Hp} {ws:List V} {L:List (Int×Int)} (h:PrI H ws L) (s:Same H H'):PrI H' ws L:=h.imp fun p us e=>s _ _ e
theorem PrI.upd {H:Hp} {ws us:List V} {L:List (Int×Int)} {f:Addr} {o:HO} (h:PrI H ws L) (hf:H f=some (.lst us)):PrI (upd H f o) ws L:=h.imp fun p vs e=>by rw [aD (fun z=>by rw [z,hf] at e;cases e)];exact e
theorem PrI.push {H:Hp} {p:Addr} {x y:Int} (hp:H p=some (.tup [.int x,.int y])):∀ {ws:List V} {L:List (Int×Int)},PrI H ws L→PrI H (ws ++ [.ref p]) (L ++ [(x,y)])
  | [],[],_=>⟨⟨p,rfl,hp⟩,trivial⟩
  | v :: vs,(x,y) :: L,⟨a,r⟩=>⟨a,PrI.push hp r⟩
  | [],_ :: _,z=>z.elim
  | _ :: _,[],z=>z.elim
theorem PrI.len {H:Hp}:∀ {ws:List V} {L:List (Int×Int)},PrI H ws L→ws.length=L.length
  | [],[],_=>rfl
  | v :: vs,(x,y) :: L,⟨_,r⟩=>congrArg (· +1) (PrI.len r)
  | [],_ :: _,z=>z.elim
  | _ :: _,[],z=>z.elim
theorem PrI.get {H:Hp}:∀ {ws:List V} {L:List (Int×Int)} {k:Nat} {q:Int×Int},PrI H ws L→L[k]?=some q→∃ r,ws[k]?=some (.ref r)∧H r=some (.tup [.int q.1,.int q.2])
  | v :: vs,(x,y) :: L,0,q,⟨⟨p,e,hp⟩,_⟩,h=>by
    have h':(x,y)=q:=by simpa using h
    subst h'
    exact ⟨p,by rw [e];rfl,hp⟩
  | v :: vs,(x,y) :: L,k+1,q,⟨_,r⟩,h=>by
    obtain ⟨a,h1,h2⟩:=PrI.get (k:=k) r (by simpa using h)
    exact ⟨a,by simpa using h1,h2⟩
  | [],[],k,q,_,h=>by simp at h
  | [],_ :: _,_,_,z,_=>z.elim
  | _ :: _,[],_,_,z,_=>z.elim
def yp (z:Nat→Bool) (ab:List Int) (left:Int) (n:Nat):List (Int×Int):=(List.range n).map fun j=>((ig z ab left j).2,ab.getD j 0)
theorem Do (z:Nat→Bool) (ab:List Int) (left:Int) (n:Nat):yp z ab left (n+1)=yp z ab left n ++ [((ig z ab left n).2,ab.getD n 0)]:=by unfold yp;rw [List.range_succ,List.map_append];rfl
def t6 (z:Str) (j:Nat):Bool:=decide ((⟨#[z.cps.getD j 0]⟩:Str)=Str.ofString "o")
def Qv:Sp:=fun vs H Q _=>∃ (z:Str) (left:Int) (a:Addr) (ab:List Int),vs=[.str z,.int left,.ref a]∧H a=some (.lst (ab.map V.int))∧z.cps.size=ab.length∧ab.length≤48∧
  ∀ t c b H',H b=none→H c=none→Same H H'→H' t=some (.tup [.ref c,.ref b,.int (ig (t6 z) ab left ab.length).2])→H' b=some (.lst ((ig (t6 z) ab left ab.length).1.map V.int))→(∃ cs,H' c=some (.lst cs)∧PrI H' cs (yp (t6 z) ab left ab.length))→Q (.ref t) H'
theorem gr:aF ["signs","left","above","coming","below","sign","line"] ["signs","left","above"] (az cz):=⟨rfl,rfl,rfl,by decide+kernel,rfl,by decide+kernel,by decide+kernel⟩
theorem ik (T:Txt K mg):n8 P w K mg base 1 "over_row" ["signs","left","above"] Qv:=by
  refine iC T.d_over_row gr (fun _ _ _ _ _ _ us hl=>L2.j8 (fun _ _ _=>rfl) us hl) ?_ fun f cdv A outer s H vs Q E hr h=>?_
  · rintro vs H Q E ⟨z,left,a,ab,rfl,_⟩;rfl
  obtain ⟨z,left,a,ab,rfl,ha,hz,hl,q⟩:=h
  have hu:=hr.units0
  have hu64:=hr.units
  refine ⟨_,(aA (aP (i:=3) gr.nd rfl (Or.inl Qu) (dX ao) rfl) (aA (aP (i:=4) gr.nd rfl (Or.inl K1) (dX ao) rfl) (aA (dY PassesOwn.never rfl (Ha (K:=K) rfl rfl (bB kz05) T.b_zip (aa (au 0 kz07) (aa (au 2 kz06) ao))) (lC (K:=K) rfl rfl (aH (aG (i:=5) gr.nd rfl (Or.inl Uq) rfl) (aH (aG (i:=6) gr.nd rfl (Or.inl K3) rfl) dj))) (aA (aJ (bU (K:=K) rfl PySem.F.plainAttrs_list PySem.F.slot_list_append PySem.F.type_list_append bj (au 3 Qu) (aa (fu (aa (au 1 KZ) (aa (au 6 K3) ao))) ao))) (aC (dq (cO (zB (K:=K) rfl hu64) (au 5 Uq) (tE (bB kz0a) T.c_TOUCH (by decide+kernel)) (by first | exact bT _ | with_unfolding_all rfl)) (aA (aJ (bU (K:=K) rfl PySem.F.plainAttrs_list PySem.F.slot_list_append PySem.F.type_list_append bj (au 4 K1) (aa (au 1 KZ) ao))) (aC (aP (i:=1) gr.nd rfl (Or.inl KZ) (au 6 K3) rfl))) (aC (aJ (bU (K:=K) rfl PySem.F.plainAttrs_list PySem.F.slot_list_append PySem.F.type_list_append bj (au 4 K1) (aa (au 6 K3) ao)))))))) (aC (aM (fu (aa (au 3 Qu) (aa (au 4 K1) (aa (au 1 KZ) ao))))))))),?_⟩
  walk_at "sts"
  refine jo rfl fun C nC=>?_
  walk_at "sts"
  refine jo rfl fun B nB=>?_
  have nBH:H B=none:=((Same.refl H).upd nC).free nB
  have nCB:C≠B:=fun z=>by rw [z,aj] at nB;cases nB
  have e0:upd (upd H C (.lst [])) B (.lst []) C=some (.lst []):=by rw [aD nCB];exact aj
  have S0:Same H (upd (upd H C (.lst [])) B (.lst [])):=((Same.refl H).upd nC).upd nB
  walk_at "sts"
  refine ⟨z,a,ab.map V.int,rfl,SqL.of (S0 _ _ ha),?_⟩
  refine Dk (ys:=ab.map V.int) (fun j σ H'=>Same H H'∧(∃ cs,H' C=some (.lst cs)∧cs.length=j∧PrI H' cs (yp (t6 z) ab left j))∧H' B=some (.lst ((ig (t6 z) ab left j).1.map V.int))∧
      ∃ x5 x6,σ=[some (.str z),some (.int (ig (t6 z) ab left j).2),some (.ref a),some (.ref C),some (.ref B),x5,x6])
    (by rw [List.length_map];exact hz) ⟨S0,⟨[],e0,rfl,trivial⟩,aj,none,none,rfl⟩ (fun i σ H' _ h=>SqL.of (h.1 _ _ ha)) ?_ ?_
  · rintro j σ H1 T0 y hy ⟨S1,⟨cs,hC,hcs,hW⟩,hB,x5,x6,rfl⟩ nT
    obtain ⟨n,hn,rfl⟩:∃ n,ab[j]?=some n∧y=V.int n:=by
      rw [List.getElem?_map] at hy
      cases e:ab[j]? with
      | none=>rw [e] at hy;cases hy
      | some n=>rw [e] at hy;exact ⟨n,rfl,(Option.some.inj hy).symm⟩
    have hj:j < ab.length:=(List.getElem?_eq_some_iff.mp hn).1
    have en:ab.getD j 0=n:=by rw [List.getD_eq_getElem?_getD,hn];rfl
    refine dg (xs:=[.str ⟨#[z.cps.getD j 0]⟩,.int n]) (SqT.of aj) rfl ?_
    have hC2:=aW nT hC (o:=.tup [.str ⟨#[z.cps.getD j 0]⟩,.int n])
    have hB2:=aW nT hB (o:=.tup [.str ⟨#[z.cps.getD j 0]⟩,.int n])
    have hW2:=hW.same ((Same.refl H1).upd nT (o:=.tup [.str ⟨#[z.cps.getD j 0]⟩,.int n]))
    have S2:=S1.upd nT (o:=.tup [.str ⟨#[z.cps.getD j 0]⟩,.int n])
    generalize upd H1 T0 (.tup [.str ⟨#[z.cps.getD j 0]⟩,.int n])=H2 at hC2 hB2 S2 hW2 ⊢
    have hs:100≤sizeLine:=by decide
    walk_at "sts"
    refine ⟨.inl ⟨rfl,_,SqL.of hC2⟩,?_⟩
    walk_at "sts"
    refine jo rfl fun p np=>?_
    have hC3:=aW np hC2 (o:=.tup [.int (ig (t6 z) ab left j).2,.int n])
    have hB3:=aW np hB2 (o:=.tup [.int (ig (t6 z) ab left j).2,.int n])
    have S3:=S2.upd np (o:=.tup [.int (ig (t6 z) ab left j).2,.int n])
    have hW3:PrI (upd H2 p (.tup [.int (ig (t6 z) ab left j).2,.int n])) (cs ++ [.ref p]) (yp (t6 z) ab left (j+1)):=by
      rw [Do,en]
      exact (hW2.same ((Same.refl H2).upd np)).push aj
    generalize upd H2 p (.tup [.int (ig (t6 z) ab left j).2,.int n])=H3 at hC3 hB3 S3 hW3 ⊢
    walk_at "sts"
    refine bz hC3 (by omega) ?_
    have S4:=over (o:=.lst (cs ++ [.ref p])) S3 nC
    have hC4:upd H3 C (.lst (cs ++ [.ref p])) C=some (.lst (cs ++ [.ref p])):=aj
    have hB4:upd H3 C (.lst (cs ++ [.ref p])) B=some (.lst ((ig (t6 z) ab left j).1.map V.int)):=by rw [aD nCB.symm];exact hB3
    have hW4:=hW3.upd hC3 (o:=.lst (cs ++ [.ref p]))
    generalize upd H3 C (.lst (cs ++ [.ref p]))=H4 at hC4 hB4 S4 hW4 ⊢
    have hlB:((ig (t6 z) ab left j).1.map V.int).length < sizeLine:=by rw [List.length_map,ym];omega
    walk_at "sts"
    refine kE (fun hk=>?_) (fun hk=>?_)
    · have hk':t6 z j=true:=decide_eq_true (V.str.inj hk)
      walk_at "sts"
      refine ⟨.inl ⟨rfl,_,SqL.of hB4⟩,?_⟩
      walk_at "sts"
      refine bz hB4 hlB ?_
      walk_at "sts"
      refine ⟨over S4 nBH,⟨cs ++ [.ref p],by rw [aD nCB];exact hC4,by simp [hcs],hW4.upd hB4⟩,?_,some (.str ⟨#[z.cps.getD j 0]⟩),some (.int n),?_⟩
      · rw [aj,ig,if_pos hk',List.map_append];rfl
      · rw [ig,if_pos hk',en];rfl
    · have hk':¬ t6 z j=true:=fun h=>hk (congrArg V.str (of_decide_eq_true h))
      walk_at "sts"
      refine ⟨.inl ⟨rfl,_,SqL.of hB4⟩,?_⟩
      walk_at "sts"
      refine bz hB4 hlB ?_
      refine ⟨over S4 nBH,⟨cs ++ [.ref p],by rw [aD nCB];exact hC4,by simp [hcs],hW4.upd hB4⟩,?_,some (.str ⟨#[z.cps.getD j 0]⟩),some (.int n),?_⟩
      · rw [aj,ig,if_neg hk',en,List.map_append];rfl
      · rw [ig,if_neg hk'];rfl
  · rintro σ H1 ⟨S1,⟨cs,hC,hcs,hW⟩,hB,x5,x6,rfl⟩
    rw [List.length_map] at hB hW
    walk_at "sts"
    refine jo rfl fun p np=>?_
    walk_at "sts"
    rw [List.length_map]
    exact q p C B _ nBH nC (S1.upd np) aj (aW np hB) ⟨cs,aW np hC,hW.same ((Same.refl H1).upd np)⟩
end
section
variable {P:Program} {w:World} {K:PySem.W.Frag} {mg:Str→Option Value} {base:Heap}
theorem K5:aN cU "ends":=by decide+kernel
theorem Ur:cu cU "enumerate":=by decide+kernel
theorem kz0d:cu cU "reversed":=by decide+kernel
theorem Us:aN cU "right":=by decide+kernel
theorem K6:aN cU "line":=by decide+kernel
theorem Ut:aN cU "place":=by decide+kernel
theorem Qw:cu cU "len":=by decide+kernel
theorem Qx:aN cU "below":=by decide+kernel
theorem Uu:aN cU "column":=by decide+kernel
def Qy:Sp:=fun vs H Q _=>∃ (m far:Nat) (C:Nat→Nat→Bool) (b r:Addr),vs=[.ref b,.ref r]∧m≤48∧far≤48∧H b=some (.lst ((qm m C far m).map V.int))∧H r=some (.lst ((Dm m C far m).map V.int))∧
  ∀ e R H',H e=none→Same H H'→oJ m C far R→H' e=some (.lst (R.map V.int))→Q (.ref e) H'
theorem Nt {n k:Nat} (h:k < n):Fq n (k:Int)=some k:=by
  unfold Fq
  rw [if_pos (by omega),if_pos (by omega)];rfl
theorem Qz (n:Nat):(List.replicate n [V.int 0]).flatten=(List.replicate n (0:Int)).map V.int:=by
  induction n with
  | zero=>rfl
  | succ n ih=>rw [List.replicate_succ,List.flatten_cons,ih,List.replicate_succ];rfl
theorem il:aF ["below","right","ends","column","line","place"] ["below","right"] (az cU):=⟨rfl,rfl,rfl,by decide+kernel,rfl,by decide+kernel,by decide+kernel⟩
theorem qt (T:Txt K mg):n8 P w K mg base 1 "ends_of" ["below","right"] Qy:=by
  refine iC T.d_ends_of il (fun _ _ _ _ _ _ us hl=>L2.nj (fun _ _=>rfl) us hl) ?_ fun f cdv A outer s H vs Q E hr h=>?_
  · rintro vs H Q E ⟨m,far,C,b,r,rfl,_⟩;rfl
  obtain ⟨m,far,C,b,r,rfl,hm,hf,hb,hr',q⟩:=h
  have hu:=hr.units0
  have hu64:=hr.units
  refine ⟨_,(aA (aP (i:=2) il.nd rfl (Or.inl K5) (bD jq (dX (aa aB ao)) (bD aV (aX (aZ (K:=K) rfl) (bB Qw) T.b_len cN (aa (au 0 Qx) ao) (by decide+kernel) (by decide+kernel)) (aX (aZ (K:=K) rfl) (bB Qw) T.b_len cN (aa (au 1 Us) ao) (by decide+kernel) (by decide+kernel)))) rfl) (aA (dY PassesOwn.never rfl (lF (K:=K) rfl rfl (bB Ur) T.b_enumerate (aa (au 0 Qx) ao)) (lC (K:=K) rfl rfl (aH (aG (i:=3) il.nd rfl (Or.inl Uu) rfl) (aH (aG (i:=4) il.nd rfl (Or.inl K6) rfl) dj))) (aC (vP (ts:=xg) (au 3 Uu) (zu (au 2 K5) (au 4 K6) set_list)))) (aA (dY PassesOwn.never rfl (zK (K:=K) rfl (bB Ur) T.b_enumerate (bB kz0d) T.b_reversed (au 1 Us)) (lC (K:=K) rfl rfl (aH (aG (i:=5) il.nd rfl (Or.inl Ut) rfl) (aH (aG (i:=4) il.nd rfl (Or.inl K6) rfl) dj))) (aC (vP (ts:=xg) (bD aV (aX (aZ (K:=K) rfl) (bB Qw) T.b_len cN (aa (au 0 Qx) ao) (by decide+kernel) (by decide+kernel)) (au 5 Ut)) (zu (au 2 K5) (au 4 K6) set_list)))) (aC (aM (au 2 K5)))))),?_⟩
  walk_at "sts"
  have hs:1000≤sizeLine:=by decide
  have lb:((qm m C far m).map V.int).length=far:=by simp [qm]
  have lr:((Dm m C far m).map V.int).length=m:=by simp [Dm]
  refine ⟨by decide,fun z nz=>?_⟩
  walk_at "sts"
  refine jg (SqL.of (aW nz hb)) ?_
  rw [lb]
  walk_at "sts"
  refine jg (SqL.of (aW nz hr')) ?_
  rw [lr]
  walk_at "sts"
  have eN:((far:Int)+(m:Int)).toNat=m+far:=by omega
  refine vQ aj (by omega) (by omega) (by rw [eN];simp;omega) fun e ne=>?_
  rw [eN,Qz]
  have neH:H e=none:=((Same.refl H).upd nz).free ne
  have S0:=((Same.refl H).upd (o:=.lst [.int 0]) nz).upd (o:=.lst ((List.replicate (m+far) (0:Int)).map V.int)) ne
  have e0:=aj (H:=upd H z (.lst [.int 0])) (a:=e) (o:=.lst ((List.replicate (m+far) (0:Int)).map V.int))
  generalize upd (upd H z (.lst [.int 0])) e (.lst ((List.replicate (m+far) (0:Int)).map V.int))=H1 at S0 e0 ⊢
  have nbe:b≠e:=fun z=>by rw [z,neH] at hb;cases hb
  have nre:r≠e:=fun z=>by rw [z,neH] at hr';cases hr'
  walk_at "sts"
  refine .inr ⟨b,_,rfl,SqL.of (S0 _ _ hb),?_⟩
  refine m5 (xs:=(qm m C far m).map V.int) (fun j σ H'=>Same H H'∧(∃ R:List Int,H' e=some (.lst (R.map V.int))∧R.length=m+far∧∀ l,l < j→R[gD m C l m]?=some (l:Int))∧∃ x3 x4 x5,σ=[some (.ref b),some (.ref r),some (.ref e),x3,x4,x5])
    ⟨S0,⟨_,e0,by simp,fun l hl=>absurd hl (by omega)⟩,none,none,none,rfl⟩ (fun i σ H' _ h=>SqL.of (h.1 _ _ hb)) ?_ ?_
  · rintro j σ H2 T0 x hx ⟨S2,⟨R,hR,lR,gR⟩,x3,x4,x5,rfl⟩ nT
    have hj:j < far:=by
      have:=(List.getElem?_eq_some_iff.mp hx).1
      rw [lb] at this;exact this
    obtain rfl:x=V.int ((gD m C j m:Nat):Int):=by
      rw [List.getElem?_map,KR hj] at hx
      exact (Option.some.inj hx).symm
    have hlt:=yo (m:=m) (C:=C) (far:=far) |>.2 j hj
    refine dg (xs:=[.int j,.int ((gD m C j m:Nat):Int)]) (SqT.of aj) rfl ?_
    have hR2:=aW nT hR (o:=.tup [.int j,.int ((gD m C j m:Nat):Int)])
    have S3:=S2.upd nT (o:=.tup [.int j,.int ((gD m C j m:Nat):Int)])
    generalize upd H2 T0 (.tup [.int j,.int ((gD m C j m:Nat):Int)])=H3 at hR2 S3 ⊢
    walk_at "sts"
    refine gF hR2 (Nt (by rw [List.length_map,lR];exact hlt)) ?_
    rw [← List.map_set]
    refine ⟨over S3 neH,⟨R.set (gD m C j m) j,aj,by simp [lR],fun l hl=>?_⟩,some (.int j),some (.int ((gD m C j m:Nat):Int)),x5,rfl⟩
    by_cases hlj:l=j
    · subst hlj
      rw [List.getElem?_set_self (by omega)]
    · rw [List.getElem?_set_ne (Uo (m:=m) (C:=C) (far:=far) hj (by omega) (fun z=>hlj z.symm))]
      exact gR l (by omega)
  · rintro σ H2 ⟨S2,⟨R,hR,lR,gR⟩,x3,x4,x5,rfl⟩
    rw [lb] at gR
    walk_at "sts"
    refine ⟨r,(Dm m C far m).map V.int,rfl,SqL.of (S2 _ _ hr'),?_⟩
    refine Dh (xs:=(Dm m C far m).map V.int) (fun j σ H'=>Same H H'∧(∃ R:List Int,H' e=some (.lst (R.map V.int))∧R.length=m+far∧(∀ l,l < far→R[gD m C l m]?=some (l:Int))∧∀ l,l < j→R[gA m C (m - 1 - l) far]?=some ((far+l:Nat):Int))∧∃ x3 x4 x5,σ=[some (.ref b),some (.ref r),some (.ref e),x3,x4,x5])
      ⟨S2,⟨R,hR,lR,gR,fun l hl=>absurd hl (by omega)⟩,_,_,_,rfl⟩ (fun i σ H' _ h=>SqL.of (h.1 _ _ hr')) ?_ ?_
    · rintro j σ H3 T0 x hj hx ⟨S3,⟨R,hR,lR,gR,aR⟩,x3,x4,x5,rfl⟩ nT
      rw [lr] at hj hx
      obtain rfl:x=V.int ((gA m C (m - 1 - j) far:Nat):Int):=by
        rw [List.getElem?_map,Qs (by omega)] at hx
        exact (Option.some.inj hx).symm
      have hlt:=yo (m:=m) (C:=C) (far:=far) |>.1 (m - 1 - j) (by omega)
      refine dg (xs:=[.int j,.int ((gA m C (m - 1 - j) far:Nat):Int)]) (SqT.of aj) rfl ?_
      have hR2:=aW nT hR (o:=.tup [.int j,.int ((gA m C (m - 1 - j) far:Nat):Int)])
      have S4:=S3.upd nT (o:=.tup [.int j,.int ((gA m C (m - 1 - j) far:Nat):Int)])
      generalize upd H3 T0 (.tup [.int j,.int ((gA m C (m - 1 - j) far:Nat):Int)])=H4 at hR2 S4 ⊢
      walk_at "sts"
      refine jg (SqL.of (S4 _ _ hb)) ?_
      rw [lb]
      walk_at "sts"
      refine gF hR2 (Nt (by rw [List.length_map,lR];exact hlt)) ?_
      rw [← List.map_set]
      refine ⟨over S4 neH,⟨R.set (gA m C (m - 1 - j) far) ((far:Int)+j),aj,by simp [lR],fun l hl=>?_,fun l hl=>?_⟩,x3,some (.int ((gA m C (m - 1 - j) far:Nat):Int)),some (.int j),rfl⟩
      · rw [List.getElem?_set_ne (Up (m:=m) (C:=C) (far:=far) (by omega) hl)]
        exact gR l hl
      · by_cases hlj:l=j
        · subst hlj
          rw [List.getElem?_set_self (by omega)]
          congr 1
        · rw [List.getElem?_set_ne (Um (m:=m) (C:=C) (far:=far) (by omega) (by omega) (by omega))]
          exact aR l (by omega)
    · rintro σ H3 ⟨S3,⟨R,hR,lR,gR,aR⟩,x3,x4,x5,rfl⟩
      rw [lr] at aR
      walk_at "sts"
      refine q e R H3 neH S3 ⟨lR,gR,fun i hi=>?_⟩ hR
      have:=aR (m - 1 - i) (by omega)
      rw [show m - 1 - (m - 1 - i)=i by omega] at this
      exact this
end
section
variable {P:Program} {w:World} {K:PySem.W.Frag} {mg:Str→Option Value} {base:Heap}
theorem kz0k:cu aY "ends_of":=by decide+kernel
theorem QB:aN aY "right":=by decide+kernel
theorem K7:aN aY "above":=by decide+kernel
theorem QC:aN aY "coming":=by decide+kernel
theorem kz0o:cu aY "enumerate":=by decide+kernel
theorem kz0p:aN aY "cells":=by decide+kernel
theorem Uv:aN aY "signs":=by decide+kernel
theorem Uw:aN aY "row":=by decide+kernel
theorem K8:aN aY "gone":=by decide+kernel
theorem kz0t:cu aY "over_row":=by decide+kernel
theorem Ux:aN aY "many":=by decide+kernel
theorem kz0v:cu aY "lines_above":=by decide+kernel
theorem kz0w:aN aY "far":=by decide+kernel
def cC (rows:List Str) (i:Nat):Nat→Bool:=t6 (rows.getD i ⟨#[]⟩)
def yq (m:Nat) (C:Nat→Nat→Bool) (far i:Nat):List (Int×Int):=(List.range far).map fun j=>(((gA m C i j:Nat):Int),((gD m C j i:Nat):Int))
def Cmg (H:Hp) (P:Addr→Prop) (m:Nat) (C:Nat→Nat→Bool) (far:Nat) (cs:List V) (n:Nat):Prop:=cs.length=n∧∀ i,i < n→∃ c ws,cs[i]?=some (.ref c)∧P c∧H c=some (.lst ws)∧PrI H ws (yq m C far i)
theorem Cmg.imp {H H':Hp} {P P':Addr→Prop} {m:Nat} {C:Nat→Nat→Bool} {far:Nat} {cs:List V} {n:Nat} (h:Cmg H P m C far cs n) (ht:∀ p us,H p=some (.tup us)→H' p=some (.tup us)) (hl:∀ c ws,P c→H c=some (.lst ws)→H' c=some (.lst ws)) (hp:∀ c,P c→P' c):Cmg H' P' m C far cs n:=
  ⟨h.1,fun i hi=>by
    obtain ⟨c,ws,e1,e2,e3,e4⟩:=h.2 i hi
    exact ⟨c,ws,e1,hp c e2,hl c ws e2 e3,e4.imp ht⟩⟩
theorem Cmg.same {H H':Hp} {P:Addr→Prop} {m:Nat} {C:Nat→Nat→Bool} {far:Nat} {cs:List V} {n:Nat} (h:Cmg H P m C far cs n) (s:Same H H'):Cmg H' P m C far cs n:=h.imp (fun p us e=>s _ _ e) (fun c ws _ e=>s _ _ e) fun _ z=>z
theorem Cmg.push {H:Hp} {P:Addr→Prop} {m:Nat} {C:Nat→Nat→Bool} {far:Nat} {cs:List V} {n:Nat} {c:Addr} {ws:List V} (h:Cmg H P m C far cs n) (hP:P c) (hc:H c=some (.lst ws)) (hw:PrI H ws (yq m C far n)):Cmg H P m C far (cs ++ [.ref c]) (n+1):=by
  refine ⟨by rw [List.length_append,h.1];rfl,fun i hi=>?_⟩
  by_cases e:i=n
  · subst e
    exact ⟨c,ws,by rw [List.getElem?_append_right (by rw [h.1];exact Nat.le_refl _),h.1,Nat.sub_self];rfl,hP,hc,hw⟩
  · obtain ⟨d,us,e1,e2⟩:=h.2 i (by omega)
    exact ⟨d,us,by rw [List.getElem?_append_left (by rw [h.1];omega)];exact e1,e2⟩
theorem Cmg.upd {H:Hp} {P:Addr→Prop} {m:Nat} {C:Nat→Nat→Bool} {far:Nat} {cs us:List V} {n:Nat} {f:Addr} {o:HO} (h:Cmg H P m C far cs n) (hf:H f=some (.lst us)) (hP:∀ c,P c→c≠f):Cmg (upd H f o) P m C far cs n:=
  h.imp (fun p vs e=>by rw [aD (fun z=>by rw [z,hf] at e;cases e)];exact e) (fun c ws pc e=>by rw [aD (hP c pc)];exact e) fun _ z=>z
def K9:Sp:=fun vs H Q _=>∃ (m far:Nat) (rows:List Str) (c:Addr),vs=[.int m,.int far,.ref c]∧H c=some (.lst (rows.map V.str))∧rows.length=m∧m≤48∧far≤48∧(∀ z∈rows,z.cps.size=far)∧
  ∀ t cm e R H',H e=none→Same H H'→H' t=some (.tup [.ref cm,.ref e])→oJ m (cC rows) far R→H' e=some (.lst (R.map V.int))→(∃ cs,H' cm=some (.lst cs)∧Cmg H' (fun _=>True) m (cC rows) far cs m)→Q (.ref t) H'
theorem QD {m:Nat} {C:Nat→Nat→Bool} {far i:Nat}:yp (C i) (qm m C far i) ((gA m C i 0:Nat):Int) far=yq m C far i:=by
  unfold yp yq
  refine List.map_congr_left fun j hj=>?_
  have hj':=List.mem_range.mp hj
  rw [v5 j (by omega),zN hj']
theorem Hn {m:Nat} {C:Nat→Nat→Bool} {far:Nat}:qm m C far 0=(List.range far).map fun l=>((m+l:Nat):Int):=by
  unfold qm
  simp only [jt]
theorem rZ {m:Nat} {C:Nat→Nat→Bool} {far i:Nat}:(qm m C far i).length=far:=by simp [qm]
theorem La {m:Nat} {C:Nat→Nat→Bool} {far i:Nat}:(Dm m C far i).length=i:=by simp [Dm]
theorem cH:aF ["many","far","cells","above","coming","right","row","signs","gone"] ["many","far","cells"] (az aY):=⟨rfl,rfl,rfl,by decide+kernel,rfl,by decide+kernel,by decide+kernel⟩
theorem lJ (T:Txt K mg):n8 P w K mg base 2 "over_cells" ["many","far","cells"] K9:=by
  have dN:=dN (P:=P) (w:=w) (base:=base) T
  have ik:=ik (P:=P) (w:=w) (base:=base) T
  have qt:=qt (P:=P) (w:=w) (base:=base) T
  refine iC T.d_over_cells cH (fun _ _ _ _ _ _ us hl=>L2.j8 (fun _ _ _=>rfl) us hl) ?_ fun f cdv A outer s H vs Q E hr h=>?_
  · rintro vs H Q E ⟨m,far,rows,c,rfl,_⟩;rfl
  obtain ⟨m,far,rows,c,rfl,hc,hr',hm,hf,hz,q⟩:=h
  have hu:=hr.units0
  have hu64:=hr.units
  refine ⟨_,(aA (aP (i:=3) cH.nd rfl (Or.inl K7) (aU dN (hr.mono (by decide)) (bB kz0v) (aa (au 0 Ux) (aa (au 1 kz0w) ao)) (by decide+kernel)) rfl) (aA (aP (i:=4) cH.nd rfl (Or.inl QC) (dX ao) rfl) (aA (aP (i:=5) cH.nd rfl (Or.inl QB) (dX ao) rfl) (aA (dY PassesOwn.never rfl (lF (K:=K) rfl rfl (bB kz0o) T.b_enumerate (aa (au 2 kz0p) ao)) (lC (K:=K) rfl rfl (aH (aG (i:=6) cH.nd rfl (Or.inl Uw) rfl) (aH (aG (i:=7) cH.nd rfl (Or.inl Uv) rfl) dj))) (aA (aP (i:=8) cH.nd rfl (Or.inl K8) (aU ik (hr.mono (by decide)) (bB kz0t) (aa (au 7 Uv) (aa (bD gM (bD gM (au 0 Ux) aB) (au 6 Uw)) (aa (au 3 K7) ao))) (by decide+kernel)) rfl) (aA (aJ (bU (K:=K) rfl PySem.F.plainAttrs_list PySem.F.slot_list_append PySem.F.type_list_append bj (au 4 QC) (aa (bZ (K:=K) rfl (au 8 K8) aB) ao))) (aA (aP (i:=3) cH.nd rfl (Or.inl K7) (bZ (K:=K) rfl (au 8 K8) aB) rfl) (aC (aJ (bU (K:=K) rfl PySem.F.plainAttrs_list PySem.F.slot_list_append PySem.F.type_list_append bj (au 5 QB) (aa (bZ (K:=K) rfl (au 8 K8) aB) ao)))))))) (aC (aM (fu (aa (au 4 QC) (aa (aU qt (hr.mono (by decide)) (bB kz0k) (aa (au 3 K7) (aa (au 5 QB) ao)) (by decide+kernel)) ao))))))))),?_⟩
  walk_at "sts"
  have hs:1000≤sizeLine:=by decide
  refine ⟨m,far,rfl,hm,hf,fun A0 nA=>?_⟩
  rw [← Hn (C:=cC rows)]
  have SA:=(Same.refl H).upd nA (o:=.lst ((qm m (cC rows) far 0).map V.int))
  have eA:=aj (H:=H) (a:=A0) (o:=.lst ((qm m (cC rows) far 0).map V.int))
  generalize upd H A0 (.lst ((qm m (cC rows) far 0).map V.int))=H1 at SA eA ⊢
  walk_at "sts"
  refine jo rfl fun CM nC=>?_
  have SC:=SA.upd nC (o:=.lst [])
  have eC:=aj (H:=H1) (a:=CM) (o:=.lst [])
  have eA2:=aW nC eA (o:=.lst [])
  have nCH:=SA.free nC
  generalize upd H1 CM (.lst [])=H2 at SC eC eA2 ⊢
  walk_at "sts"
  refine jo rfl fun RT nR=>?_
  have SR:=SC.upd nR (o:=.lst [])
  have eR:=aj (H:=H2) (a:=RT) (o:=.lst [])
  have eA3:=aW nR eA2 (o:=.lst [])
  have eC3:=aW nR eC (o:=.lst [])
  have nRH:=SC.free nR
  have nCR:CM≠RT:=fun z=>by rw [z,nR] at eC;cases eC
  generalize upd H2 RT (.lst [])=H3 at SR eR eA3 eC3 ⊢
  walk_at "sts"
  refine .inr ⟨c,_,rfl,SqL.of (SR _ _ hc),?_⟩
  refine m5 (xs:=rows.map V.str) (fun i σ H'=>Same H H'∧(∃ cs,H' CM=some (.lst cs)∧cs.length=i∧Cmg H' (fun c=>c≠CM∧c≠RT) m (cC rows) far cs i)∧H' RT=some (.lst ((Dm m (cC rows) far i).map V.int))∧
      ∃ a x6 x7 x8,H' a=some (.lst ((qm m (cC rows) far i).map V.int))∧a≠CM∧a≠RT∧σ=[some (.int m),some (.int far),some (.ref c),some (.ref a),some (.ref CM),some (.ref RT),x6,x7,x8])
    ⟨SR,⟨[],eC3,rfl,rfl,fun i hi=>absurd hi (Nat.not_lt_zero _)⟩,eR,A0,none,none,none,eA3,(fun z=>by rw [z,nC] at eA;cases eA),(fun z=>by rw [z,nR] at eA2;cases eA2),rfl⟩ (fun i σ H' _ h=>SqL.of (h.1 _ _ hc)) ?_ ?_
  · rintro i σ H4 T0 x hx ⟨S4,⟨cs,hC,hcs,hG⟩,hR,a,x6,x7,x8,ha,nac,nar,rfl⟩ nT
    have hi:i < rows.length:=by
      have:=(List.getElem?_eq_some_iff.mp hx).1
      simpa using this
    obtain ⟨z,hzi,rfl⟩:∃ z,rows[i]?=some z∧x=V.str z:=by
      rw [List.getElem?_map] at hx
      cases e:rows[i]? with
      | none=>rw [e] at hx;cases hx
      | some n=>rw [e] at hx;exact ⟨n,rfl,(Option.some.inj hx).symm⟩
    have ez:rows.getD i ⟨#[]⟩=z:=by rw [List.getD_eq_getElem?_getD,hzi];rfl
    refine dg (xs:=[.int i,.str z]) (SqT.of aj) rfl ?_
    have hC5:=aW nT hC (o:=.tup [.int i,.str z])
    have hR5:=aW nT hR (o:=.tup [.int i,.str z])
    have ha5:=aW nT ha (o:=.tup [.int i,.str z])
    have S5:=S4.upd nT (o:=.tup [.int i,.str z])
    have hG5:=hG.same ((Same.refl H4).upd nT (o:=.tup [.int i,.str z]))
    generalize upd H4 T0 (.tup [.int i,.str z])=H5 at hC5 hR5 ha5 S5 hG5 ⊢
    walk_at "sts"
    rw [show ((m:Int) - 1 - (i:Int))=((gA m (cC rows) i 0:Nat):Int) by rw [gJ];omega]
    refine ⟨z,_,a,_,rfl,ha5,by rw [rZ];exact hz z (List.mem_of_getElem? hzi),by rw [rZ];exact hf,fun t c1 b H6 nb nc1 S6 ht hb hcc=>?_⟩
    have eC':t6 z=cC rows i:=by unfold cC;rw [ez]
    rw [eC',rZ,v5 far (Nat.le_refl _)] at ht hb
    rw [eC',rZ,QD] at hcc
    obtain ⟨ws,hc1,hws⟩:=hcc
    have nc1C:c1≠CM:=fun z=>by rw [z,hC5] at nc1;cases nc1
    have nc1R:c1≠RT:=fun z=>by rw [z,hR5] at nc1;cases nc1
    have hG6:=(hG5.same S6).push ⟨nc1C,nc1R⟩ hc1 hws
    have hC6:=S6 _ _ hC5
    have hR6:=S6 _ _ hR5
    have nbC:b≠CM:=fun z=>by rw [z,hC5] at nb;cases nb
    have nbR:b≠RT:=fun z=>by rw [z,hR5] at nb;cases nb
    have tC:t≠CM:=fun z=>by rw [z,hC6] at ht;cases ht
    have tR:t≠RT:=fun z=>by rw [z,hR6] at ht;cases ht
    walk_at "sts"
    refine ⟨.inl ⟨rfl,_,SqL.of hC6⟩,?_⟩
    walk_at "sts"
    refine bz hC6 (by omega) ?_
    have S7:=over (o:=.lst (cs ++ [.ref c1])) (S5.trans S6) nCH
    have hC7:=aj (H:=H6) (a:=CM) (o:=.lst (cs ++ [.ref c1]))
    have hR7:upd H6 CM (.lst (cs ++ [.ref c1])) RT=_:=(aD nCR.symm).trans hR6
    have ht7:upd H6 CM (.lst (cs ++ [.ref c1])) t=_:=(aD tC).trans ht
    have hb7:upd H6 CM (.lst (cs ++ [.ref c1])) b=_:=(aD nbC).trans hb
    have hG7:=hG6.upd hC6 (o:=.lst (cs ++ [.ref c1])) fun c hc=>hc.1
    generalize upd H6 CM (.lst (cs ++ [.ref c1]))=H7 at S7 hC7 hR7 ht7 hb7 hG7 ⊢
    clear ht hb
    walk_at "sts"
    refine ⟨.inl ⟨rfl,_,SqL.of hR7⟩,?_⟩
    walk_at "sts"
    refine bz hR7 (by rw [List.length_map,La];omega) ?_
    refine ⟨over S7 nRH,⟨cs ++ [.ref c1],(aD nCR).trans hC7,by simp [hcs],hG7.upd hR7 fun c hc=>hc.2⟩,?_,b,some (.int i),some (.str z),some (.ref t),(aD nbR).trans hb7,nbC,nbR,rfl⟩
    rw [aj]
    have e:Dm m (cC rows) far (i+1)=Dm m (cC rows) far i ++ [((gA m (cC rows) i far:Nat):Int)]:=by unfold Dm;rw [List.range_succ,List.map_append];rfl
    rw [e,List.map_append];rfl
  · rintro σ H4 ⟨S4,⟨cs,hC,hcs,hG⟩,hR,a,x6,x7,x8,ha,nac,nar,rfl⟩
    rw [List.length_map,hr'] at hR ha hG
    walk_at "sts"
    refine ⟨m,far,cC rows,a,RT,rfl,hm,hf,ha,hR,fun e R H5 ne S5 hE hR5=>?_⟩
    walk_at "sts"
    refine jo rfl fun t nt=>?_
    walk_at "sts"
    exact q t CM e R _ (S4.free ne) ((S4.trans S5).upd nt) aj hE (aW nt hR5) ⟨cs,aW nt (S5 _ _ hC),(hG.same (S5.upd nt)).imp (fun _ _ z=>z) (fun _ _ _ z=>z) fun _ _=>trivial⟩
end
def Kd (K:PySem.W.Frag) (H:Hp) (v:V):Prop:=(∃ n,v= .int n)∨(∃ b,v= .bl b)∨∃ T,TyOf K H v (.type T)∧PySem.W.kitOne K (.type T) (.type "int")=some false
theorem Kd.same {K:PySem.W.Frag} {H H':Hp} {v:V} (h:Kd K H v) (s:Same H H'):Kd K H' v:=by
  rcases h with h | h | ⟨T,a,c⟩
  · exact .inl h
  · exact .inr (.inl h)
  · exact .inr (.inr ⟨T,a.mono fun b o e _=>s b o e,c⟩)
def Uy:V→Bool
  | .int _=>true
  | _=>false
def inB (v:V) (lo hi:Int):Bool:=match v with
  | .int n=>decide (lo≤n) && decide (n≤hi)
  | _=>false
section
variable {P:Program} {w:World} {K:PySem.W.Frag} {mg:Str→Option Value} {base:Heap}
theorem Same.put {H H':Hp} {p:Addr} {o:HO} (s:Same H H') (hn:H p=none):Same H (upd H' p o):=fun b u e=>by
  rw [aD (fun z=>by rw [z,hn] at e;cases e)]
  exact s b u e
theorem Same.back {H H':Hp} {p:Addr} (s:Same H H') (h:H' p=none):H p=none:=by
  cases e:H p with
  | none=>rfl
  | some o=>rw [s _ _ e] at h;cases h
theorem Thing.same {H H':Hp} {v:V} (h:Thing K H v) (s:Same H H'):Thing K H' v:=by
  rcases h with h | ⟨T,t,k⟩
  · exact .inl h
  · exact .inr ⟨T,t.mono fun b o e _=>s b o e,k⟩
end
section
variable {P:Program} {w:World} {K:PySem.W.Frag} {mg:Str→Option Value} {base:Heap}
theorem yr:(["sign"]:List Str).Nodup:=by decide+kernel
theorem kz0x:cu gZ "is_row":=by decide+kernel
theorem Uz:aN gZ "thing":=by decide+kernel
theorem kz0z:cu gZ "NoRow":=by decide+kernel
theorem UG:cu gm "need_row":=by decide+kernel
theorem kz11:aN gm "top":=by decide+kernel
theorem kz12:aN gm "side":=by decide+kernel
theorem Lb:aN bc "signs":=by decide+kernel
theorem kz14:cu bc "enumerate":=by decide+kernel
theorem kz15:aN bc "top":=by decide+kernel
theorem UJ:aN bc "other":=by decide+kernel
theorem QF:aN bc "column":=by decide+kernel
theorem UL:aN bc "left":=by decide+kernel
theorem UT:aN bc "above":=by decide+kernel
theorem kz1a:aN bc "sign":=by decide+kernel
theorem kz1b:cu bc "TOUCH":=by decide+kernel
theorem kz1c:cu bc "CROSS":=by decide+kernel
theorem uB:aN pH "self":=by decide+kernel
theorem t7:aN pH "found":=by decide+kernel
theorem kz1d:cu fJ "all":=by decide+kernel
theorem QG:aN fJ "thing":=by decide+kernel
theorem kz1f:cu fJ "len":=by decide+kernel
theorem kz1g:cu fJ "MOST_SIGNS":=by decide+kernel
theorem kz1h:cu fJ "isinstance":=by decide+kernel
theorem kz1i:cu fJ "str":=by decide+kernel
def RB (v:V):Bool:=nQ v (tY ++ Str.ofString ".") 48
def qu (z:Str):Prop:=z.length≤48∧RB (.str z)=true
def bf (v u:V):Option V:=if RB v=true then (if RB u=true then none else some u) else some v
theorem QH {H:Hp} {v:V} {ty:String} {l:Str} {m:Int} (h:TyOf K H v (.type ty)) (k:PySem.W.kitOne K (.type ty) (.type "str")=some false):nQ v l m=false:=by
  cases v with
  | str z=>
    cases h
    have:PySem.W.kitOne K (.type "str") (.type "str")=some true:=rfl
    rw [this] at k;cases k
  | _=>rfl
theorem Dp:aF ["thing"] ["thing"] (az fJ):=⟨rfl,rfl,rfl,by decide+kernel,rfl,by decide+kernel,by decide+kernel⟩
theorem t8 (T:Txt K mg):n8 P w K mg base 1 "is_row" ["thing"] (spIs K (tY ++ Str.ofString ".") 48):=by
  refine iC T.d_is_row Dp (fun _ _ _ _ _ _ us hl=>L2.sH (fun _=>rfl) us hl) ?_ fun f cdv A outer s H vs Q E hr h=>?_
  · rintro vs H Q E ⟨p,rfl,_⟩;rfl
  obtain ⟨v,rfl,hT,q⟩:=h
  have hu:=hr.units0
  have hu64:=hr.units
  refine ⟨_,(aA (dq (qN (xO (jx (gO (aX (km (K:=K) rfl) (bB kz1h) T.b_isinstance dI (aa (au 0 QG) (aa (zq (bB kz1i) T.b_str PP (by decide+kernel) (by decide+kernel)) ao)) (by decide+kernel) (by decide+kernel)))) (tG (cO w5 (aX (aZ (K:=K) rfl) (bB kz1f) T.b_len cN (aa (au 0 QG) ao) (by decide+kernel) (by decide+kernel)) (Gp (bB kz1g) T.c_MOST_SIGNS (by decide+kernel)) (by first | exact bT _ | with_unfolding_all rfl))))) (aC (aM vN)) c7) (aC (aM (aX (xG rfl) (bB kz1d) T.b_all Gh (aa (gG (sub:=[none]) (b8 (N:=["thing"]) (sc:=az fJ) (N':=["sign"]) (by decide+kernel)) rfl rfl rfl (jU (K:=K) rfl (au 0 QG)) (fun C s₀ H₀ ex=>(mK 0 (by decide+kernel) yr)) (fun C s₀ H₀ ex=>cX) (fun C s₀ H₀ ex=>(xN (Gd (K:=K) rfl) (gK 0 (by decide+kernel)) (bD aV (tE (R5 (by decide+kernel)) T.c_LETTERS (by decide+kernel)) (tE (R5 (by decide+kernel)) T.c_POINT (by decide+kernel))) (by first | exact bT _ | with_unfolding_all rfl)))) ao) (by decide+kernel) (by decide+kernel))))),?_⟩
  walk_at "sts"
  rcases hT with ⟨z,rfl,hz⟩ | ⟨ty,hty,hk⟩
  · have hz1:z.length≤sizeLine:=Nat.le_trans hz (by decide)
    refine pq (.str z) rfl ?_
    walk_at "sts"
    try with_reducible refine oX ?_
    walk_at "sts"
    refine jT hz1 ?_
    walk_at "sts"
    refine kE (fun h1=>?_) (fun h1=>?_)
    · walk_at "sts"
      have:nQ (.str z) (tY ++ Str.ofString ".") 48=false:=by
        unfold nQ
        dsimp only
        rw [decide_eq_false (by omega)];rfl
      have q':=q H (Same.refl H)
      rw [this] at q'
      exact q'
    · walk_at "sts"
      refine .inr (.inr ⟨z,rfl,?_⟩)
      refine Gm (fun i us H'=>H'=H∧us=((z.cps.toList.take i).map fun c=>!Dn (tY ++ Str.ofString ".") c).map V.bl) hz1 ⟨rfl,rfl⟩ ?_ ?_ ?_
      · rintro i us H' ⟨rfl,rfl⟩
        simp;omega
      · rintro i us H' c hc ⟨rfl,rfl⟩
        walk_at "sts"
        refine ⟨KeepSt.set rfl,?_⟩
        walk_at "sts"
        try with_reducible refine nF ?_
        walk_at "sts"
        refine PX (Nat.le_trans (show (Str.ofString "abcdefghijklmnopqrstuvwxyz").length+(Str.ofString ".").length≤1000 by decide+kernel) (by decide)) ?_
        walk_at "sts"
        refine ⟨rfl,?_⟩
        rw [List.take_add_one,hc]
        simp [tY,Dn]
      · rintro us H' ⟨rfl,rfl⟩ D hD
        walk_at "sts"
        refine ⟨D,_,rfl,aj,?_⟩
        have e1:z.cps.toList.take z.cps.size=z.cps.toList:=List.take_of_length_le (by simp)
        have e2:nQ (.str z) (tY ++ Str.ofString ".") 48=(List.map (fun c=>!Dn (tY ++ Str.ofString ".") c) (z.cps.toList.take z.cps.size)).all id:=by
          unfold nQ
          dsimp only
          rw [decide_eq_true (by omega),Bool.true_and,e1,List.all_map];rfl
        have q':=q _ ((Same.refl H').upd hD (o:=.lst (List.map V.bl (List.map (fun c=>!Dn (tY ++ Str.ofString ".") c) (List.take z.cps.size z.cps.toList)))))
        rw [e2] at q'
        exact q'
  · refine pq hty hk ?_
    walk_at "sts"
    try with_reducible refine nF ?_
    walk_at "sts"
    try with_reducible refine nF ?_
    walk_at "sts"
    have q':=q H (Same.refl H)
    rw [QH hty hk] at q'
    exact q'
theorem Dq:aF ["self","found"] ["self","found"] (az pH):=⟨rfl,rfl,rfl,by decide+kernel,rfl,by decide+kernel,by decide+kernel⟩
theorem Ho (T:Txt K mg):Ks P w K mg base 1 "NoRow" (aK mg "NoRow") ["found"]:=Uj T.x_NoRow Dq (fun _ _ _ _ _ _ us hl=>L2.nj (fun _ _=>rfl) us hl) rfl fun f cdv A outer s H vs Q E hr h=>⟨_,(aC (m6 (K:=K) rfl (au 0 uB) (au 1 t7))),Xg T.x_NoRow.c.cl.cls (T.x_NoRow.na _ (by simp)) h⟩
def Ld (K:PySem.W.Frag) (mg:Str→Option Value):Sp:=fun vs H Q E=>∃ v:V,vs=[v]∧Thing K H v∧(RB v=true→∀ H',Same H H'→Q .non H')∧
  (RB v=false→∀ e H',Same H H'→Jb H' e (aK mg "NoRow") [("found",v)]→E (.ref (aK mg "NoRow")) (some e) H')
theorem yt:aF ["thing"] ["thing"] (az gZ):=⟨rfl,rfl,rfl,by decide+kernel,rfl,by decide+kernel,by decide+kernel⟩
theorem lK (T:Txt K mg):uy P w K mg base 3 "need_row" ["thing"] (Ld K mg):=by
  have t8:=t8 (P:=P) (w:=w) (base:=base) T
  refine tO T.d_need_row yt (fun _ _ _ _ _ _ us hl=>L2.sH (fun _=>rfl) us hl) ?_ fun f cdv A outer s H vs Q E hr h=>?_
  · rintro vs H Q E ⟨v,rfl,_⟩;rfl
  obtain ⟨v,rfl,hT,q1,q2⟩:=h
  have hu:=hr.units0
  have hu64:=hr.units
  refine ⟨_,(aC (dq (jx (gO (aU t8 (hr.mono (by decide)) (bB kz0x) (aa (au 0 Uz) ao) (by decide+kernel)))) (aC (mO (Ho (P:=P) (w:=w) (base:=base) T) (hr.mono (by decide)) rfl (bB kz0z) aO (aa (au 0 Uz) ao) (by decide+kernel))) c7)),?_⟩
  walk_at "sts"
  refine ⟨v,rfl,hT,fun H1 S1=>?_⟩
  cases hb:nQ v (tY ++ Str.ofString ".") 48 with
  | true=>
    walk_at "sts"
    try with_reducible refine oX ?_
    walk_at "sts"
    exact q1 hb _ S1
  | false=>
    walk_at "sts"
    try with_reducible refine nF ?_
    walk_at "sts"
    exact ⟨rfl,(show 1≤sizeLine by decide),fun x H2 S2 X2=>q2 hb x H2 (S1.trans S2) X2⟩
def spX (K:PySem.W.Frag) (mg:Str→Option Value) (g:Str→Str→Hp→VK→Prop):Sp:=fun vs H Q E=>∃ v u:V,vs=[v,u]∧Thing K H v∧Thing K H u∧
  (∀ w,bf v u=some w→∀ e H',Same H H'→Jb H' e (aK mg "NoRow") [("found",w)]→E (.ref (aK mg "NoRow")) (some e) H')∧
  (∀ side top:Str,v= .str side→u= .str top→qu side→qu top→g side top H Q)
theorem Hq {v:V} (h:RB v=true):∃ z,v= .str z∧qu z:=by
  cases v with
  | str z=>
    refine ⟨z,rfl,?_,h⟩
    unfold RB nQ at h
    simp only [Bool.and_eq_true,decide_eq_true_eq] at h
    omega
  | _=>cases h
theorem QJ {z:Str} (h:Row z):RB (.str z)=true:=by
  unfold RB nQ
  simp only [Bool.and_eq_true,decide_eq_true_eq]
  refine ⟨by have:=h.1;omega,List.all_eq_true.mpr fun c hc=>?_⟩
  have:=KY c (h.2 c hc)
  unfold Dn at this
  rw [this];rfl
theorem Row.b {z:Str} (h:Row z):qu z:=⟨h.1,QJ h⟩
theorem vg {H:Hp} {z:Str} (h:qu z):Thing K H (.str z):=.inl ⟨z,rfl,by have:=h.1;omega⟩
theorem Le {z y:Str} (h:qu z) (h':qu y):bf (.str z) (.str y)=none:=by
  unfold bf;rw [if_pos h.2,if_pos h'.2]
def gNon:Str→Str→Hp→VK→Prop:=fun _ _ H Q=>∀ H',Same H H'→Q .non H'
theorem v6:aF ["side","top"] ["side","top"] (az gm):=⟨rfl,rfl,rfl,by decide+kernel,rfl,by decide+kernel,by decide+kernel⟩
theorem mV (T:Txt K mg):uy P w K mg base 4 "need_rows" ["side","top"] (spX K mg gNon):=by
  have lK:=lK (P:=P) (w:=w) (base:=base) T
  refine tO T.d_need_rows v6 (fun _ _ _ _ _ _ us hl=>L2.nj (fun _ _=>rfl) us hl) ?_ fun f cdv A outer s H vs Q E hr h=>?_
  · rintro vs H Q E ⟨v,u,rfl,_⟩;rfl
  obtain ⟨v,u,rfl,hv,hu',qx,q⟩:=h
  have hu:=hr.units0
  have hu64:=hr.units
  refine ⟨_,(aA (aJ (cR lK (hr.mono (by decide)) (bB UG) aO (aa (au 0 kz12) ao) (by decide+kernel))) (aC (aJ (cR lK (hr.mono (by decide)) (bB UG) aO (aa (au 1 kz11) ao) (by decide+kernel))))),?_⟩
  walk_at "sts"
  refine ⟨v,rfl,hv,fun hb H1 S1=>?_,fun hb e H' S X=>qx v (by unfold bf;rw [if_neg (by rw [hb];decide)]) e H' S X⟩
  walk_at "sts"
  refine ⟨u,rfl,hu'.same S1,fun hb2 H2 S2=>?_,fun hb2 e H' S X=>qx u (by unfold bf;rw [if_pos hb,if_neg (by rw [hb2];decide)]) e H' (S1.trans S) X⟩
  walk_at "sts"
  obtain ⟨z,rfl,hz⟩:=Hq hb
  obtain ⟨y,rfl,hy⟩:=Hq hb2
  exact q z y rfl rfl hz hy _ (S1.trans S2)
def zO (c:Nat) (top:Str) (ab:List Int) (left:Int):Nat→Int
  | 0=>left
  | j+1=>if (decide (c=top.cps.getD j 0) || decide (ab.getD j 0 < zO c top ab left j))=true then ab.getD j 0 else zO c top ab left j
def uC (c:Nat) (top:Str) (ab:List Int) (left:Int) (j:Nat):Bool:=decide (c=top.cps.getD j 0) || decide (ab.getD j 0 < zO c top ab left j)
def UV (b:Bool):Str:=if b=true then Str.ofString "o" else Str.ofString "x"
def vh (c:Nat) (top:Str) (ab:List Int) (left:Int) (j:Nat):List Str:=(List.range j).map fun k=>UV (uC c top ab left k)
theorem Hr {c:Nat} {top:Str} {ab:List Int} {left:Int} {j:Nat}:∀ y∈vh c top ab left j,y.length=1:=fun y hy=>by
  obtain ⟨k,_,rfl⟩:=List.mem_map.mp hy
  unfold UV
  split <;> decide+kernel
def Lf:Sp:=fun vs H Q _=>∃ (c:Nat) (top:Str) (left:Int) (a:Addr) (ab:List Int),vs=[.str ⟨#[c]⟩,.str top,.int left,.ref a]∧H a=some (.lst (ab.map V.int))∧top.cps.size=ab.length∧ab.length≤48∧
  ∀ H',Same H H'→Q (.str (Txt.join (Str.ofString "") (vh c top ab left ab.length))) H'
theorem dG:aF ["sign","top","left","above","signs","column","other"] ["sign","top","left","above"] (az bc):=⟨rfl,rfl,rfl,by decide+kernel,rfl,by decide+kernel,by decide+kernel⟩
theorem jC (T:Txt K mg):n8 P w K mg base 1 "signs_of_row" ["sign","top","left","above"] Lf:=by
  refine iC T.d_signs_of_row dG (fun _ _ _ _ _ _ us hl=>L2.Sh (fun _ _ _ _=>rfl) us hl) ?_ fun f cdv A outer s H vs Q E hr h=>?_
  · rintro vs H Q E ⟨c,top,left,a,ab,rfl,_⟩;rfl
  obtain ⟨c,top,left,a,ab,rfl,ha,hz,hl,q⟩:=h
  have hu:=hr.units0
  have hu64:=hr.units
  refine ⟨_,(aA (aP (i:=4) dG.nd rfl (Or.inl Lb) (dX ao) rfl) (aA (dY PassesOwn.never rfl (lF (K:=K) rfl rfl (bB kz14) T.b_enumerate (aa (au 1 kz15) ao)) (lC (K:=K) rfl rfl (aH (aG (i:=5) dG.nd rfl (Or.inl QF) rfl) (aH (aG (i:=6) dG.nd rfl (Or.inl UJ) rfl) dj))) (aC (dq (qN (xO (cO (zB (K:=K) rfl hu64) (au 0 kz1a) (au 6 UJ) (by first | exact bT _ | with_unfolding_all rfl)) (tG (cO w5 (au 2 UL) (bZ (K:=K) rfl (au 3 UT) (au 5 QF)) (by first | exact bT _ | with_unfolding_all rfl))))) (aA (aJ (bU (K:=K) rfl PySem.F.plainAttrs_list PySem.F.slot_list_append PySem.F.type_list_append bj (au 4 Lb) (aa (tE (bB kz1b) T.c_TOUCH (by decide+kernel)) ao))) (aC (aP (i:=2) dG.nd rfl (Or.inl UL) (bZ (K:=K) rfl (au 3 UT) (au 5 QF)) rfl))) (aC (aJ (bU (K:=K) rfl PySem.F.plainAttrs_list PySem.F.slot_list_append PySem.F.type_list_append bj (au 4 Lb) (aa (tE (bB kz1c) T.c_CROSS (by decide+kernel)) ao))))))) (aC (aM (bU (K:=K) rfl PySem.F.plainAttrs_str PySem.F.slot_str_join PySem.F.type_str_join Ax Gn (aa (au 4 Lb) ao)))))),?_⟩
  walk_at "sts"
  have hs:20000≤sizeLine:=by decide
  refine jo rfl fun S0 nS=>?_
  have e0:=aj (H:=H) (a:=S0) (o:=.lst [])
  have Sm:=(Same.refl H).upd nS (o:=.lst [])
  generalize upd H S0 (.lst [])=H1 at e0 Sm ⊢
  walk_at "sts"
  refine .inl ⟨top,rfl,?_⟩
  refine zx (fun j σ H'=>Same H H'∧H' S0=some (.lst ((vh c top ab left j).map V.str))∧∃ x5 x6,σ=[some (.str ⟨#[c]⟩),some (.str top),some (.int (zO c top ab left j)),some (.ref a),some (.ref S0),x5,x6])
    ⟨Sm,e0,none,none,rfl⟩ ?_ ?_
  · rintro j σ H2 T0 hj ⟨S2,hS,x5,x6,rfl⟩ nT
    have hj':j < ab.length:=by rw [← hz];exact hj
    refine dg (xs:=[.int j,.str ⟨#[top.cps.getD j 0]⟩]) (SqT.of aj) rfl ?_
    have hS3:=aW nT hS (o:=.tup (jy top j))
    have S3:=S2.upd nT (o:=.tup (jy top j))
    generalize upd H2 T0 (.tup (jy top j))=H3 at hS3 S3 ⊢
    have ha3:=S3 _ _ ha
    have hix:vC (ab.map V.int) (j:Int)=some (.int (ab.getD j 0)):=by
      refine dO ?_
      rw [List.getElem?_map,List.getD_eq_getElem?_getD,List.getElem?_eq_getElem hj'];rfl
    walk_at "sts"
    have hlS:((vh c top ab left j).map V.str).length < sizeLine:=by unfold vh;simp;omega
    have step:(vh c top ab left (j+1)).map V.str=(vh c top ab left j).map V.str ++ [.str (UV (uC c top ab left j))]:=by unfold vh;rw [List.range_succ,List.map_append,List.map_append];rfl
    have stepT:uC c top ab left j=true→zO c top ab left (j+1)=ab.getD j 0:=fun h=>by rw [zO];exact if_pos h
    have stepF:uC c top ab left j=false→zO c top ab left (j+1)=zO c top ab left j:=fun h=>by rw [zO];exact if_neg (fun z=>by unfold uC at h;rw [h] at z;cases z)
    refine kE (fun hk=>?_) (fun hk=>?_)
    · have ec:c=top.cps.getD j 0:=by
        have:=Str.mk.inj (V.str.inj hk)
        simpa using this
      have hB:uC c top ab left j=true:=by unfold uC;rw [decide_eq_true ec];rfl
      walk_at "sts"
      refine ⟨.inl ⟨rfl,_,SqL.of hS3⟩,?_⟩
      walk_at "sts"
      refine bz hS3 hlS ?_
      have S4:=over (o:=.lst ((vh c top ab left j).map V.str ++ [.str (Str.ofString "o")])) S3 nS
      have hS4:=aj (H:=H3) (a:=S0) (o:=.lst ((vh c top ab left j).map V.str ++ [.str (Str.ofString "o")]))
      generalize upd H3 S0 (.lst ((vh c top ab left j).map V.str ++ [.str (Str.ofString "o")]))=H4 at S4 hS4 ⊢
      have ha4:=S4 _ _ ha
      walk_at "sts"
      refine bR (SqL.of ha4) hix ?_
      walk_at "sts"
      exact ⟨S4,by rw [hS4,step,hB];rfl,some (.int j),some (.str ⟨#[top.cps.getD j 0]⟩),by rw [stepT hB];rfl⟩
    · have ec:¬ c=top.cps.getD j 0:=fun z=>hk (by rw [z])
      walk_at "sts"
      refine bR (SqL.of ha3) hix ?_
      walk_at "sts"
      refine kE (fun hg=>?_) (fun hg=>?_)
      · have hB:uC c top ab left j=true:=by unfold uC;rw [decide_eq_false ec,Bool.false_or];exact decide_eq_true (by omega)
        walk_at "sts"
        refine ⟨.inl ⟨rfl,_,SqL.of hS3⟩,?_⟩
        walk_at "sts"
        refine bz hS3 hlS ?_
        have S4:=over (o:=.lst ((vh c top ab left j).map V.str ++ [.str (Str.ofString "o")])) S3 nS
        have hS4:=aj (H:=H3) (a:=S0) (o:=.lst ((vh c top ab left j).map V.str ++ [.str (Str.ofString "o")]))
        generalize upd H3 S0 (.lst ((vh c top ab left j).map V.str ++ [.str (Str.ofString "o")]))=H4 at S4 hS4 ⊢
        have ha4:=S4 _ _ ha
        walk_at "sts"
        refine bR (SqL.of ha4) hix ?_
        walk_at "sts"
        exact ⟨S4,by rw [hS4,step,hB];rfl,some (.int j),some (.str ⟨#[top.cps.getD j 0]⟩),by rw [stepT hB];rfl⟩
      · have hB:uC c top ab left j=false:=by unfold uC;rw [decide_eq_false ec,Bool.false_or];exact decide_eq_false (by omega)
        walk_at "sts"
        refine ⟨.inl ⟨rfl,_,SqL.of hS3⟩,?_⟩
        walk_at "sts"
        refine bz hS3 hlS ?_
        have S4:=over (o:=.lst ((vh c top ab left j).map V.str ++ [.str (Str.ofString "x")])) S3 nS
        have hS4:=aj (H:=H3) (a:=S0) (o:=.lst ((vh c top ab left j).map V.str ++ [.str (Str.ofString "x")]))
        generalize upd H3 S0 (.lst ((vh c top ab left j).map V.str ++ [.str (Str.ofString "x")]))=H4 at S4 hS4 ⊢
        exact ⟨S4,by rw [hS4,step,hB];rfl,some (.int j),some (.str ⟨#[top.cps.getD j 0]⟩),by rw [stepF hB];rfl⟩
  · rintro σ H2 ⟨S2,hS,x5,x6,rfl⟩
    rw [hz] at hS
    walk_at "sts"
    refine ⟨rfl,?_⟩
    walk_at "sts"
    have hs1:=xM (Hr (c:=c) (top:=top) (ab:=ab) (left:=left) (j:=ab.length))
    have e0:(Str.ofString "").length=0:=by decide+kernel
    refine Gk hS (by rw [hs1,e0];unfold vh;simp;omega) ?_
    exact q _ S2
end
local macro_rules | `(tactic| walk_at "sts") => `(tactic| (with_reducible repeat (first | refine qZ ?_ | refine nF ?_ | refine oX ?_ | refine mD ?_ | refine mF ?_ | (refine' lZ ?hz0 ?_; (case hz0 => with_unfolding_all rfl)) | refine Ef ?_ | refine rC ?_ | refine jd ?_ | refine iT ?_ | refine mj ?_ | refine ph ?_ | refine lQ ?_ | refine iJ ?_ | refine lV ?_ | refine iI ?_ | refine qW ?_ | refine iM ?_ | refine rD ?_ | refine rm ?_ | refine iU ?_ | refine qX ?_ | refine lW ?_ | refine lX ?_ | refine qY ?_ | refine iQ ?_ | refine iR ?_ | refine lY ?_ | refine lU ?_ | refine iK ?_ | refine q9 ?_ | refine u5 ?_ | refine u6 ?_ | refine rn ?_ | refine rB ?_ | refine my ?_ | refine iV ?_ | refine iW ?_ | refine iY ?_ | refine iZ ?_ | refine jb ?_ | refine jc ?_ | refine mz ?_ | refine Eh ?_ | refine fO ?_ | refine jh ?_ | (refine' dg (SqT.of ?hz0) ?hz1 ?_; (case hz0 => first | assumption | exact aj); (case hz1 => rfl)) | refine fQ ?_ | refine fV ?_ | refine fU ?_ | refine ji ?_ | refine gU ?_ | refine gW ?_ | refine jj ?_ | refine jk ?_ | refine rE ?_ | refine gP ?_ | refine gQ ?_ | refine fP ?_ | refine mC ?_ | refine jf ?_ | (refine' Eg ?hz0 ?_; (case hz0 => with_unfolding_all first | assumption | omega | (dsimp only <;> omega) | exact ⟨by omega, by omega⟩ | exact .inl ⟨by omega, by omega⟩ | exact .inr ⟨by omega, by omega⟩ | exact ⟨by decide, by decide, by decide⟩)) | (refine' je ?hz0 ?_; (case hz0 => with_unfolding_all first | assumption | omega | (dsimp only <;> omega) | exact ⟨by omega, by omega⟩ | exact .inl ⟨by omega, by omega⟩ | exact .inr ⟨by omega, by omega⟩ | exact ⟨by decide, by decide, by decide⟩)) | (refine' bR (SqL.of ?hz0) ?hz1 ?_; (case hz0 => first | assumption | exact aj); (case hz1 => with_unfolding_all rfl)) | (refine' jL (SqT.of ?hz0) ?hz1 ?_; (case hz0 => first | assumption | exact aj); (case hz1 => with_unfolding_all rfl)) | (refine' gF ?hz0 ?hz1 ?_; (case hz0 => first | assumption | exact aj); (case hz1 => with_unfolding_all rfl)) | refine fW ?_ | refine fX ?_ | refine mG ?_ | refine jl ?_ | refine rY ?_ | refine m7 ?_)))
local macro_rules | `(tactic| walk_at "stn") => `(tactic| (with_reducible repeat (first | refine qZ ?_ | refine nF ?_ | refine oX ?_ | refine mD ?_ | refine mF ?_ | (refine' lZ ?hz0 ?_; (case hz0 => with_unfolding_all rfl)) | refine Ef ?_ | refine rC ?_ | refine jd ?_ | refine iT ?_ | refine mj ?_ | refine lQ ?_ | refine iJ ?_ | refine lV ?_ | refine iI ?_ | refine qW ?_ | refine iM ?_ | refine rD ?_ | refine rm ?_ | refine iU ?_ | refine qX ?_ | refine lW ?_ | refine lX ?_ | refine qY ?_ | refine iQ ?_ | refine iR ?_ | refine lY ?_ | refine lU ?_ | refine iK ?_ | refine q9 ?_ | refine u5 ?_ | refine u6 ?_ | refine rn ?_ | refine rB ?_ | refine my ?_ | refine iV ?_ | refine iW ?_ | refine iY ?_ | refine iZ ?_ | refine jb ?_ | refine jc ?_ | refine mz ?_ | refine Eh ?_ | refine fO ?_ | refine jh ?_ | (refine' dg (SqT.of ?hz0) ?hz1 ?_; (case hz0 => first | assumption | exact aj); (case hz1 => rfl)) | refine fQ ?_ | refine fV ?_ | refine fU ?_ | refine ji ?_ | refine gU ?_ | refine gW ?_ | refine jj ?_ | refine jk ?_ | refine rE ?_ | refine gP ?_ | refine gQ ?_ | refine fP ?_ | refine mC ?_ | refine jf ?_ | (refine' Eg ?hz0 ?_; (case hz0 => with_unfolding_all first | assumption | omega | (dsimp only <;> omega) | exact ⟨by omega, by omega⟩ | exact .inl ⟨by omega, by omega⟩ | exact .inr ⟨by omega, by omega⟩ | exact ⟨by decide, by decide, by decide⟩)) | (refine' je ?hz0 ?_; (case hz0 => with_unfolding_all first | assumption | omega | (dsimp only <;> omega) | exact ⟨by omega, by omega⟩ | exact .inl ⟨by omega, by omega⟩ | exact .inr ⟨by omega, by omega⟩ | exact ⟨by decide, by decide, by decide⟩)) | (refine' bR (SqL.of ?hz0) ?hz1 ?_; (case hz0 => first | assumption | exact aj); (case hz1 => with_unfolding_all rfl)) | (refine' jL (SqT.of ?hz0) ?hz1 ?_; (case hz0 => first | assumption | exact aj); (case hz1 => with_unfolding_all rfl)) | (refine' gF ?hz0 ?hz1 ?_; (case hz0 => first | assumption | exact aj); (case hz1 => with_unfolding_all rfl)) | refine fW ?_ | refine fX ?_ | refine mG ?_ | refine jl ?_ | refine rY ?_ | refine m7 ?_)))
section
variable {P:Program} {w:World} {K:PySem.W.Frag} {mg:Str→Option Value} {base:Heap}
theorem QK:aN bF "cells":=by decide+kernel
theorem kz1k:cu bF "enumerate":=by decide+kernel
theorem QL:aN bF "side":=by decide+kernel
theorem UW:aN bF "sign":=by decide+kernel
theorem U0:aN bF "row":=by decide+kernel
theorem Lg:aN bF "above":=by decide+kernel
theorem kz1p:cu bF "over_row":=by decide+kernel
theorem QM:aN bF "left":=by decide+kernel
theorem QQ:aN bF "signs":=by decide+kernel
theorem kz1s:cu bF "signs_of_row":=by decide+kernel
theorem Va:aN bF "top":=by decide+kernel
theorem QR:cu bF "len":=by decide+kernel
theorem kz1v:cu bF "lines_above":=by decide+kernel
def Hs (c:Nat) (top:Str) (ab:List Int) (left:Int) (j:Nat):Int:=if uC c top ab left j=true then zO c top ab left j else ab.getD j 0
def Lh (c:Nat) (top:Str) (ab:List Int) (left:Int) (n:Nat):List Int:=(List.range n).map (Hs c top ab left)
theorem Li {c:Nat} {top:Str} {ab:List Int} {left:Int} {n:Nat}:(Lh c top ab left n).length=n:=by simp [Lh]
theorem Ht (c:Nat) (top:Str) (ab:List Int) (left:Int) (j:Nat):zO c top ab left (j+1)=if uC c top ab left j=true then ab.getD j 0 else zO c top ab left j:=rfl
def Vb (b:Bool):Nat:=if b=true then 111 else 120
theorem QS (b:Bool):(UV b).cps.toList=[Vb b]:=by cases b <;> decide+kernel
def yu (c:Nat) (top:Str) (ab:List Int) (left:Int) (n:Nat):Str:=⟨((List.range n).map fun k=>Vb (uC c top ab left k)).toArray⟩
theorem Lj {a b:Str} (h:a.cps.toList=b.cps.toList):a=b:=by
  cases a;cases b
  exact congrArg Str.mk (Array.toList_inj.mp h)
theorem vm {α β:Type} (f:α→β):∀ l:List α,(l.map fun k=>[f k]).flatten=l.map f
  | []=>rfl
  | a :: l=>by rw [List.map_cons,List.flatten_cons,vm f l];rfl
theorem Ds {c:Nat} {top:Str} {ab:List Int} {left:Int} {n:Nat}:Txt.join (Str.ofString "") (vh c top ab left n)=yu c top ab left n:=by
  apply Lj
  rw [sZ]
  unfold vh yu
  rw [List.map_map]
  have:((fun y:Str=>y.cps.toList) ∘ fun k=>UV (uC c top ab left k))=fun k=>[Vb (uC c top ab left k)]:=by
    funext k;exact QS _
  rw [this,vm]
theorem vo {c:Nat} {top:Str} {ab:List Int} {left:Int} {n:Nat}:(yu c top ab left n).cps.size=n:=by simp [yu]
theorem Bk {c:Nat} {top:Str} {ab:List Int} {left:Int} {n j:Nat} (h:j < n):(yu c top ab left n).cps.getD j 0=Vb (uC c top ab left j):=by
  unfold yu
  simp [Array.getD,h]
theorem Hu {z:Str} {j:Nat} {b:Bool} (h:z.cps.getD j 0=Vb b):t6 z j=b:=by
  unfold t6
  rw [h]
  cases b <;> decide+kernel
theorem v7 {z:Str} {c:Nat} {top:Str} {ab:List Int} {left:Int} {n:Nat} (hz:∀ j,j < n→t6 z j=uC c top ab left j):∀ j,j≤n→ig (t6 z) ab left j=(Lh c top ab left j,zO c top ab left j)
  | 0,_=>rfl
  | j+1,h=>by
    have ih:=v7 hz j (by omega)
    have e:Lh c top ab left (j+1)=Lh c top ab left j ++ [Hs c top ab left j]:=by unfold Lh;rw [List.range_succ,List.map_append];rfl
    rw [ig,ih,hz j (by omega),e,Ht]
    unfold Hs
    by_cases hc:uC c top ab left j=true
    · rw [if_pos hc,if_pos hc,if_pos hc]
    · rw [if_neg hc,if_neg hc,if_neg hc]
def vp (m:Nat) (side top:Str):Nat→List Int
  | 0=>(List.range top.cps.size).map fun l=>((m+l:Nat):Int)
  | i+1=>Lh (side.cps.getD i 0) top (vp m side top i) ((m:Int) - 1 - i) top.cps.size
theorem m8 {m:Nat} {side top:Str}:∀ i,(vp m side top i).length=top.cps.size
  | 0=>by simp [vp]
  | i+1=>by rw [vp,Li]
def Hv (m:Nat) (side top:Str) (i:Nat):Str:=yu (side.cps.getD i 0) top (vp m side top i) ((m:Int) - 1 - i) top.cps.size
def zP (m:Nat) (side top:Str) (n:Nat):List Str:=(List.range n).map (Hv m side top)
def jV (side top:Str):List Str:=zP side.cps.size side top side.cps.size
theorem Hw (m:Nat) (side top:Str) (n:Nat):zP m side top (n+1)=zP m side top n ++ [Hv m side top n]:=by unfold zP;rw [List.range_succ,List.map_append];rfl
theorem Bl (m:Nat) (side top:Str) (n:Nat):(zP m side top n).length=n:=by simp [zP]
def Lk:Sp:=fun vs H Q _=>∃ (side top:Str),vs=[.str side,.str top]∧side.cps.size≤48∧top.cps.size≤48∧
  ∀ D H',H D=none→Same H H'→H' D=some (.lst ((jV side top).map V.str))→Q (.ref D) H'
theorem dD:aF ["side","top","above","cells","row","sign","left","signs"] ["side","top"] (az bF):=⟨rfl,rfl,rfl,by decide+kernel,rfl,by decide+kernel,by decide+kernel⟩
theorem oK (T:Txt K mg):n8 P w K mg base 2 "cells_of" ["side","top"] Lk:=by
  have dN:=dN (P:=P) (w:=w) (base:=base) T
  have jC:=jC (P:=P) (w:=w) (base:=base) T
  have ik:=ik (P:=P) (w:=w) (base:=base) T
  refine iC T.d_cells_of dD (fun _ _ _ _ _ _ us hl=>L2.nj (fun _ _=>rfl) us hl) ?_ fun f cdv A outer s H vs Q E hr h=>?_
  · rintro vs H Q E ⟨side,top,rfl,_⟩;rfl
  obtain ⟨side,top,rfl,hs,ht,q⟩:=h
  have hu:=hr.units0
  have hu64:=hr.units
  refine ⟨_,(aA (aP (i:=2) dD.nd rfl (Or.inl Lg) (aU dN (hr.mono (by decide)) (bB kz1v) (aa (aX (aZ (K:=K) rfl) (bB QR) T.b_len cN (aa (au 0 QL) ao) (by decide+kernel) (by decide+kernel)) (aa (aX (aZ (K:=K) rfl) (bB QR) T.b_len cN (aa (au 1 Va) ao) (by decide+kernel) (by decide+kernel)) ao)) (by decide+kernel)) rfl) (aA (aP (i:=3) dD.nd rfl (Or.inl QK) (dX ao) rfl) (aA (dY PassesOwn.never rfl (lF (K:=K) rfl rfl (bB kz1k) T.b_enumerate (aa (au 0 QL) ao)) (lC (K:=K) rfl rfl (aH (aG (i:=4) dD.nd rfl (Or.inl U0) rfl) (aH (aG (i:=5) dD.nd rfl (Or.inl UW) rfl) dj))) (aA (aP (i:=6) dD.nd rfl (Or.inl QM) (bD gM (bD gM (aX (aZ (K:=K) rfl) (bB QR) T.b_len cN (aa (au 0 QL) ao) (by decide+kernel) (by decide+kernel)) aB) (au 4 U0)) rfl) (aA (aP (i:=7) dD.nd rfl (Or.inl QQ) (aU jC (hr.mono (by decide)) (bB kz1s) (aa (au 5 UW) (aa (au 1 Va) (aa (au 6 QM) (aa (au 2 Lg) ao)))) (by decide+kernel)) rfl) (aA (aJ (bU (K:=K) rfl PySem.F.plainAttrs_list PySem.F.slot_list_append PySem.F.type_list_append bj (au 3 QK) (aa (au 7 QQ) ao))) (aC (aP (i:=2) dD.nd rfl (Or.inl Lg) (bZ (K:=K) rfl (aU ik (hr.mono (by decide)) (bB kz1p) (aa (au 7 QQ) (aa (au 6 QM) (aa (au 2 Lg) ao))) (by decide+kernel)) aB) rfl)))))) (aC (aM (au 3 QK)))))),?_⟩
  walk_at "sts"
  have hz:1000≤sizeLine:=by decide
  have lz:side.length≤sizeLine:=Nat.le_trans hs (by decide)
  have ly:top.length≤sizeLine:=Nat.le_trans ht (by decide)
  refine jT lz ?_
  walk_at "sts"
  refine jT ly ?_
  walk_at "sts"
  refine ⟨side.cps.size,top.cps.size,rfl,hs,ht,fun A0 nA=>?_⟩
  have e0:((List.range top.cps.size).map fun l=>((side.cps.size+l:Nat):Int))=vp side.cps.size side top 0:=rfl
  rw [e0]
  have SA:=(Same.refl H).upd nA (o:=.lst ((vp side.cps.size side top 0).map V.int))
  have eA:=aj (H:=H) (a:=A0) (o:=.lst ((vp side.cps.size side top 0).map V.int))
  generalize upd H A0 (.lst ((vp side.cps.size side top 0).map V.int))=H1 at SA eA ⊢
  walk_at "sts"
  refine jo rfl fun D nD=>?_
  have SD:=SA.upd nD (o:=.lst [])
  have eD:=aj (H:=H1) (a:=D) (o:=.lst [])
  have eA2:=aW nD eA (o:=.lst [])
  have nDH:=SA.free nD
  have nAD:A0≠D:=fun z=>by rw [z,nD] at eA;cases eA
  generalize upd H1 D (.lst [])=H2 at SD eD eA2 ⊢
  walk_at "sts"
  refine .inl ⟨side,rfl,?_⟩
  refine zx (fun i σ H'=>Same H H'∧H' D=some (.lst ((zP side.cps.size side top i).map V.str))∧∃ a x4 x5 x6 x7,H' a=some (.lst ((vp side.cps.size side top i).map V.int))∧a≠D∧σ=[some (.str side),some (.str top),some (.ref a),some (.ref D),x4,x5,x6,x7])
    ⟨SD,eD,A0,none,none,none,none,eA2,nAD,rfl⟩ ?_ ?_
  · rintro i σ H3 T0 hi ⟨S3,hD,a,x4,x5,x6,x7,ha,nad,rfl⟩ nT
    have hi':i < side.cps.size:=hi
    refine dg (xs:=[.int i,.str ⟨#[side.cps.getD i 0]⟩]) (SqT.of aj) rfl ?_
    have hD4:=aW nT hD (o:=.tup (jy side i))
    have ha4:=aW nT ha (o:=.tup (jy side i))
    have S4:=S3.upd nT (o:=.tup (jy side i))
    generalize upd H3 T0 (.tup (jy side i))=H4 at hD4 ha4 S4 ⊢
    walk_at "sts"
    refine jT lz ?_
    walk_at "sts"
    refine ⟨_,top,_,a,_,rfl,ha4,(m8 i).symm,by rw [m8];exact ht,fun H5 S5=>?_⟩
    rw [Ds,m8]
    have hD5:=S5 _ _ hD4
    have ha5:=S5 _ _ ha4
    walk_at "sts"
    refine ⟨.inl ⟨rfl,_,SqL.of hD5⟩,?_⟩
    walk_at "sts"
    refine bz hD5 (by rw [List.length_map,Bl];omega) ?_
    have e1:(zP side.cps.size side top i).map V.str ++ [.str (yu (side.cps.getD i 0) top (vp side.cps.size side top i) ((side.length:Int) - 1 - i) top.cps.size)]=(zP side.cps.size side top (i+1)).map V.str:=by rw [Hw,List.map_append];rfl
    rw [e1]
    have S6:=over (o:=.lst ((zP side.cps.size side top (i+1)).map V.str)) (S4.trans S5) nDH
    have hD6:=aj (H:=H5) (a:=D) (o:=.lst ((zP side.cps.size side top (i+1)).map V.str))
    have ha6:upd H5 D (.lst ((zP side.cps.size side top (i+1)).map V.str)) a=_:=(aD nad).trans ha5
    generalize upd H5 D (.lst ((zP side.cps.size side top (i+1)).map V.str))=H6 at S6 hD6 ha6 ⊢
    walk_at "sts"
    refine ⟨_,_,a,_,rfl,ha6,by rw [vo,m8],by rw [m8];exact ht,fun t c1 b H7 nb _ S7 ht' hb _=>?_⟩
    rw [m8,v7 (n:=top.cps.size) (fun j hj=>Hu (Bk hj)) _ (Nat.le_refl _)] at ht' hb
    have hD7:=S7 _ _ hD6
    have nbD:b≠D:=fun z=>by rw [z,hD6] at nb;cases nb
    walk_at "sts"
    exact ⟨S6.trans S7,hD7,b,_,_,_,_,hb,nbD,rfl⟩
  · rintro σ H3 ⟨S3,hD,a,x4,x5,x6,x7,ha,nad,rfl⟩
    walk_at "sts"
    exact q D H3 nDH S3 hD
def CB (side top:Str):Nat→Nat→Bool:=cC (jV side top)
theorem Dt {side top:Str} {i:Nat} (h:i < side.cps.size):(jV side top).getD i ⟨#[]⟩=Hv side.cps.size side top i:=by
  unfold jV zP
  rw [List.getD_eq_getElem?_getD,List.getElem?_map,List.getElem?_range h];rfl
theorem zQ {side top:Str} {i:Nat} (h:i < side.cps.size):CB side top i=t6 (Hv side.cps.size side top i):=by unfold CB cC;rw [Dt h]
theorem Nu {side top:Str} {i j:Nat} (h:i < side.cps.size) (hj:j < top.cps.size):CB side top i j=uC (side.cps.getD i 0) top (vp side.cps.size side top i) ((side.cps.size:Int) - 1 - i) j:=by
  rw [zQ h]
  exact Hu (Bk hj)
theorem ag {side top:Str}:∀ i,i≤side.cps.size→vp side.cps.size side top i=qm side.cps.size (CB side top) top.cps.size i∧
    (i < side.cps.size→∀ j,j≤top.cps.size→zO (side.cps.getD i 0) top (vp side.cps.size side top i) ((side.cps.size:Int) - 1 - i) j=((gA side.cps.size (CB side top) i j:Nat):Int)∧Lh (side.cps.getD i 0) top (vp side.cps.size side top i) ((side.cps.size:Int) - 1 - i) j=qm side.cps.size (CB side top) j (i+1))
  | 0,h=>⟨by rw [Hn];rfl,fun hi j hj=>ag_step (by rw [Hn];rfl) hi hj⟩
  | i+1,h=>by
    have ih:=(ag (side:=side) (top:=top) i (by omega)).2 (by omega) top.cps.size (Nat.le_refl _)
    have e:vp side.cps.size side top (i+1)=qm side.cps.size (CB side top) top.cps.size (i+1):=ih.2
    exact ⟨e,fun hi j hj=>ag_step e hi hj⟩
where
  ag_step {side top:Str} {i j:Nat} (e:vp side.cps.size side top i=qm side.cps.size (CB side top) top.cps.size i) (hi:i < side.cps.size) (hj:j≤top.cps.size):
      zO (side.cps.getD i 0) top (vp side.cps.size side top i) ((side.cps.size:Int) - 1 - i) j=((gA side.cps.size (CB side top) i j:Nat):Int)∧Lh (side.cps.getD i 0) top (vp side.cps.size side top i) ((side.cps.size:Int) - 1 - i) j=qm side.cps.size (CB side top) j (i+1):=by
    have h1:=v7 (z:=Hv side.cps.size side top i) (c:=side.cps.getD i 0) (top:=top) (ab:=vp side.cps.size side top i) (left:=(side.cps.size:Int) - 1 - i) (n:=top.cps.size) (fun l hl=>by rw [← zQ hi];exact Nu hi hl) j hj
    have h2:=v5 (m:=side.cps.size) (C:=CB side top) (far:=top.cps.size) (i:=i) j hj
    rw [← zQ hi] at h1
    rw [← e,show ((gA side.cps.size (CB side top) i 0:Nat):Int)=(side.cps.size:Int) - 1 - i by rw [gJ];omega,h1] at h2
    exact ⟨congrArg Prod.snd h2,congrArg Prod.fst h2⟩
theorem Ln {side top:Str} {i j:Nat} (hi:i < side.cps.size) (hj:j < top.cps.size):CB side top i j=(decide (side.cps.getD i 0=top.cps.getD j 0) || decide (gD side.cps.size (CB side top) j i < gA side.cps.size (CB side top) i j)):=by
  rw [Nu hi hj]
  unfold uC
  rw [((ag i (by omega)).2 hi j (by omega)).1,(ag i (by omega)).1,zN hj]
  congr 1
  exact decide_eq_decide.mpr (by omega)
end
section
variable {P:Program} {w:World} {K:PySem.W.Frag} {mg:Str→Option Value} {base:Heap}
theorem v8:(["line"]:List Str).Nodup:=by decide+kernel
theorem Lp:aN cL "ways":=by decide+kernel
theorem Vc:cu cL "enumerate":=by decide+kernel
theorem kz1y:aN cL "coming":=by decide+kernel
theorem Vd:aN cL "pairs":=by decide+kernel
theorem QT:aN cL "row":=by decide+kernel
theorem QV:aN cL "pair":=by decide+kernel
theorem QW:aN cL "column":=by decide+kernel
theorem kz23:cu cL "range":=by decide+kernel
theorem kz24:aN cL "many":=by decide+kernel
theorem Ve {m:Nat} {C:Nat→Nat→Bool} {far:Nat}:∀ n i j,i+j≤n→i < m→j < far→gA m C i j < m+far∧gD m C j i < m+far
  | n,0,0,_,hi,hj=>by rw [gJ,jt];omega
  | 0,0,j+1,h,_,_=>absurd h (by omega)
  | 0,i+1,j,h,_,_=>absurd h (by omega)
  | n+1,0,j+1,h,hi,hj=>by
    have ih:=Ve (m:=m) (C:=C) (far:=far) n 0 j (by omega) hi (by omega)
    refine ⟨?_,by rw [jt];omega⟩
    rw [iB];split
    · exact ih.2
    · exact ih.1
  | n+1,i+1,0,h,hi,hj=>by
    have ih:=Ve (m:=m) (C:=C) (far:=far) n i 0 (by omega) (by omega) hj
    refine ⟨by rw [gJ];omega,?_⟩
    rw [fY];split
    · exact ih.1
    · exact ih.2
  | n+1,i+1,j+1,h,hi,hj=>by
    have h1:=Ve (m:=m) (C:=C) (far:=far) n (i+1) j (by omega) hi (by omega)
    have h2:=Ve (m:=m) (C:=C) (far:=far) n i (j+1) (by omega) (by omega) hj
    refine ⟨?_,?_⟩
    · rw [iB];split
      · exact h1.2
      · exact h1.1
    · rw [fY];split
      · exact h2.1
      · exact h2.2
def stp (w:Nat→List (Int×Int)) (l:Nat) (q:Int×Int):Nat→List (Int×Int):=fun k=>if k=l then w k ++ [q] else w k
def Lq (m:Nat) (C:Nat→Nat→Bool) (i:Nat) (w0:Nat→List (Int×Int)):Nat→Nat→List (Int×Int)
  | 0=>w0
  | j+1=>stp (stp (Lq m C i w0 j) (gA m C i j) ((i:Int),(j:Int))) (gD m C j i) ((i:Int),(j:Int))
def Ei (m:Nat) (C:Nat→Nat→Bool) (far:Nat):Nat→Nat→List (Int×Int)
  | 0=>fun _=>[]
  | i+1=>Lq m C i (Ei m C far i) far
theorem v9 (w:Nat→List (Int×Int)) (l:Nat) (q:Int×Int) (k:Nat):(stp w l q k).length≤(w k).length+1:=by
  unfold stp;split <;> simp
theorem wg {m:Nat} {C:Nat→Nat→Bool} {i:Nat} {w0:Nat→List (Int×Int)} (k:Nat):∀ j,(Lq m C i w0 j k).length≤(w0 k).length+2*j
  | 0=>by simp [Lq]
  | j+1=>by
    have ih:=wg (m:=m) (C:=C) (i:=i) (w0:=w0) k j
    have h1:=v9 (stp (Lq m C i w0 j) (gA m C i j) ((i:Int),(j:Int))) (gD m C j i) ((i:Int),(j:Int)) k
    have h2:=v9 (Lq m C i w0 j) (gA m C i j) ((i:Int),(j:Int)) k
    show (stp _ _ _ k).length≤_
    omega
theorem Bm {m:Nat} {C:Nat→Nat→Bool} {far:Nat} (k:Nat):∀ i,(Ei m C far i k).length≤2*(i*far)
  | 0=>by simp [Ei]
  | i+1=>by
    have ih:=Bm (m:=m) (C:=C) (far:=far) k i
    have h1:=wg (m:=m) (C:=C) (i:=i) (w0:=Ei m C far i) k far
    show (Lq m C i (Ei m C far i) far k).length≤_
    have e:(i+1)*far=i*far+far:=Nat.succ_mul i far
    omega
def Wys (H:Hp) (Pd:Addr→Prop) (refs:List V) (n:Nat) (w:Nat→List (Int×Int)):Prop:=refs.length=n∧(∀ l,l < n→∃ p ws,refs[l]?=some (.ref p)∧Pd p∧H p=some (.lst ws)∧PrI H ws (w l))∧
  ∀ (l k:Nat) (p:Addr),l≠k→refs[l]?=some (.ref p)→refs[k]?≠some (.ref p)
theorem Wys.imp {H H':Hp} {Pd Pd':Addr→Prop} {refs:List V} {n:Nat} {w:Nat→List (Int×Int)} (h:Wys H Pd refs n w) (ht:∀ p us,H p=some (.tup us)→H' p=some (.tup us)) (hl:∀ c ws,Pd c→H c=some (.lst ws)→H' c=some (.lst ws)) (hp:∀ c,Pd c→Pd' c):Wys H' Pd' refs n w:=
  ⟨h.1,fun l hl'=>by
    obtain ⟨p,ws,e1,e2,e3,e4⟩:=h.2.1 l hl'
    exact ⟨p,ws,e1,hp p e2,hl p ws e2 e3,e4.imp ht⟩,h.2.2⟩
theorem Wys.same {H H':Hp} {Pd:Addr→Prop} {refs:List V} {n:Nat} {w:Nat→List (Int×Int)} (h:Wys H Pd refs n w) (s:Same H H'):Wys H' Pd refs n w:=h.imp (fun p us e=>s _ _ e) (fun c ws _ e=>s _ _ e) fun _ z=>z
theorem Wys.new {H:Hp} {Pd:Addr→Prop} {refs:List V} {n:Nat} {w:Nat→List (Int×Int)} {p:Addr} (h:Wys H Pd refs n w) (hn:H p=none) (hP:Pd p) (hw:w n=[]):Wys (upd H p (.lst [])) Pd (refs ++ [.ref p]) (n+1) w:=by
  have s:Same H (upd H p (.lst [])):=(Same.refl H).upd hn
  obtain ⟨h1,h2,h3⟩:=h
  have ne:∀ l:Nat,refs[l]?≠some (V.ref p):=fun l e=>by
    have hl:l < n:=by rw [← h1];exact (List.getElem?_eq_some_iff.mp e).1
    obtain ⟨p',ws,e1,_,e3,_⟩:=h2 l hl
    rw [e] at e1
    cases e1
    rw [hn] at e3;cases e3
  refine ⟨by rw [List.length_append,h1];rfl,fun l hl=>?_,fun l k q hlk e1 e2=>?_⟩
  · by_cases e:l=n
    · subst e
      exact ⟨p,[],by rw [List.getElem?_append_right (by omega),h1,Nat.sub_self];rfl,hP,aj,by rw [hw];trivial⟩
    · obtain ⟨p',ws,e1,e2,e3,e4⟩:=h2 l (by omega)
      exact ⟨p',ws,by rw [List.getElem?_append_left (by omega)];exact e1,e2,s _ _ e3,e4.same s⟩
  · by_cases hl:l < refs.length
    · rw [List.getElem?_append_left hl] at e1
      by_cases hk:k < refs.length
      · rw [List.getElem?_append_left hk] at e2
        exact h3 l k q hlk e1 e2
      · rw [List.getElem?_append_right (by omega)] at e2
        have:k - refs.length=0:=by
          have:=(List.getElem?_eq_some_iff.mp e2).1
          simp at this;omega
        rw [this] at e2
        cases e2
        exact ne l e1
    · rw [List.getElem?_append_right (by omega)] at e1
      have:l - refs.length=0:=by
        have:=(List.getElem?_eq_some_iff.mp e1).1
        simp at this;omega
      rw [this] at e1
      cases e1
      by_cases hk:k < refs.length
      · rw [List.getElem?_append_left hk] at e2
        exact ne k e2
      · have:=(List.getElem?_eq_some_iff.mp e2).1
        simp at this;omega
theorem Wys.app {H:Hp} {Pd:Addr→Prop} {refs ws:List V} {n l:Nat} {w:Nat→List (Int×Int)} {p q:Addr} {x y:Int} (h:Wys H Pd refs n w) (hl:l < n) (hp:refs[l]?=some (.ref p)) (hw:H p=some (.lst ws)) (hq:H q=some (.tup [.int x,.int y])):
    Wys (upd H p (.lst (ws ++ [.ref q]))) Pd refs n (stp w l (x,y)):=by
  obtain ⟨h1,h2,h3⟩:=h
  have ht:∀ r us,H r=some (.tup us)→upd H p (.lst (ws ++ [.ref q])) r=some (.tup us):=fun r us e=>by rw [aD (fun z=>by rw [z,hw] at e;cases e)];exact e
  refine ⟨h1,fun k hk=>?_,h3⟩
  obtain ⟨p',us,e1,e2,e3,e4⟩:=h2 k hk
  by_cases e:k=l
  · subst e
    rw [hp] at e1
    cases e1
    rw [hw] at e3
    cases e3
    refine ⟨p,_,hp,e2,aj,?_⟩
    unfold stp
    rw [if_pos rfl]
    exact PrI.push (ht _ _ hq) (e4.imp ht)
  · have ne:p'≠p:=fun z=>by subst z;exact h3 k l p' e e1 hp
    refine ⟨p',us,e1,e2,by rw [aD ne];exact e3,?_⟩
    unfold stp
    rw [if_neg e]
    exact e4.imp ht
theorem Lr {m:Nat} {C:Nat→Nat→Bool} {far i j:Nat} (h:j < far):(yq m C far i)[j]?=some (((gA m C i j:Nat):Int),((gD m C j i:Nat):Int)):=by
  unfold yq
  rw [List.getElem?_map,List.getElem?_range h];rfl
theorem Hy {m:Nat} {C:Nat→Nat→Bool} {far i:Nat}:(yq m C far i).length=far:=by simp [yq]
def QX:Sp:=fun vs H Q _=>∃ (m far:Nat) (C:Nat→Nat→Bool) (cm:Addr) (cs:List V),vs=[.int ((m:Int)+(far:Int)),.ref cm]∧m≤48∧far≤48∧H cm=some (.lst cs)∧Cmg H (fun _=>True) m C far cs m∧
  ∀ aw refs H',H aw=none→Same H H'→H' aw=some (.lst refs)→Wys H' (fun p=>H p=none) refs (m+far) (Ei m C far m)→Q (.ref aw) H'
theorem ir:aF ["many","coming","ways","row","pairs","column","pair"] ["many","coming"] (az cL):=⟨rfl,rfl,rfl,by decide+kernel,rfl,by decide+kernel,by decide+kernel⟩
theorem qw (T:Txt K mg):n8 P w K mg base 1 "ways_of" ["many","coming"] QX:=by
  refine iC T.d_ways_of ir (fun _ _ _ _ _ _ us hl=>L2.nj (fun _ _=>rfl) us hl) ?_ fun f cdv A outer s H vs Q E hr h=>?_
  · rintro vs H Q E ⟨m,far,C,cm,cs,rfl,_⟩;rfl
  obtain ⟨m,far,C,cm,cs,rfl,hm,hf,hcm,hG,q⟩:=h
  have hu:=hr.units0
  have hu64:=hr.units
  refine ⟨_,(aA (vR (i:=2) ir.nd rfl (Or.inl Lp) (sub:=[none]) (b8 (N:=["many","coming","ways","row","pairs","column","pair"]) (sc:=az cL) (N':=["line"]) (by decide+kernel)) rfl rfl rfl (dm (bB kz23) T.b_range (aa (au 0 kz24) ao)) (fun C s₀ H₀ ex=>(mK 0 (by decide+kernel) v8)) (fun C s₀ H₀ ex=>cX) (fun C s₀ H₀ ex=>(dX ao)) rfl) (aA (dY PassesOwn.never rfl (lF (K:=K) rfl rfl (bB Vc) T.b_enumerate (aa (au 1 kz1y) ao)) (lC (K:=K) rfl rfl (aH (aG (i:=3) ir.nd rfl (Or.inl QT) rfl) (aH (aG (i:=4) ir.nd rfl (Or.inl Vd) rfl) dj))) (aC (dY PassesOwn.never rfl (lF (K:=K) rfl rfl (bB Vc) T.b_enumerate (aa (au 4 Vd) ao)) (lC (K:=K) rfl rfl (aH (aG (i:=5) ir.nd rfl (Or.inl QW) rfl) (aH (aG (i:=6) ir.nd rfl (Or.inl QV) rfl) dj))) (aA (aJ (bU (K:=K) rfl PySem.F.plainAttrs_list PySem.F.slot_list_append PySem.F.type_list_append bj (bZ (K:=K) rfl (au 2 Lp) (bZ (K:=K) rfl (au 6 QV) aB)) (aa (fu (aa (au 3 QT) (aa (au 5 QW) ao))) ao))) (aC (aJ (bU (K:=K) rfl PySem.F.plainAttrs_list PySem.F.slot_list_append PySem.F.type_list_append bj (bZ (K:=K) rfl (au 2 Lp) (bZ (K:=K) rfl (au 6 QV) aB)) (aa (fu (aa (au 3 QT) (aa (au 5 QW) ao))) ao)))))))) (aC (aM (au 2 Lp))))),?_⟩
  walk_at "sts"
  have hs:20000≤sizeLine:=by decide
  refine ⟨_,rfl,by omega,by omega,?_⟩
  rw [show ((m:Int)+(far:Int)).toNat=m+far by omega]
  refine tD (n:=m+far) (fun i ys H'=>Same H H'∧Wys H' (fun p=>H p=none) ys i (fun _=>[])) (by omega) ⟨Same.refl H,rfl,(fun l hl=>absurd hl (Nat.not_lt_zero _)),fun l k p _ e=>by simp at e⟩ ?_ ?_ ?_
  · rintro i ys H' ⟨_,h⟩
    exact Nat.le_of_eq h.1
  · rintro i ys H' hi ⟨s,h⟩
    walk_at "sts"
    refine ⟨KeepSt.set rfl,?_⟩
    walk_at "sts"
    refine jo rfl fun p np=>?_
    walk_at "sts"
    exact ⟨s.upd np,h.new np (Same.back s np) rfl⟩
  · rintro refs H1 ⟨s1,hW⟩ aw naw
    have naw0:=Same.back s1 naw
    have s2:=s1.upd naw (o:=.lst refs)
    have haw:=aj (H:=H1) (a:=aw) (o:=.lst refs)
    have hW2:Wys (upd H1 aw (.lst refs)) (fun p=>H p=none∧p≠aw) refs (m+far) (Ei m C far 0):=by
      obtain ⟨w1,w2,w3⟩:=hW
      refine ⟨w1,fun l hl=>?_,w3⟩
      obtain ⟨p,ws,e1,e2,e3,e4⟩:=w2 l hl
      exact ⟨p,ws,e1,⟨e2,fun z=>by rw [z,naw] at e3;cases e3⟩,aW naw e3,e4.same ((Same.refl H1).upd naw)⟩
    generalize upd H1 aw (.lst refs)=H2 at s2 haw hW2 ⊢
    walk_at "sts"
    refine .inr ⟨cm,_,rfl,SqL.of (s2 _ _ hcm),?_⟩
    refine m5 (xs:=cs) (fun i σ H'=>Same H H'∧H' aw=some (.lst refs)∧Wys H' (fun p=>H p=none∧p≠aw) refs (m+far) (Ei m C far i)∧∃ x3 x4 x5 x6,σ=[some (.int ((m:Int)+(far:Int))),some (.ref cm),some (.ref aw),x3,x4,x5,x6])
      ⟨s2,haw,hW2,_,_,_,_,rfl⟩ (fun i σ H' _ h=>SqL.of (h.1 _ _ hcm)) ?_ ?_
    · rintro i σ H3 T0 x hx ⟨S3,h3,W3,x3,x4,x5,x6,rfl⟩ nT
      have hi:i < m:=by
        have:=(List.getElem?_eq_some_iff.mp hx).1
        rw [hG.1] at this;exact this
      obtain ⟨c,ws,e1,_,hc,hws⟩:=hG.2 i hi
      rw [hx] at e1
      cases e1
      have wl:=hws.len
      rw [Hy] at wl
      refine dg (xs:=[.int i,.ref c]) (SqT.of aj) rfl ?_
      have S4:=S3.upd nT (o:=.tup [.int i,.ref c])
      have h4:=aW nT h3 (o:=.tup [.int i,.ref c])
      have W4:=W3.same ((Same.refl H3).upd nT (o:=.tup [.int i,.ref c]))
      generalize upd H3 T0 (.tup [.int i,.ref c])=H4 at S4 h4 W4 ⊢
      walk_at "sts"
      refine .inr ⟨c,_,rfl,SqL.of (S4 _ _ hc),?_⟩
      refine m5 (xs:=ws) (fun j σ H'=>Same H H'∧H' aw=some (.lst refs)∧Wys H' (fun p=>H p=none∧p≠aw) refs (m+far) (Lq m C i (Ei m C far i) j)∧∃ x5 x6,σ=[some (.int ((m:Int)+(far:Int))),some (.ref cm),some (.ref aw),some (.int i),some (.ref c),x5,x6])
        ⟨S4,h4,W4,_,_,rfl⟩ (fun i σ H' _ h=>SqL.of (h.1 _ _ hc)) ?_ ?_
      · rintro j σ H5 T1 y hy ⟨S5,h5,W5,x5,x6,rfl⟩ nT1
        have hj:j < far:=by
          have:=(List.getElem?_eq_some_iff.mp hy).1
          omega
        obtain ⟨r,e2,hr'⟩:=hws.get (Lr (m:=m) (C:=C) (i:=i) hj)
        rw [hy] at e2
        cases e2
        obtain ⟨l1,l2⟩:=Ve (m:=m) (C:=C) (far:=far) (i+j) i j (Nat.le_refl _) hi hj
        have wA:=Bm (m:=m) (C:=C) (far:=far)
        have wJ:=wg (m:=m) (C:=C) (i:=i) (w0:=Ei m C far i)
        have him:i*far≤48*48:=Nat.mul_le_mul (by omega) hf
        refine dg (xs:=[.int j,.ref r]) (SqT.of aj) rfl ?_
        have S6:=S5.upd nT1 (o:=.tup [.int j,.ref r])
        have h6:=aW nT1 h5 (o:=.tup [.int j,.ref r])
        have W6:=W5.same ((Same.refl H5).upd nT1 (o:=.tup [.int j,.ref r]))
        generalize upd H5 T1 (.tup [.int j,.ref r])=H6 at S6 h6 W6 ⊢
        obtain ⟨p,us,r1,⟨pn,pa⟩,hp,hpu⟩:=W6.2.1 _ l1
        have ul:=hpu.len
        have:=wA (gA m C i j) i
        have:=wJ (gA m C i j) j
        walk_at "sts"
        refine jL (SqT.of (S6 _ _ hr')) rfl ?_
        walk_at "sts"
        refine bR (SqL.of h6) (dO r1) ?_
        walk_at "sts"
        refine ⟨.inl ⟨rfl,_,SqL.of hp⟩,?_⟩
        walk_at "sts"
        refine jo rfl fun q1 nq1=>?_
        walk_at "sts"
        have S7:=S6.upd nq1 (o:=.tup [.int i,.int j])
        have h7:=aW nq1 h6 (o:=.tup [.int i,.int j])
        have W7:=W6.same ((Same.refl H6).upd nq1 (o:=.tup [.int i,.int j]))
        have hp7:=aW nq1 hp (o:=.tup [.int i,.int j])
        have hq7:=aj (H:=H6) (a:=q1) (o:=.tup [.int i,.int j])
        generalize upd H6 q1 (.tup [.int i,.int j])=H7 at S7 h7 W7 hp7 hq7 ⊢
        refine bz hp7 (by omega) ?_
        walk_at "sts"
        have S8:=Same.put (o:=.lst (us ++ [.ref q1])) S7 pn
        have h8:upd H7 p (.lst (us ++ [.ref q1])) aw=_:=(aD (Ne.symm pa)).trans h7
        have W8:=W7.app l1 r1 hp7 hq7
        generalize upd H7 p (.lst (us ++ [.ref q1]))=H8 at S8 h8 W8 ⊢
        obtain ⟨p',us',r2,⟨pn',pa'⟩,hp',hpu'⟩:=W8.2.1 _ l2
        have ul':=hpu'.len
        have:=v9 (Lq m C i (Ei m C far i) j) (gA m C i j) ((i:Int),(j:Int)) (gD m C j i)
        have:=wA (gD m C j i) i
        have:=wJ (gD m C j i) j
        walk_at "sts"
        refine jL (SqT.of (S8 _ _ hr')) rfl ?_
        walk_at "sts"
        refine bR (SqL.of h8) (dO r2) ?_
        walk_at "sts"
        refine ⟨.inl ⟨rfl,_,SqL.of hp'⟩,?_⟩
        walk_at "sts"
        refine jo rfl fun q2 nq2=>?_
        walk_at "sts"
        have S9:=S8.upd nq2 (o:=.tup [.int i,.int j])
        have h9:=aW nq2 h8 (o:=.tup [.int i,.int j])
        have W9:=W8.same ((Same.refl H8).upd nq2 (o:=.tup [.int i,.int j]))
        have hp9:=aW nq2 hp' (o:=.tup [.int i,.int j])
        have hq9:=aj (H:=H8) (a:=q2) (o:=.tup [.int i,.int j])
        generalize upd H8 q2 (.tup [.int i,.int j])=H9 at S9 h9 W9 hp9 hq9 ⊢
        refine bz hp9 (by omega) ?_
        walk_at "sts"
        exact ⟨Same.put S9 pn',(aD (Ne.symm pa')).trans h9,W9.app l2 r2 hp9 hq9,_,_,rfl⟩
      · rintro σ H5 ⟨S5,h5,W5,x5,x6,rfl⟩
        rw [wl] at W5
        exact ⟨S5,h5,W5,_,_,_,_,rfl⟩
    · rintro σ H3 ⟨S3,h3,W3,x3,x4,x5,x6,rfl⟩
      rw [hG.1] at W3
      walk_at "sts"
      exact q aw refs H3 naw0 S3 h3 (W3.imp (fun _ _ z=>z) (fun _ _ _ z=>z) fun c z=>z.1)
end
section
variable {P:Program} {w:World} {K:PySem.W.Frag} {mg:Str→Option Value} {base:Heap}
theorem zR:aN aQ "self":=by decide+kernel
theorem kz26:cu aQ "ways_of":=by decide+kernel
theorem Ls:aN aQ "gone":=by decide+kernel
theorem Lw:cu aQ "len":=by decide+kernel
theorem Hz:aN aQ "side":=by decide+kernel
theorem HH:aN aQ "top":=by decide+kernel
theorem kz2b:cu aQ "over_cells":=by decide+kernel
theorem kz2c:cu aQ "cells_of":=by decide+kernel
theorem kz2d:cu aQ "need_rows":=by decide+kernel
abbrev mS (z:Str):Nat:=z.cps.size
structure BdO (H:Hp) (side top:Str) (ac am al aw:Addr):Prop where
  cells:H ac=some (.lst ((jV side top).map V.str))
  com:∃ cs,H am=some (.lst cs)∧Cmg H (fun _=>True) (mS side) (CB side top) (mS top) cs (mS side)
  lines:∃ R,H al=some (.lst (R.map V.int))∧oJ (mS side) (CB side top) (mS top) R
  ways:∃ refs,H aw=some (.lst refs)∧Wys H (fun _=>True) refs (mS side+mS top) (Ei (mS side) (CB side top) (mS top) (mS side))
def bdF (side top:Str) (ac am al aw:Addr):List (Str×V):=[("held_side",.str side),("held_top",.str top),("held_cells",.ref ac),("held_coming",.ref am),("held_lines",.ref al),("held_ways",.ref aw)]
def Bd (mg:Str→Option Value) (H:Hp) (b:Addr) (side top:Str):Prop:=qu side∧qu top∧∃ dx ac am al aw,H b=some (.ins (aK mg "Board") dx (bdF side top ac am al aw))∧BdO H side top ac am al aw
theorem zU (side top:Str):(jV side top).length=side.cps.size:=Bl _ _ _ _
theorem yw {side top:Str}:∀ z∈jV side top,z.cps.size=top.cps.size:=fun z hz=>by
  unfold jV zP at hz
  obtain ⟨i,_,rfl⟩:=List.mem_map.mp hz
  exact vo
def Lx (K:PySem.W.Frag) (mg:Str→Option Value):Sp:=fun vs H Q E=>∃ (x dx:Addr) (v u:V),vs=[.ref x,v,u]∧H x=some (.ins (aK mg "Board") dx [])∧Thing K H v∧Thing K H u∧
  (∀ w,bf v u=some w→∀ e H',Same H H'→Jb H' e (aK mg "NoRow") [("found",w)]→E (.ref (aK mg "NoRow")) (some e) H')∧
  (∀ side top:Str,v= .str side→u= .str top→qu side→qu top→∀ H',Chg x H H'→Bd mg H' x side top→Q .non H')
theorem Chg.same {x:Addr} {H H1 H2:Hp} (c:Chg x H H1) (s:Same H1 H2):Chg x H H2:=fun b o n e=>s _ _ (c b o n e)
theorem Chg.put {x:Addr} {H H1:Hp} {o:HO} (c:Chg x H H1):Chg x H (upd H1 x o):=fun b u n e=>by rw [aD n];exact c b u n e
theorem dH {f:Str} {y:V}:∀ {fs:List (Str×V)},(fs.map (·.1)).contains f=false→jH f y fs=fs ++ [(f,y)]
  | [],_=>rfl
  | (g,z) :: fs,h=>by
    simp only [List.map_cons,List.contains_cons,Bool.or_eq_false_iff] at h
    have hne:¬ g=f:=fun e=>by rw [e] at h;simp at h
    have ih:=dH (y:=y) (fs:=fs) h.2
    unfold jH
    simp [hne,ih]
theorem jP:aF ["self","side","top","gone"] ["self","side","top"] (az aQ):=⟨rfl,rfl,rfl,by decide+kernel,rfl,by decide+kernel,by decide+kernel⟩
theorem iu (T:Txt K mg):kO P w K mg base 5 "Board" "__init__" ["self","side","top"] (Lx K mg):=by
  have mV:=mV (P:=P) (w:=w) (base:=base) T
  have oK:=oK (P:=P) (w:=w) (base:=base) T
  have lJ:=lJ (P:=P) (w:=w) (base:=base) T
  have qw:=qw (P:=P) (w:=w) (base:=base) T
  refine pG T.m_Board___init__ jP (fun _ _ _ _ _ _ us hl=>L2.j8 (fun _ _ _=>rfl) us hl) ?_ fun f cdv A outer s H vs Q E hr h=>?_
  · rintro vs H Q E ⟨x,dx,v,u,rfl,_⟩;rfl
  obtain ⟨x,dx,v,u,rfl,hx,hv,hu',qx,q⟩:=h
  have hu:=hr.units0
  have hu64:=hr.units
  refine ⟨_,(aA (aJ (cR mV (hr.mono (by decide)) (bB kz2d) aO (aa (au 1 Hz) (aa (au 2 HH) ao)) (by decide+kernel))) (aA (jA (K:=K) rfl (au 0 zR) (au 1 Hz)) (aA (jA (K:=K) rfl (au 0 zR) (au 2 HH)) (aA (jA (K:=K) rfl (au 0 zR) (aU oK (hr.mono (by decide)) (bB kz2c) (aa (au 1 Hz) (aa (au 2 HH) ao)) (by decide+kernel))) (aA (aP (i:=3) jP.nd rfl (Or.inl Ls) (aU lJ (hr.mono (by decide)) (bB kz2b) (aa (aX (aZ (K:=K) rfl) (bB Lw) T.b_len cN (aa (au 1 Hz) ao) (by decide+kernel) (by decide+kernel)) (aa (aX (aZ (K:=K) rfl) (bB Lw) T.b_len cN (aa (au 2 HH) ao) (by decide+kernel) (by decide+kernel)) (aa (fG (K:=K) rfl (au 0 zR)) ao))) (by decide+kernel)) rfl) (aA (jA (K:=K) rfl (au 0 zR) (bZ (K:=K) rfl (au 3 Ls) aB)) (aA (jA (K:=K) rfl (au 0 zR) (bZ (K:=K) rfl (au 3 Ls) aB)) (aC (jA (K:=K) rfl (au 0 zR) (aU qw (hr.mono (by decide)) (bB kz26) (aa (bD aV (aX (aZ (K:=K) rfl) (bB Lw) T.b_len cN (aa (au 1 Hz) ao) (by decide+kernel) (by decide+kernel)) (aX (aZ (K:=K) rfl) (bB Lw) T.b_len cN (aa (au 2 HH) ao) (by decide+kernel) (by decide+kernel))) (aa (bZ (K:=K) rfl (au 3 Ls) aB) ao)) (by decide+kernel))))))))))),?_⟩
  walk_at "sts"
  refine ⟨v,u,rfl,hv,hu',qx,fun side top ev eu hs ht H1 S1=>?_⟩
  subst ev eu
  have q':=q side top rfl rfl hs ht
  clear q qx
  have cl:=T.o_Board.cl
  have na:=T.n_Board
  have lz:side.length≤sizeLine:=Nat.le_trans hs.1 (by decide)
  have ly:top.length≤sizeLine:=Nat.le_trans ht.1 (by decide)
  have hx1:=S1 _ _ hx
  have C1:Chg x H H1:=fun b o _ e=>S1 _ _ e
  walk_at "sts"
  refine ⟨x,_,dx,_,rfl,hx1,cl,na _ (by simp),by simp,?_⟩
  walk_at "sts"
  rw [dH (by show ([]:List Str).contains "held_side"=false;decide+kernel)]
  have hx2:=aj (H:=H1) (a:=x) (o:=.ins (aK mg "Board") dx (([]:List (Str×V)) ++ ([("held_side",.str side)]:List (Str×V))))
  have C2:=Chg.put (o:=.ins (aK mg "Board") dx (([]:List (Str×V)) ++ ([("held_side",.str side)]:List (Str×V)))) C1
  generalize hG2:upd H1 x (.ins (aK mg "Board") dx (([]:List (Str×V)) ++ ([("held_side",.str side)]:List (Str×V))))=H2 at hx2 C2 ⊢
  replace hx2:H2 x=some (.ins (aK mg "Board") dx ([("held_side",.str side)]:List (Str×V))):=hx2
  walk_at "sts"
  refine ⟨x,_,dx,_,rfl,hx2,cl,na _ (by simp),by simp,?_⟩
  walk_at "sts"
  rw [dH (by show (["held_side"]:List Str).contains "held_top"=false;decide+kernel)]
  have hx3:=aj (H:=H2) (a:=x) (o:=.ins (aK mg "Board") dx (([("held_side",.str side)]:List (Str×V)) ++ ([("held_top",.str top)]:List (Str×V))))
  have C3:=Chg.put (o:=.ins (aK mg "Board") dx (([("held_side",.str side)]:List (Str×V)) ++ ([("held_top",.str top)]:List (Str×V)))) C2
  generalize hG3:upd H2 x (.ins (aK mg "Board") dx (([("held_side",.str side)]:List (Str×V)) ++ ([("held_top",.str top)]:List (Str×V))))=H3 at hx3 C3 ⊢
  replace hx3:H3 x=some (.ins (aK mg "Board") dx ([("held_side",.str side),("held_top",.str top)]:List (Str×V))):=hx3
  walk_at "sts"
  refine ⟨side,top,rfl,hs.1,ht.1,fun ac H4 nac S4 hac=>?_⟩
  walk_at "sts"
  have hx4:=S4 _ _ hx3
  have C4:=Chg.same C3 S4
  refine ⟨x,_,dx,_,rfl,hx4,cl,na _ (by simp),by simp,?_⟩
  walk_at "sts"
  rw [dH (by show (["held_side","held_top"]:List Str).contains "held_cells"=false;decide+kernel)]
  have hx5:=aj (H:=H4) (a:=x) (o:=.ins (aK mg "Board") dx (([("held_side",.str side),("held_top",.str top)]:List (Str×V)) ++ ([("held_cells",.ref ac)]:List (Str×V))))
  have C5:=Chg.put (o:=.ins (aK mg "Board") dx (([("held_side",.str side),("held_top",.str top)]:List (Str×V)) ++ ([("held_cells",.ref ac)]:List (Str×V)))) C4
  generalize hG5:upd H4 x (.ins (aK mg "Board") dx (([("held_side",.str side),("held_top",.str top)]:List (Str×V)) ++ ([("held_cells",.ref ac)]:List (Str×V))))=H5 at hx5 C5 ⊢
  replace hx5:H5 x=some (.ins (aK mg "Board") dx ([("held_side",.str side),("held_top",.str top),("held_cells",.ref ac)]:List (Str×V))):=hx5
  have nx4:∀ {a:Addr} {us:List V},H4 a=some (.lst us)→a≠x:=fun {a us} h z=>by rw [z,hx4] at h;cases h
  have hac5:H5 ac=some (.lst ((jV side top).map V.str)):=by rw [← hG5,aD (nx4 hac)];exact hac
  walk_at "sts"
  refine jT lz ?_
  walk_at "sts"
  refine jT ly ?_
  walk_at "sts"
  refine ⟨x,_,dx,_,_,rfl,hx5,cl,na _ (by simp),rfl,?_⟩
  walk_at "sts"
  refine ⟨mS side,mS top,jV side top,ac,rfl,hac5,zU side top,hs.1,ht.1,yw,fun t am al R H6 nal S6 ht6 hE hal hcm=>?_⟩
  walk_at "sts"
  obtain ⟨cs,hcm,hG⟩:=hcm
  have hx6:=S6 _ _ hx5
  have C6:=Chg.same C5 S6
  refine ⟨x,_,dx,_,rfl,hx6,cl,na _ (by simp),by simp,?_⟩
  walk_at "sts"
  rw [dH (by show (["held_side","held_top","held_cells"]:List Str).contains "held_coming"=false;decide+kernel)]
  have hx7:=aj (H:=H6) (a:=x) (o:=.ins (aK mg "Board") dx (([("held_side",.str side),("held_top",.str top),("held_cells",.ref ac)]:List (Str×V)) ++ ([("held_coming",.ref am)]:List (Str×V))))
  have C7:=Chg.put (o:=.ins (aK mg "Board") dx (([("held_side",.str side),("held_top",.str top),("held_cells",.ref ac)]:List (Str×V)) ++ ([("held_coming",.ref am)]:List (Str×V)))) C6
  generalize hG7:upd H6 x (.ins (aK mg "Board") dx (([("held_side",.str side),("held_top",.str top),("held_cells",.ref ac)]:List (Str×V)) ++ ([("held_coming",.ref am)]:List (Str×V))))=H7 at hx7 C7 ⊢
  replace hx7:H7 x=some (.ins (aK mg "Board") dx ([("held_side",.str side),("held_top",.str top),("held_cells",.ref ac),("held_coming",.ref am)]:List (Str×V))):=hx7
  have M7:Chg x H6 H7:=by rw [← hG7];exact Chg.put (Chg.refl x H6)
  have nt:t≠x:=fun z=>by rw [z,hx6] at ht6;cases ht6
  have ht7:=M7 t _ nt ht6
  walk_at "sts"
  refine ⟨x,_,dx,_,rfl,hx7,cl,na _ (by simp),by simp,?_⟩
  walk_at "sts"
  rw [dH (by show (["held_side","held_top","held_cells","held_coming"]:List Str).contains "held_lines"=false;decide+kernel)]
  have hx8:=aj (H:=H7) (a:=x) (o:=.ins (aK mg "Board") dx (([("held_side",.str side),("held_top",.str top),("held_cells",.ref ac),("held_coming",.ref am)]:List (Str×V)) ++ ([("held_lines",.ref al)]:List (Str×V))))
  have C8:=Chg.put (o:=.ins (aK mg "Board") dx (([("held_side",.str side),("held_top",.str top),("held_cells",.ref ac),("held_coming",.ref am)]:List (Str×V)) ++ ([("held_lines",.ref al)]:List (Str×V)))) C7
  generalize hG8:upd H7 x (.ins (aK mg "Board") dx (([("held_side",.str side),("held_top",.str top),("held_cells",.ref ac),("held_coming",.ref am)]:List (Str×V)) ++ ([("held_lines",.ref al)]:List (Str×V))))=H8 at hx8 C8 ⊢
  replace hx8:H8 x=some (.ins (aK mg "Board") dx ([("held_side",.str side),("held_top",.str top),("held_cells",.ref ac),("held_coming",.ref am),("held_lines",.ref al)]:List (Str×V))):=hx8
  have M8:Chg x H6 H8:=M7.trans (by rw [← hG8];exact Chg.put (Chg.refl x H7))
  have nx6:∀ {a:Addr} {us:List V},H6 a=some (.lst us)→a≠x:=fun {a us} h z=>by rw [z,hx6] at h;cases h
  have nxt6:∀ {a:Addr} {us:List V},H6 a=some (.tup us)→a≠x:=fun {a us} h z=>by rw [z,hx6] at h;cases h
  have ht8:=M8 t _ nt ht6
  have hcm8:=M8 am _ (nx6 hcm) hcm
  have hG8':Cmg H8 (fun _=>True) (mS side) (CB side top) (mS top) cs (mS side):=hG.imp (fun p us e=>M8 p _ (nxt6 e) e) (fun c ws _ e=>M8 c _ (nx6 e) e) fun _ z=>z
  have hal8:=M8 al _ (nx6 hal) hal
  have hac8:=M8 ac _ (nx6 (S6 _ _ hac5)) (S6 _ _ hac5)
  walk_at "sts"
  refine jT lz ?_
  walk_at "sts"
  refine jT ly ?_
  walk_at "sts"
  refine ⟨mS side,mS top,CB side top,am,cs,rfl,hs.1,ht.1,hcm8,hG8',fun aw refs H9 naw S9 haw hW=>?_⟩
  walk_at "sts"
  have hx9:=S9 _ _ hx8
  have C9:=Chg.same C8 S9
  have nx9:∀ {a:Addr} {us:List V},H9 a=some (.lst us)→a≠x:=fun {a us} h z=>by rw [z,hx9] at h;cases h
  have nxt9:∀ {a:Addr} {us:List V},H9 a=some (.tup us)→a≠x:=fun {a us} h z=>by rw [z,hx9] at h;cases h
  refine ⟨x,_,dx,_,rfl,hx9,cl,na _ (by simp),by simp,?_⟩
  walk_at "sts"
  rw [dH (by show (["held_side","held_top","held_cells","held_coming","held_lines"]:List Str).contains "held_ways"=false;decide+kernel)]
  have hx10:=aj (H:=H9) (a:=x) (o:=.ins (aK mg "Board") dx (([("held_side",.str side),("held_top",.str top),("held_cells",.ref ac),("held_coming",.ref am),("held_lines",.ref al)]:List (Str×V)) ++ ([("held_ways",.ref aw)]:List (Str×V))))
  have C10:=Chg.put (o:=.ins (aK mg "Board") dx (([("held_side",.str side),("held_top",.str top),("held_cells",.ref ac),("held_coming",.ref am),("held_lines",.ref al)]:List (Str×V)) ++ ([("held_ways",.ref aw)]:List (Str×V)))) C9
  generalize hG10:upd H9 x (.ins (aK mg "Board") dx (([("held_side",.str side),("held_top",.str top),("held_cells",.ref ac),("held_coming",.ref am),("held_lines",.ref al)]:List (Str×V)) ++ ([("held_ways",.ref aw)]:List (Str×V))))=H10 at hx10 C10 ⊢
  replace hx10:H10 x=some (.ins (aK mg "Board") dx ([("held_side",.str side),("held_top",.str top),("held_cells",.ref ac),("held_coming",.ref am),("held_lines",.ref al),("held_ways",.ref aw)]:List (Str×V))):=hx10
  have M10:Chg x H9 H10:=by rw [← hG10];exact Chg.put (Chg.refl x H9)
  refine q' H10 C10 ⟨hs,ht,dx,ac,am,al,aw,hx10,M10 ac _ (nx9 (S9 _ _ hac8)) (S9 _ _ hac8),⟨cs,M10 am _ (nx9 (S9 _ _ hcm8)) (S9 _ _ hcm8),(hG8'.same S9).imp (fun p us e=>M10 p _ (nxt9 e) e) (fun c ws _ e=>M10 c _ (nx9 e) e) fun _ z=>z⟩,⟨R,M10 al _ (nx9 (S9 _ _ hal8)) (S9 _ _ hal8),hE⟩,refs,M10 aw _ (nx9 haw) haw,hW.imp (fun p us e=>M10 p _ (nxt9 e) e) (fun c ws _ e=>M10 c _ (nx9 e) e) fun _ _=>trivial⟩
end
section
variable {P:Program} {w:World} {K:PySem.W.Frag} {mg:Str→Option Value} {base:Heap}
theorem kz2e:cu fK "list":=by decide+kernel
theorem kz2f:aN fK "self":=by decide+kernel
theorem bdM {side top:Str} {ac am al aw:Addr} {m:Str} (h:(["held_side","held_top","held_cells","held_coming","held_lines","held_ways"]:List Str).contains m=false):(bdF side top ac am al aw).lookup m=none:=by
  unfold bdF
  simp only [List.contains_cons,Bool.or_eq_false_iff] at h
  obtain ⟨h1,h2,h3,h4,h5,h6,_⟩:=h
  simp only [List.lookup_cons,h1,h2,h3,h4,h5,h6,List.lookup_nil]
def Ly (mg:Str→Option Value):Sp:=fun vs H Q _=>∃ (b:Addr) (side top:Str),vs=[.ref b]∧Bd mg H b side top∧∀ q R H',H q=none→Same H H'→oJ (mS side) (CB side top) (mS top) R→H' q=some (.lst (R.map V.int))→Q (.ref q) H'
theorem ud:aF ["self"] ["self"] (az fK):=⟨rfl,rfl,rfl,by decide+kernel,rfl,by decide+kernel,by decide+kernel⟩
theorem jW (T:Txt K mg):kO P w K mg base 1 "Board" "lines" ["self"] (Ly mg):=by
  refine pG T.m_Board_lines ud (fun _ _ _ _ _ _ us hl=>L2.sH (fun _=>rfl) us hl) ?_ fun f cdv A outer s H vs Q E hr h=>?_
  · rintro vs H Q E ⟨b,side,top,rfl,_⟩;rfl
  obtain ⟨b,side,top,rfl,⟨hs,ht,dx,ac,am,al,aw,hb,hO⟩,q⟩:=h
  have hu:=hr.units0
  have hu64:=hr.units
  refine ⟨_,(aC (aM (xR (sY (K:=K) rfl rfl) (bB kz2e) T.b_list rT (aa (fG (K:=K) rfl (au 0 kz2f)) ao) (by decide+kernel) (by decide+kernel)))),?_⟩
  walk_at "sts"
  obtain ⟨R,hR,hE⟩:=hO.lines
  refine ⟨b,_,dx,_,_,rfl,hb,T.o_Board.cl,T.n_Board _ (by simp),rfl,?_⟩
  walk_at "sts"
  refine Ka (SqL.of hR) fun l nl=>?_
  walk_at "sts"
  exact q l R _ nl ((Same.refl H).upd nl) hE aj
end
local macro_rules | `(tactic| walk_at "sts") => `(tactic| (with_reducible repeat (first | refine qZ ?_ | refine nF ?_ | refine oX ?_ | refine mD ?_ | refine mF ?_ | (refine' lZ ?hz0 ?_; (case hz0 => with_unfolding_all rfl)) | refine Ef ?_ | refine rC ?_ | refine jd ?_ | refine iT ?_ | refine mj ?_ | refine ph ?_ | refine lQ ?_ | refine iJ ?_ | refine lV ?_ | refine iI ?_ | refine qW ?_ | refine iM ?_ | refine rD ?_ | refine rm ?_ | refine iU ?_ | refine qX ?_ | refine lW ?_ | refine lX ?_ | refine qY ?_ | refine iQ ?_ | refine iR ?_ | refine lY ?_ | refine lU ?_ | refine iK ?_ | refine q9 ?_ | refine u5 ?_ | refine u6 ?_ | refine rn ?_ | refine rB ?_ | refine my ?_ | refine iV ?_ | refine iW ?_ | refine iY ?_ | refine iZ ?_ | refine jb ?_ | refine jc ?_ | refine mz ?_ | refine Eh ?_ | refine fO ?_ | refine jh ?_ | (refine' dg (SqT.of ?hz0) ?hz1 ?_; (case hz0 => first | assumption | exact aj); (case hz1 => rfl)) | refine fQ ?_ | refine fV ?_ | refine fU ?_ | refine ji ?_ | refine gU ?_ | refine gW ?_ | refine jj ?_ | refine jk ?_ | refine rE ?_ | refine gP ?_ | refine gQ ?_ | refine fP ?_ | refine mC ?_ | refine jf ?_ | (refine' Eg ?hz0 ?_; (case hz0 => with_unfolding_all first | assumption | omega | (dsimp only <;> omega) | exact ⟨by omega, by omega⟩ | exact .inl ⟨by omega, by omega⟩ | exact .inr ⟨by omega, by omega⟩ | exact ⟨by decide, by decide, by decide⟩)) | (refine' je ?hz0 ?_; (case hz0 => with_unfolding_all first | assumption | omega | (dsimp only <;> omega) | exact ⟨by omega, by omega⟩ | exact .inl ⟨by omega, by omega⟩ | exact .inr ⟨by omega, by omega⟩ | exact ⟨by decide, by decide, by decide⟩)) | (refine' bR (SqL.of ?hz0) ?hz1 ?_; (case hz0 => first | assumption | exact aj); (case hz1 => with_unfolding_all rfl)) | (refine' jL (SqT.of ?hz0) ?hz1 ?_; (case hz0 => first | assumption | exact aj); (case hz1 => with_unfolding_all rfl)) | (refine' gF ?hz0 ?hz1 ?_; (case hz0 => first | assumption | exact aj); (case hz1 => with_unfolding_all rfl)) | refine fW ?_ | refine fX ?_ | refine mG ?_ | refine jl ?_)))
local macro_rules | `(tactic| walk_at "stn") => `(tactic| (with_reducible repeat (first | refine qZ ?_ | refine nF ?_ | refine oX ?_ | refine mD ?_ | refine mF ?_ | (refine' lZ ?hz0 ?_; (case hz0 => with_unfolding_all rfl)) | refine Ef ?_ | refine rC ?_ | refine jd ?_ | refine iT ?_ | refine mj ?_ | refine lQ ?_ | refine iJ ?_ | refine lV ?_ | refine iI ?_ | refine qW ?_ | refine iM ?_ | refine rD ?_ | refine rm ?_ | refine iU ?_ | refine qX ?_ | refine lW ?_ | refine lX ?_ | refine qY ?_ | refine iQ ?_ | refine iR ?_ | refine lY ?_ | refine lU ?_ | refine iK ?_ | refine q9 ?_ | refine u5 ?_ | refine u6 ?_ | refine rn ?_ | refine rB ?_ | refine my ?_ | refine iV ?_ | refine iW ?_ | refine iY ?_ | refine iZ ?_ | refine jb ?_ | refine jc ?_ | refine mz ?_ | refine Eh ?_ | refine fO ?_ | refine jh ?_ | (refine' dg (SqT.of ?hz0) ?hz1 ?_; (case hz0 => first | assumption | exact aj); (case hz1 => rfl)) | refine fQ ?_ | refine fV ?_ | refine fU ?_ | refine ji ?_ | refine gU ?_ | refine gW ?_ | refine jj ?_ | refine jk ?_ | refine rE ?_ | refine gP ?_ | refine gQ ?_ | refine fP ?_ | refine mC ?_ | refine jf ?_ | (refine' Eg ?hz0 ?_; (case hz0 => with_unfolding_all first | assumption | omega | (dsimp only <;> omega) | exact ⟨by omega, by omega⟩ | exact .inl ⟨by omega, by omega⟩ | exact .inr ⟨by omega, by omega⟩ | exact ⟨by decide, by decide, by decide⟩)) | (refine' je ?hz0 ?_; (case hz0 => with_unfolding_all first | assumption | omega | (dsimp only <;> omega) | exact ⟨by omega, by omega⟩ | exact .inl ⟨by omega, by omega⟩ | exact .inr ⟨by omega, by omega⟩ | exact ⟨by decide, by decide, by decide⟩)) | (refine' bR (SqL.of ?hz0) ?hz1 ?_; (case hz0 => first | assumption | exact aj); (case hz1 => with_unfolding_all rfl)) | (refine' jL (SqT.of ?hz0) ?hz1 ?_; (case hz0 => first | assumption | exact aj); (case hz1 => with_unfolding_all rfl)) | (refine' gF ?hz0 ?hz1 ?_; (case hz0 => first | assumption | exact aj); (case hz1 => with_unfolding_all rfl)) | refine fW ?_ | refine fX ?_ | refine mG ?_ | refine jl ?_)))
section
variable {P:Program} {w:World} {K:PySem.W.Frag} {mg:Str→Option Value} {base:Heap}
theorem Vf:cu dZ "isinstance":=by decide+kernel
theorem kz2h:cu dZ "bool":=by decide+kernel
theorem Vg:aN dZ "thing":=by decide+kernel
theorem kz2j:cu dZ "int":=by decide+kernel
theorem kz2k:aN d7 "low":=by decide+kernel
theorem Vh:aN d7 "thing":=by decide+kernel
theorem kz2m:aN d7 "high":=by decide+kernel
theorem kz2n:cu d7 "is_number":=by decide+kernel
theorem kz2o:cu cY "is_within":=by decide+kernel
theorem kz2p:aN cY "high":=by decide+kernel
theorem kz2q:aN cY "low":=by decide+kernel
theorem Vi:aN cY "thing":=by decide+kernel
theorem kz2s:cu cY "NoPlace":=by decide+kernel
theorem Vj:cu gY "is_within":=by decide+kernel
theorem Vk:aN gY "many":=by decide+kernel
theorem Vl:aN gY "begin":=by decide+kernel
theorem kz2w:aN gY "end":=by decide+kernel
theorem kz2x:cu dB "is_span":=by decide+kernel
theorem kz2y:aN dB "many":=by decide+kernel
theorem Vm:aN dB "end":=by decide+kernel
theorem Vn:aN dB "begin":=by decide+kernel
theorem kz31:cu dB "NoSpan":=by decide+kernel
theorem rM:aN kW "self":=by decide+kernel
theorem qy:aN kW "found":=by decide+kernel
theorem pI:aN iD "self":=by decide+kernel
theorem oM:aN iD "found":=by decide+kernel
theorem mW:aN kY "self":=by decide+kernel
theorem rN:aN kY "begin":=by decide+kernel
theorem uD:aN kY "end":=by decide+kernel
theorem QZ {H:Hp} {v:V} {T:String} (h:TyOf K H v (.type T)) (k:PySem.W.kitOne K (.type T) (.type "int")=some false):Uy v=false∧∀ lo hi,inB v lo hi=false:=by
  cases v with
  | int z=>
    cases h
    have:PySem.W.kitOne K (.type "int") (.type "int")=some true:=rfl
    rw [this] at k;cases k
  | _=>exact ⟨rfl,fun _ _=>rfl⟩
theorem yx:aF ["self","found"] ["self","found"] (az kW):=⟨rfl,rfl,rfl,by decide+kernel,rfl,by decide+kernel,by decide+kernel⟩
theorem zV (T:Txt K mg):Ks P w K mg base 1 "NoPlace" (aK mg "NoPlace") ["found"]:=Uj T.x_NoPlace yx (fun _ _ _ _ _ _ us hl=>L2.nj (fun _ _=>rfl) us hl) rfl fun f cdv A outer s H vs Q E hr h=>⟨_,(aC (m6 (K:=K) rfl (au 0 rM) (au 1 qy))),Xg T.x_NoPlace.c.cl.cls (T.x_NoPlace.na _ (by simp)) h⟩
theorem uE:aF ["self","found"] ["self","found"] (az iD):=⟨rfl,rfl,rfl,by decide+kernel,rfl,by decide+kernel,by decide+kernel⟩
theorem wj (T:Txt K mg):Ks P w K mg base 1 "NoTurning" (aK mg "NoTurning") ["found"]:=Uj T.x_NoTurning uE (fun _ _ _ _ _ _ us hl=>L2.nj (fun _ _=>rfl) us hl) rfl fun f cdv A outer s H vs Q E hr h=>⟨_,(aC (m6 (K:=K) rfl (au 0 pI) (au 1 oM))),Xg T.x_NoTurning.c.cl.cls (T.x_NoTurning.na _ (by simp)) h⟩
theorem zW:aF ["self","begin","end"] ["self","begin","end"] (az kY):=⟨rfl,rfl,rfl,by decide+kernel,rfl,by decide+kernel,by decide+kernel⟩
theorem Du (T:Txt K mg):Ks P w K mg base 1 "NoSpan" (aK mg "NoSpan") ["begin","end"]:=Uj T.x_NoSpan zW (fun _ _ _ _ _ _ us hl=>L2.j8 (fun _ _ _=>rfl) us hl) rfl fun f cdv A outer s H vs Q E hr h=>⟨_,(aA (m6 (K:=K) rfl (au 0 mW) (au 1 rN)) (aC (m6 (K:=K) rfl (au 0 mW) (au 2 uD)))),rd2 T.x_NoSpan.c.cl.cls (T.x_NoSpan.na _ (by simp)) (T.x_NoSpan.na _ (by simp)) (by decide) h⟩
def HJ (K:PySem.W.Frag):Sp:=fun vs H Q _=>∃ v:V,vs=[v]∧Kd K H v∧Q (.bl (Uy v)) H
theorem wu:aF ["thing"] ["thing"] (az dZ):=⟨rfl,rfl,rfl,by decide+kernel,rfl,by decide+kernel,by decide+kernel⟩
theorem mX (T:Txt K mg):n8 P w K mg base 1 "is_number" ["thing"] (HJ K):=by
  refine iC T.d_is_number wu (fun _ _ _ _ _ _ us hl=>L2.sH (fun _=>rfl) us hl) ?_ fun f cdv A outer s H vs Q E hr h=>?_
  · rintro vs H Q E ⟨v,rfl,_⟩;rfl
  obtain ⟨v,rfl,hT,q⟩:=h
  have hu:=hr.units0
  have hu64:=hr.units
  refine ⟨_,(aC (aM (xQ (aX (km (K:=K) rfl) (bB Vf) T.b_isinstance dI (aa (au 0 Vg) (aa (zq (bB kz2j) T.b_int Gj (by decide+kernel) (by decide+kernel)) ao)) (by decide+kernel) (by decide+kernel)) (xP (M5 (aX (km (K:=K) rfl) (bB Vf) T.b_isinstance dI (aa (au 0 Vg) (aa (zq (bB kz2h) T.b_bool Ay (by decide+kernel) (by decide+kernel)) ao)) (by decide+kernel) (by decide+kernel))))))),?_⟩
  walk_at "sts"
  rcases hT with ⟨n,rfl⟩ | ⟨b,rfl⟩ | ⟨T',hty,hk⟩
  · refine pq (.int _) rfl ?_
    walk_at "sts"
    refine pq (.int _) rfl ?_
    walk_at "sts"
    exact q
  · refine pq (.bl _) (b:=true) (by rfl) ?_
    walk_at "sts"
    refine pq (.bl _) (b:=true) (by rfl) ?_
    walk_at "sts"
    exact q
  · refine pq hty hk ?_
    walk_at "sts"
    rw [(QZ hty hk).1] at q
    exact q
def HN (K:PySem.W.Frag):Sp:=fun vs H Q _=>∃ (v:V) (lo hi:Int),vs=[v,.int lo,.int hi]∧Kd K H v∧Q (.bl (inB v lo hi)) H
theorem ww:aF ["thing","low","high"] ["thing","low","high"] (az d7):=⟨rfl,rfl,rfl,by decide+kernel,rfl,by decide+kernel,by decide+kernel⟩
theorem cI (T:Txt K mg):n8 P w K mg base 2 "is_within" ["thing","low","high"] (HN K):=by
  have mX:=mX (P:=P) (w:=w) (base:=base) T
  refine iC T.d_is_within ww (fun _ _ _ _ _ _ us hl=>L2.j8 (fun _ _ _=>rfl) us hl) ?_ fun f cdv A outer s H vs Q E hr h=>?_
  · rintro vs H Q E ⟨v,lo,hi,rfl,_⟩;rfl
  obtain ⟨v,lo,hi,rfl,hT,q⟩:=h
  have hu:=hr.units0
  have hu64:=hr.units
  refine ⟨_,(aC (aM (xQ (aU mX (hr.mono (by decide)) (bB kz2n) (aa (au 0 Vh) ao) (by decide+kernel)) (xP (Kf EY EY (au 1 kz2k) (au 0 Vh) (au 2 kz2m)))))),?_⟩
  walk_at "sts"
  refine ⟨v,rfl,hT,?_⟩
  walk_at "sts"
  cases v with
  | int n=>
    show if true=true then _ else _
    walk_at "sts"
    show if decide (lo≤n)=true then _ else _
    unfold inB at q
    dsimp only at q
    by_cases h:lo≤n
    · rw [decide_eq_true h] at q ⊢
      rw [Bool.true_and] at q
      walk_at "sts"
      exact q
    · rw [decide_eq_false h] at q ⊢
      rw [Bool.false_and] at q
      walk_at "sts"
      exact q
  | _=>exact q
def Bo (K:PySem.W.Frag) (mg:Str→Option Value):Sp:=fun vs H Q E=>∃ (v:V) (lo hi:Int),vs=[v,.int lo,.int hi]∧Kd K H v∧(inB v lo hi=true→Q .non H)∧
  (inB v lo hi=false→∀ e H',Same H H'→Jb H' e (aK mg "NoPlace") [("found",v)]→E (.ref (aK mg "NoPlace")) (some e) H')
theorem uF:aF ["thing","low","high"] ["thing","low","high"] (az cY):=⟨rfl,rfl,rfl,by decide+kernel,rfl,by decide+kernel,by decide+kernel⟩
theorem bh (T:Txt K mg):uy P w K mg base 3 "need_place" ["thing","low","high"] (Bo K mg):=by
  have cI:=cI (P:=P) (w:=w) (base:=base) T
  refine tO T.d_need_place uF (fun _ _ _ _ _ _ us hl=>L2.j8 (fun _ _ _=>rfl) us hl) ?_ fun f cdv A outer s H vs Q E hr h=>?_
  · rintro vs H Q E ⟨v,lo,hi,rfl,_⟩;rfl
  obtain ⟨v,lo,hi,rfl,hT,q1,q2⟩:=h
  have hu:=hr.units0
  have hu64:=hr.units
  refine ⟨_,(aC (dq (jx (gO (aU cI (hr.mono (by decide)) (bB kz2o) (aa (au 0 Vi) (aa (au 1 kz2q) (aa (au 2 kz2p) ao))) (by decide+kernel)))) (aC (mO (zV (P:=P) (w:=w) (base:=base) T) (hr.mono (by decide)) rfl (bB kz2s) aO (aa (au 0 Vi) ao) (by decide+kernel))) c7)),?_⟩
  walk_at "sts"
  refine ⟨v,lo,hi,rfl,hT,?_⟩
  walk_at "sts"
  cases hb:inB v lo hi with
  | true=>
    walk_at "sts"
    exact q1 hb
  | false=>
    walk_at "sts"
    exact ⟨rfl,(show 1≤sizeLine by decide),fun x H2 S2 X2=>q2 hb x H2 S2 X2⟩
theorem d9 (t:List Nat):((nI t).map V.int).length=t.length:=by unfold nI;rw [List.length_map,List.length_map]
theorem Nv {t:List Nat} {k:Nat} {v:V} (h:((nI t).map V.int)[k]?=some v):∃ i,t[k]?=some i∧v= .int (i:Int):=by
  unfold nI at h
  rw [List.getElem?_map,List.getElem?_map] at h
  cases e:t[k]? with
  | none=>rw [e] at h;cases h
  | some y=>rw [e] at h;exact ⟨y,rfl,(Option.some.inj h).symm⟩
def Q0 (K:PySem.W.Frag):Sp:=fun vs H Q _=>∃ (b e m:Int),vs=[.int b,.int e,.int m]∧0≤b∧b≤e∧e≤m∧Q (.bl true) H
theorem zX:aF ["begin","end","many"] ["begin","end","many"] (az gY):=⟨rfl,rfl,rfl,by decide+kernel,rfl,by decide+kernel,by decide+kernel⟩
theorem qz (T:Txt K mg):n8 P w K mg base 3 "is_span" ["begin","end","many"] (Q0 K):=by
  have cI:=cI (P:=P) (w:=w) (base:=base) T
  refine iC T.d_is_span zX (fun _ _ _ _ _ _ us hl=>L2.j8 (fun _ _ _=>rfl) us hl) ?_ fun f cdv A outer s H vs Q E hr h=>?_
  · rintro vs H Q E ⟨b,e,m,rfl,_⟩;rfl
  obtain ⟨b,e,m,rfl,h1,h2,h3,q⟩:=h
  have hu:=hr.units0
  have hu64:=hr.units
  refine ⟨_,(aC (aM (xQ (aU cI (hr.mono (by decide)) (bB Vj) (aa (au 0 Vl) (aa aB (aa (au 2 Vk) ao))) (by decide+kernel)) (xP (aU cI (hr.mono (by decide)) (bB Vj) (aa (au 1 kz2w) (aa (au 0 Vl) (aa (au 2 Vk) ao))) (by decide+kernel)))))),?_⟩
  walk_at "sts"
  refine ⟨_,_,_,rfl,.inl ⟨_,rfl⟩,?_⟩
  walk_at "sts"
  rw [show inB (.int b) 0 m=true by unfold inB;simp;omega]
  walk_at "sts"
  refine ⟨_,_,_,rfl,.inl ⟨_,rfl⟩,?_⟩
  walk_at "sts"
  rw [show inB (.int e) b m=true by unfold inB;simp;omega]
  exact q
def Lz (K:PySem.W.Frag):Sp:=fun vs H Q _=>∃ (b e m:Int),vs=[.int b,.int e,.int m]∧0≤b∧b≤e∧e≤m∧Q .non H
theorem wy:aF ["begin","end","many"] ["begin","end","many"] (az dB):=⟨rfl,rfl,rfl,by decide+kernel,rfl,by decide+kernel,by decide+kernel⟩
theorem cJ (T:Txt K mg):uy P w K mg base 4 "need_span" ["begin","end","many"] (Lz K):=by
  have qz:=qz (P:=P) (w:=w) (base:=base) T
  refine tO T.d_need_span wy (fun _ _ _ _ _ _ us hl=>L2.j8 (fun _ _ _=>rfl) us hl) ?_ fun f cdv A outer s H vs Q E hr h=>?_
  · rintro vs H Q E ⟨b,e,m,rfl,_⟩;rfl
  obtain ⟨b,e,m,rfl,h1,h2,h3,q⟩:=h
  have hu:=hr.units0
  have hu64:=hr.units
  refine ⟨_,(aC (dq (jx (gO (aU qz (hr.mono (by decide)) (bB kz2x) (aa (au 0 Vn) (aa (au 1 Vm) (aa (au 2 kz2y) ao))) (by decide+kernel)))) (aC (mO (Du (P:=P) (w:=w) (base:=base) T) (hr.mono (by decide)) rfl (bB kz31) aO (aa (au 0 Vn) (aa (au 1 Vm) ao)) (by decide+kernel))) c7)),?_⟩
  walk_at "sts"
  refine ⟨b,e,m,rfl,h1,h2,h3,?_⟩
  walk_at "sts"
  exact q
theorem jD {H:Hp} {Q:VK} {E:XK} {n lo hi:Int} (h1:lo≤n) (h2:n≤hi) (h:Q .non H):Bo K mg [.int n,.int lo,.int hi] H Q E:=
  ⟨_,_,_,rfl,.inl ⟨_,rfl⟩,fun _=>h,fun hb=>by unfold inB at hb;simp at hb;omega⟩
end
section
variable {P:Program} {w:World} {K:PySem.W.Frag} {mg:Str→Option Value} {base:Heap}
theorem LC:aN bI "thing":=by decide+kernel
theorem LK:aN bI "end":=by decide+kernel
theorem Q3:aN bI "seen":=by decide+kernel
theorem kz35:cu bI "is_within":=by decide+kernel
theorem Vo:cu bI "len":=by decide+kernel
theorem kz37:cu bI "MOST_LINES":=by decide+kernel
theorem kz38:cu bI "isinstance":=by decide+kernel
theorem kz39:cu bI "tuple":=by decide+kernel
theorem kz3a:cu bI "list":=by decide+kernel
theorem kz3b:cu du "is_turning":=by decide+kernel
theorem Vp:aN du "thing":=by decide+kernel
theorem kz3d:cu du "NoTurning":=by decide+kernel
def Tn (H:Hp) (a:Addr) (t:List Nat):Prop:=H a=some (.lst ((nI t).map V.int))∨H a=some (.tup ((nI t).map V.int))
theorem Tn.same {H H':Hp} {a:Addr} {t:List Nat} (h:Tn H a t) (s:Same H H'):Tn H' a t:=h.imp (s _ _) (s _ _)
def LQ (us:List V):Bool:=decide (us.length≤96) && (us.all fun u=>inB u 0 ((us.length:Int) - 1)) && decide us.Nodup
theorem Bp {us:List V} (h:96 < us.length):LQ us=false:=by unfold LQ;rw [decide_eq_false (by omega)];rfl
theorem HQ {us:List V} {u:V} (h:u∈us) (hb:inB u 0 ((us.length:Int) - 1)=false):LQ us=false:=by
  unfold LQ
  have:(us.all fun u=>inB u 0 ((us.length:Int) - 1))=false:=List.all_eq_false.mpr ⟨u,h,by rw [hb];simp⟩
  rw [this,Bool.and_false,Bool.false_and]
theorem HR {us:List V} {k:Nat} {u:V} (h:us[k]?=some u) (hm:u∈us.take k):LQ us=false:=by
  have:¬ us.Nodup:=fun nd=>by
    obtain ⟨i,hi,e⟩:=List.mem_iff_getElem.mp hm
    obtain ⟨hk,e2⟩:=List.getElem?_eq_some_iff.mp h
    rw [List.length_take] at hi
    rw [List.getElem_take] at e
    exact List.pairwise_iff_getElem.mp nd i k (by omega) hk (by omega) (e.trans e2.symm)
  unfold LQ
  rw [decide_eq_false this,Bool.and_false]
theorem HS {us:List V} (h:us.length≤96) (hin:∀ u∈us,inB u 0 ((us.length:Int) - 1)=true) (hnd:us.Nodup):LQ us=true:=by
  unfold LQ
  rw [decide_eq_true h,decide_eq_true hnd,List.all_eq_true.mpr hin];rfl
theorem ue {us:List V} {v:V} (h:us.Nodup) (hm:v ∉ us):(us ++ [v]).Nodup:=by
  refine List.nodup_append.mpr ⟨h,by simp,fun a ha b hb=>?_⟩
  rw [List.mem_singleton.mp hb]
  exact fun z=>hm (z ▸ ha)
theorem Bq {v:V} {h:Int} (hb:inB v 0 h=true):∃ i:Nat,v= .int (i:Int)∧(i:Int)≤h:=by
  cases v with
  | int n=>
    unfold inB at hb
    simp at hb
    exact ⟨n.toNat,by rw [Int.toNat_of_nonneg hb.1],by omega⟩
  | _=>cases hb
def TnK (K:PySem.W.Frag) (H:Hp) (v:V) (b:Bool):Prop:=(∃ a us,v= .ref a∧(H a=some (.lst us)∨H a=some (.tup us))∧us.length≤10000∧(∀ u∈us,Kd K H u)∧b=LQ us)∨
  ∃ T,TyOf K H v (.type T)∧PySem.W.kitAny K (.type T) [.type "list",.type "tuple"]=some false∧b=false
theorem Br {H:Hp} {a:Addr} {t:List Nat} (h:Tn H a t) (hP:Prm t):TnK K H (.ref a) true:=by
  have hle:=hP.le
  refine .inl ⟨a,_,rfl,h,by rw [d9];omega,fun u hu=>?_,?_⟩
  · obtain ⟨x,_,rfl⟩:=List.mem_map.mp hu
    exact .inl ⟨x,rfl⟩
  · refine (HS (by rw [d9];exact hle) (fun u hu=>?_) ?_).symm
    · obtain ⟨x,hx,rfl⟩:=List.mem_map.mp hu
      unfold nI at hx
      obtain ⟨y,hy,rfl⟩:=List.mem_map.mp hx
      have:=hP.lt hy
      rw [d9]
      unfold inB
      simp;omega
    · unfold nI List.Nodup
      rw [List.map_map,List.pairwise_map]
      exact hP.nd.imp fun {x y} h z=>h (by have e:((x:Nat):Int)=((y:Nat):Int):=V.int.inj z;omega)
def Q4 (K:PySem.W.Frag):Sp:=fun vs H Q _=>∃ (v:V) (b:Bool),vs=[v]∧TnK K H v b∧∀ H',Same H H'→Q (.bl b) H'
theorem jX:aF ["thing","seen","end"] ["thing"] (az bI):=⟨rfl,rfl,rfl,by decide+kernel,rfl,by decide+kernel,by decide+kernel⟩
theorem lL (T:Txt K mg):n8 P w K mg base 3 "is_turning" ["thing"] (Q4 K):=by
  have cI:=cI (P:=P) (w:=w) (base:=base) T
  refine iC T.d_is_turning jX (fun _ _ _ _ _ _ us hl=>L2.sH (fun _=>rfl) us hl) ?_ fun f cdv A outer s H vs Q E hr h=>?_
  · rintro vs H Q E ⟨v,bb,rfl,_⟩;rfl
  obtain ⟨v,bb,rfl,h,q⟩:=h
  have hu:=hr.units0
  have hu64:=hr.units
  refine ⟨_,(aA (dq (qN (xO (jx (gO (aX (CQ (K:=K) rfl) (bB kz38) T.b_isinstance dI (aa (au 0 LC) (aa (fu (aa (zq (bB kz3a) T.b_list rT (by decide+kernel) (by decide+kernel)) (aa (zq (bB kz39) T.b_tuple Gi (by decide+kernel) (by decide+kernel)) ao))) ao)) (by decide+kernel) (by decide+kernel)))) (tG (cO w5 (aX (aZ (K:=K) rfl) (bB Vo) T.b_len cN (aa (au 0 LC) ao) (by decide+kernel) (by decide+kernel)) (Gp (bB kz37) T.c_MOST_LINES (by decide+kernel)) (by first | exact bT _ | with_unfolding_all rfl))))) (aC (aM vN)) c7) (aA (aP (i:=1) jX.nd rfl (Or.inl Q3) Ku rfl) (aA (dY PassesOwn.never rfl (jU (K:=K) rfl (au 0 LC)) (aG (i:=2) jX.nd rfl (Or.inl LK) rfl) (aA (dq (qN (xO (jx (gO (aU cI (hr.mono (by decide)) (bB kz35) (aa (au 2 LK) (aa aB (aa (bD gM (aX (aZ (K:=K) rfl) (bB Vo) T.b_len cN (aa (au 0 LC) ao) (by decide+kernel) (by decide+kernel)) aB) ao))) (by decide+kernel)))) (tG (cO (Qp (K:=K) rfl hu64) (au 2 LK) (au 1 Q3) (by first | exact bT _ | with_unfolding_all rfl))))) (aC (aM vN)) c7) (aC (vP (ts:=Nk) vN (zu (au 1 Q3) (au 2 LK) (KD hu64)))))) (aC (aM vN))))),?_⟩
  walk_at "sts"
  have hs:20000≤sizeLine:=by decide
  rcases h with ⟨a,us,rfl,ha,hlen,hkd,rfl⟩ | ⟨T',hty,hk,rfl⟩
  · rcases ha with ha | ha
    · skip
      refine jo rfl fun p np=>?_
      walk_at "sts"
      have ha1:upd H p (.tup [.ty "list",.ty "tuple"]) a=some (.lst us):=aW np ha
      refine vX (.lst ha1) aj rfl (b:=true) (by rfl) ?_
      walk_at "sts"
      refine jg (SqL.of ha1) ?_
      walk_at "sts"
      by_cases h96:96 < us.length
      · rw [decide_eq_true (show (96:Int) < (us.length:Int) by omega)]
        rw [Bp h96] at q
        walk_at "sts"
        exact q _ ((Same.refl H).upd np)
      rw [decide_eq_false (show ¬ (96:Int) < (us.length:Int) by omega)]
      walk_at "sts"
      intro d nd
      have S1:Same H (upd (upd H p (.tup [.ty "list",.ty "tuple"])) d (.dK [])):=((Same.refl H).upd np).upd nd
      have hd0:upd (upd H p (.tup [.ty "list",.ty "tuple"])) d (.dK []) d=some (.dK []):=aj
      have nd':H d=none:=Same.back ((Same.refl H).upd np) nd
      generalize upd (upd H p (.tup [.ty "list",.ty "tuple"])) d (.dK [])=H1 at S1 hd0 ⊢
      walk_at "sts"
      refine .inl ⟨a,rfl,⟨_,SqL.of (S1 _ _ ha)⟩,?_⟩
      refine oU (xs:=us) (fun k σ H'=>∃ (kvs:List (Key×V)) (x2:Option V),σ=[some (.ref a),some (.ref d),x2]∧Same H H'∧H' d=some (.dK kvs)∧kvs.length≤k∧(∀ n:Nat,jw kvs (Sum.inl (n:Int))=if V.int (n:Int)∈us.take k then some (.bl true) else none)∧(∀ u∈us.take k,inB u 0 ((us.length:Int) - 1)=true)∧(us.take k).Nodup)
        ⟨[],_,rfl,S1,hd0,by simp,fun n=>by simp [xr],by simp,by simp⟩ (fun i σ H' _ h=>?_) ?_ ?_
      · obtain ⟨_,_,_,s,_⟩:=h
        exact SqL.of (s _ _ ha)
      · rintro k v σ H' hk ⟨kvs,x2,rfl,s,hd,hkl,hv,hin,hnd⟩
        have hkt:k < us.length:=(List.getElem?_eq_some_iff.mp hk).1
        have hmem:=List.mem_of_getElem? hk
        walk_at "sts"
        refine jg (SqL.of (s _ _ ha)) ?_
        walk_at "sts"
        refine ⟨_,_,_,rfl,(hkd v hmem).same s,?_⟩
        walk_at "sts"
        cases hb:inB v 0 ((us.length:Int) - 1) with
        | false=>
          rw [HQ hmem hb] at q
          walk_at "sts"
          exact q _ s
        | true=>
          obtain ⟨i,rfl,hi⟩:=Bq hb
          walk_at "sts"
          refine .inr ⟨d,_,rfl,DGet.k (k:=Sum.inl (i:Int)) hd,?_⟩
          rw [hv i]
          by_cases hm:V.int (i:Int)∈us.take k
          · rw [if_pos hm,show (some (V.bl true)).isSome=true from rfl]
            rw [HR hk hm] at q
            walk_at "sts"
            exact q _ s
          · rw [if_neg hm,show (none:Option V).isSome=false from rfl]
            walk_at "sts"
            refine .inr ⟨d,_,rfl,DPut.k (k:=Sum.inl (i:Int)) hd (by omega),?_⟩
            have tk:us.take (k+1)=us.take k ++ [V.int (i:Int)]:=by rw [List.take_add_one,hk];rfl
            refine ⟨_,_,rfl,Same.put s nd',aj,Nat.le_trans (jJ _ _ _) (by omega),fun n=>?_,fun u hu=>?_,?_⟩
            · rw [xx,hv n,tk]
              by_cases hn:n=i
              · subst hn;simp
              · rw [if_neg (fun z=>hn (by have:=Sum.inl.inj z;omega))]
                have hne:¬ V.int (n:Int)=V.int (i:Int):=fun z=>hn (by have:=V.int.inj z;omega)
                simp [hne]
            · rw [tk] at hu
              rcases List.mem_append.mp hu with h | h
              · exact hin u h
              · rw [List.mem_singleton.mp h];exact hb
            · rw [tk]
              exact ue hnd hm
      · rintro σ H' ⟨kvs,x2,rfl,s,hd,_,_,hin,hnd⟩
        rw [List.take_length] at hin hnd
        rw [HS (by omega) hin hnd] at q
        walk_at "sts"
        exact q _ s
    · skip
      refine jo rfl fun p np=>?_
      walk_at "sts"
      have ha1:upd H p (.tup [.ty "list",.ty "tuple"]) a=some (.tup us):=aW np ha
      refine vX (.tup ha1) aj rfl (b:=true) (by rfl) ?_
      walk_at "sts"
      refine vM (SqT.of ha1) ?_
      walk_at "sts"
      by_cases h96:96 < us.length
      · rw [decide_eq_true (show (96:Int) < (us.length:Int) by omega)]
        rw [Bp h96] at q
        walk_at "sts"
        exact q _ ((Same.refl H).upd np)
      rw [decide_eq_false (show ¬ (96:Int) < (us.length:Int) by omega)]
      walk_at "sts"
      intro d nd
      have S1:Same H (upd (upd H p (.tup [.ty "list",.ty "tuple"])) d (.dK [])):=((Same.refl H).upd np).upd nd
      have hd0:upd (upd H p (.tup [.ty "list",.ty "tuple"])) d (.dK []) d=some (.dK []):=aj
      have nd':H d=none:=Same.back ((Same.refl H).upd np) nd
      generalize upd (upd H p (.tup [.ty "list",.ty "tuple"])) d (.dK [])=H1 at S1 hd0 ⊢
      walk_at "sts"
      refine .inr (.inl ⟨a,rfl,⟨_,SqT.of (S1 _ _ ha)⟩,?_⟩)
      refine Jq (xs:=us) (fun k σ H'=>∃ (kvs:List (Key×V)) (x2:Option V),σ=[some (.ref a),some (.ref d),x2]∧Same H H'∧H' d=some (.dK kvs)∧kvs.length≤k∧(∀ n:Nat,jw kvs (Sum.inl (n:Int))=if V.int (n:Int)∈us.take k then some (.bl true) else none)∧(∀ u∈us.take k,inB u 0 ((us.length:Int) - 1)=true)∧(us.take k).Nodup)
        ⟨[],_,rfl,S1,hd0,by simp,fun n=>by simp [xr],by simp,by simp⟩ (fun i σ H' _ h=>?_) ?_ ?_
      · obtain ⟨_,_,_,s,_⟩:=h
        exact SqT.of (s _ _ ha)
      · rintro k v σ H' hk ⟨kvs,x2,rfl,s,hd,hkl,hv,hin,hnd⟩
        have hkt:k < us.length:=(List.getElem?_eq_some_iff.mp hk).1
        have hmem:=List.mem_of_getElem? hk
        walk_at "sts"
        refine vM (SqT.of (s _ _ ha)) ?_
        walk_at "sts"
        refine ⟨_,_,_,rfl,(hkd v hmem).same s,?_⟩
        walk_at "sts"
        cases hb:inB v 0 ((us.length:Int) - 1) with
        | false=>
          rw [HQ hmem hb] at q
          walk_at "sts"
          exact q _ s
        | true=>
          obtain ⟨i,rfl,hi⟩:=Bq hb
          walk_at "sts"
          refine .inr ⟨d,_,rfl,DGet.k (k:=Sum.inl (i:Int)) hd,?_⟩
          rw [hv i]
          by_cases hm:V.int (i:Int)∈us.take k
          · rw [if_pos hm,show (some (V.bl true)).isSome=true from rfl]
            rw [HR hk hm] at q
            walk_at "sts"
            exact q _ s
          · rw [if_neg hm,show (none:Option V).isSome=false from rfl]
            walk_at "sts"
            refine .inr ⟨d,_,rfl,DPut.k (k:=Sum.inl (i:Int)) hd (by omega),?_⟩
            have tk:us.take (k+1)=us.take k ++ [V.int (i:Int)]:=by rw [List.take_add_one,hk];rfl
            refine ⟨_,_,rfl,Same.put s nd',aj,Nat.le_trans (jJ _ _ _) (by omega),fun n=>?_,fun u hu=>?_,?_⟩
            · rw [xx,hv n,tk]
              by_cases hn:n=i
              · subst hn;simp
              · rw [if_neg (fun z=>hn (by have:=Sum.inl.inj z;omega))]
                have hne:¬ V.int (n:Int)=V.int (i:Int):=fun z=>hn (by have:=V.int.inj z;omega)
                simp [hne]
            · rw [tk] at hu
              rcases List.mem_append.mp hu with h | h
              · exact hin u h
              · rw [List.mem_singleton.mp h];exact hb
            · rw [tk]
              exact ue hnd hm
      · rintro σ H' ⟨kvs,x2,rfl,s,hd,_,_,hin,hnd⟩
        rw [List.take_length] at hin hnd
        rw [HS (by omega) hin hnd] at q
        walk_at "sts"
        exact q _ s
  · refine jo rfl fun p np=>?_
    walk_at "sts"
    refine vX (hty.mono fun b o e _=>aW np e) aj rfl hk ?_
    walk_at "sts"
    exact q _ ((Same.refl H).upd np)
def LR (K:PySem.W.Frag) (mg:Str→Option Value):Sp:=fun vs H Q E=>∃ (v:V) (b:Bool),vs=[v]∧TnK K H v b∧(b=true→∀ H',Same H H'→Q .non H')∧
  (b=false→∀ e H',Same H H'→Jb H' e (aK mg "NoTurning") [("found",v)]→E (.ref (aK mg "NoTurning")) (some e) H')
theorem rO:aF ["thing"] ["thing"] (az du):=⟨rfl,rfl,rfl,by decide+kernel,rfl,by decide+kernel,by decide+kernel⟩
theorem dw (T:Txt K mg):uy P w K mg base 4 "need_turning" ["thing"] (LR K mg):=by
  have lL:=lL (P:=P) (w:=w) (base:=base) T
  refine tO T.d_need_turning rO (fun _ _ _ _ _ _ us hl=>L2.sH (fun _=>rfl) us hl) ?_ fun f cdv A outer s H vs Q E hr h=>?_
  · rintro vs H Q E ⟨v,bb,rfl,_⟩;rfl
  obtain ⟨v,bb,rfl,h,q1,q2⟩:=h
  have hu:=hr.units0
  have hu64:=hr.units
  refine ⟨_,(aC (dq (jx (gO (aU lL (hr.mono (by decide)) (bB kz3b) (aa (au 0 Vp) ao) (by decide+kernel)))) (aC (mO (wj (P:=P) (w:=w) (base:=base) T) (hr.mono (by decide)) rfl (bB kz3d) aO (aa (au 0 Vp) ao) (by decide+kernel))) c7)),?_⟩
  walk_at "sts"
  refine ⟨v,bb,rfl,h,fun H1 S1=>?_⟩
  walk_at "sts"
  cases bb with
  | true=>
    walk_at "sts"
    exact q1 rfl _ S1
  | false=>
    walk_at "sts"
    exact ⟨rfl,(show 1≤sizeLine by decide),fun x H2 S2 X2=>q2 rfl x H2 (S1.trans S2) X2⟩
end
local macro_rules | `(tactic| walk_at "sts") => `(tactic| (with_reducible repeat (first | refine qZ ?_ | refine nF ?_ | refine oX ?_ | refine mD ?_ | refine mF ?_ | (refine' lZ ?hz0 ?_; (case hz0 => with_unfolding_all rfl)) | refine Ef ?_ | refine rC ?_ | refine jd ?_ | refine iT ?_ | refine mj ?_ | refine ph ?_ | refine lQ ?_ | refine iJ ?_ | refine lV ?_ | refine iI ?_ | refine qW ?_ | refine iM ?_ | refine rD ?_ | refine rm ?_ | refine iU ?_ | refine qX ?_ | refine lW ?_ | refine lX ?_ | refine qY ?_ | refine iQ ?_ | refine iR ?_ | refine lY ?_ | refine lU ?_ | refine iK ?_ | refine q9 ?_ | refine qg ?_ | refine qe ?_ | refine rn ?_ | refine rB ?_ | refine my ?_ | refine iV ?_ | refine iW ?_ | refine iY ?_ | refine iZ ?_ | refine jb ?_ | refine jc ?_ | refine mz ?_ | refine Eh ?_ | refine fO ?_ | refine jh ?_ | (refine' dg (SqT.of ?hz0) ?hz1 ?_; (case hz0 => first | assumption | exact aj); (case hz1 => rfl)) | refine fQ ?_ | refine fV ?_ | refine fU ?_ | refine ji ?_ | refine gU ?_ | refine gW ?_ | refine jj ?_ | refine jk ?_ | refine rE ?_ | refine gP ?_ | refine gQ ?_ | refine fP ?_ | refine mC ?_ | refine jf ?_ | (refine' Eg ?hz0 ?_; (case hz0 => with_unfolding_all first | assumption | omega | (dsimp only <;> omega) | exact ⟨by omega, by omega⟩ | exact .inl ⟨by omega, by omega⟩ | exact .inr ⟨by omega, by omega⟩ | exact ⟨by decide, by decide, by decide⟩)) | (refine' je ?hz0 ?_; (case hz0 => with_unfolding_all first | assumption | omega | (dsimp only <;> omega) | exact ⟨by omega, by omega⟩ | exact .inl ⟨by omega, by omega⟩ | exact .inr ⟨by omega, by omega⟩ | exact ⟨by decide, by decide, by decide⟩)) | (refine' bR (SqL.of ?hz0) ?hz1 ?_; (case hz0 => first | assumption | exact aj); (case hz1 => with_unfolding_all rfl)) | (refine' jL (SqT.of ?hz0) ?hz1 ?_; (case hz0 => first | assumption | exact aj); (case hz1 => with_unfolding_all rfl)) | (refine' gF ?hz0 ?hz1 ?_; (case hz0 => first | assumption | exact aj); (case hz1 => with_unfolding_all rfl)) | refine fW ?_ | refine fX ?_ | refine mG ?_ | refine jl ?_ | refine Hk ?_)))
local macro_rules | `(tactic| walk_at "stn") => `(tactic| (with_reducible repeat (first | refine qZ ?_ | refine nF ?_ | refine oX ?_ | refine mD ?_ | refine mF ?_ | (refine' lZ ?hz0 ?_; (case hz0 => with_unfolding_all rfl)) | refine Ef ?_ | refine rC ?_ | refine jd ?_ | refine iT ?_ | refine mj ?_ | refine lQ ?_ | refine iJ ?_ | refine lV ?_ | refine iI ?_ | refine qW ?_ | refine iM ?_ | refine rD ?_ | refine rm ?_ | refine iU ?_ | refine qX ?_ | refine lW ?_ | refine lX ?_ | refine qY ?_ | refine iQ ?_ | refine iR ?_ | refine lY ?_ | refine lU ?_ | refine iK ?_ | refine q9 ?_ | refine qg ?_ | refine qe ?_ | refine rn ?_ | refine rB ?_ | refine my ?_ | refine iV ?_ | refine iW ?_ | refine iY ?_ | refine iZ ?_ | refine jb ?_ | refine jc ?_ | refine mz ?_ | refine Eh ?_ | refine fO ?_ | refine jh ?_ | (refine' dg (SqT.of ?hz0) ?hz1 ?_; (case hz0 => first | assumption | exact aj); (case hz1 => rfl)) | refine fQ ?_ | refine fV ?_ | refine fU ?_ | refine ji ?_ | refine gU ?_ | refine gW ?_ | refine jj ?_ | refine jk ?_ | refine rE ?_ | refine gP ?_ | refine gQ ?_ | refine fP ?_ | refine mC ?_ | refine jf ?_ | (refine' Eg ?hz0 ?_; (case hz0 => with_unfolding_all first | assumption | omega | (dsimp only <;> omega) | exact ⟨by omega, by omega⟩ | exact .inl ⟨by omega, by omega⟩ | exact .inr ⟨by omega, by omega⟩ | exact ⟨by decide, by decide, by decide⟩)) | (refine' je ?hz0 ?_; (case hz0 => with_unfolding_all first | assumption | omega | (dsimp only <;> omega) | exact ⟨by omega, by omega⟩ | exact .inl ⟨by omega, by omega⟩ | exact .inr ⟨by omega, by omega⟩ | exact ⟨by decide, by decide, by decide⟩)) | (refine' bR (SqL.of ?hz0) ?hz1 ?_; (case hz0 => first | assumption | exact aj); (case hz1 => with_unfolding_all rfl)) | (refine' jL (SqT.of ?hz0) ?hz1 ?_; (case hz0 => first | assumption | exact aj); (case hz1 => with_unfolding_all rfl)) | (refine' gF ?hz0 ?hz1 ?_; (case hz0 => first | assumption | exact aj); (case hz1 => with_unfolding_all rfl)) | refine fW ?_ | refine fX ?_ | refine mG ?_ | refine jl ?_ | refine Hk ?_)))
section
variable {P:Program} {w:World} {K:PySem.W.Frag} {mg:Str→Option Value} {base:Heap}
theorem yz:(["end","behind","line_end"]:List Str).Nodup:=by decide+kernel
theorem kz3e:cu cZ "list":=by decide+kernel
theorem Vq:cu cZ "reversed":=by decide+kernel
theorem Ma:aN cZ "table":=by decide+kernel
theorem Q5:aN cZ "turning":=by decide+kernel
theorem kz3i:zM cZ "line_end":=by decide+kernel
theorem kz3j:cu cZ "range":=by decide+kernel
theorem Q6:aN cZ "many":=by decide+kernel
theorem kz3l:zM cZ "behind":=by decide+kernel
theorem kz3m:cu cZ "len":=by decide+kernel
theorem kz3n:cu cZ "need_turning":=by decide+kernel
def zY (t:List Nat) (b e:Nat):Nat:=(t.drop b).countP fun x=>decide (x < e)
def wz (t:List Nat) (b:Nat):List Int:=(List.range (t.length+1)).map fun e=>((zY t b e:Nat):Int)
theorem zZ {t:List Nat} {b e:Nat} {j:Int} (hj:j=(e:Int)) (h:e≤t.length):vC ((wz t b).map V.int) j=some (.int ((zY t b e:Nat):Int)):=by
  subst hj
  refine dO ?_
  unfold wz
  rw [List.getElem?_map,List.getElem?_map,List.getElem?_range (by omega)];rfl
theorem yC {t:List Nat} {b x:Nat} (h:t[b]?=some x) (e:Nat):zY t b e=zY t (b+1) e+if x < e then 1 else 0:=by
  obtain ⟨hb,hx⟩:=List.getElem?_eq_some_iff.mp h
  unfold zY
  rw [List.drop_eq_getElem_cons hb,List.countP_cons,hx]
  by_cases c:x < e
  · rw [if_pos (by simpa using c),if_pos c]
  · rw [if_neg (by simpa using c),if_neg c]
theorem Mf (t:List Nat) (e:Nat):zY t t.length e=0:=by unfold zY;rw [List.drop_length];rfl
def CT (H:Hp) (rs:List V) (n:Nat) (f:Nat→List Int):Prop:=rs.length=n∧∀ k,k < n→∃ a,rs[k]?=some (.ref a)∧H a=some (.lst ((f k).map V.int))
theorem CT.same {H H':Hp} {rs:List V} {n:Nat} {f:Nat→List Int} (h:CT H rs n f) (s:Same H H'):CT H' rs n f:=⟨h.1,fun k hk=>by
  obtain ⟨a,e,ha⟩:=h.2 k hk
  exact ⟨a,e,s _ _ ha⟩⟩
theorem CT.push {H:Hp} {rs:List V} {n:Nat} {f:Nat→List Int} {a:Addr} (h:CT H rs n f) (ha:H a=some (.lst ((f n).map V.int))):CT H (rs ++ [.ref a]) (n+1) f:=⟨by rw [List.length_append,h.1];rfl,fun k hk=>by
  by_cases e:k=n
  · subst e
    exact ⟨a,by rw [List.getElem?_append_right (by rw [h.1];exact Nat.le_refl _),h.1,Nat.sub_self];rfl,ha⟩
  · obtain ⟨b,e1,hb⟩:=h.2 k (by omega)
    exact ⟨b,by rw [List.getElem?_append_left (by rw [h.1];omega)];exact e1,hb⟩⟩
theorem CT.rev {H:Hp} {rs:List V} {n:Nat} {f:Nat→List Int} (h:CT H rs n f):CT H rs.reverse n fun k=>f (n - 1 - k):=⟨by rw [List.length_reverse];exact h.1,fun k hk=>by
  obtain ⟨a,e,ha⟩:=h.2 (n - 1 - k) (by omega)
  exact ⟨a,by rw [List.getElem?_reverse (by rw [h.1];exact hk),h.1];exact e,ha⟩⟩
def HW:Sp:=fun vs H Q _=>∃ (a:Addr) (t:List Nat),vs=[.ref a]∧Tn H a t∧Prm t∧∀ q rs H',H q=none→Same H H'→H' q=some (.lst rs)→CT H' rs (t.length+1) (wz t)→(∀ r,V.ref r∈rs→H r=none)→Q (.ref q) H'
theorem kZ:aF ["turning","many","table","line_end","behind"] ["turning"] (az cZ):=⟨rfl,rfl,rfl,by decide+kernel,rfl,by decide+kernel,by decide+kernel⟩
theorem uf (T:Txt K mg):uy P w K mg base 5 "counts" ["turning"] HW:=by
  have dw:=dw (P:=P) (w:=w) (base:=base) T
  refine tO T.d_counts kZ (fun _ _ _ _ _ _ us hl=>L2.sH (fun _=>rfl) us hl) ?_ fun f cdv A outer s H vs Q E hr h=>?_
  · rintro vs H Q E ⟨a,t,rfl,_⟩;rfl
  obtain ⟨a,t,rfl,ha,hP,q⟩:=h
  have hu:=hr.units0
  have hu64:=hr.units
  refine ⟨_,(aA (aJ (cR dw (hr.mono (by decide)) (bB kz3n) aO (aa (au 0 Q5) ao) (by decide+kernel))) (aA (aP (i:=1) kZ.nd rfl (Or.inl Q6) (aX (aZ (K:=K) rfl) (bB kz3m) T.b_len cN (aa (au 0 Q5) ao) (by decide+kernel) (by decide+kernel)) rfl) (aA (aP (i:=2) kZ.nd rfl (Or.inl Ma) (dX (aa (bD jq (dX (aa aB ao)) (bD aV (au 1 Q6) aB)) ao)) rfl) (aA (Qk (dY PassesOwn.never rfl (KJ (K:=K) rfl (bB Vq) T.b_reversed (au 0 Q5)) (aG (i:=3) kZ.nd rfl (Or.inr kz3i) rfl) (aA (aP (i:=4) kZ.nd rfl (Or.inr kz3l) (bZ (K:=K) rfl (au 2 Ma) (Kc vA aB)) rfl) (aC (aJ (bU (K:=K) rfl PySem.F.plainAttrs_list PySem.F.slot_list_append PySem.F.type_list_append bj (au 2 Ma) (aa (gG (sub:=[none,some 4,some 3]) (b8 (N:=["turning","many","table","line_end","behind"]) (sc:=az cZ) (N':=["end","behind","line_end"]) (by decide+kernel)) rfl rfl rfl (dm (bB kz3j) T.b_range (aa (bD aV (au 1 Q6) aB) ao)) (fun C s₀ H₀ ex=>(mK 0 (by decide+kernel) yz)) (fun C s₀ H₀ ex=>cX) (fun C s₀ H₀ ex=>(bD aV (bZ (K:=K) rfl (dz 1 (by decide+kernel)) (gK 0 (by decide+kernel))) (j_if (cO Ez (dz 2 (by decide+kernel)) (gK 0 (by decide+kernel)) (by first | exact bT _ | with_unfolding_all rfl)) aB aB)))) ao))))))) (aC (aM (CJ (K:=K) rfl rfl (bB kz3e) T.b_list (bB Vq) T.b_reversed (au 2 Ma)))))))),?_⟩
  walk_at "sts"
  have hsz:20000≤sizeLine:=by decide
  have hle:=hP.le
  refine ⟨_,true,rfl,Br ha hP,fun _ H1 S1=>?_,(fun h=>by cases h)⟩
  walk_at "sts"
  have hlen:∀ (n:Nat),n=t.length→n=t.length:=fun _ h=>h
  have step:∀ (R:V→Hp→Prop),R (.int (t.length:Int)) H1→Cv K [.ref a] H1 R:=fun R hR=>by
    rcases ha.same S1 with h | h
    · refine jg (SqL.of h) ?_
      rw [d9];exact hR
    · refine vM (SqT.of h) ?_
      rw [d9];exact hR
  refine step _ ?_
  walk_at "sts"
  refine bO rfl fun p0 H2 _ S2 f2=>?_
  walk_at "sts"
  refine vQ f2 (by omega) (by omega) (by simp;omega) fun p1 np1=>?_
  have S3:=(Same.refl H2).upd np1 (o:=.lst (List.replicate ((t.length:Int)+1).toNat [V.int 0]).flatten)
  have f3:=aj (H:=H2) (a:=p1) (o:=.lst (List.replicate ((t.length:Int)+1).toNat [V.int 0]).flatten)
  generalize upd H2 p1 (.lst (List.replicate ((t.length:Int)+1).toNat [V.int 0]).flatten)=H3 at S3 f3 ⊢
  have f3':H3 p1=some (.lst ((wz t (t.length - 0)).map V.int)):=by
    rw [f3,show ((t.length:Int)+1).toNat=t.length+1 by omega]
    congr 2
    unfold wz
    rw [List.map_map]
    have:∀ n,(List.replicate n [V.int 0]).flatten=(List.range n).map fun _=>V.int 0:=fun n=>by
      induction n with
      | zero=>rfl
      | succ n ih=>rw [List.replicate_succ',List.flatten_append,ih,List.range_succ,List.map_append];rfl
    rw [this]
    refine List.map_congr_left fun e _=>?_
    show V.int 0=V.int ((zY t (t.length - 0) e:Nat):Int)
    rw [Nat.sub_zero,Mf];rfl
  walk_at "sts"
  refine bO rfl fun tb H4 ntb S4 f4=>?_
  walk_at "sts"
  have U4:=S1.trans (S2.trans (S3.trans S4))
  have ntb0:H tb=none:=by
    have:=Same.back (S1.trans (S2.trans S3)) ntb
    exact this
  have C4:CT H4 [.ref p1] (0+1) fun k=>wz t (t.length - k):=⟨rfl,fun k hk=>by
    obtain rfl:k=0:=by omega
    exact ⟨p1,rfl,S4 _ _ f3'⟩⟩
  have N4:∀ r,V.ref r∈[V.ref p1]→H r=none:=fun r hr=>by
    simp only [List.mem_cons,List.mem_nil_iff,or_false] at hr
    cases hr
    exact Same.back (S1.trans S2) np1
  rcases ha with ha | ha
  · refine .inl ⟨a,_,rfl,SqL.of (U4 _ _ ha),?_⟩
    refine KN (xs:=(nI t).map V.int) (fun i σ G=>Same H G∧(∃ rs,G tb=some (.lst rs)∧(CT G rs (i+1) fun k=>wz t (t.length - k))∧∀ r,V.ref r∈rs→H r=none)∧∃ x3 x4,σ=[some (.ref a),some (.int (t.length:Int)),some (.ref tb),x3,x4])
      ⟨U4,⟨_,f4,C4,N4⟩,_,_,rfl⟩ (fun i σ G _ h=>SqL.of (h.1 _ _ ha)) ?_ ?_
    · rintro i x σ G hi hx ⟨sG,⟨rs,htb,hC,hN⟩,x3,x4,rfl⟩
      rw [d9] at hi
      rw [d9] at hx
      obtain ⟨le,hle2,rfl⟩:=Nv hx
      obtain ⟨pb,epb,hpb⟩:=hC.2 i (by omega)
      have hrl:rs.length=i+1:=hC.1
      walk_at "sts"
      refine bR (SqL.of htb) (Qo (n:=i) hrl epb) ?_
      walk_at "sts"
      refine ⟨.inl ⟨rfl,_,SqL.of htb⟩,?_⟩
      walk_at "sts"
      refine ⟨_,rfl,by omega,by omega,?_⟩
      rw [show ((t.length:Int)+1).toNat=t.length+1 by omega]
      refine qi (n:=t.length+1) (fun e=>.int ((zY t (t.length - (i+1)) e:Nat):Int)) (by omega) ?_ ?_
      · intro e he
        have ec:=yC (t:=t) (b:=t.length - (i+1)) (x:=le) (by rw [show t.length - (i+1)=t.length - 1 - i by omega];exact hle2) e
        rw [show t.length - (i+1)+1=t.length - i by omega] at ec
        rw [Int.zero_add]
        walk_at "sts"
        refine ⟨KeepSt.set rfl,?_⟩
        walk_at "sts"
        refine bR (SqL.of hpb) (zZ rfl (by omega)) ?_
        walk_at "sts"
        refine kE (fun h=>?_) (fun h=>?_)
        · walk_at "sts"
          exact ⟨rfl,lH (by rw [ec,if_pos (by omega)];rfl)⟩
        · walk_at "sts"
          exact ⟨rfl,lH (by rw [ec,if_neg (by omega)];rfl)⟩
      · intro nw G2 nnw s2 hnw
        walk_at "sts"
        refine bz (s2 _ _ htb) (by omega) ?_
        walk_at "sts"
        have hnw':G2 nw=some (.lst ((wz t (t.length - (i+1))).map V.int)):=by
          rw [hnw]
          unfold wz
          rw [List.map_map];rfl
        have hne:∀ {b:Addr} {xs:List V},G2 b=some (.lst xs)→True:=fun _=>trivial
        have C2:=(hC.same s2).push hnw'
        refine ⟨Same.put (sG.trans s2) ntb0,⟨_,aj,⟨C2.1,fun k hk=>?_⟩,fun r hr=>(List.mem_append.mp hr).elim (hN r) fun hr=>by
          simp only [List.mem_cons,List.mem_nil_iff,or_false] at hr
          cases hr
          exact Same.back sG nnw⟩,_,_,rfl⟩
        obtain ⟨b,e1,hb⟩:=C2.2 k hk
        refine ⟨b,e1,?_⟩
        rw [aD (fun z=>?_)]
        · exact hb
        · rw [z,s2 _ _ htb] at hb
          have e0:rs=(wz t (t.length - k)).map V.int:=by injection hb with hb;injection hb
          obtain ⟨a0,ea0,_⟩:=hC.2 0 (by omega)
          rw [e0,List.getElem?_map] at ea0
          cases hq:(wz t (t.length - k))[0]? with
          | none=>rw [hq] at ea0;cases ea0
          | some v=>rw [hq] at ea0;cases ea0
    · rintro σ G ⟨sG,⟨rs,htb,hC,hN⟩,x3,x4,rfl⟩
      rw [d9] at hC
      walk_at "sts"
      refine ⟨_,rfl,tb,rs,rfl,SqL.of htb,fun qq nqq=>?_⟩
      have s5:=(Same.refl G).upd nqq (o:=.lst rs.reverse)
      refine q qq rs.reverse _ (Same.back sG nqq) (sG.trans s5) aj ?_ fun r hr=>hN r (List.mem_reverse.mp hr)
      have:=hC.rev.same s5
      refine ⟨this.1,fun k hk=>?_⟩
      obtain ⟨b,e1,hb⟩:=this.2 k hk
      refine ⟨b,e1,?_⟩
      rw [hb]
      show some (HO.lst (List.map V.int (wz t (t.length - (t.length+1 - 1 - k)))))=_
      rw [show t.length - (t.length+1 - 1 - k)=k by omega]
  · refine .inr ⟨a,_,rfl,SqT.of (U4 _ _ ha),by rw [d9];omega,?_⟩
    refine KQ (xs:=(nI t).map V.int) (by rw [d9];omega) (fun i σ G=>Same H G∧(∃ rs,G tb=some (.lst rs)∧(CT G rs (i+1) fun k=>wz t (t.length - k))∧∀ r,V.ref r∈rs→H r=none)∧∃ x3 x4,σ=[some (.ref a),some (.int (t.length:Int)),some (.ref tb),x3,x4])
      ⟨U4,⟨_,f4,C4,N4⟩,_,_,rfl⟩ (fun i σ G _ h=>SqT.of (h.1 _ _ ha)) ?_ ?_
    · rintro i x σ G hi hx ⟨sG,⟨rs,htb,hC,hN⟩,x3,x4,rfl⟩
      rw [d9] at hi
      rw [d9] at hx
      obtain ⟨le,hle2,rfl⟩:=Nv hx
      obtain ⟨pb,epb,hpb⟩:=hC.2 i (by omega)
      have hrl:rs.length=i+1:=hC.1
      walk_at "sts"
      refine bR (SqL.of htb) (Qo (n:=i) hrl epb) ?_
      walk_at "sts"
      refine ⟨.inl ⟨rfl,_,SqL.of htb⟩,?_⟩
      walk_at "sts"
      refine ⟨_,rfl,by omega,by omega,?_⟩
      rw [show ((t.length:Int)+1).toNat=t.length+1 by omega]
      refine qi (n:=t.length+1) (fun e=>.int ((zY t (t.length - (i+1)) e:Nat):Int)) (by omega) ?_ ?_
      · intro e he
        have ec:=yC (t:=t) (b:=t.length - (i+1)) (x:=le) (by rw [show t.length - (i+1)=t.length - 1 - i by omega];exact hle2) e
        rw [show t.length - (i+1)+1=t.length - i by omega] at ec
        rw [Int.zero_add]
        walk_at "sts"
        refine ⟨KeepSt.set rfl,?_⟩
        walk_at "sts"
        refine bR (SqL.of hpb) (zZ rfl (by omega)) ?_
        walk_at "sts"
        refine kE (fun h=>?_) (fun h=>?_)
        · walk_at "sts"
          exact ⟨rfl,lH (by rw [ec,if_pos (by omega)];rfl)⟩
        · walk_at "sts"
          exact ⟨rfl,lH (by rw [ec,if_neg (by omega)];rfl)⟩
      · intro nw G2 nnw s2 hnw
        walk_at "sts"
        refine bz (s2 _ _ htb) (by omega) ?_
        walk_at "sts"
        have hnw':G2 nw=some (.lst ((wz t (t.length - (i+1))).map V.int)):=by
          rw [hnw]
          unfold wz
          rw [List.map_map];rfl
        have hne:∀ {b:Addr} {xs:List V},G2 b=some (.lst xs)→True:=fun _=>trivial
        have C2:=(hC.same s2).push hnw'
        refine ⟨Same.put (sG.trans s2) ntb0,⟨_,aj,⟨C2.1,fun k hk=>?_⟩,fun r hr=>(List.mem_append.mp hr).elim (hN r) fun hr=>by
          simp only [List.mem_cons,List.mem_nil_iff,or_false] at hr
          cases hr
          exact Same.back sG nnw⟩,_,_,rfl⟩
        obtain ⟨b,e1,hb⟩:=C2.2 k hk
        refine ⟨b,e1,?_⟩
        rw [aD (fun z=>?_)]
        · exact hb
        · rw [z,s2 _ _ htb] at hb
          have e0:rs=(wz t (t.length - k)).map V.int:=by injection hb with hb;injection hb
          obtain ⟨a0,ea0,_⟩:=hC.2 0 (by omega)
          rw [e0,List.getElem?_map] at ea0
          cases hq:(wz t (t.length - k))[0]? with
          | none=>rw [hq] at ea0;cases ea0
          | some v=>rw [hq] at ea0;cases ea0
    · rintro σ G ⟨sG,⟨rs,htb,hC,hN⟩,x3,x4,rfl⟩
      rw [d9] at hC
      walk_at "sts"
      refine ⟨_,rfl,tb,rs,rfl,SqL.of htb,fun qq nqq=>?_⟩
      have s5:=(Same.refl G).upd nqq (o:=.lst rs.reverse)
      refine q qq rs.reverse _ (Same.back sG nqq) (sG.trans s5) aj ?_ fun r hr=>hN r (List.mem_reverse.mp hr)
      have:=hC.rev.same s5
      refine ⟨this.1,fun k hk=>?_⟩
      obtain ⟨b,e1,hb⟩:=this.2 k hk
      refine ⟨b,e1,?_⟩
      rw [hb]
      show some (HO.lst (List.map V.int (wz t (t.length - (t.length+1 - 1 - k)))))=_
      rw [show t.length - (t.length+1 - 1 - k)=k by omega]
end
local macro_rules | `(tactic| walk_at "sts") => `(tactic| (with_reducible repeat (first | refine qZ ?_ | refine nF ?_ | refine oX ?_ | refine mD ?_ | refine mF ?_ | (refine' lZ ?hz0 ?_; (case hz0 => with_unfolding_all rfl)) | refine Ef ?_ | refine rC ?_ | refine jd ?_ | refine iT ?_ | refine mj ?_ | refine ph ?_ | refine lQ ?_ | refine iJ ?_ | refine lV ?_ | refine iI ?_ | refine qW ?_ | refine iM ?_ | refine rD ?_ | refine rm ?_ | refine iU ?_ | refine qX ?_ | refine lW ?_ | refine lX ?_ | refine qY ?_ | refine iQ ?_ | refine iR ?_ | refine lY ?_ | refine lU ?_ | refine iK ?_ | refine q9 ?_ | refine qg ?_ | refine qe ?_ | refine rn ?_ | refine rB ?_ | refine my ?_ | refine iV ?_ | refine iW ?_ | refine iY ?_ | refine iZ ?_ | refine jb ?_ | refine jc ?_ | refine mz ?_ | refine Eh ?_ | refine fO ?_ | refine jh ?_ | (refine' dg (SqT.of ?hz0) ?hz1 ?_; (case hz0 => first | assumption | exact aj); (case hz1 => rfl)) | refine fQ ?_ | refine fV ?_ | refine fU ?_ | refine ji ?_ | refine gU ?_ | refine gW ?_ | refine jj ?_ | refine jk ?_ | refine rE ?_ | refine gP ?_ | refine gQ ?_ | refine fP ?_ | refine mC ?_ | refine jf ?_ | (refine' Eg ?hz0 ?_; (case hz0 => with_unfolding_all first | assumption | omega | (dsimp only <;> omega) | exact ⟨by omega, by omega⟩ | exact .inl ⟨by omega, by omega⟩ | exact .inr ⟨by omega, by omega⟩ | exact ⟨by decide, by decide, by decide⟩)) | (refine' je ?hz0 ?_; (case hz0 => with_unfolding_all first | assumption | omega | (dsimp only <;> omega) | exact ⟨by omega, by omega⟩ | exact .inl ⟨by omega, by omega⟩ | exact .inr ⟨by omega, by omega⟩ | exact ⟨by decide, by decide, by decide⟩)) | (refine' bR (SqL.of ?hz0) ?hz1 ?_; (case hz0 => first | assumption | exact aj); (case hz1 => with_unfolding_all rfl)) | (refine' jL (SqT.of ?hz0) ?hz1 ?_; (case hz0 => first | assumption | exact aj); (case hz1 => with_unfolding_all rfl)) | (refine' gF ?hz0 ?hz1 ?_; (case hz0 => first | assumption | exact aj); (case hz1 => with_unfolding_all rfl)) | refine fW ?_ | refine fX ?_ | refine mG ?_ | refine jl ?_)))
local macro_rules | `(tactic| walk_at "stn") => `(tactic| (with_reducible repeat (first | refine qZ ?_ | refine nF ?_ | refine oX ?_ | refine mD ?_ | refine mF ?_ | (refine' lZ ?hz0 ?_; (case hz0 => with_unfolding_all rfl)) | refine Ef ?_ | refine rC ?_ | refine jd ?_ | refine iT ?_ | refine mj ?_ | refine lQ ?_ | refine iJ ?_ | refine lV ?_ | refine iI ?_ | refine qW ?_ | refine iM ?_ | refine rD ?_ | refine rm ?_ | refine iU ?_ | refine qX ?_ | refine lW ?_ | refine lX ?_ | refine qY ?_ | refine iQ ?_ | refine iR ?_ | refine lY ?_ | refine lU ?_ | refine iK ?_ | refine q9 ?_ | refine qg ?_ | refine qe ?_ | refine rn ?_ | refine rB ?_ | refine my ?_ | refine iV ?_ | refine iW ?_ | refine iY ?_ | refine iZ ?_ | refine jb ?_ | refine jc ?_ | refine mz ?_ | refine Eh ?_ | refine fO ?_ | refine jh ?_ | (refine' dg (SqT.of ?hz0) ?hz1 ?_; (case hz0 => first | assumption | exact aj); (case hz1 => rfl)) | refine fQ ?_ | refine fV ?_ | refine fU ?_ | refine ji ?_ | refine gU ?_ | refine gW ?_ | refine jj ?_ | refine jk ?_ | refine rE ?_ | refine gP ?_ | refine gQ ?_ | refine fP ?_ | refine mC ?_ | refine jf ?_ | (refine' Eg ?hz0 ?_; (case hz0 => with_unfolding_all first | assumption | omega | (dsimp only <;> omega) | exact ⟨by omega, by omega⟩ | exact .inl ⟨by omega, by omega⟩ | exact .inr ⟨by omega, by omega⟩ | exact ⟨by decide, by decide, by decide⟩)) | (refine' je ?hz0 ?_; (case hz0 => with_unfolding_all first | assumption | omega | (dsimp only <;> omega) | exact ⟨by omega, by omega⟩ | exact .inl ⟨by omega, by omega⟩ | exact .inr ⟨by omega, by omega⟩ | exact ⟨by decide, by decide, by decide⟩)) | (refine' bR (SqL.of ?hz0) ?hz1 ?_; (case hz0 => first | assumption | exact aj); (case hz1 => with_unfolding_all rfl)) | (refine' jL (SqT.of ?hz0) ?hz1 ?_; (case hz0 => first | assumption | exact aj); (case hz1 => with_unfolding_all rfl)) | (refine' gF ?hz0 ?hz1 ?_; (case hz0 => first | assumption | exact aj); (case hz1 => with_unfolding_all rfl)) | refine fW ?_ | refine fX ?_ | refine mG ?_ | refine jl ?_)))
section
variable {P:Program} {w:World} {K:PySem.W.Frag} {mg:Str→Option Value} {base:Heap}
theorem Vr:aN bN "self":=by decide+kernel
theorem kz3p:cu bN "counts":=by decide+kernel
theorem Q7:aN bN "turning":=by decide+kernel
theorem kz3r:cu bN "list":=by decide+kernel
theorem kz3s:cu bN "need_turning":=by decide+kernel
theorem Q8:aN cG "self":=by decide+kernel
theorem Vs:aN cG "begin":=by decide+kernel
theorem Vt:aN cG "end":=by decide+kernel
theorem Vu:cu cG "need_place":=by decide+kernel
theorem Vv:cu cG "len":=by decide+kernel
def Xl (ae ac:Addr):List (Str×V):=[("held_ends",.ref ae),("held_counts",.ref ac)]
structure TyO (H:Hp) (t:List Nat) (ae ac:Addr) (rs:List V):Prop where
  ends:H ae=some (.lst ((nI t).map V.int))
  cnts:H ac=some (.lst rs)
  rows:CT H rs (t.length+1) (wz t)
theorem TyO.same {H H':Hp} {t:List Nat} {ae ac:Addr} {rs:List V} (h:TyO H t ae ac rs) (s:Same H H'):TyO H' t ae ac rs:=⟨s _ _ h.ends,s _ _ h.cnts,h.rows.same s⟩
def Ty (mg:Str→Option Value) (H:Hp) (x:Addr) (t:List Nat):Prop:=Prm t∧∃ dx ae ac rs,H x=some (.ins (aK mg "Tally") dx (Xl ae ac))∧TyO H t ae ac rs
theorem Ty.same {H H':Hp} {x:Addr} {t:List Nat} (h:Ty mg H x t) (s:Same H H'):Ty mg H' x t:=by
  obtain ⟨hP,dx,ae,ac,rs,hx,hO⟩:=h
  exact ⟨hP,dx,ae,ac,rs,s _ _ hx,hO.same s⟩
def TyD (mg:Str→Option Value) (D:Addr→Prop) (H:Hp) (x:Addr) (t:List Nat):Prop:=Prm t∧∃ dx ae ac rs,H x=some (.ins (aK mg "Tally") dx (Xl ae ac))∧TyO H t ae ac rs∧¬ D x∧¬ D ae∧¬ D ac∧∀ r,V.ref r∈rs→¬ D r
theorem TyD.ty {H:Hp} {D:Addr→Prop} {x:Addr} {t:List Nat} (h:TyD mg D H x t):Ty mg H x t:=by
  obtain ⟨hP,dx,ae,ac,rs,hx,hO,_⟩:=h
  exact ⟨hP,dx,ae,ac,rs,hx,hO⟩
theorem TyD.sub {H:Hp} {D D':Addr→Prop} {x:Addr} {t:List Nat} (h:TyD mg D H x t) (s:∀ g,D' g→D g):TyD mg D' H x t:=by
  obtain ⟨hP,dx,ae,ac,rs,hx,hO,n1,n2,n3,n4⟩:=h
  exact ⟨hP,dx,ae,ac,rs,hx,hO,fun z=>n1 (s _ z),fun z=>n2 (s _ z),fun z=>n3 (s _ z),fun r hr z=>n4 r hr (s _ z)⟩
theorem Xm {D:Addr→Prop} {x g:Addr} (h:¬ D x) (hg:D g):x≠g:=fun z=>h (by rw [z];exact hg)
theorem TyD.put {H:Hp} {D:Addr→Prop} {g x:Addr} {t:List Nat} {o:HO} (h:TyD mg D H x t) (hg:D g):TyD mg D (upd H g o) x t:=by
  obtain ⟨hP,dx,ae,ac,rs,hx,hO,n1,n2,n3,n4⟩:=h
  refine ⟨hP,dx,ae,ac,rs,by rw [aD (Xm n1 hg)];exact hx,⟨by rw [aD (Xm n2 hg)];exact hO.ends,by rw [aD (Xm n3 hg)];exact hO.cnts,hO.rows.1,fun k hk=>?_⟩,n1,n2,n3,n4⟩
  obtain ⟨b,e,hb⟩:=hO.rows.2 k hk
  exact ⟨b,e,by rw [aD (Xm (n4 b (List.mem_of_getElem? e)) hg)];exact hb⟩
def Mg (mg:Str→Option Value):Sp:=fun vs H Q _=>∃ (x dx a:Addr) (t:List Nat),vs=[.ref x,.ref a]∧H x=some (.ins (aK mg "Tally") dx [])∧Tn H a t∧Prm t∧∀ H',Chg x H H'→TyD mg (fun g=>g≠x∧∃ o,H g=some o) H' x t→Q .non H'
theorem pJ:aF ["self","turning"] ["self","turning"] (az bN):=⟨rfl,rfl,rfl,by decide+kernel,rfl,by decide+kernel,by decide+kernel⟩
theorem iw (T:Txt K mg):kO P w K mg base 6 "Tally" "__init__" ["self","turning"] (Mg mg):=by
  have dw:=dw (P:=P) (w:=w) (base:=base) T
  have uf:=uf (P:=P) (w:=w) (base:=base) T
  refine pG T.m_Tally___init__ pJ (fun _ _ _ _ _ _ us hl=>L2.nj (fun _ _=>rfl) us hl) ?_ fun f cdv A outer s H vs Q E hr h=>?_
  · rintro vs H Q E ⟨x,dx,a,t,rfl,_⟩;rfl
  obtain ⟨x,dx,a,t,rfl,hx,ha,hP,q⟩:=h
  have hu:=hr.units0
  have hu64:=hr.units
  refine ⟨_,(aA (aJ (cR dw (hr.mono (by decide)) (bB kz3s) aO (aa (au 1 Q7) ao) (by decide+kernel))) (aA (jA (K:=K) rfl (au 0 Vr) (xR (sY (K:=K) rfl rfl) (bB kz3r) T.b_list rT (aa (au 1 Q7) ao) (by decide+kernel) (by decide+kernel))) (aC (jA (K:=K) rfl (au 0 Vr) (cR uf (hr.mono (by decide)) (bB kz3p) aO (aa (au 1 Q7) ao) (by decide+kernel)))))),?_⟩
  walk_at "sts"
  have hsz:20000≤sizeLine:=by decide
  have cl:=T.o_Tally.cl
  have na:=T.n_Tally
  refine ⟨_,true,rfl,Br ha hP,fun _ H1 S1=>?_,(fun h=>by cases h)⟩
  walk_at "sts"
  refine .inl ⟨a,(nI t).map V.int,rfl,(ha.same S1).imp SqL.of SqT.of,fun ae nae=>?_⟩
  have S2:=(Same.refl H1).upd nae (o:=.lst ((nI t).map V.int))
  have f2:=aj (H:=H1) (a:=ae) (o:=.lst ((nI t).map V.int))
  generalize upd H1 ae (.lst ((nI t).map V.int))=H2 at S2 f2 ⊢
  have U2:=S1.trans S2
  have hx2:=U2 _ _ hx
  have nx:∀ {G:Hp} {b:Addr} {fs:List (Str×V)} {us:List V},G x=some (.ins (aK mg "Tally") dx fs)→(G b=some (.lst us)∨G b=some (.tup us))→b≠x:=fun {G b fs us} h1 h2 z=>by
    rw [z,h1] at h2
    rcases h2 with h2 | h2 <;> cases h2
  walk_at "sts"
  refine ⟨x,_,dx,_,rfl,hx2,cl,na _ (by simp),by simp,?_⟩
  walk_at "sts"
  rw [dH (by show ([]:List Str).contains "held_ends"=false;decide+kernel)]
  have hx3:=aj (H:=H2) (a:=x) (o:=.ins (aK mg "Tally") dx (([]:List (Str×V)) ++ ([("held_ends",.ref ae)]:List (Str×V))))
  have C3:Chg x H2 (upd H2 x (.ins (aK mg "Tally") dx (([]:List (Str×V)) ++ ([("held_ends",.ref ae)]:List (Str×V))))):=Chg.put (Chg.refl x H2)
  generalize upd H2 x (.ins (aK mg "Tally") dx (([]:List (Str×V)) ++ ([("held_ends",.ref ae)]:List (Str×V))))=H3 at hx3 C3 ⊢
  replace hx3:H3 x=some (.ins (aK mg "Tally") dx ([("held_ends",.ref ae)]:List (Str×V))):=hx3
  have ha2:=ha.same U2
  have ha3:Tn H3 a t:=by
    have nxa:=nx hx2 ha2
    rcases ha2 with h | h
    · exact .inl (C3 _ _ nxa h)
    · exact .inr (C3 _ _ nxa h)
  have f3:=C3 _ _ (nx hx2 (.inl f2)) f2
  walk_at "sts"
  refine ⟨a,t,rfl,ha3,hP,fun ac rs H4 nac S4 hac hrs hfr=>?_⟩
  walk_at "sts"
  have hx4:=S4 _ _ hx3
  refine ⟨x,_,dx,_,rfl,hx4,cl,na _ (by simp),by simp,?_⟩
  walk_at "sts"
  rw [dH (by show (["held_ends"]:List Str).contains "held_counts"=false;decide+kernel)]
  have hx5:=aj (H:=H4) (a:=x) (o:=.ins (aK mg "Tally") dx (([("held_ends",.ref ae)]:List (Str×V)) ++ ([("held_counts",.ref ac)]:List (Str×V))))
  have C5:Chg x H4 (upd H4 x (.ins (aK mg "Tally") dx (([("held_ends",.ref ae)]:List (Str×V)) ++ ([("held_counts",.ref ac)]:List (Str×V))))):=Chg.put (Chg.refl x H4)
  generalize upd H4 x (.ins (aK mg "Tally") dx (([("held_ends",.ref ae)]:List (Str×V)) ++ ([("held_counts",.ref ac)]:List (Str×V))))=H5 at hx5 C5 ⊢
  have hO5:TyO H5 t ae ac rs:=by
    refine ⟨?_,?_,hrs.1,fun k hk=>?_⟩
    · exact C5 _ _ (nx hx4 (.inl (S4 _ _ f3))) (S4 _ _ f3)
    · exact C5 _ _ (nx hx4 (.inl hac)) hac
    · obtain ⟨b,e,hb⟩:=hrs.2 k hk
      exact ⟨b,e,C5 _ _ (nx hx4 (.inl hb)) hb⟩
  refine q H5 ?_ ⟨hP,dx,ae,ac,rs,hx5,hO5,fun z=>z.1 rfl,?_,?_,fun r hr z=>?_⟩
  · intro b o nb e
    exact C5 b o nb (S4 _ _ (C3 b o nb (U2 _ _ e)))
  · rintro ⟨ng,o,hg⟩
    rw [S1 _ _ hg] at nae;cases nae
  · rintro ⟨ng,o,hg⟩
    rw [C3 _ o ng (U2 _ _ hg)] at nac;cases nac
  · obtain ⟨ng,o,hg⟩:=z
    have:=hfr r hr
    rw [C3 _ o ng (U2 _ _ hg)] at this;cases this
theorem tyM {ae ac:Addr} {m:Str} (h:(["held_ends","held_counts"]:List Str).contains m=false):(Xl ae ac).lookup m=none:=by
  unfold Xl
  simp only [List.contains_cons,Bool.or_eq_false_iff] at h
  obtain ⟨h1,h2,_⟩:=h
  simp only [List.lookup_cons,h1,h2,List.lookup_nil]
def HX (mg:Str→Option Value):Sp:=fun vs H Q _=>∃ (x:Addr) (t:List Nat) (b e:Nat),vs=[.ref x,.int b,.int e]∧Ty mg H x t∧b≤t.length∧e≤t.length∧Q (.int ((zY t b e:Nat):Int)) H
theorem ug:aF ["self","begin","end"] ["self","begin","end"] (az cG):=⟨rfl,rfl,rfl,by decide+kernel,rfl,by decide+kernel,by decide+kernel⟩
theorem jY (T:Txt K mg):kO P w K mg base 4 "Tally" "below" ["self","begin","end"] (HX mg):=by
  have bh:=bh (P:=P) (w:=w) (base:=base) T
  refine pG T.m_Tally_below ug (fun _ _ _ _ _ _ us hl=>L2.j8 (fun _ _ _=>rfl) us hl) ?_ fun f cdv A outer s H vs Q E hr h=>?_
  · rintro vs H Q E ⟨x,t,b,e,rfl,_⟩;rfl
  obtain ⟨x,t,b,e,rfl,⟨hP,dx,ae,ac,rs,hx,hO⟩,hb,he,q⟩:=h
  have hu:=hr.units0
  have hu64:=hr.units
  refine ⟨_,(aA (aJ (cR bh (hr.mono (by decide)) (bB Vu) aO (aa (au 1 Vs) (aa aB (aa (aX (aZ (K:=K) rfl) (bB Vv) T.b_len cN (aa (fG (K:=K) rfl (au 0 Q8)) ao) (by decide+kernel) (by decide+kernel)) ao))) (by decide+kernel))) (aA (aJ (cR bh (hr.mono (by decide)) (bB Vu) aO (aa (au 2 Vt) (aa aB (aa (aX (aZ (K:=K) rfl) (bB Vv) T.b_len cN (aa (fG (K:=K) rfl (au 0 Q8)) ao) (by decide+kernel) (by decide+kernel)) ao))) (by decide+kernel))) (aC (aM (bZ (K:=K) rfl (bZ (K:=K) rfl (fG (K:=K) rfl (au 0 Q8)) (au 1 Vs)) (au 2 Vt)))))),?_⟩
  walk_at "sts"
  have cl:=T.o_Tally.cl
  have na:=T.n_Tally
  refine ⟨x,_,dx,_,_,rfl,hx,cl,na _ (by simp),rfl,?_⟩
  walk_at "sts"
  refine jg (SqL.of hO.ends) ?_
  walk_at "sts"
  rw [d9]
  walk_at "sts"
  refine jD (by omega) (by omega) ?_
  walk_at "sts"
  refine ⟨x,_,dx,_,_,rfl,hx,cl,na _ (by simp),rfl,?_⟩
  walk_at "sts"
  refine jg (SqL.of hO.ends) ?_
  walk_at "sts"
  rw [d9]
  walk_at "sts"
  refine jD (by omega) (by omega) ?_
  walk_at "sts"
  refine ⟨x,_,dx,_,_,rfl,hx,cl,na _ (by simp),rfl,?_⟩
  walk_at "sts"
  obtain ⟨pb,epb,hpb⟩:=hO.rows.2 b (by omega)
  refine bR (SqL.of hO.cnts) (dO epb) ?_
  walk_at "sts"
  refine bR (SqL.of hpb) (zZ rfl he) ?_
  walk_at "sts"
  exact q
theorem Bs {xs:List V} {k:Nat}:nY xs none (some (k:Int))=xs.take k:=by
  unfold nY
  rw [HT.sIx_none,HT.sIx_nat,List.drop_zero,Nat.sub_zero]
  by_cases h:k≤xs.length
  · rw [Nat.min_eq_left h]
  · rw [Nat.min_eq_right (by omega),List.take_length,List.take_of_length_le (by omega)]
theorem made {H1 H2:Hp} {x dx:Addr} {o o':HO} (nx:H1 x=none) (ndx:H1 dx=none) (c:Chg x (upd (upd H1 dx o) x o') H2):Same H1 H2:=fun b u e=>by
  have n1:b≠x:=fun z=>by rw [z,nx] at e;cases e
  have n2:b≠dx:=fun z=>by rw [z,ndx] at e;cases e
  exact c b u n1 (by rw [aD n1,aD n2];exact e)
theorem Mh {H1:Hp} {x dx g:Addr} {o o' u:HO} (nx:H1 x=none) (ndx:H1 dx=none) (e:H1 g=some u):upd (upd H1 dx o) x o' g=some u∧g≠x:=by
  have n1:g≠x:=fun z=>by rw [z,nx] at e;cases e
  have n2:g≠dx:=fun z=>by rw [z,ndx] at e;cases e
  exact ⟨by rw [aD n1,aD n2];exact e,n1⟩
theorem gNe {H1:Hp} {x g:Addr} {u:HO} (nx:H1 x=none) (e:H1 g=some u):g≠x:=fun z=>by rw [z,nx] at e;cases e
end
section
variable {P:Program} {w:World} {K:PySem.W.Frag} {mg:Str→Option Value} {base:Heap}
theorem wB:aN cB "cut":=by decide+kernel
theorem Vw:aN cB "far":=by decide+kernel
theorem Vx:aN cB "many":=by decide+kernel
theorem kz41:cu cB "NoWindow":=by decide+kernel
theorem Vy:cu cB "need_span":=by decide+kernel
theorem Q9:aN bJ "self":=by decide+kernel
theorem Vz:cu bJ "len":=by decide+kernel
theorem Ra:aN bJ "lines":=by decide+kernel
theorem Rb:aN bJ "many":=by decide+kernel
theorem kz47:cu bJ "need_place":=by decide+kernel
theorem kz48:cu bJ "Tally":=by decide+kernel
theorem VB:aN bK "end":=by decide+kernel
theorem VD:aN bK "begin":=by decide+kernel
theorem VF:aN bK "self":=by decide+kernel
theorem Rc:aN bK "many":=by decide+kernel
theorem kz4d:aN bK "last":=by decide+kernel
theorem kz4e:aN bK "first":=by decide+kernel
theorem qC:aN jB "self":=by decide+kernel
theorem pK:aN jB "found":=by decide+kernel
theorem wC:aF ["self","found"] ["self","found"] (az jB):=⟨rfl,rfl,rfl,by decide+kernel,rfl,by decide+kernel,by decide+kernel⟩
theorem yD (T:Txt K mg):Ks P w K mg base 1 "NoWindow" (aK mg "NoWindow") ["found"]:=Uj T.x_NoWindow wC (fun _ _ _ _ _ _ us hl=>L2.nj (fun _ _=>rfl) us hl) rfl fun f cdv A outer s H vs Q E hr h=>⟨_,(aC (m6 (K:=K) rfl (au 0 qC) (au 1 pK))),Xg T.x_NoWindow.c.cl.cls (T.x_NoWindow.na _ (by simp)) h⟩
def VG:Sp:=fun vs H Q _=>∃ (p:Addr) (a b c d m f:Nat),vs=[.ref p,.int m,.int f]∧H p=some (.tup [.int (a:Int),.int (b:Int),.int (c:Int),.int (d:Int)])∧a≤b∧b≤m∧c≤d∧d≤f∧(a=0∨c=0)∧(b=m∨d=f)∧Q .non H
theorem uh:aF ["cut","many","far"] ["cut","many","far"] (az cB):=⟨rfl,rfl,rfl,by decide+kernel,rfl,by decide+kernel,by decide+kernel⟩
theorem jZ (T:Txt K mg):uy P w K mg base 5 "need_window" ["cut","many","far"] VG:=by
  have cJ:=cJ (P:=P) (w:=w) (base:=base) T
  refine tO T.d_need_window uh (fun _ _ _ _ _ _ us hl=>L2.j8 (fun _ _ _=>rfl) us hl) ?_ fun f cdv A outer s H vs Q E hr h=>?_
  · rintro vs H Q E ⟨p,a,b,c,d,m,f',rfl,_⟩;rfl
  obtain ⟨p,a,b,c,d,m,f',rfl,hp,h1,h2,h3,h4,h5,h6,q⟩:=h
  have hu:=hr.units0
  have hu64:=hr.units
  refine ⟨_,(aA (aJ (cR cJ (hr.mono (by decide)) (bB Vy) aO (aa (bZ (K:=K) rfl (au 0 wB) aB) (aa (bZ (K:=K) rfl (au 0 wB) aB) (aa (au 1 Vx) ao))) (by decide+kernel))) (aA (aJ (cR cJ (hr.mono (by decide)) (bB Vy) aO (aa (bZ (K:=K) rfl (au 0 wB) aB) (aa (bZ (K:=K) rfl (au 0 wB) aB) (aa (au 2 Vw) ao))) (by decide+kernel))) (aC (dq (qN (xO (qN (zr (cO w5 (bZ (K:=K) rfl (au 0 wB) aB) aB (by first | exact bT _ | with_unfolding_all rfl)) (vO (cO w5 (bZ (K:=K) rfl (au 0 wB) aB) aB (by first | exact bT _ | with_unfolding_all rfl))))) (tG (qN (zr (cO Ez (bZ (K:=K) rfl (au 0 wB) aB) (au 1 Vx) (by first | exact bT _ | with_unfolding_all rfl)) (vO (cO Ez (bZ (K:=K) rfl (au 0 wB) aB) (au 2 Vw) (by first | exact bT _ | with_unfolding_all rfl)))))))) (aC (mO (yD (P:=P) (w:=w) (base:=base) T) (hr.mono (by decide)) rfl (bB kz41) aO (aa (au 0 wB) ao) (by decide+kernel))) c7)))),?_⟩
  walk_at "sts"
  refine ⟨_,_,_,rfl,by omega,by omega,by omega,?_⟩
  walk_at "sts"
  refine ⟨_,_,_,rfl,by omega,by omega,by omega,?_⟩
  walk_at "sts"
  refine kE (fun h=>?_) (fun h=>?_)
  · walk_at "sts"
    refine kE (fun h'=>?_) (fun h'=>?_)
    · exfalso;omega
    · walk_at "sts"
      refine kE (fun h7=>?_) (fun h7=>?_)
      · walk_at "sts"
        refine kE (fun h8=>?_) (fun h8=>?_)
        · exfalso;omega
        · exact q
      · exact q
  · walk_at "sts"
    refine kE (fun h7=>?_) (fun h7=>?_)
    · walk_at "sts"
      refine kE (fun h8=>?_) (fun h8=>?_)
      · exfalso;omega
      · exact q
    · exact q
def Xn (ty:Addr) (m f:Nat):List (Str×V):=[("held_tally",.ref ty),("held_many",.int (m:Int)),("held_far",.int (f:Int))]
theorem Bt {ty:Addr} {m' f:Nat} {m:Str} (h:(["held_tally","held_many","held_far"]:List Str).contains m=false):(Xn ty m' f).lookup m=none:=by
  unfold Xn
  simp only [List.contains_cons,Bool.or_eq_false_iff] at h
  obtain ⟨h1,h2,h3,_⟩:=h
  simp only [List.lookup_cons,h1,h2,h3,List.lookup_nil]
def Ak (mg:Str→Option Value) (H:Hp) (x:Addr) (t:List Nat) (m f:Nat):Prop:=m+f=t.length∧∃ dx ty,H x=some (.ins (aK mg "Asks") dx (Xn ty m f))∧Ty mg H ty t
theorem Ak.same {H H':Hp} {x:Addr} {t:List Nat} {m f:Nat} (h:Ak mg H x t m f) (s:Same H H'):Ak mg H' x t m f:=by
  obtain ⟨hl,dx,ty,hx,hT⟩:=h
  exact ⟨hl,dx,ty,s _ _ hx,hT.same s⟩
def AkD (mg:Str→Option Value) (D:Addr→Prop) (H:Hp) (x:Addr) (t:List Nat) (m f:Nat):Prop:=m+f=t.length∧∃ dx ty,H x=some (.ins (aK mg "Asks") dx (Xn ty m f))∧TyD mg D H ty t∧¬ D x
theorem AkD.ak {H:Hp} {D:Addr→Prop} {x:Addr} {t:List Nat} {m f:Nat} (h:AkD mg D H x t m f):Ak mg H x t m f:=by
  obtain ⟨hl,dx,ty,hx,hT,_⟩:=h
  exact ⟨hl,dx,ty,hx,hT.ty⟩
def Mi (mg:Str→Option Value):Sp:=fun vs H Q _=>∃ (x dx a:Addr) (t:List Nat) (m f:Nat),vs=[.ref x,.ref a,.int m]∧H x=some (.ins (aK mg "Asks") dx [])∧Tn H a t∧Prm t∧m+f=t.length∧∀ H',Chg x H H'→AkD mg (fun g=>g≠x∧∃ o,H g=some o) H' x t m f→Q .non H'
theorem qD:aF ["self","lines","many"] ["self","lines","many"] (az bJ):=⟨rfl,rfl,rfl,by decide+kernel,rfl,by decide+kernel,by decide+kernel⟩
theorem jm (T:Txt K mg):kO P w K mg base 8 "Asks" "__init__" ["self","lines","many"] (Mi mg):=by
  have iw:=iw (P:=P) (w:=w) (base:=base) T
  have bh:=bh (P:=P) (w:=w) (base:=base) T
  refine pG T.m_Asks___init__ qD (fun _ _ _ _ _ _ us hl=>L2.j8 (fun _ _ _=>rfl) us hl) ?_ fun f cdv A outer s H vs Q E hr h=>?_
  · rintro vs H Q E ⟨x,dx,a,t,m,f',rfl,_⟩;rfl
  obtain ⟨x,dx,a,t,m,f',rfl,hx,ha,hP,hmf,q⟩:=h
  have hu:=hr.units0
  have hu64:=hr.units
  refine ⟨_,(aA (jA (K:=K) rfl (au 0 Q9) (v4 T.o_Tally iw (hr.mono (by decide)) (bB kz48) aO (aa (au 1 Ra) ao) (by decide+kernel))) (aA (aJ (cR bh (hr.mono (by decide)) (bB kz47) aO (aa (au 2 Rb) (aa aB (aa (aX (aZ (K:=K) rfl) (bB Vz) T.b_len cN (aa (au 1 Ra) ao) (by decide+kernel) (by decide+kernel)) ao))) (by decide+kernel))) (aA (jA (K:=K) rfl (au 0 Q9) (au 2 Rb)) (aC (jA (K:=K) rfl (au 0 Q9) (bD gM (aX (aZ (K:=K) rfl) (bB Vz) T.b_len cN (aa (au 1 Ra) ao) (by decide+kernel) (by decide+kernel)) (au 2 Rb))))))),?_⟩
  walk_at "sts"
  have hsz:20000≤sizeLine:=by decide
  have cl:=T.o_Asks.cl
  have na:=T.n_Asks
  intro ty dty nty ndty ne
  have hat:Tn (upd (upd H dty (.own ty)) ty (.ins (aK mg "Tally") dty [])) a t:=ha.imp (fun h=>(Mh nty ndty h).1) (fun h=>(Mh nty ndty h).1)
  refine ⟨ty,dty,a,t,rfl,aj,hat,hP,fun H1 c1 hT1=>⟨rfl,?_⟩⟩
  walk_at "sts"
  have S1:=made nty ndty c1
  replace hT1:=hT1.sub (D':=fun g=>∃ o,H g=some o) (fun g hg=>by
    obtain ⟨o,hg⟩:=hg
    exact ⟨gNe nty hg,o,(Mh nty ndty hg).1⟩)
  clear c1
  have hx1:=S1 _ _ hx
  have ax:a≠x:=fun z=>by
    rcases ha with h | h <;> rw [z,hx] at h <;> cases h
  refine ⟨x,_,dx,_,rfl,hx1,cl,na _ (by simp),by simp,?_⟩
  walk_at "sts"
  rw [dH (by show ([]:List Str).contains "held_tally"=false;decide+kernel)]
  have hx2:=aj (H:=H1) (a:=x) (o:=.ins (aK mg "Asks") dx (([]:List (Str×V)) ++ ([("held_tally",.ref ty)]:List (Str×V))))
  have C2:Chg x H (upd H1 x (.ins (aK mg "Asks") dx (([]:List (Str×V)) ++ ([("held_tally",.ref ty)]:List (Str×V))))):=Chg.put (fun b o n e=>S1 _ _ e)
  have hT2:=hT1.put (g:=x) (o:=.ins (aK mg "Asks") dx (([]:List (Str×V)) ++ ([("held_tally",.ref ty)]:List (Str×V)))) ⟨_,hx⟩
  generalize upd H1 x (.ins (aK mg "Asks") dx (([]:List (Str×V)) ++ ([("held_tally",.ref ty)]:List (Str×V))))=H2 at hx2 C2 hT2 ⊢
  replace hx2:H2 x=some (.ins (aK mg "Asks") dx ([("held_tally",.ref ty)]:List (Str×V))):=hx2
  have ha2:Tn H2 a t:=ha.imp (C2 _ _ ax) (C2 _ _ ax)
  have len:∀ (G:Hp) (R:V→Hp→Prop),Tn G a t→R (.int (t.length:Int)) G→Cv K [.ref a] G R:=fun G R hG hR=>by
    rcases hG with h | h
    · refine jg (SqL.of h) ?_
      rw [d9];exact hR
    · refine vM (SqT.of h) ?_
      rw [d9];exact hR
  walk_at "sts"
  refine len _ _ ha2 ?_
  walk_at "sts"
  refine jD (by omega) (by omega) ?_
  walk_at "sts"
  refine ⟨x,_,dx,_,rfl,hx2,cl,na _ (by simp),by simp,?_⟩
  walk_at "sts"
  rw [dH (by show (["held_tally"]:List Str).contains "held_many"=false;decide+kernel)]
  have hx3:=aj (H:=H2) (a:=x) (o:=.ins (aK mg "Asks") dx (([("held_tally",.ref ty)]:List (Str×V)) ++ ([("held_many",.int (m:Int))]:List (Str×V))))
  have C3:Chg x H (upd H2 x (.ins (aK mg "Asks") dx (([("held_tally",.ref ty)]:List (Str×V)) ++ ([("held_many",.int (m:Int))]:List (Str×V))))):=Chg.put C2
  have hT3:=hT2.put (g:=x) (o:=.ins (aK mg "Asks") dx (([("held_tally",.ref ty)]:List (Str×V)) ++ ([("held_many",.int (m:Int))]:List (Str×V)))) ⟨_,hx⟩
  generalize upd H2 x (.ins (aK mg "Asks") dx (([("held_tally",.ref ty)]:List (Str×V)) ++ ([("held_many",.int (m:Int))]:List (Str×V))))=H3 at hx3 C3 hT3 ⊢
  replace hx3:H3 x=some (.ins (aK mg "Asks") dx ([("held_tally",.ref ty),("held_many",.int (m:Int))]:List (Str×V))):=hx3
  have ha3:Tn H3 a t:=ha.imp (C3 _ _ ax) (C3 _ _ ax)
  walk_at "sts"
  refine len _ _ ha3 ?_
  walk_at "sts"
  refine ⟨x,_,dx,_,rfl,hx3,cl,na _ (by simp),by simp,?_⟩
  walk_at "sts"
  rw [dH (by show (["held_tally","held_many"]:List Str).contains "held_far"=false;decide+kernel),show (t.length:Int) - (m:Int)=(f':Int) by omega]
  exact q _ (Chg.put C3) ⟨hmf,dx,ty,aj,(hT3.put ⟨_,hx⟩).sub (fun g hg=>hg.2),fun z=>z.1 rfl⟩
def rk (t:List Nat) (m a b c d:Nat):Int:=(d:Int) - (c:Int) - ((zY t (m - a+c) (m - b+d):Nat):Int)
def Rf (mg:Str→Option Value):Sp:=fun vs H Q _=>∃ (x:Addr) (t:List Nat) (m f a b c d:Nat),vs=[.ref x,.int a,.int b,.int c,.int d]∧Ak mg H x t m f∧a≤m∧b≤m∧c≤f∧d≤f∧Q (.int (rk t m a b c d)) H
theorem lg:aF ["self","first","last","begin","end","many"] ["self","first","last","begin","end"] (az bK):=⟨rfl,rfl,rfl,by decide+kernel,rfl,by decide+kernel,by decide+kernel⟩
theorem aL (T:Txt K mg):kO P w K mg base 5 "Asks" "reckoned" ["self","first","last","begin","end"] (Rf mg):=by
  have jY:=jY (P:=P) (w:=w) (base:=base) T
  refine pG T.m_Asks_reckoned lg (fun _ _ _ _ _ _ us hl=>L2.Jc (fun _ _ _ _ _=>rfl) us hl) ?_ fun f cdv A outer s H vs Q E hr h=>?_
  · rintro vs H Q E ⟨x,t,m,f',a,b,c,d,rfl,_⟩;rfl
  obtain ⟨x,t,m,f',a,b,c,d,rfl,⟨hl,dx,ty,hx,hT⟩,h1,h2,h3,h4,q⟩:=h
  have hu:=hr.units0
  have hu64:=hr.units
  refine ⟨_,(aA (aP (i:=5) lg.nd rfl (Or.inl Rc) (fG (K:=K) rfl (au 0 VF)) rfl) (aC (aM (bD gM (bD gM (au 4 VB) (au 3 VD)) (eO (fG (K:=K) rfl (au 0 VF)) T.o_Tally jY (hr.mono (by decide)) aO (aa (bD aV (bD gM (au 5 Rc) (au 1 kz4e)) (au 3 VD)) (aa (bD aV (bD gM (au 5 Rc) (au 2 kz4d)) (au 4 VB)) ao))))))),?_⟩
  walk_at "sts"
  have cl:=T.o_Asks.cl
  have na:=T.n_Asks
  refine ⟨x,_,dx,_,_,rfl,hx,cl,na _ (by simp),rfl,?_⟩
  walk_at "sts"
  refine ⟨x,_,dx,_,_,rfl,hx,cl,na _ (by simp),rfl,?_⟩
  walk_at "sts"
  have hT':=hT
  obtain ⟨_,dt,ae,ac,rs,ht,_⟩:=hT'
  refine ⟨ty,dt,_,rfl,ht,tyM (by decide+kernel),?_⟩
  walk_at "sts"
  rw [show (m:Int) - (a:Int)+(c:Int)=((m - a+c:Nat):Int) by omega,show (m:Int) - (b:Int)+(d:Int)=((m - b+d:Nat):Int) by omega]
  refine ⟨ty,t,m - a+c,m - b+d,rfl,hT,by omega,by omega,?_⟩
  walk_at "sts"
  exact q
end
section
variable {P:Program} {w:World} {K:PySem.W.Frag} {mg:Str→Option Value} {base:Heap}
theorem nG:(["end","self","begin"]:List Str).Nodup:=by decide+kernel
theorem VH:aN bw "self":=by decide+kernel
theorem kz4g:aN bw "end":=by decide+kernel
theorem kz4h:aN bw "begin":=by decide+kernel
theorem Rg:aN b7 "self":=by decide+kernel
theorem VJ:aN b7 "end":=by decide+kernel
theorem VL:aN b7 "begin":=by decide+kernel
theorem VM:aN b7 "last":=by decide+kernel
theorem VN:aN b7 "first":=by decide+kernel
theorem kz4n:cu b7 "need_window":=by decide+kernel
theorem VP:aN cP "self":=by decide+kernel
theorem VR:aN cP "end":=by decide+kernel
theorem V0:aN cP "begin":=by decide+kernel
theorem kz4r:cu cP "need_span":=by decide+kernel
theorem Mj:aN bW "self":=by decide+kernel
theorem V1:aN bW "begin":=by decide+kernel
theorem V2:aN bW "last":=by decide+kernel
theorem V3:cu bW "need_place":=by decide+kernel
theorem Ml:aN dh "self":=by decide+kernel
theorem V4:aN dh "end":=by decide+kernel
theorem V5:aN dh "first":=by decide+kernel
theorem V6:cu dh "need_place":=by decide+kernel
theorem Rh:aN di "self":=by decide+kernel
theorem V7:aN di "last":=by decide+kernel
theorem V8:aN di "first":=by decide+kernel
theorem kz53:cu di "need_span":=by decide+kernel
theorem kz54:cu bY "range":=by decide+kernel
theorem kz55:zM bY "self":=by decide+kernel
theorem kz56:zM bY "begin":=by decide+kernel
def Ri (mg:Str→Option Value):Sp:=fun vs H Q _=>∃ (x:Addr) (t:List Nat) (m f c d:Nat),vs=[.ref x,.int c,.int d]∧Ak mg H x t m f∧c≤f∧d≤f∧Q (.int (rk t m 0 m c d)) H
theorem j0:aF ["self","begin","end"] ["self","begin","end"] (az bw):=⟨rfl,rfl,rfl,by decide+kernel,rfl,by decide+kernel,by decide+kernel⟩
theorem bx (T:Txt K mg):kO P w K mg base 6 "Asks" "reckoned_stretch" ["self","begin","end"] (Ri mg):=by
  have aL:=aL (P:=P) (w:=w) (base:=base) T
  refine pG T.m_Asks_reckoned_stretch j0 (fun _ _ _ _ _ _ us hl=>L2.j8 (fun _ _ _=>rfl) us hl) ?_ fun f cdv A outer s H vs Q E hr h=>?_
  · rintro vs H Q E ⟨x,t,m,f',c,d,rfl,_⟩;rfl
  obtain ⟨x,t,m,f',c,d,rfl,hA,h3,h4,q⟩:=h
  have hu:=hr.units0
  have hu64:=hr.units
  refine ⟨_,(aC (aM (eO (au 0 VH) T.o_Asks aL (hr.mono (by decide)) aO (aa aB (aa (fG (K:=K) rfl (au 0 VH)) (aa (au 1 kz4h) (aa (au 2 kz4g) ao))))))),?_⟩
  walk_at "sts"
  have cl:=T.o_Asks.cl
  have na:=T.n_Asks
  obtain ⟨hl,dx,ty,hx,hT⟩:=id hA
  refine ⟨x,dx,_,rfl,hx,Bt (by decide+kernel),?_⟩
  walk_at "sts"
  refine ⟨x,_,dx,_,_,rfl,hx,cl,na _ (by simp),rfl,?_⟩
  walk_at "sts"
  refine ⟨x,t,m,f',0,m,c,d,rfl,hA,by omega,by omega,h3,h4,?_⟩
  walk_at "sts"
  exact q
def HY (mg:Str→Option Value):Sp:=fun vs H Q _=>∃ (x:Addr) (t:List Nat) (m f a b c d:Nat),vs=[.ref x,.int a,.int b,.int c,.int d]∧Ak mg H x t m f∧a≤b∧b≤m∧c≤d∧d≤f∧(a=0∨c=0)∧(b=m∨d=f)∧∀ H',Same H H'→Q (.int (rk t m a b c d)) H'
theorem um:aF ["self","first","last","begin","end"] ["self","first","last","begin","end"] (az b7):=⟨rfl,rfl,rfl,by decide+kernel,rfl,by decide+kernel,by decide+kernel⟩
theorem j4 (T:Txt K mg):kO P w K mg base 6 "Asks" "window" ["self","first","last","begin","end"] (HY mg):=by
  have jZ:=jZ (P:=P) (w:=w) (base:=base) T
  have aL:=aL (P:=P) (w:=w) (base:=base) T
  refine pG T.m_Asks_window um (fun _ _ _ _ _ _ us hl=>L2.Jc (fun _ _ _ _ _=>rfl) us hl) ?_ fun f cdv A outer s H vs Q E hr h=>?_
  · rintro vs H Q E ⟨x,t,m,f',a,b,c,d,rfl,_⟩;rfl
  obtain ⟨x,t,m,f',a,b,c,d,rfl,hA,h1,h2,h3,h4,h5,h6,q⟩:=h
  have hu:=hr.units0
  have hu64:=hr.units
  refine ⟨_,(aA (aJ (cR jZ (hr.mono (by decide)) (bB kz4n) aO (aa (fu (aa (au 1 VN) (aa (au 2 VM) (aa (au 3 VL) (aa (au 4 VJ) ao))))) (aa (fG (K:=K) rfl (au 0 Rg)) (aa (fG (K:=K) rfl (au 0 Rg)) ao))) (by decide+kernel))) (aC (aM (eO (au 0 Rg) T.o_Asks aL (hr.mono (by decide)) aO (aa (au 1 VN) (aa (au 2 VM) (aa (au 3 VL) (aa (au 4 VJ) ao)))))))),?_⟩
  walk_at "sts"
  have cl:=T.o_Asks.cl
  have na:=T.n_Asks
  obtain ⟨hl,dx,ty,hx,hT⟩:=id hA
  refine bO rfl fun p H1 _ S1 f1=>?_
  walk_at "sts"
  have hx1:=S1 _ _ hx
  refine ⟨x,_,dx,_,_,rfl,hx1,cl,na _ (by simp),rfl,?_⟩
  walk_at "sts"
  refine ⟨x,_,dx,_,_,rfl,hx1,cl,na _ (by simp),rfl,?_⟩
  walk_at "sts"
  refine ⟨p,a,b,c,d,m,f',rfl,f1,h1,h2,h3,h4,h5,h6,?_⟩
  walk_at "sts"
  refine ⟨x,dx,_,rfl,hx1,Bt (by decide+kernel),?_⟩
  walk_at "sts"
  refine ⟨x,t,m,f',a,b,c,d,rfl,hA.same S1,by omega,by omega,by omega,by omega,?_⟩
  walk_at "sts"
  exact q _ S1
def Dv (mg:Str→Option Value):Sp:=fun vs H Q _=>∃ (x:Addr) (t:List Nat) (m f c d:Nat),vs=[.ref x,.int c,.int d]∧Ak mg H x t m f∧c≤d∧d≤f∧Q (.int (rk t m 0 m c d)) H
theorem rP:aF ["self","begin","end"] ["self","begin","end"] (az cP):=⟨rfl,rfl,rfl,by decide+kernel,rfl,by decide+kernel,by decide+kernel⟩
theorem jE (T:Txt K mg):kO P w K mg base 7 "Asks" "stretch" ["self","begin","end"] (Dv mg):=by
  have cJ:=cJ (P:=P) (w:=w) (base:=base) T
  have bx:=bx (P:=P) (w:=w) (base:=base) T
  refine pG T.m_Asks_stretch rP (fun _ _ _ _ _ _ us hl=>L2.j8 (fun _ _ _=>rfl) us hl) ?_ fun f cdv A outer s H vs Q E hr h=>?_
  · rintro vs H Q E ⟨x,t,m,f',c,d,rfl,_⟩;rfl
  obtain ⟨x,t,m,f',c,d,rfl,hA,h3,h4,q⟩:=h
  have hu:=hr.units0
  have hu64:=hr.units
  refine ⟨_,(aA (aJ (cR cJ (hr.mono (by decide)) (bB kz4r) aO (aa (au 1 V0) (aa (au 2 VR) (aa (fG (K:=K) rfl (au 0 VP)) ao))) (by decide+kernel))) (aC (aM (eO (au 0 VP) T.o_Asks bx (hr.mono (by decide)) aO (aa (au 1 V0) (aa (au 2 VR) ao)))))),?_⟩
  walk_at "sts"
  have cl:=T.o_Asks.cl
  have na:=T.n_Asks
  obtain ⟨hl,dx,ty,hx,hT⟩:=id hA
  refine ⟨x,_,dx,_,_,rfl,hx,cl,na _ (by simp),rfl,?_⟩
  walk_at "sts"
  refine ⟨_,_,_,rfl,by omega,by omega,by omega,?_⟩
  walk_at "sts"
  refine ⟨x,dx,_,rfl,hx,Bt (by decide+kernel),?_⟩
  walk_at "sts"
  refine ⟨x,t,m,f',c,d,rfl,hA,by omega,h4,?_⟩
  walk_at "sts"
  exact q
def Mm (mg:Str→Option Value):Sp:=fun vs H Q _=>∃ (x:Addr) (t:List Nat) (m f b c:Nat),vs=[.ref x,.int b,.int c]∧Ak mg H x t m f∧b≤m∧c≤f∧Q (.int (rk t m 0 b c f)) H
theorem pL:aF ["self","last","begin"] ["self","last","begin"] (az bW):=⟨rfl,rfl,rfl,by decide+kernel,rfl,by decide+kernel,by decide+kernel⟩
theorem iy (T:Txt K mg):kO P w K mg base 6 "Asks" "beginning" ["self","last","begin"] (Mm mg):=by
  have bh:=bh (P:=P) (w:=w) (base:=base) T
  have aL:=aL (P:=P) (w:=w) (base:=base) T
  refine pG T.m_Asks_beginning pL (fun _ _ _ _ _ _ us hl=>L2.j8 (fun _ _ _=>rfl) us hl) ?_ fun f cdv A outer s H vs Q E hr h=>?_
  · rintro vs H Q E ⟨x,t,m,f',b,c,rfl,_⟩;rfl
  obtain ⟨x,t,m,f',b,c,rfl,hA,h3,h4,q⟩:=h
  have hu:=hr.units0
  have hu64:=hr.units
  refine ⟨_,(aA (aJ (cR bh (hr.mono (by decide)) (bB V3) aO (aa (au 1 V2) (aa aB (aa (fG (K:=K) rfl (au 0 Mj)) ao))) (by decide+kernel))) (aA (aJ (cR bh (hr.mono (by decide)) (bB V3) aO (aa (au 2 V1) (aa aB (aa (fG (K:=K) rfl (au 0 Mj)) ao))) (by decide+kernel))) (aC (aM (eO (au 0 Mj) T.o_Asks aL (hr.mono (by decide)) aO (aa aB (aa (au 1 V2) (aa (au 2 V1) (aa (fG (K:=K) rfl (au 0 Mj)) ao))))))))),?_⟩
  walk_at "sts"
  have cl:=T.o_Asks.cl
  have na:=T.n_Asks
  obtain ⟨hl,dx,ty,hx,hT⟩:=id hA
  refine ⟨x,_,dx,_,_,rfl,hx,cl,na _ (by simp),rfl,?_⟩
  walk_at "sts"
  refine jD (by omega) (by omega) ?_
  walk_at "sts"
  refine ⟨x,_,dx,_,_,rfl,hx,cl,na _ (by simp),rfl,?_⟩
  walk_at "sts"
  refine jD (by omega) (by omega) ?_
  walk_at "sts"
  refine ⟨x,dx,_,rfl,hx,Bt (by decide+kernel),?_⟩
  walk_at "sts"
  refine ⟨x,_,dx,_,_,rfl,hx,cl,na _ (by simp),rfl,?_⟩
  walk_at "sts"
  refine ⟨x,t,m,f',0,b,c,f',rfl,hA,by omega,h3,h4,by omega,?_⟩
  walk_at "sts"
  exact q
def Ia (mg:Str→Option Value):Sp:=fun vs H Q _=>∃ (x:Addr) (t:List Nat) (m f a d:Nat),vs=[.ref x,.int a,.int d]∧Ak mg H x t m f∧a≤m∧d≤f∧Q (.int (rk t m a m 0 d)) H
theorem uo:aF ["self","first","end"] ["self","first","end"] (az dh):=⟨rfl,rfl,rfl,by decide+kernel,rfl,by decide+kernel,by decide+kernel⟩
theorem j5 (T:Txt K mg):kO P w K mg base 6 "Asks" "ending" ["self","first","end"] (Ia mg):=by
  have bh:=bh (P:=P) (w:=w) (base:=base) T
  have aL:=aL (P:=P) (w:=w) (base:=base) T
  refine pG T.m_Asks_ending uo (fun _ _ _ _ _ _ us hl=>L2.j8 (fun _ _ _=>rfl) us hl) ?_ fun f cdv A outer s H vs Q E hr h=>?_
  · rintro vs H Q E ⟨x,t,m,f',a,d,rfl,_⟩;rfl
  obtain ⟨x,t,m,f',a,d,rfl,hA,h3,h4,q⟩:=h
  have hu:=hr.units0
  have hu64:=hr.units
  refine ⟨_,(aA (aJ (cR bh (hr.mono (by decide)) (bB V6) aO (aa (au 1 V5) (aa aB (aa (fG (K:=K) rfl (au 0 Ml)) ao))) (by decide+kernel))) (aA (aJ (cR bh (hr.mono (by decide)) (bB V6) aO (aa (au 2 V4) (aa aB (aa (fG (K:=K) rfl (au 0 Ml)) ao))) (by decide+kernel))) (aC (aM (eO (au 0 Ml) T.o_Asks aL (hr.mono (by decide)) aO (aa (au 1 V5) (aa (fG (K:=K) rfl (au 0 Ml)) (aa aB (aa (au 2 V4) ao))))))))),?_⟩
  walk_at "sts"
  have cl:=T.o_Asks.cl
  have na:=T.n_Asks
  obtain ⟨hl,dx,ty,hx,hT⟩:=id hA
  refine ⟨x,_,dx,_,_,rfl,hx,cl,na _ (by simp),rfl,?_⟩
  walk_at "sts"
  refine jD (by omega) (by omega) ?_
  walk_at "sts"
  refine ⟨x,_,dx,_,_,rfl,hx,cl,na _ (by simp),rfl,?_⟩
  walk_at "sts"
  refine jD (by omega) (by omega) ?_
  walk_at "sts"
  refine ⟨x,dx,_,rfl,hx,Bt (by decide+kernel),?_⟩
  walk_at "sts"
  refine ⟨x,_,dx,_,_,rfl,hx,cl,na _ (by simp),rfl,?_⟩
  walk_at "sts"
  refine ⟨x,t,m,f',a,m,0,d,rfl,hA,h3,by omega,by omega,h4,?_⟩
  walk_at "sts"
  exact q
def Ib (mg:Str→Option Value):Sp:=fun vs H Q _=>∃ (x:Addr) (t:List Nat) (m f a b:Nat),vs=[.ref x,.int a,.int b]∧Ak mg H x t m f∧a≤b∧b≤m∧Q (.int (rk t m a b 0 f)) H
theorem uq:aF ["self","first","last"] ["self","first","last"] (az di):=⟨rfl,rfl,rfl,by decide+kernel,rfl,by decide+kernel,by decide+kernel⟩
theorem j6 (T:Txt K mg):kO P w K mg base 6 "Asks" "across" ["self","first","last"] (Ib mg):=by
  have cJ:=cJ (P:=P) (w:=w) (base:=base) T
  have aL:=aL (P:=P) (w:=w) (base:=base) T
  refine pG T.m_Asks_across uq (fun _ _ _ _ _ _ us hl=>L2.j8 (fun _ _ _=>rfl) us hl) ?_ fun f cdv A outer s H vs Q E hr h=>?_
  · rintro vs H Q E ⟨x,t,m,f',a,b,rfl,_⟩;rfl
  obtain ⟨x,t,m,f',a,b,rfl,hA,h3,h4,q⟩:=h
  have hu:=hr.units0
  have hu64:=hr.units
  refine ⟨_,(aA (aJ (cR cJ (hr.mono (by decide)) (bB kz53) aO (aa (au 1 V8) (aa (au 2 V7) (aa (fG (K:=K) rfl (au 0 Rh)) ao))) (by decide+kernel))) (aC (aM (eO (au 0 Rh) T.o_Asks aL (hr.mono (by decide)) aO (aa (au 1 V8) (aa (au 2 V7) (aa aB (aa (fG (K:=K) rfl (au 0 Rh)) ao)))))))),?_⟩
  walk_at "sts"
  have cl:=T.o_Asks.cl
  have na:=T.n_Asks
  obtain ⟨hl,dx,ty,hx,hT⟩:=id hA
  refine ⟨x,_,dx,_,_,rfl,hx,cl,na _ (by simp),rfl,?_⟩
  walk_at "sts"
  refine ⟨_,_,_,rfl,by omega,by omega,by omega,?_⟩
  walk_at "sts"
  refine ⟨x,dx,_,rfl,hx,Bt (by decide+kernel),?_⟩
  walk_at "sts"
  refine ⟨x,_,dx,_,_,rfl,hx,cl,na _ (by simp),rfl,?_⟩
  walk_at "sts"
  refine ⟨x,t,m,f',a,b,0,f',rfl,hA,by omega,h4,by omega,by omega,?_⟩
  walk_at "sts"
  exact q
def Sg (t:List Nat) (m f b:Nat):List Int:=(List.range (f+1 - b)).map fun i=>rk t m 0 m b (b+i)
def Rj (mg:Str→Option Value):Sp:=fun vs H Q _=>∃ (x:Addr) (t:List Nat) (m f b:Nat),vs=[.ref x,.int b]∧Ak mg H x t m f∧f≤96∧b≤f∧∀ q H',H q=none→Same H H'→H' q=some (.lst ((Sg t m f b).map V.int))→Q (.ref q) H'
theorem pM:aF ["self","begin"] ["self","begin"] (az bY):=⟨rfl,rfl,rfl,by decide+kernel,rfl,by decide+kernel,by decide+kernel⟩
theorem iz (T:Txt K mg):kO P w K mg base 7 "Asks" "table_row" ["self","begin"] (Rj mg):=by
  have bx:=bx (P:=P) (w:=w) (base:=base) T
  refine pG T.m_Asks_table_row pM (fun _ _ _ _ _ _ us hl=>L2.nj (fun _ _=>rfl) us hl) ?_ fun f cdv A outer s H vs Q E hr h=>?_
  · rintro vs H Q E ⟨x,t,m,f',b,rfl,_⟩;rfl
  obtain ⟨x,t,m,f',b,rfl,hA,hf,hb,q⟩:=h
  have hu:=hr.units0
  have hu64:=hr.units
  refine ⟨_,(aC (aM (gG (sub:=[none,some 0,some 1]) (b8 (N:=["self","begin"]) (sc:=az bY) (N':=["end","self","begin"]) (by decide+kernel)) rfl rfl rfl (p6 (bB kz54) T.b_range (aa (gB 1 kz56) (aa (bD aV (fG (K:=K) rfl (gB 0 kz55)) aB) ao))) (fun C s₀ H₀ ex=>(mK 0 (by decide+kernel) nG)) (fun C s₀ H₀ ex=>cX) (fun C s₀ H₀ ex=>(yg (mg:=mg) rfl (dz 1 (by decide+kernel)) T.o_Asks bx (hr.mono (by decide)) (mL fun _ _=>rfl) (aa (dz 2 (by decide+kernel)) (aa (gK 0 (by decide+kernel)) ao))))))),?_⟩
  walk_at "sts"
  have hsz:20000≤sizeLine:=by decide
  have cl:=T.o_Asks.cl
  have na:=T.n_Asks
  obtain ⟨hl,dx,ty,hx,hT⟩:=id hA
  refine ⟨x,_,dx,_,_,rfl,hx,cl,na _ (by simp),rfl,?_⟩
  walk_at "sts"
  refine ⟨⟨by omega,by omega,by omega,by omega⟩,?_⟩
  rw [show ((f':Int)+1 - (b:Int)).toNat=f'+1 - b by omega]
  refine qi (n:=f'+1 - b) (fun i=>.int (rk t m 0 m b (b+i))) (by omega) ?_ ?_
  · intro i hi
    walk_at "sts"
    refine ⟨KeepSt.set rfl,?_⟩
    walk_at "sts"
    refine ⟨x,dx,_,rfl,hx,Bt (by decide+kernel),?_⟩
    walk_at "sts"
    refine ⟨x,t,m,f',b,b+i,rfl,hA,by omega,by omega,?_⟩
    walk_at "sts"
    exact ⟨rfl,lH rfl⟩
  · intro D H' nD s hD
    try walk_at "sts"
    refine q D H' nD s ?_
    rw [hD]
    unfold Sg
    rw [List.map_map];rfl
end
section
variable {P:Program} {w:World} {K:PySem.W.Frag} {mg:Str→Option Value} {base:Heap}
theorem rQ:(["begin","self"]:List Str).Nodup:=by decide+kernel
theorem kz57:cu eV "range":=by decide+kernel
theorem kz58:zM eV "self":=by decide+kernel
def Wa (mg:Str→Option Value):Sp:=fun vs H Q _=>∃ (x:Addr) (t:List Nat) (m f:Nat),vs=[.ref x]∧Ak mg H x t m f∧f≤96∧∀ q rs H',H q=none→Same H H'→H' q=some (.lst rs)→CT H' rs (f+1) (Sg t m f)→(∀ r,V.ref r∈rs→H r=none)→Q (.ref q) H'
theorem uG:aF ["self"] ["self"] (az eV):=⟨rfl,rfl,rfl,by decide+kernel,rfl,by decide+kernel,by decide+kernel⟩
theorem lM (T:Txt K mg):kO P w K mg base 8 "Asks" "table" ["self"] (Wa mg):=by
  have iz:=iz (P:=P) (w:=w) (base:=base) T
  refine pG T.m_Asks_table uG (fun _ _ _ _ _ _ us hl=>L2.sH (fun _=>rfl) us hl) ?_ fun f cdv A outer s H vs Q E hr h=>?_
  · rintro vs H Q E ⟨x,t,m,f',rfl,_⟩;rfl
  obtain ⟨x,t,m,f',rfl,hA,hf,q⟩:=h
  have hu:=hr.units0
  have hu64:=hr.units
  refine ⟨_,(aC (aM (gG (sub:=[none,some 0]) (b8 (N:=["self"]) (sc:=az eV) (N':=["begin","self"]) (by decide+kernel)) rfl rfl rfl (dm (bB kz57) T.b_range (aa (bD aV (fG (K:=K) rfl (gB 0 kz58)) aB) ao)) (fun C s₀ H₀ ex=>(mK 0 (by decide+kernel) rQ)) (fun C s₀ H₀ ex=>cX) (fun C s₀ H₀ ex=>(yg (mg:=mg) rfl (dz 1 (by decide+kernel)) T.o_Asks iz (hr.mono (by decide)) (mL fun _ _=>rfl) (aa (gK 0 (by decide+kernel)) ao)))))),?_⟩
  walk_at "sts"
  have hsz:20000≤sizeLine:=by decide
  have cl:=T.o_Asks.cl
  have na:=T.n_Asks
  obtain ⟨hl,dx,ty,hx,hT⟩:=id hA
  refine ⟨x,_,dx,_,_,rfl,hx,cl,na _ (by simp),rfl,?_⟩
  walk_at "sts"
  refine ⟨_,rfl,by omega,by omega,?_⟩
  rw [show ((f':Int)+1).toNat=f'+1 by omega]
  refine eQ (n:=f'+1) (fun i ys G=>Same H G∧CT G ys i (Sg t m f')∧∀ r,V.ref r∈ys→H r=none) (by omega) ⟨Same.refl H,⟨rfl,fun k hk=>by omega⟩,fun r hr=>nomatch hr⟩ ?_ ?_ ?_
  · rintro i ys G ⟨_,h,_⟩
    exact Nat.le_of_eq h.1
  · rintro i ys G hi ⟨s,hC,hN⟩
    rw [Int.zero_add]
    walk_at "sts"
    refine ⟨KeepSt.set rfl,?_⟩
    walk_at "sts"
    refine ⟨x,dx,_,rfl,s _ _ hx,Bt (by decide+kernel),?_⟩
    walk_at "sts"
    refine ⟨x,t,m,f',i,rfl,hA.same s,hf,by omega,fun p G2 np s2 hp=>?_⟩
    walk_at "sts"
    refine ⟨s.trans s2,(hC.same s2).push hp,fun r hr=>(List.mem_append.mp hr).elim (hN r) fun hr=>?_⟩
    simp only [List.mem_cons,List.mem_nil_iff,or_false] at hr
    cases hr
    exact Same.back s np
  · rintro ys G D G2 ⟨s,hC,hN⟩ nD s2 hD
    try walk_at "sts"
    exact q D ys G2 (Same.back s nD) (s.trans s2) hD (hC.same s2) hN
end
section
variable {P:Program} {w:World} {K:PySem.W.Frag} {mg:Str→Option Value} {base:Heap}
def Rule (m far:Nat) (e:Nat→Nat→Bool) (C:Nat→Nat→Bool):Prop:=∀ i j,i < m→j < far→C i j=(e i j || decide (gD m C j i < gA m C i j))
theorem pN {m:Nat} {C:Nat→Nat→Bool}:∀ n i j,i+j≤n→(i≤m→gD m C j i≤m+j)∧(i < m→gA m C i j < m+j)
  | n,0,0,_=>by rw [jt,gJ];omega
  | 0,0,j+1,h=>absurd h (by omega)
  | 0,i+1,j,h=>absurd h (by omega)
  | n+1,0,j+1,h=>by
    have h1:=pN (m:=m) (C:=C) n 0 j (by omega)
    refine ⟨fun _=>by rw [jt];omega,fun hi=>?_⟩
    rw [iB]
    have a:=h1.1 (by omega)
    have b:=h1.2 hi
    split <;> omega
  | n+1,i+1,0,h=>by
    have h1:=pN (m:=m) (C:=C) n i 0 (by omega)
    refine ⟨fun hi=>?_,fun hi=>by rw [gJ];omega⟩
    rw [fY]
    have a:=h1.1 (by omega)
    have b:=h1.2 (by omega)
    split <;> omega
  | n+1,i+1,j+1,h=>by
    have h1:=pN (m:=m) (C:=C) n (i+1) j (by omega)
    have h2:=pN (m:=m) (C:=C) n i (j+1) (by omega)
    refine ⟨fun hi=>?_,fun hi=>?_⟩
    · rw [fY]
      have a:=h2.1 (by omega)
      have b:=h2.2 (by omega)
      split <;> omega
    · rw [iB]
      have a:=h1.1 (by omega)
      have b:=h1.2 hi
      split <;> omega
def cn (m:Nat) (C:Nat→Nat→Bool) (i B:Nat):Nat→Nat
  | 0=>0
  | e+1=>cn m C i B e+(if B≤gD m C e i then 1 else 0)
theorem Bu {m:Nat} {C:Nat→Nat→Bool} {i B:Nat} (hB:m≤B) (hi:i < m):∀ e,cn m C (i+1) B e+(if B≤gA m C i e then 1 else 0)=cn m C i B e
  | 0=>by
    show 0+_=0
    rw [gJ,if_neg (by omega)]
  | e+1=>by
    have ih:=Bu (C:=C) hB hi e
    show cn m C (i+1) B e+(if B≤gD m C e (i+1) then 1 else 0)+(if B≤gA m C i (e+1) then 1 else 0)=cn m C i B e+(if B≤gD m C e i then 1 else 0)
    rw [fY,iB]
    by_cases hC:C i e=true
    · rw [if_pos hC,if_pos hC];omega
    · rw [if_neg hC,if_neg hC];omega
theorem wD {m:Nat} {C:Nat→Nat→Bool} {i b:Nat} (hi:i≤m):∀ e,e≤b→cn m C i (m+b) e=0
  | 0,_=>rfl
  | e+1,h=>by
    show cn m C i (m+b) e+_=0
    have:=(pN (m:=m) (C:=C) (i+e) i e (Nat.le_refl _)).1 hi
    rw [wD hi e (by omega),if_neg (by omega)]
theorem yE {m:Nat} {C:Nat→Nat→Bool} {B:Nat} (b:Nat) (hB:B=m+b):∀ k,cn m C 0 B (b+k)=k
  | 0=>by rw [hB];exact wD (by omega) b (Nat.le_refl _)
  | k+1=>by
    show cn m C 0 B (b+k)+(if B≤gD m C (b+k) 0 then 1 else 0)=k+1
    rw [yE b hB k,jt,if_pos (by omega)]
def Rk (i j:Int):Int:=if j > i then j else i
def tb (e:Nat→Nat→Bool) (b:Nat):Nat→Nat→Int
  | 0,_=>0
  | _+1,0=>0
  | i+1,k+1=>if e i (b+k)=true then tb e b i k+1 else Rk (tb e b (i+1) k) (tb e b i (k+1))
termination_by i k=>i+k
theorem z9 (e:Nat→Nat→Bool) (b k:Nat):tb e b 0 k=0:=by rw [tb]
theorem Aa (e:Nat→Nat→Bool) (b i:Nat):tb e b i 0=0:=by cases i <;> rw [tb]
theorem yF (e:Nat→Nat→Bool) (b i k:Nat):tb e b (i+1) (k+1)=if e i (b+k)=true then tb e b i k+1 else Rk (tb e b (i+1) k) (tb e b i (k+1)):=by rw [tb]
theorem pO {m far:Nat} {e C:Nat→Nat→Bool} (h:Rule m far e C) (b:Nat):∀ i,i≤m→∀ k,b+k≤far→tb e b i k+(cn m C i (m+b) (b+k):Nat)=k
  | 0,_,k,_=>by rw [z9,yE b rfl];omega
  | i+1,hi,0,_=>by
    rw [Aa,wD hi _ (by omega)];rfl
  | i+1,hi,k+1,hk=>by
    have h1:=pO h b i (by omega) k (by omega)
    have h2:=pO h b i (by omega) (k+1) hk
    have h3:=pO h b (i+1) hi k (by omega)
    have r:=h i (b+k) (by omega) (by omega)
    have kp:=Bu (m:=m) (C:=C) (i:=i) (B:=m+b) (by omega) (by omega) (b+k)
    rw [yF]
    have e2:cn m C i (m+b) (b+(k+1))=cn m C i (m+b) (b+k)+(if m+b≤gD m C (b+k) i then 1 else 0):=rfl
    have e3:cn m C (i+1) (m+b) (b+(k+1))=cn m C (i+1) (m+b) (b+k)+(if m+b≤gD m C (b+k) (i+1) then 1 else 0):=rfl
    rw [e2] at h2
    rw [e3,fY]
    by_cases he:e i (b+k)=true
    · rw [he,Bool.true_or] at r
      rw [if_pos he,if_pos r]
      omega
    · have he':e i (b+k)=false:=by simpa using he
      rw [he',Bool.false_or] at r
      rw [if_neg he]
      by_cases hg:gD m C (b+k) i < gA m C i (b+k)
      · have hC:C i (b+k)=true:=by rw [r];exact decide_eq_true hg
        rw [if_pos hC]
        unfold Rk
        by_cases c1:m+b≤gA m C i (b+k)
        · rw [if_pos c1] at kp ⊢
          by_cases c2:m+b≤gD m C (b+k) i
          · rw [if_pos c2] at h2
            split <;> omega
          · rw [if_neg c2] at h2
            split <;> omega
        · rw [if_neg c1] at kp ⊢
          rw [if_neg (by omega)] at h2
          split <;> omega
      · have hC:¬ C i (b+k)=true:=by rw [r,decide_eq_false hg];decide
        rw [if_neg hC]
        unfold Rk
        by_cases c2:m+b≤gD m C (b+k) i
        · rw [if_pos c2] at h2 ⊢
          by_cases c1:m+b≤gA m C i (b+k)
          · rw [if_pos c1] at kp
            split <;> omega
          · rw [if_neg c1] at kp
            split <;> omega
        · rw [if_neg c2] at h2 ⊢
          rw [if_neg (by omega)] at kp
          split <;> omega
theorem pP {m:Nat} {C:Nat→Nat→Bool}:∀ n i j,i+j≤n→(i≤m→m - i≤gD m C j i)∧(i < m→m - 1 - i≤gA m C i j)
  | n,0,0,_=>by rw [jt,gJ];omega
  | 0,0,j+1,h=>absurd h (by omega)
  | 0,i+1,j,h=>absurd h (by omega)
  | n+1,0,j+1,h=>by
    have h1:=pP (m:=m) (C:=C) n 0 j (by omega)
    refine ⟨fun _=>by rw [jt];omega,fun hi=>?_⟩
    rw [iB]
    have a:=h1.1 (by omega)
    have b:=h1.2 hi
    split <;> omega
  | n+1,i+1,0,h=>by
    have h1:=pP (m:=m) (C:=C) n i 0 (by omega)
    refine ⟨fun hi=>?_,fun hi=>by rw [gJ];omega⟩
    rw [fY]
    have a:=h1.1 (by omega)
    have b:=h1.2 (by omega)
    split <;> omega
  | n+1,i+1,j+1,h=>by
    have h1:=pP (m:=m) (C:=C) n (i+1) j (by omega)
    have h2:=pP (m:=m) (C:=C) n i (j+1) (by omega)
    refine ⟨fun hi=>?_,fun hi=>?_⟩
    · rw [fY]
      have a:=h2.1 (by omega)
      have b:=h2.2 (by omega)
      split <;> omega
    · rw [iB]
      have a:=h1.1 (by omega)
      have b:=h1.2 hi
      split <;> omega
theorem ur {m:Nat} {C:Nat→Nat→Bool} {i B:Nat} (hB:m≤B+i) (hi:i < m):∀ e,cn m C (i+1) B e+(if B≤gA m C i e then 1 else 0)=cn m C i B e
  | 0=>by
    show 0+_=0
    rw [gJ,if_neg (by omega)]
  | e+1=>by
    have ih:=ur (C:=C) hB hi e
    show cn m C (i+1) B e+(if B≤gD m C e (i+1) then 1 else 0)+(if B≤gA m C i (e+1) then 1 else 0)=cn m C i B e+(if B≤gD m C e i then 1 else 0)
    rw [fY,iB]
    by_cases hC:C i e=true
    · rw [if_pos hC,if_pos hC];omega
    · rw [if_neg hC,if_neg hC];omega
theorem Bv {m:Nat} {C:Nat→Nat→Bool} {a:Nat} (ha:a≤m):∀ e,cn m C a (m - a) e=e
  | 0=>rfl
  | e+1=>by
    show cn m C a (m - a) e+_=e+1
    have:=(pP (m:=m) (C:=C) (a+e) a e (Nat.le_refl _)).1 ha
    rw [Bv ha e,if_pos this]
theorem su {m far:Nat} {e C:Nat→Nat→Bool} (h:Rule m far e C) {a:Nat} (ha:a≤m):∀ i,a+i≤m→∀ k,k≤far→tb (fun i j=>e (a+i) j) 0 i k+(cn m C (a+i) (m - a) k:Nat)=k
  | 0,_,k,_=>by rw [z9,Nat.add_zero,Bv ha];omega
  | i+1,hi,0,_=>by rw [Aa];rfl
  | i+1,hi,k+1,hk=>by
    have h1:=su h ha i (by omega) k (by omega)
    have h2:=su h ha i (by omega) (k+1) hk
    have h3:=su h ha (i+1) hi k (by omega)
    have r:=h (a+i) k (by omega) (by omega)
    have kp:=ur (m:=m) (C:=C) (i:=a+i) (B:=m - a) (by omega) (by omega) k
    rw [yF,Nat.zero_add]
    rw [← Nat.add_assoc] at h3 ⊢
    have e2:cn m C (a+i) (m - a) (k+1)=cn m C (a+i) (m - a) k+(if m - a≤gD m C k (a+i) then 1 else 0):=rfl
    have e3:cn m C (a+i+1) (m - a) (k+1)=cn m C (a+i+1) (m - a) k+(if m - a≤gD m C k (a+i+1) then 1 else 0):=rfl
    rw [e2] at h2
    rw [e3,fY]
    by_cases he:e (a+i) k=true
    · rw [he,Bool.true_or] at r
      rw [if_pos he,if_pos r]
      omega
    · have he':e (a+i) k=false:=by simpa using he
      rw [he',Bool.false_or] at r
      rw [if_neg he]
      by_cases hg:gD m C k (a+i) < gA m C (a+i) k
      · have hC:C (a+i) k=true:=by rw [r];exact decide_eq_true hg
        rw [if_pos hC]
        unfold Rk
        by_cases c1:m - a≤gA m C (a+i) k
        · rw [if_pos c1] at kp ⊢
          by_cases c2:m - a≤gD m C k (a+i)
          · rw [if_pos c2] at h2
            split <;> omega
          · rw [if_neg c2] at h2
            split <;> omega
        · rw [if_neg c1] at kp ⊢
          rw [if_neg (by omega)] at h2
          split <;> omega
      · have hC:¬ C (a+i) k=true:=by rw [r,decide_eq_false hg];decide
        rw [if_neg hC]
        unfold Rk
        by_cases c2:m - a≤gD m C k (a+i)
        · rw [if_pos c2] at h2 ⊢
          by_cases c1:m - a≤gA m C (a+i) k
          · rw [if_pos c1] at kp
            split <;> omega
          · rw [if_neg c1] at kp
            split <;> omega
        · rw [if_neg c2] at h2 ⊢
          rw [if_neg (by omega)] at kp
          split <;> omega
end
section
variable {P:Program} {w:World} {K:PySem.W.Frag} {mg:Str→Option Value} {base:Heap}
def yG (m far:Nat) (C:Nat→Nat→Bool) (p:Nat):Nat:=if p < far then gD m C p m else gA m C (m+far - 1 - p) far
theorem Ie {m far:Nat} {C:Nat→Nat→Bool} {R:List Int} (hR:oJ m C far R) {p:Nat} (hp:p < m+far):R[yG m far C p]?=some (p:Int):=by
  obtain ⟨h1,h2,h3⟩:=hR
  unfold yG
  by_cases h:p < far
  · rw [if_pos h];exact h2 p h
  · rw [if_neg h,h3 _ (by omega)]
    congr 1
    omega
theorem Dw {m:Nat} {C:Nat→Nat→Bool} {far l:Nat} (h:l < m+far):∃ p,p < m+far∧yG m far C p=l:=by
  have:=(ql (m:=m) (C:=C) far).mem_iff.mpr (List.mem_range.mpr h)
  rcases List.mem_append.mp this with h | h
  · obtain ⟨i,hi,e⟩:=List.mem_map.mp h
    have hi:=List.mem_range.mp hi
    refine ⟨m+far - 1 - i,by omega,?_⟩
    unfold yG
    rw [if_neg (by omega),show m+far - 1 - (m+far - 1 - i)=i by omega]
    exact e
  · obtain ⟨i,hi,e⟩:=List.mem_map.mp h
    have hi:=List.mem_range.mp hi
    refine ⟨i,by omega,?_⟩
    unfold yG
    rw [if_pos hi];exact e
theorem Rm {m far:Nat} {C:Nat→Nat→Bool} {R:List Int} (hR:oJ m C far R):R.Perm ((List.range (m+far)).map fun k=>((k:Nat):Int)):=by
  have hnd:((List.range (m+far)).map fun k=>((k:Nat):Int)).Nodup:=by
    rw [List.nodup_iff_pairwise_ne,List.pairwise_map]
    exact List.nodup_range.imp fun h e=>h (by omega)
  have at_:∀ l,l < m+far→∃ p,p < m+far∧yG m far C p=l∧R[l]?=some (p:Int):=fun l hl=>by
    obtain ⟨p,hp,e⟩:=Dw (m:=m) (C:=C) (far:=far) hl
    exact ⟨p,hp,e,by rw [← e];exact Ie hR hp⟩
  have hRn:R.Nodup:=by
    rw [List.nodup_iff_pairwise_ne,List.pairwise_iff_getElem]
    intro i j hi hj hij e
    rw [hR.1] at hi hj
    obtain ⟨p,_,e1,e2⟩:=at_ i hi
    obtain ⟨p',_,e3,e4⟩:=at_ j hj
    rw [List.getElem?_eq_getElem (by rw [hR.1];exact hi)] at e2
    rw [List.getElem?_eq_getElem (by rw [hR.1];exact hj)] at e4
    rw [e,Option.some.inj e4] at e2
    have:p'=p:=by have:=Option.some.inj e2;omega
    rw [this,e1] at e3
    omega
  refine (List.perm_ext_iff_of_nodup hRn hnd).mpr fun x=>⟨fun hx=>?_,fun hx=>?_⟩
  · obtain ⟨l,hl,e⟩:=List.mem_iff_getElem.mp hx
    rw [hR.1] at hl
    obtain ⟨p,hp,_,e2⟩:=at_ l hl
    rw [List.getElem?_eq_getElem (by rw [hR.1];exact hl),e] at e2
    rw [Option.some.inj e2]
    exact List.mem_map.mpr ⟨p,List.mem_range.mpr hp,rfl⟩
  · obtain ⟨p,hp,rfl⟩:=List.mem_map.mp hx
    exact List.mem_of_getElem? (Ie hR (List.mem_range.mp hp))
theorem Bw (z y:Str):Rule (mS z) (mS y) (fun i j=>decide (z.cps.getD i 0=y.cps.getD j 0)) (CB z y):=fun i j hi hj=>Ln (side:=z) (top:=y) hi hj
theorem yH {e e':Nat→Nat→Bool} {b b' m n:Nat} (h:∀ i k,i < m→k < n→e i (b+k)=e' i (b'+k)):∀ i,i≤m→∀ k,k≤n→tb e b i k=tb e' b' i k
  | 0,_,k,_=>by rw [z9,z9]
  | i+1,hi,0,_=>by rw [Aa,Aa]
  | i+1,hi,k+1,hk=>by
    rw [yF,yF,yH h i (by omega) k (by omega),yH h (i+1) hi k (by omega),yH h i (by omega) (k+1) hk,h i k (by omega) (by omega)]
theorem Rn {m far:Nat} {C:Nat→Nat→Bool} {R:List Int} (hR:oJ m C far R) (hle:m+far≤96):∃ t:List Nat,R=nI t∧Prm t∧t.length=m+far∧∀ p,p < m+far→t[yG m far C p]?=some p:=by
  have hp:=Rm hR
  have hpos:∀ x∈R,0≤x:=fun x hx=>by
    obtain ⟨k,_,rfl⟩:=List.mem_map.mp (hp.mem_iff.mp hx)
    omega
  have e:R=nI (R.map Int.toNat):=by
    unfold nI
    rw [List.map_map]
    refine (List.map_id R).symm.trans (List.map_congr_left fun x hx=>?_)
    have:=hpos x hx
    show x=((x.toNat:Nat):Int)
    omega
  have hl:(R.map Int.toNat).length=m+far:=by rw [List.length_map,hR.1]
  refine ⟨R.map Int.toNat,e,⟨by omega,?_⟩,hl,fun p hp2=>?_⟩
  · rw [hl]
    have:=hp.map Int.toNat
    rw [List.map_map] at this
    refine this.trans (List.Perm.of_eq ?_)
    refine (List.map_congr_left fun k _=>?_).trans (List.map_id _)
    show ((k:Nat):Int).toNat=k
    omega
  · rw [List.getElem?_map,Ie hR hp2];rfl
def cm (m far:Nat) (C:Nat→Nat→Bool) (B:Nat):Nat→Nat
  | 0=>0
  | p+1=>cm m far C B p+(if B≤yG m far C p then 1 else 0)
theorem sy {m far:Nat} {C:Nat→Nat→Bool} {B:Nat}:∀ q,q≤far→cm m far C B q=cn m C m B q
  | 0,_=>rfl
  | q+1,h=>by
    show cm m far C B q+_=cn m C m B q+_
    rw [sy q (by omega)]
    unfold yG
    rw [if_pos (show q < far by omega)]
theorem wF {m far:Nat} {C:Nat→Nat→Bool} {B:Nat}:∀ s,s≤m→m≤B+(m - s)→cm m far C B (far+s)=cn m C (m - s) B far
  | 0,_,_=>sy far (Nat.le_refl _)
  | s+1,h,hB=>by
    have ea:yG m far C (far+s)=gA m C (m - (s+1)) far:=by
      unfold yG
      rw [if_neg (by omega),show m+far - 1 - (far+s)=m - (s+1) by omega]
    show cm m far C B (far+s)+(if B≤yG m far C (far+s) then 1 else 0)=_
    have kp:=ur (m:=m) (C:=C) (i:=m - (s+1)) (B:=B) hB (by omega) far
    rw [show m - (s+1)+1=m - s by omega] at kp
    rw [ea,wF s (by omega) (by omega)]
    exact kp
theorem Ab {t:List Nat} (hn:t.Nodup) {l q B:Nat} (h:t[l]?=some q):(t.drop B).count q=if B≤l then 1 else 0:=by
  have hd:(t.drop B).Nodup:=hn.sublist (List.drop_sublist B t)
  by_cases hB:B≤l
  · rw [if_pos hB]
    have hm:q∈t.drop B:=List.mem_of_getElem? (i:=l - B) (by rw [List.getElem?_drop,show B+(l - B)=l by omega];exact h)
    have h1:=List.nodup_iff_count.mp hd q
    have h2:=List.count_pos_iff.mpr hm
    omega
  · rw [if_neg hB]
    refine List.count_eq_zero.mpr fun hm=>?_
    obtain ⟨i,hi⟩:=List.getElem?_of_mem hm
    rw [List.getElem?_drop] at hi
    have e1:=Hm hn h
    have e2:=Hm hn hi
    omega
theorem uH (u:List Nat) (q:Nat):u.countP (fun x=>decide (x < q+1))=u.countP (fun x=>decide (x < q))+u.count q:=by
  induction u with
  | nil=>rfl
  | cons x u ih=>
    rw [List.countP_cons,List.countP_cons,List.count_cons,ih]
    by_cases h1:x < q
    · have:x < q+1:=by omega
      have:¬ x=q:=by omega
      simp [*];omega
    · by_cases h2:x=q
      · subst h2
        simp;omega
      · have:¬ x < q+1:=by omega
        simp [*]
theorem Ac {m far:Nat} {C:Nat→Nat→Bool} {t:List Nat} (hn:t.Nodup) (ht:∀ p,p < m+far→t[yG m far C p]?=some p) (B:Nat):∀ q,q≤m+far→zY t B q=cm m far C B q
  | 0,_=>by unfold zY cm;simp
  | q+1,h=>by
    have ih:=Ac hn ht B q (by omega)
    unfold zY at ih ⊢
    rw [uH,ih,Ab hn (ht q (by omega))]
    rfl
theorem Ro {m far:Nat} {e C:Nat→Nat→Bool} (h:Rule m far e C) {t:List Nat} (hn:t.Nodup) (ht:∀ p,p < m+far→t[yG m far C p]?=some p) {b c d:Nat} (hb:b≤m) (hc:c≤d) (hd:d≤far) (hw:b=m∨d=far):rk t m 0 b c d=tb e c b (d - c):=by
  unfold rk
  have h1:=pO h c b hb (d - c) (by omega)
  rw [show c+(d - c)=d by omega] at h1
  rw [Nat.sub_zero,Ac hn ht _ _ (by omega)]
  have h2:cm m far C (m+c) (m - b+d)=cn m C b (m+c) d:=by
    rcases hw with rfl | rfl
    · rw [Nat.sub_self,Nat.zero_add];exact sy d hd
    · rw [show m - b+d=d+(m - b) by omega,wF (m - b) (by omega) (by omega),show m - (m - b)=b by omega]
  rw [h2]
  omega
theorem Mp {m far:Nat} {e C:Nat→Nat→Bool} (h:Rule m far e C) {t:List Nat} (hn:t.Nodup) (ht:∀ p,p < m+far→t[yG m far C p]?=some p) {a b d:Nat} (hab:a≤b) (hb:b≤m) (hd:d≤far) (hw:b=m∨d=far):rk t m a b 0 d=tb (fun i j=>e (a+i) j) 0 (b - a) d:=by
  unfold rk
  have h1:=su h (a:=a) (by omega) (b - a) (by omega) d hd
  rw [show a+(b - a)=b by omega] at h1
  rw [Nat.add_zero,Ac hn ht _ _ (by omega)]
  have h2:cm m far C (m - a) (m - b+d)=cn m C b (m - a) d:=by
    rcases hw with rfl | rfl
    · rw [Nat.sub_self,Nat.zero_add];exact sy d hd
    · rw [show m - b+d=d+(m - b) by omega,wF (m - b) (by omega) (by omega),show m - (m - b)=b by omega]
  rw [h2]
  omega
end
section
variable {P:Program} {w:World} {K:PySem.W.Frag} {mg:Str→Option Value} {base:Heap}
theorem kz59:cu gn "Asks":=by decide+kernel
theorem kz5a:cu gn "len":=by decide+kernel
theorem Wb:aN gn "side":=by decide+kernel
theorem kz5c:cu gn "Board":=by decide+kernel
theorem kz5d:aN gn "top":=by decide+kernel
theorem Rp:aN ie "_law_script":=by decide+kernel
theorem kz5f:aN ie "_law_k":=by decide+kernel
theorem Wc:cu ie "len":=by decide+kernel
theorem Mq:aN bQ "_law_found":=by decide+kernel
theorem kz5i:aN bQ "_law_bases":=by decide+kernel
theorem Mr:aN bQ "_law_base":=by decide+kernel
theorem Wd:aN bQ "_law_great":=by decide+kernel
theorem Ig:aN bQ "_law_cell_here":=by decide+kernel
theorem Ih:aN bQ "_law_number":=by decide+kernel
theorem Rq:aN bQ "_law_prime":=by decide+kernel
theorem We:cu d8 "isinstance":=by decide+kernel
theorem kz5p:cu d8 "bool":=by decide+kernel
theorem Wf:aN d8 "_law_thing":=by decide+kernel
theorem kz5r:cu d8 "int":=by decide+kernel
def AkB (mg:Str→Option Value) (H:Hp) (x:Addr) (z y:Str):Prop:=∃ t,Ak mg H x t (mS z) (mS y)∧Prm t∧t.length=mS z+mS y∧∀ p,p < mS z+mS y→t[yG (mS z) (mS y) (CB z y) p]?=some p
theorem AkB.same {H H':Hp} {x:Addr} {z y:Str} (h:AkB mg H x z y) (s:Same H H'):AkB mg H' x z y:=by
  obtain ⟨t,h1,h2⟩:=h
  exact ⟨t,h1.same s,h2⟩
def Ii (mg:Str→Option Value):Sp:=fun vs H Q _=>∃ (z y:Str),vs=[.str z,.str y]∧qu z∧qu y∧∀ x H',Same H H'→AkB mg H' x z y→Q (.ref x) H'
theorem Ad:aF ["side","top"] ["side","top"] (az gn):=⟨rfl,rfl,rfl,by decide+kernel,rfl,by decide+kernel,by decide+kernel⟩
theorem m9 (T:Txt K mg):n8 P w K mg base 10 "asks_of" ["side","top"] (Ii mg):=by
  have jm:=jm (P:=P) (w:=w) (base:=base) T
  have jW:=jW (P:=P) (w:=w) (base:=base) T
  have iu:=iu (P:=P) (w:=w) (base:=base) T
  refine iC T.d_asks_of Ad (fun _ _ _ _ _ _ us hl=>L2.nj (fun _ _=>rfl) us hl) ?_ fun f cdv A outer s H vs Q E hr h=>?_
  · rintro vs H Q E ⟨z,y,rfl,_⟩;rfl
  obtain ⟨z,y,rfl,rz,ry,q⟩:=h
  have hu:=hr.units0
  have hu64:=hr.units
  refine ⟨_,(aC (aM (v4 T.o_Asks jm (hr.mono (by decide)) (bB kz59) (mL fun _ _=>rfl) (aa (yf (v4 T.o_Board iu (hr.mono (by decide)) (bB kz5c) (mL fun _ _=>rfl) (aa (au 0 Wb) (aa (au 1 kz5d) ao)) (by decide+kernel)) T.o_Board jW (hr.mono (by decide)) (mL fun _ _=>rfl)) (aa (aX (aZ (K:=K) rfl) (bB kz5a) T.b_len cN (aa (au 0 Wb) ao) (by decide+kernel) (by decide+kernel)) ao)) (by decide+kernel)))),?_⟩
  walk_at "sts"
  have hsz:20000≤sizeLine:=by decide
  have hzl:=rz.1
  have hyl:=ry.1
  have ez:z.length=mS z:=rfl
  have ey:y.length=mS y:=rfl
  have lz:z.length≤sizeLine:=by omega
  rintro b0 db0 nx nd _
  refine ⟨b0,db0,.str z,.str y,rfl,aj,vg rz,vg ry,(fun w hw=>by rw [Le rz ry] at hw;cases hw),fun s' t' hq1 hq2 hs' ht' H1 C B0=>⟨rfl,?_⟩⟩
  obtain rfl:z=s':=by injection hq1
  obtain rfl:y=t':=by injection hq2
  have S1:=made nx nd C
  obtain ⟨_,_,e0,_,_,_,_,hb0,hO⟩:=id B0
  clear C hq1 hq2 hs' ht' nx nd hO
  walk_at "sts"
  refine ⟨b0,e0,_,rfl,hb0,bdM (by decide+kernel),?_⟩
  walk_at "sts"
  refine ⟨b0,z,y,rfl,B0,fun pl R H2 _ S2 hE hpl=>?_⟩
  walk_at "sts"
  obtain ⟨t,rfl,hP,hl,ht⟩:=Rn hE (by omega)
  refine jT lz ?_
  walk_at "sts"
  rintro x dx nx nd _
  refine ⟨x,dx,pl,t,mS z,mS y,rfl,aj,.inl (Mh nx nd hpl).1,hP,hl.symm,fun H3 C3 A3=>⟨rfl,?_⟩⟩
  walk_at "sts"
  exact q x _ (S1.trans (S2.trans (made nx nd C3))) ⟨t,A3.ak,hP,hl,ht⟩
def Wg (K:PySem.W.Frag):Sp:=fun vs H Q _=>∃ (a:Addr) (ns:List Int) (k:Nat),vs=[.ref a,.int k]∧SqL K H a (ns.map V.int)∧∀ n,Q (.int n) H
theorem yI:aF ["_law_script","_law_k"] ["_law_script","_law_k"] (az ie):=⟨rfl,rfl,rfl,by decide+kernel,rfl,by decide+kernel,by decide+kernel⟩
theorem gj (T:Txt K mg):n8 P w K mg base 1 "_law_cell" ["_law_script","_law_k"] (Wg K):=by
  refine iC T.d_law_cell yI (fun _ _ _ _ _ _ us hl=>L2.nj (fun _ _=>rfl) us hl) ?_ fun f cdv A outer s H vs Q E hr h=>?_
  · rintro vs H Q E ⟨a,ns,k,rfl,_⟩;rfl
  obtain ⟨a,ns,k,rfl,hS,q⟩:=h
  have hu:=hr.units0
  have hu64:=hr.units
  refine ⟨_,(aA (dq (cO (gH (K:=K) rfl hu64) (aX (aZ (K:=K) rfl) (bB Wc) T.b_len cN (aa (au 0 Rp) ao) (by decide+kernel) (by decide+kernel)) aB (by first | exact bT _ | with_unfolding_all rfl)) (aC (aM aB)) c7) (aC (aM (bZ (K:=K) rfl (au 0 Rp) (bD lw (au 1 kz5f) (aX (aZ (K:=K) rfl) (bB Wc) T.b_len cN (aa (au 0 Rp) ao) (by decide+kernel) (by decide+kernel))))))),?_⟩
  walk_at "sts"
  refine jg hS ?_
  walk_at "sts"
  rw [List.length_map]
  refine kE (fun h=>?_) (fun h=>?_)
  · walk_at "sts"
    exact q _
  · have hl:0 < ns.length:=by
      have:¬ (ns.length:Int)=0:=fun z=>h (by rw [z])
      omega
    walk_at "sts"
    refine jg hS ?_
    walk_at "sts"
    rw [List.length_map]
    refine ⟨_,_,rfl,rfl,(show (0:Int) < (ns.length:Int) by omega),?_⟩
    walk_at "sts"
    obtain ⟨v,hv,e⟩:=T8 (vs:=ns.map V.int) (d:=(k:Int) % (ns.length:Int)) (Int.emod_nonneg _ (by omega)) (by rw [List.length_map];exact Int.emod_lt_of_pos _ (by omega))
    obtain ⟨n,_,rfl⟩:=List.mem_map.mp hv
    refine bR hS e ?_
    walk_at "sts"
    exact q _
def Fits (ms bs:List Int):Prop:=ms.length=bs.length∧∀ (i:Nat) (m b:Int),ms[i]?=some m→bs[i]?=some b→0≤m∧m < b
theorem Fits.push {ms bs:List Int} {k:Nat} {m b:Int} (h:Fits ms (bs.take k)) (hb:bs[k]?=some b) (h0:0≤m) (h1:m < b):Fits (ms ++ [m]) (bs.take (k+1)):=by
  have hk:k < bs.length:=(List.getElem?_eq_some_iff.mp hb).1
  have hl:ms.length=k:=by rw [h.1,List.length_take];omega
  refine ⟨by simp;omega,fun i m' b' e1 e2=>?_⟩
  by_cases hi:i < k
  · rw [List.getElem?_append_left (by omega)] at e1
    rw [List.getElem?_take_of_lt (by omega)] at e2
    exact h.2 i m' b' e1 (by rw [List.getElem?_take_of_lt hi];exact e2)
  · have hi2:i < k+1:=by have:=(List.getElem?_eq_some_iff.mp e1).1;simp at this;omega
    obtain rfl:i=k:=by omega
    rw [List.getElem?_append_right (by omega),hl,Nat.sub_self] at e1
    rw [List.getElem?_take_of_lt (by omega),hb] at e2
    cases e1;cases e2
    exact ⟨h0,h1⟩
def Rr:Sp:=fun vs H Q _=>∃ (n:Int) (b:Addr) (bs:List Int) (pr:Int),vs=[.int n,.ref b,.int pr]∧H b=some (.lst (bs.map V.int))∧bs.length≤100∧(∀ x∈bs,0 < x∧x < 1073741824)∧2147000000 < pr∧pr < 2147490000∧
  ∀ (q:Addr) (ms:List Int) (H':Hp),H q=none→Same H H'→H' q=some (.lst (ms.map V.int))→Fits ms bs→Q (.ref q) H'
theorem cQ:aF ["_law_cell_here","_law_bases","_law_prime","_law_great","_law_number","_law_found","_law_base"] ["_law_cell_here","_law_bases","_law_prime"] (az bQ):=⟨rfl,rfl,rfl,by decide+kernel,rfl,by decide+kernel,by decide+kernel⟩
theorem bA (T:Txt K mg):n8 P w K mg base 1 "_law_numbers" ["_law_cell_here","_law_bases","_law_prime"] Rr:=by
  refine iC T.d_law_numbers cQ (fun _ _ _ _ _ _ us hl=>L2.j8 (fun _ _ _=>rfl) us hl) ?_ fun f cdv A outer s H vs Q E hr h=>?_
  · rintro vs H Q E ⟨n,b,bs,pr,rfl,_⟩;rfl
  obtain ⟨n,b,bs,pr,rfl,hb,hlen,hbs,hp0,hp1,q⟩:=h
  have hu:=hr.units0
  have hu64:=hr.units
  refine ⟨_,(aA (aP (i:=3) cQ.nd rfl (Or.inl Wd) (xN SX (au 0 Ig) (bD Ou aB aB) (by first | exact bT _ | with_unfolding_all rfl)) rfl) (aA (aP (i:=4) cQ.nd rfl (Or.inl Ih) (bD aV (bD lw (bD jq (bD lw (au 0 Ig) (au 2 Rq)) aB) (au 2 Rq)) aB) rfl) (aA (aP (i:=5) cQ.nd rfl (Or.inl Mq) (dX ao) rfl) (aA (dY PassesOwn.never rfl (jU (K:=K) rfl (au 1 kz5i)) (aG (i:=6) cQ.nd rfl (Or.inl Mr) rfl) (aA (aP (i:=4) cQ.nd rfl (Or.inl Ih) (bD lw (bD aV (bD jq (au 4 Ih) aB) aB) (au 2 Rq)) rfl) (aC (dq (gO (au 3 Wd)) (aA (aJ (bU (K:=K) rfl PySem.F.plainAttrs_list PySem.F.slot_list_append PySem.F.type_list_append bj (au 5 Mq) (aa (bD lw (au 0 Ig) (au 6 Mr)) ao))) (aC (aP (i:=0) cQ.nd rfl (Or.inl Ig) (bD yc (au 0 Ig) (au 6 Mr)) rfl))) (aC (aJ (bU (K:=K) rfl PySem.F.plainAttrs_list PySem.F.slot_list_append PySem.F.type_list_append bj (au 5 Mq) (aa (bD lw (bD lw (bD jq (au 4 Ih) (bD aV (bD yc (au 4 Ih) aB) aB)) aB) (au 6 Mr)) ao)))))))) (aC (aM (au 5 Mq))))))),?_⟩
  walk_at "sts"
  have hs:1000≤sizeLine:=by decide
  refine jo rfl fun f nf=>?_
  walk_at "sts"
  have hb1:upd H f (.lst []) b=some (.lst (bs.map V.int)):=aW nf hb
  have bf:b≠f:=fun e=>by rw [e,nf] at hb;cases hb
  refine .inl ⟨b,rfl,⟨_,SqL.of hb1⟩,?_⟩
  generalize hg:decide ((10:Int) ^ (18:Int).toNat≤n)=g
  have hm0:=Int.emod_nonneg (n % pr*48271) (show pr≠0 by omega)
  have hm1:=Int.emod_lt_of_pos (n % pr*48271) (show 0 < pr by omega)
  refine oU (xs:=bs.map V.int) (fun k σ H'=>∃ (n' N:Int) (ms:List Int) (x6:Option V),σ=[some (.int n'),some (.ref b),some (.int pr),some (.bl g),some (.int N),some (.ref f),x6]∧0≤N∧N < 2147500000∧Same H H'∧H' f=some (.lst (ms.map V.int))∧Fits ms (bs.take k))
    ⟨n,_,[],none,rfl,by omega,by omega,(Same.refl H).upd nf,aj,rfl,fun i m b e=>by simp at e⟩ (fun i σ H' _ h=>?_) ?_ ?_
  · obtain ⟨_,_,_,_,_,_,_,s,_⟩:=h
    exact SqL.of (s _ _ hb)
  · rintro k v σ H' hk ⟨n',N,ms,x6,rfl,hN0,hN1,s,hf,hF⟩
    rw [List.getElem?_map] at hk
    obtain ⟨bb,hbb,rfl⟩:∃ y,bs[k]?=some y∧v=V.int y:=by
      cases e:bs[k]? with
      | none=>rw [e] at hk;cases hk
      | some y=>rw [e] at hk;exact ⟨y,rfl,(Option.some.inj hk).symm⟩
    obtain ⟨p0,p1⟩:=hbs bb (List.mem_of_getElem? hbb)
    have hml:ms.length≤100:=by rw [hF.1,List.length_take];omega
    walk_at "sts"
    obtain ⟨M,eM⟩:∃ M,(N*69621+4099) % pr=M:=⟨_,rfl⟩
    have hM0:0≤M:=by rw [← eM];exact Int.emod_nonneg _ (by omega)
    have hM1:M < pr:=by rw [← eM];exact Int.emod_lt_of_pos _ (by omega)
    rw [eM]
    cases g with
    | true=>
      walk_at "sts"
      refine ⟨.inl ⟨rfl,_,SqL.of hf⟩,?_⟩
      walk_at "sts"
      refine bz hf (by simp;omega) ?_
      walk_at "sts"
      refine ⟨_,M,ms ++ [n' % bb],_,rfl,hM0,by omega,Same.put s nf,?_,hF.push hbb (Int.emod_nonneg _ (by omega)) (Int.emod_lt_of_pos _ p0)⟩
      rw [List.map_append];exact aj
    | false=>
      walk_at "sts"
      refine ⟨.inl ⟨rfl,_,SqL.of hf⟩,?_⟩
      walk_at "sts"
      refine bz hf (by simp;omega) ?_
      walk_at "sts"
      refine ⟨_,M,ms ++ [M*(M / 977+3) % 2147483629 % bb],_,rfl,hM0,by omega,Same.put s nf,?_,hF.push hbb (Int.emod_nonneg _ (by omega)) (Int.emod_lt_of_pos _ p0)⟩
      rw [List.map_append];exact aj
  · rintro σ H' ⟨n',N,ms,x6,rfl,_,_,s,hf,hF⟩
    walk_at "sts"
    refine q f ms H' nf s hf ?_
    rw [List.length_map,List.take_length] at hF
    exact hF
def Wh:Sp:=fun vs H Q _=>∃ n:Int,vs=[.int n]∧Q (.bl true) H
theorem wG:aF ["_law_thing"] ["_law_thing"] (az d8):=⟨rfl,rfl,rfl,by decide+kernel,rfl,by decide+kernel,by decide+kernel⟩
theorem mY (T:Txt K mg):n8 P w K mg base 1 "_law_whole" ["_law_thing"] Wh:=by
  refine iC T.d_law_whole wG (fun _ _ _ _ _ _ us hl=>L2.sH (fun _=>rfl) us hl) ?_ fun f cdv A outer s H vs Q E hr h=>?_
  · rintro vs H Q E ⟨n,rfl,_⟩;rfl
  obtain ⟨n,rfl,q⟩:=h
  have hu:=hr.units0
  have hu64:=hr.units
  refine ⟨_,(aC (aM (xQ (aX (km (K:=K) rfl) (bB We) T.b_isinstance dI (aa (au 0 Wf) (aa (zq (bB kz5r) T.b_int Gj (by decide+kernel) (by decide+kernel)) ao)) (by decide+kernel) (by decide+kernel)) (xP (M5 (aX (km (K:=K) rfl) (bB We) T.b_isinstance dI (aa (au 0 Wf) (aa (zq (bB kz5p) T.b_bool Ay (by decide+kernel) (by decide+kernel)) ao)) (by decide+kernel) (by decide+kernel))))))),?_⟩
  walk_at "sts"
  refine pq (.int _) rfl ?_
  walk_at "sts"
  refine pq (.int _) rfl ?_
  walk_at "sts"
  exact q
end
section
variable {P:Program} {w:World} {K:PySem.W.Frag} {mg:Str→Option Value} {base:Heap}
theorem uI:(["_law_k","_law_signs","_law_start","_law_step"]:List Str).Nodup:=by decide+kernel
theorem wH:(["_law_at","_law_menu_here"]:List Str).Nodup:=by decide+kernel
theorem kz5s:cu gf "range":=by decide+kernel
theorem kz5t:aN gf "_law_kinds":=by decide+kernel
theorem kz5u:zM gf "_law_signs":=by decide+kernel
theorem kz5v:cu dM "_law_numbers":=by decide+kernel
theorem kz5w:aN dM "_law_prime":=by decide+kernel
theorem kz5x:cu dM "len":=by decide+kernel
theorem kz5y:zM dM "_law_menu_here":=by decide+kernel
theorem kz5z:aN dM "_law_many":=by decide+kernel
theorem kz60:aN dM "_law_cell_here":=by decide+kernel
theorem wI:aN gq "_law_numbers_here":=by decide+kernel
theorem kz62:cu gq "_law_numbers":=by decide+kernel
theorem kz63:aN gq "_law_cell_here":=by decide+kernel
theorem Fits.nat {ms bs:List Int} (h:Fits ms bs):∃ ks:List Nat,ms=ks.map (fun (k:Nat)=>(k:Int))∧ks.length=bs.length∧∀ (i k:Nat) (b:Int),ks[i]?=some k→bs[i]?=some b→(k:Int) < b:=by
  obtain ⟨hl,h⟩:=h
  have e:ms=(ms.map Int.toNat).map (fun (k:Nat)=>(k:Int)):=by
    rw [List.map_map]
    refine (List.map_id ms).symm.trans (List.map_congr_left fun x hx=>?_)
    obtain ⟨i,hi⟩:=List.getElem?_of_mem hx
    have hi2:=(List.getElem?_eq_some_iff.mp hi).1
    have:=(h i x _ hi (List.getElem?_eq_getElem (by omega))).1
    show x=((x.toNat:Nat):Int)
    omega
  refine ⟨ms.map Int.toNat,e,by rw [List.length_map,hl],fun i k b hk hb=>?_⟩
  rw [List.getElem?_map] at hk
  cases hq:ms[i]? with
  | none=>rw [hq] at hk;cases hk
  | some x=>
    rw [hq] at hk
    have hk:=Option.some.inj hk
    have:=h i x b hq hb
    omega
theorem Wi (d:Int) (h0:0≤d) (h1:d < 27):∃ c,vC (Str.ofString "abcdefghijklmnopqrstuvwxyz.").cps.toList d=some c∧c∈GOOD:=by
  have key:∀ n:Nat,n < 27→∃ c,(Str.ofString "abcdefghijklmnopqrstuvwxyz.").cps.toList[n]?=some c∧c∈GOOD:=fun n hn=>by
    have hl:(Str.ofString "abcdefghijklmnopqrstuvwxyz.").cps.toList.length=27:=by decide+kernel
    refine ⟨_,List.getElem?_eq_getElem (by omega),?_⟩
    have all:∀ c∈(Str.ofString "abcdefghijklmnopqrstuvwxyz.").cps.toList,c∈GOOD:=by decide+kernel
    exact all _ (List.getElem_mem _)
  obtain ⟨c,e,hc⟩:=key d.toNat (by omega)
  refine ⟨c,?_,hc⟩
  have:d=((d.toNat:Nat):Int):=by omega
  rw [this]
  exact dO e
def s1V (c:Nat):V:=.str ⟨#[c]⟩
def Rt:Sp:=fun vs H Q _=>∃ (n:Nat) (s t:Int),vs=[.int n,.int s,.int t]∧n≤64∧0≤t∧t≤64∧∀ (q:Addr) (cs:List Nat) (H':Hp),Same H H'→H' q=some (.lst (cs.map s1V))→cs.length=n→(∀ c∈cs,c∈GOOD)→Q (.ref q) H'
theorem qR:aF ["_law_kinds","_law_start","_law_step","_law_signs"] ["_law_kinds","_law_start","_law_step"] (az gf):=⟨rfl,rfl,rfl,by decide+kernel,rfl,by decide+kernel,by decide+kernel⟩
theorem oN (T:Txt K mg):n8 P w K mg base 1 "_law_menu" ["_law_kinds","_law_start","_law_step"] Rt:=by
  refine iC T.d_law_menu qR (fun _ _ _ _ _ _ us hl=>L2.j8 (fun _ _ _=>rfl) us hl) ?_ fun f cdv A outer s H vs Q E hr h=>?_
  · rintro vs H Q E ⟨n,s',t,rfl,_⟩;rfl
  obtain ⟨n,s',t,rfl,hn,ht0,ht1,q⟩:=h
  have hu:=hr.units0
  have hu64:=hr.units
  refine ⟨_,(aA (aP (i:=3) qR.nd rfl (Or.inr kz5u) Gn rfl) (aC (aM (gG (sub:=[none,some 3,some 1,some 2]) (b8 (N:=["_law_kinds","_law_start","_law_step","_law_signs"]) (sc:=az gf) (N':=["_law_k","_law_signs","_law_start","_law_step"]) (by decide+kernel)) rfl rfl rfl (dm (bB kz5s) T.b_range (aa (au 0 kz5t) ao)) (fun C s₀ H₀ ex=>(mK 0 (by decide+kernel) uI)) (fun C s₀ H₀ ex=>cX) (fun C s₀ H₀ ex=>(bZ (K:=K) rfl (dz 1 (by decide+kernel)) (bD lw (bD aV (dz 2 (by decide+kernel)) (bD jq (dz 3 (by decide+kernel)) (gK 0 (by decide+kernel)))) aB))))))),?_⟩
  walk_at "sts"
  have hsz:20000≤sizeLine:=by decide
  have hsl:(Str.ofString "abcdefghijklmnopqrstuvwxyz.").length≤sizeLine:=Nat.le_trans (show _≤100 by decide+kernel) (by decide)
  refine ⟨_,rfl,by omega,by omega,?_⟩
  rw [show ((n:Int)).toNat=n by omega]
  refine eQ (n:=n) (fun i ys G=>G=H∧∃ cs:List Nat,ys=cs.map s1V∧cs.length=i∧∀ c∈cs,c∈GOOD) (by omega) ⟨rfl,[],rfl,rfl,fun c hc=>nomatch hc⟩ ?_ ?_ ?_
  · rintro i ys G ⟨_,cs,rfl,h,_⟩
    rw [List.length_map];omega
  · rintro i ys G hi ⟨rfl,cs,rfl,hl,hg⟩
    obtain ⟨d,hd,hdg⟩:=Wi ((s'+t*(0+(i:Int))) % 27) (Int.emod_nonneg _ (by decide)) (Int.emod_lt_of_pos _ (by decide))
    walk_at "sts"
    refine ⟨KeepSt.set rfl,?_⟩
    walk_at "sts"
    refine T7 hsl hd ?_
    walk_at "sts"
    refine ⟨rfl,cs ++ [d],by rw [List.map_append];rfl,by simp;omega,fun c hc=>?_⟩
    rcases List.mem_append.mp hc with h | h
    · exact hg c h
    · rw [List.mem_singleton.mp h];exact hdg
  · rintro ys G D G2 ⟨rfl,cs,rfl,hl,hg⟩ nD s2 hD
    try walk_at "sts"
    exact q D cs G2 s2 hD hl hg
def Ru:Sp:=fun vs H Q _=>∃ (n:Int) (m:Nat) (p:Addr) (cs:List Nat) (pr:Int),vs=[.int n,.int m,.ref p,.int pr]∧m≤48∧H p=some (.lst (cs.map s1V))∧0 < cs.length∧cs.length≤64∧(∀ c∈cs,c∈GOOD)∧2147000000 < pr∧pr < 2147490000∧∀ z H',Same H H'→Row z→z.length=m→Q (.str z) H'
theorem Bx (k:Nat) (n:Int):(List.replicate k [V.int n]).flatten=(List.replicate k n).map V.int:=by
  induction k with
  | zero=>rfl
  | succ k ih=>rw [List.replicate_succ,List.flatten_cons,ih,List.replicate_succ,List.map_cons];rfl
theorem Ae:aF ["_law_cell_here","_law_many","_law_menu_here","_law_prime"] ["_law_cell_here","_law_many","_law_menu_here","_law_prime"] (az dM):=⟨rfl,rfl,rfl,by decide+kernel,rfl,by decide+kernel,by decide+kernel⟩
theorem ni (T:Txt K mg):n8 P w K mg base 2 "_law_row" ["_law_cell_here","_law_many","_law_menu_here","_law_prime"] Ru:=by
  have bA:=bA (P:=P) (w:=w) (base:=base) T
  refine iC T.d_law_row Ae (fun _ _ _ _ _ _ us hl=>L2.Sh (fun _ _ _ _=>rfl) us hl) ?_ fun f cdv A outer s H vs Q E hr h=>?_
  · rintro vs H Q E ⟨n,m,p,cs,pr,rfl,_⟩;rfl
  obtain ⟨n,m,p,cs,pr,rfl,hm,hp,h0,h64,hg,hp0,hp1,q⟩:=h
  have hu:=hr.units0
  have hu64:=hr.units
  refine ⟨_,(aC (aM (bU (K:=K) rfl PySem.F.plainAttrs_str PySem.F.slot_str_join PySem.F.type_str_join Ax Gn (aa (gG (sub:=[none,some 2]) (b8 (N:=["_law_cell_here","_law_many","_law_menu_here","_law_prime"]) (sc:=az dM) (N':=["_law_at","_law_menu_here"]) (by decide+kernel)) rfl rfl rfl (jU (K:=K) rfl (aU bA (hr.mono (by decide)) (bB kz5v) (aa (au 0 kz60) (aa (bD jq (dX (aa (aX (aZ (K:=K) rfl) (bB kz5x) T.b_len cN (aa (gB 2 kz5y) ao) (by decide+kernel) (by decide+kernel)) ao)) (au 1 kz5z)) (aa (au 3 kz5w) ao))) (by decide+kernel))) (fun C s₀ H₀ ex=>(mK 0 (by decide+kernel) wH)) (fun C s₀ H₀ ex=>cX) (fun C s₀ H₀ ex=>(bZ (K:=K) rfl (dz 1 (by decide+kernel)) (gK 0 (by decide+kernel))))) ao)))),?_⟩
  walk_at "sts"
  have hsz:20000≤sizeLine:=by decide
  refine ⟨rfl,?_⟩
  walk_at "sts"
  refine jg (SqL.of hp) ?_
  walk_at "sts"
  rw [List.length_map]
  walk_at "sts"
  refine bO rfl fun l H1 _ S1 hl=>?_
  walk_at "sts"
  refine vQ hl (by omega) (by omega) (by simp;omega) fun bl nbl=>?_
  rw [show ((m:Int)).toNat=m by omega,Bx]
  have S2:=(Same.refl H1).upd nbl (o:=.lst ((List.replicate m (cs.length:Int)).map V.int))
  have hbl:=aj (H:=H1) (a:=bl) (o:=.lst ((List.replicate m (cs.length:Int)).map V.int))
  generalize upd H1 bl (.lst ((List.replicate m (cs.length:Int)).map V.int))=H2 at S2 hbl ⊢
  walk_at "sts"
  refine ⟨n,bl,_,pr,rfl,hbl,by simp;omega,(fun x hx=>by rw [List.eq_of_mem_replicate hx];omega),hp0,hp1,fun nq ms H3 _ S3 hnq hF=>?_⟩
  walk_at "sts"
  obtain ⟨ks,rfl,hkl,hk⟩:=hF.nat
  rw [List.length_replicate] at hkl
  have U3:=S1.trans (S2.trans S3)
  refine .inl ⟨nq,rfl,⟨_,SqL.of hnq⟩,?_⟩
  have hks:∀ (i:Nat) (k:Nat),ks[i]?=some k→k < cs.length:=fun i k h=>by
    have hi:=(List.getElem?_eq_some_iff.mp h).1
    have:=hk i k (cs.length:Int) h (by rw [List.getElem?_replicate,if_pos (by omega)])
    omega
  refine tV (xs:=(ks.map fun (k:Nat)=>(k:Int)).map V.int) (fun i=>.str ⟨#[cs.getD (ks.getD i 0) 0]⟩) (by simp;omega) (SqL.of hnq) ?_ ?_
  · intro i x hx
    rw [List.map_map,List.getElem?_map] at hx
    obtain ⟨k,hk1,rfl⟩:∃ k:Nat,ks[i]?=some k∧x= .int (k:Int):=by
      cases hq:ks[i]? with
      | none=>rw [hq] at hx;cases hx
      | some y=>rw [hq] at hx;exact ⟨y,rfl,(Option.some.inj hx).symm⟩
    have hlt:=hks i k hk1
    walk_at "sts"
    refine ⟨KeepSt.set rfl,?_⟩
    walk_at "sts"
    refine bR (SqL.of (U3 _ _ hp)) (v:=.str ⟨#[cs.getD k 0]⟩) (dO (by rw [List.getElem?_map,List.getD_eq_getElem?_getD,List.getElem?_eq_getElem hlt];rfl)) ?_
    walk_at "sts"
    refine ⟨rfl,lH ?_⟩
    rw [List.getD_eq_getElem?_getD (l:=ks),hk1];rfl
  · intro D H4 nD S4 hD
    have hDz:H4 D=some (.lst (((List.range m).map fun i=>(⟨#[cs.getD (ks.getD i 0) 0]⟩:Str)).map V.str)):=by
      rw [hD,List.length_map,List.length_map,hkl,List.map_map];rfl
    have hGS:GoodS ((List.range m).map fun i=>(⟨#[cs.getD (ks.getD i 0) 0]⟩:Str)):=fun y hy=>by
      obtain ⟨i,hi,rfl⟩:=List.mem_map.mp hy
      refine ⟨_,rfl,?_⟩
      have hi:=List.mem_range.mp hi
      have hlt:=hks i (ks.getD i 0) (by rw [List.getD_eq_getElem?_getD,List.getElem?_eq_getElem (show i < ks.length by omega)];rfl)
      rw [List.getD_eq_getElem?_getD (l:=cs),List.getElem?_eq_getElem hlt]
      exact hg _ (List.getElem_mem _)
    try walk_at "sts"
    have hE:(Str.ofString "").length=0:=by decide+kernel
    refine Gk hDz (by rw [xM hGS.ones,hE];simp;omega) ?_
    walk_at "sts"
    exact q _ _ (U3.trans S4) (Qt hGS (by simp;omega)) (by rw [xK hGS.ones];simp)
def Ms:Sp:=fun vs H Q _=>∃ (n:Int),vs=[.int n]∧∀ q (a b:Nat) H',Same H H'→H' q=some (.lst [.int (a:Int),.int (b:Int)])→a≤48→b≤48→Q (.ref q) H'
theorem pQ:aF ["_law_cell_here","_law_numbers_here"] ["_law_cell_here"] (az gq):=⟨rfl,rfl,rfl,by decide+kernel,rfl,by decide+kernel,by decide+kernel⟩
theorem mZ (T:Txt K mg):n8 P w K mg base 2 "_law_sizes" ["_law_cell_here"] Ms:=by
  have bA:=bA (P:=P) (w:=w) (base:=base) T
  refine iC T.d_law_sizes pQ (fun _ _ _ _ _ _ us hl=>L2.sH (fun _=>rfl) us hl) ?_ fun f cdv A outer s H vs Q E hr h=>?_
  · rintro vs H Q E ⟨n,rfl,_⟩;rfl
  obtain ⟨n,rfl,q⟩:=h
  have hu:=hr.units0
  have hu64:=hr.units
  refine ⟨_,(aA (aP (i:=1) pQ.nd rfl (Or.inl wI) (aU bA (hr.mono (by decide)) (bB kz62) (aa (au 0 kz63) (aa (dX (aa aB (aa aB (aa aB (aa aB (aa aB (aa aB (aa aB (aa aB ao))))))))) (aa aB ao))) (by decide+kernel)) rfl) (aA (dq (cO (gH (K:=K) rfl hu64) (bZ (K:=K) rfl (au 1 wI) aB) aB (by first | exact bT _ | with_unfolding_all rfl)) (aC (aM (jM (jK (K:=K) rfl) (au 1 wI) (fM aB) (fM aB)))) c7) (aA (dq (cO (gH (K:=K) rfl hu64) (bZ (K:=K) rfl (au 1 wI) aB) aB (by first | exact bT _ | with_unfolding_all rfl)) (aC (aM (dX (aa (bZ (K:=K) rfl (au 1 wI) (bD aV aB (bZ (K:=K) rfl (au 1 wI) aB))) (aa (bZ (K:=K) rfl (au 1 wI) (bD gM aB (bZ (K:=K) rfl (au 1 wI) aB))) ao))))) c7) (aC (aM (jM (jK (K:=K) rfl) (au 1 wI) (fM aB) (fM aB))))))),?_⟩
  walk_at "sts"
  have hsz:20000≤sizeLine:=by decide
  refine bO rfl fun l H1 _ S1 hl=>?_
  walk_at "sts"
  replace hl:H1 l=some (.lst (([8,9,9,25,25,49,6,2]:List Int).map V.int)):=hl
  refine ⟨n,l,[8,9,9,25,25,49,6,2],2147483549,rfl,hl,by simp,(fun x hx=>by simp at hx;omega),by omega,by omega,fun nq ms H3 _ S3 hnq hF=>?_⟩
  walk_at "sts"
  obtain ⟨ks,rfl,hkl,hk⟩:=hF.nat
  have U3:=S1.trans S3
  match ks,hkl with
  | [k0,k1,k2,k3,k4,k5,k6,k7],_=>
    have h1:=hk 1 k1 9 rfl rfl
    have h2:=hk 2 k2 9 rfl rfl
    have h3:=hk 3 k3 25 rfl rfl
    have h4:=hk 4 k4 25 rfl rfl
    have h5:=hk 5 k5 49 rfl rfl
    have h6:=hk 6 k6 6 rfl rfl
    have h7:=hk 7 k7 2 rfl rfl
    replace hnq:H3 nq=some (.lst [.int (k0:Int),.int (k1:Int),.int (k2:Int),.int (k3:Int),.int (k4:Int),.int (k5:Int),.int (k6:Int),.int (k7:Int)]):=hnq
    walk_at "sts"
    refine kE (fun h=>?_) (fun h=>?_)
    · walk_at "sts"
      refine u9 (SqL.of hnq) fun sl nsl=>?_
      walk_at "sts"
      rw [show nY [V.int (k0:Int),.int (k1:Int),.int (k2:Int),.int (k3:Int),.int (k4:Int),.int (k5:Int),.int (k6:Int),.int (k7:Int)] (some 3) (some 5)=[.int (k3:Int),.int (k4:Int)] from rfl]
      exact q sl k3 k4 _ (U3.upd nsl) aj (by omega) (by omega)
    · walk_at "sts"
      refine kE (fun h'=>?_) (fun h'=>?_)
      · obtain rfl | rfl:k7=0∨k7=1:=by omega
        · walk_at "sts"
          refine bO rfl fun sl H4 _ S4 hsl=>?_
          walk_at "sts"
          exact q sl k5 k6 _ (U3.trans S4) hsl (by omega) (by omega)
        · walk_at "sts"
          refine bO rfl fun sl H4 _ S4 hsl=>?_
          walk_at "sts"
          exact q sl k6 k5 _ (U3.trans S4) hsl (by omega) (by omega)
      · walk_at "sts"
        refine u9 (SqL.of hnq) fun sl nsl=>?_
        walk_at "sts"
        rw [show nY [V.int (k0:Int),.int (k1:Int),.int (k2:Int),.int (k3:Int),.int (k4:Int),.int (k5:Int),.int (k6:Int),.int (k7:Int)] (some 1) (some 3)=[.int (k1:Int),.int (k2:Int)] from rfl]
        exact q sl k1 k2 _ (U3.upd nsl) aj (by omega) (by omega)
end
section
variable {P:Program} {w:World} {K:PySem.W.Frag} {mg:Str→Option Value} {base:Heap}
theorem wK:(["_law_end","_law_first","_law_tall"]:List Str).Nodup:=by decide+kernel
theorem wL:(["_law_last","_law_first","_law_wide"]:List Str).Nodup:=by decide+kernel
theorem wM:(["_law_last","_law_begin","_law_wide"]:List Str).Nodup:=by decide+kernel
theorem wN:(["_law_end","_law_tall","_law_begin"]:List Str).Nodup:=by decide+kernel
theorem Ij:aN bM "_law_table_here":=by decide+kernel
theorem kz65:aN bM "_law_side":=by decide+kernel
theorem Wj:aN bM "_law_letter":=by decide+kernel
theorem Ik:aN bM "_law_row_here":=by decide+kernel
theorem kz68:cu bM "enumerate":=by decide+kernel
theorem Wl:aN bM "_law_top":=by decide+kernel
theorem Wm:aN bM "_law_sign":=by decide+kernel
theorem Mt:aN bM "_law_at":=by decide+kernel
theorem kz6c:cu bM "max":=by decide+kernel
theorem kz6d:cu bM "len":=by decide+kernel
theorem Wn:aN eU "_law_tables":=by decide+kernel
theorem Mu:aN eU "_law_first":=by decide+kernel
theorem Rv:aN eU "_law_last":=by decide+kernel
theorem Rw:aN eU "_law_end":=by decide+kernel
theorem Rx:aN eU "_law_begin":=by decide+kernel
theorem kz6j:aN eU "_law_spans":=by decide+kernel
theorem Dy:aN cM "_law_found":=by decide+kernel
theorem Dz:cu cM "range":=by decide+kernel
theorem Ry:zM cM "_law_tall":=by decide+kernel
theorem Wo:zM cM "_law_first":=by decide+kernel
theorem Rz:zM cM "_law_wide":=by decide+kernel
theorem Wq:zM cM "_law_begin":=by decide+kernel
theorem CT.put {H:Hp} {rs:List V} {n:Nat} {f:Nat→List Int} {g:Addr} {o:HO} {us:List V} {u:Addr} (h:CT H rs n f) (hg:H g=some (.lst us)) (hu:V.ref u∈us):CT (upd H g o) rs n f:=⟨h.1,fun k hk=>by
  obtain ⟨b,e,hb⟩:=h.2 k hk
  refine ⟨b,e,?_⟩
  rw [aD (fun z=>?_)]
  · exact hb
  · rw [z,hg] at hb
    have e0:us=(f k).map V.int:=by injection hb with hb;injection hb
    rw [e0] at hu
    obtain ⟨i,_,hi⟩:=List.mem_map.mp hu
    cases hi⟩
def DG (S P:List Nat) (i k:Nat):Bool:=decide (S.getD i 0=P.getD k 0)
def iG (S P:List Nat) (i n:Nat):List Int:=(List.range n).map (tb (DG S P) 0 i)
theorem yJ (S P:List Nat) (i n:Nat):(iG S P i n).length=n:=by simp [iG]
theorem Mv {S P:List Nat} {i n k:Nat} (h:k < n):(iG S P i n)[k]?=some (tb (DG S P) 0 i k):=by
  unfold iG
  rw [List.getElem?_map,List.getElem?_range h];rfl
theorem pR {S P:List Nat} {i n k:Nat} {j:Int} (hj:j=(k:Int)) (h:k < n):vC ((iG S P i n).map V.int) j=some (.int (tb (DG S P) 0 i k)):=by
  subst hj
  exact dO (by rw [List.getElem?_map,Mv h];rfl)
theorem DK (S P:List Nat) (i n:Nat):iG S P i (n+1)=iG S P i n ++ [tb (DG S P) 0 i n]:=by
  unfold iG
  rw [List.range_succ,List.map_append];rfl
theorem RC (S P:List Nat) (n:Nat):iG S P 0 n=List.replicate n 0:=by
  unfold iG
  rw [List.eq_replicate_iff]
  refine ⟨by simp,fun b hb=>?_⟩
  obtain ⟨k,_,rfl⟩:=List.mem_map.mp hb
  exact z9 _ _ _
theorem Il {z:Str} {i:Nat} (h:i < z.length):z.cps.toList[i]?=some (z.cps.toList.getD i 0):=by
  have h':i < z.cps.toList.length:=by simpa [Str.length] using h
  rw [List.getD_eq_getElem?_getD,List.getElem?_eq_getElem h'];rfl
theorem qF {z:Str} {i:Nat} (h:i < z.cps.size):z.cps.toList.getD i 0=z.cps.getD i 0:=by simp [Array.getD,List.getD_eq_getElem?_getD,h]
def RD:Sp:=fun vs H Q _=>∃ (z y:Str),vs=[.str z,.str y]∧z.length≤48∧y.length≤48∧∀ q rs H',H q=none→Same H H'→H' q=some (.lst rs)→CT H' rs (z.length+1) (fun i=>iG z.cps.toList y.cps.toList i (y.length+1))→Q (.ref q) H'
theorem eY:aF ["_law_side","_law_top","_law_table_here","_law_letter","_law_row_here","_law_at","_law_sign"] ["_law_side","_law_top"] (az bM):=⟨rfl,rfl,rfl,by decide+kernel,rfl,by decide+kernel,by decide+kernel⟩
theorem jQ (T:Txt K mg):n8 P w K mg base 1 "_law_table" ["_law_side","_law_top"] RD:=by
  refine iC T.d_law_table eY (fun _ _ _ _ _ _ us hl=>L2.nj (fun _ _=>rfl) us hl) ?_ fun f cdv A outer s H vs Q E hr h=>?_
  · rintro vs H Q E ⟨z,y,rfl,_⟩;rfl
  obtain ⟨z,y,rfl,hz48,hy48,q⟩:=h
  have hu:=hr.units0
  have hu64:=hr.units
  refine ⟨_,(aA (aP (i:=2) eY.nd rfl (Or.inl Ij) (dX (aa (bD jq (dX (aa aB ao)) (bD aV (aX (aZ (K:=K) rfl) (bB kz6d) T.b_len cN (aa (au 1 Wl) ao) (by decide+kernel) (by decide+kernel)) aB)) ao)) rfl) (aA (dY PassesOwn.never rfl (jU (K:=K) rfl (au 0 kz65)) (aG (i:=3) eY.nd rfl (Or.inl Wj) rfl) (aA (aP (i:=4) eY.nd rfl (Or.inl Ik) (dX (aa aB ao)) rfl) (aA (dY PassesOwn.never rfl (lF (K:=K) rfl rfl (bB kz68) T.b_enumerate (aa (au 1 Wl) ao)) (lC (K:=K) rfl rfl (aH (aG (i:=5) eY.nd rfl (Or.inl Mt) rfl) (aH (aG (i:=6) eY.nd rfl (Or.inl Wm) rfl) dj))) (aC (dq (cO (gH (K:=K) rfl hu64) (au 3 Wj) (au 6 Wm) (by first | exact bT _ | with_unfolding_all rfl)) (aC (aJ (bU (K:=K) rfl PySem.F.plainAttrs_list PySem.F.slot_list_append PySem.F.type_list_append bj (au 4 Ik) (aa (bD aV (bZ (K:=K) rfl (bZ (K:=K) rfl (au 2 Ij) (Kc vA aB)) (au 5 Mt)) aB) ao)))) (aC (aJ (bU (K:=K) rfl PySem.F.plainAttrs_list PySem.F.slot_list_append PySem.F.type_list_append bj (au 4 Ik) (aa (aX (Cd rfl) (bB kz6c) T.b_max PN (aa (bZ (K:=K) rfl (au 4 Ik) (au 5 Mt)) (aa (bZ (K:=K) rfl (bZ (K:=K) rfl (au 2 Ij) (Kc vA aB)) (bD aV (au 5 Mt) aB)) ao)) (by decide+kernel) (by decide+kernel)) ao))))))) (aC (aJ (bU (K:=K) rfl PySem.F.plainAttrs_list PySem.F.slot_list_append PySem.F.type_list_append bj (au 2 Ij) (aa (au 4 Ik) ao))))))) (aC (aM (au 2 Ij))))),?_⟩
  walk_at "sts"
  have hsz:20000≤sizeLine:=by decide
  have ly:y.length≤sizeLine:=by omega
  refine bO rfl fun l H1 _ S1 hl=>?_
  walk_at "sts"
  refine jT ly ?_
  walk_at "sts"
  refine vQ hl (by omega) (by omega) (by simp;omega) fun ro nro=>?_
  rw [show ((y.length:Int)+1).toNat=y.length+1 by omega,Bx,← RC z.cps.toList y.cps.toList]
  have S2:=(Same.refl H1).upd nro (o:=.lst ((iG z.cps.toList y.cps.toList 0 (y.length+1)).map V.int))
  have hro:=aj (H:=H1) (a:=ro) (o:=.lst ((iG z.cps.toList y.cps.toList 0 (y.length+1)).map V.int))
  generalize upd H1 ro (.lst ((iG z.cps.toList y.cps.toList 0 (y.length+1)).map V.int))=H2 at S2 hro ⊢
  walk_at "sts"
  refine bO rfl fun tq H3 ntq S3 htq=>?_
  walk_at "sts"
  have U3:=S1.trans (S2.trans S3)
  have ntq0:=Same.back (S1.trans S2) ntq
  refine .inr (.inr ⟨z,rfl,?_⟩)
  refine Ke (z:=z) (fun i σ G=>Same H G∧(∃ rs,G tq=some (.lst rs)∧CT G rs (i+1) (fun i=>iG z.cps.toList y.cps.toList i (y.length+1)))∧∃ x3 x4 x5 x6,σ=[some (.str z),some (.str y),some (.ref tq),x3,x4,x5,x6]) ⟨U3,⟨_,htq,rfl,fun k hk=>?_⟩,_,_,_,_,rfl⟩ ?_ ?_
  · obtain rfl:k=0:=by omega
    exact ⟨ro,rfl,S3 _ _ hro⟩
  · rintro i σ G c hc ⟨sG,⟨rs,htG,hC⟩,x3,x4,x5,x6,rfl⟩
    have hi:i < z.length:=by have:=(List.getElem?_eq_some_iff.mp hc).1;simpa [Str.length] using this
    have ec:c=z.cps.toList.getD i 0:=by
      rw [Il hi] at hc
      exact (Option.some.inj hc).symm
    have hrl:rs.length=i+1:=hC.1
    obtain ⟨la,ela,hla⟩:=hC.2 i (by omega)
    walk_at "sts"
    refine bO rfl fun r G1 nr sr hr=>?_
    walk_at "sts"
    refine .inl ⟨y,rfl,?_⟩
    refine zx (fun k σ H'=>Same G H'∧H' r=some (.lst ((iG z.cps.toList y.cps.toList (i+1) (k+1)).map V.int))∧∃ x5 x6,σ=[some (.str z),some (.str y),some (.ref tq),some (.str ⟨#[c]⟩),some (.ref r),x5,x6]) ⟨sr,by rw [hr];unfold iG;rw [show List.range (0+1)=[0] from rfl];show _=some (HO.lst [V.int (tb _ 0 (i+1) 0)]);rw [Aa],_,_,rfl⟩ ?_ ?_
    · rintro k σ G2 T0 hk ⟨s2,h2,y5,y6,rfl⟩ nT
      refine dg (xs:=[.int k,.str ⟨#[y.cps.getD k 0]⟩]) (SqT.of aj) rfl ?_
      have s3:=s2.upd nT (o:=.tup (jy y k))
      have h3:=aW nT h2 (o:=.tup (jy y k))
      generalize upd G2 T0 (.tup (jy y k))=G3 at s3 h3 ⊢
      have htG3:=s3 _ _ htG
      have hla3:=s3 _ _ hla
      have tl:vC rs (-1)=some (.ref la):=Qo hrl ela
      have fin:∀ v:Int,v=tb (DG z.cps.toList y.cps.toList) 0 (i+1) (k+1)→(iG z.cps.toList y.cps.toList (i+1) (k+1)).map V.int ++ [V.int v]=(iG z.cps.toList y.cps.toList (i+1) (k+1+1)).map V.int:=fun v hv=>by
        rw [DK _ _ _ (k+1),List.map_append,hv];rfl
      walk_at "sts"
      refine kE (fun h=>?_) (fun h=>?_)
      · have he:DG z.cps.toList y.cps.toList i (0+k)=true:=by
          have:=Str.mk.inj (V.str.inj h)
          unfold DG
          rw [Nat.zero_add,← ec,qF hk]
          exact decide_eq_true (by simpa using this)
        walk_at "sts"
        refine ⟨.inl ⟨rfl,_,SqL.of h3⟩,?_⟩
        walk_at "sts"
        refine bR (SqL.of htG3) tl ?_
        walk_at "sts"
        refine bR (SqL.of hla3) (pR rfl (show k < y.length+1 from Nat.lt_succ_of_lt hk)) ?_
        walk_at "sts"
        refine bz h3 (by rw [List.length_map,yJ];have:y.length=y.cps.size:=rfl;omega) ?_
        walk_at "sts"
        exact ⟨Same.put s3 nr,by rw [aj,fin _ (by rw [yF,if_pos he])],_,_,rfl⟩
      · have he:¬ DG z.cps.toList y.cps.toList i (0+k)=true:=fun hh=>h (by
          unfold DG at hh
          rw [Nat.zero_add,← ec,qF hk] at hh
          rw [of_decide_eq_true hh])
        have hk1:k+1 < y.length+1:=Nat.succ_lt_succ hk
        walk_at "sts"
        refine ⟨.inl ⟨rfl,_,SqL.of h3⟩,?_⟩
        walk_at "sts"
        refine bR (SqL.of h3) (pR rfl (Nat.lt_succ_self k)) ?_
        walk_at "sts"
        refine bR (SqL.of htG3) tl ?_
        walk_at "sts"
        refine bR (SqL.of hla3) (pR (k:=k+1) (by omega) hk1) ?_
        walk_at "sts"
        refine bz h3 (by rw [List.length_map,yJ];omega) ?_
        walk_at "sts"
        exact ⟨Same.put s3 nr,by rw [aj,fin _ (by rw [yF,if_neg he];rfl)],_,_,rfl⟩
    · rintro σ G2 ⟨s2,h2,y5,y6,rfl⟩
      replace h2:G2 r=some (.lst ((iG z.cps.toList y.cps.toList (i+1) (y.length+1)).map V.int)):=h2
      have htG2:=s2 _ _ htG
      walk_at "sts"
      refine ⟨.inl ⟨rfl,_,SqL.of htG2⟩,?_⟩
      walk_at "sts"
      refine bz htG2 (by omega) ?_
      walk_at "sts"
      refine ⟨Same.put (sG.trans s2) ntq0,⟨_,aj,?_⟩,_,_,_,_,rfl⟩
      exact ((hC.same s2).push h2).put htG2 (List.mem_of_getElem? ela)
  · rintro σ G ⟨sG,⟨rs,htG,hC⟩,x3,x4,x5,x6,rfl⟩
    walk_at "sts"
    exact q tq rs G ntq0 sG htG hC
def T3 (H:Hp) (ts:List V) (n:Nat) (m:Nat→Nat) (f:Nat→Nat→List Int):Prop:=ts.length=n∧∀ k,k < n→∃ a rs,ts[k]?=some (.ref a)∧H a=some (.lst rs)∧CT H rs (m k) (f k)
theorem T3.same {H H':Hp} {ts:List V} {n:Nat} {m:Nat→Nat} {f:Nat→Nat→List Int} (h:T3 H ts n m f) (s:Same H H'):T3 H' ts n m f:=⟨h.1,fun k hk=>by
  obtain ⟨a,rs,e,ha,hC⟩:=h.2 k hk
  exact ⟨a,rs,e,s _ _ ha,hC.same s⟩⟩
theorem T3.push {H:Hp} {ts:List V} {n:Nat} {m:Nat→Nat} {f:Nat→Nat→List Int} {a:Addr} {rs:List V} (h:T3 H ts n m f) (ha:H a=some (.lst rs)) (hC:CT H rs (m n) (f n)):T3 H (ts ++ [.ref a]) (n+1) m f:=⟨by rw [List.length_append,h.1];rfl,fun k hk=>by
  by_cases e:k=n
  · subst e
    exact ⟨a,rs,by rw [List.getElem?_append_right (by rw [h.1];omega),h.1,Nat.sub_self];rfl,ha,hC⟩
  · obtain ⟨b,us,e1,h1,h2⟩:=h.2 k (by omega)
    exact ⟨b,us,by rw [List.getElem?_append_left (by rw [h.1];omega)];exact e1,h1,h2⟩⟩
def Tabs (H:Hp) (q:Addr) (z y:Str):Prop:=∃ (q0 q1:Addr) (ts us:List V),H q=some (.lst [.ref q0,.ref q1])∧H q0=some (.lst ts)∧H q1=some (.lst us)∧
  T3 H ts (mS y+1) (fun _=>mS z+1) (fun c i=>iG z.cps.toList (y.cps.toList.drop c) i (mS y - c+1))∧
  T3 H us (mS z+1) (fun a=>mS z - a+1) (fun a i=>iG (z.cps.toList.drop a) y.cps.toList i (mS y+1))
theorem Tabs.same {H H':Hp} {q:Addr} {z y:Str} (h:Tabs H q z y) (s:Same H H'):Tabs H' q z y:=by
  obtain ⟨q0,q1,ts,us,h1,h2,h3,h4,h5⟩:=h
  exact ⟨q0,q1,ts,us,s _ _ h1,s _ _ h2,s _ _ h3,h4.same s,h5.same s⟩
def Af (S P:List Nat) (a b c d:Nat):Int:=tb (DG (S.drop a) (P.drop c)) 0 (b - a) (d - c)
def Wr:Sp:=fun vs H Q _=>∃ (q sp:Addr) (z y:Str) (a b c d:Nat),vs=[.ref q,.ref sp]∧Tabs H q z y∧H sp=some (.tup [.int (a:Int),.int (b:Int),.int (c:Int),.int (d:Int)])∧a≤b∧b≤mS z∧c≤d∧d≤mS y∧(a=0∨c=0)∧Q (.int (Af z.cps.toList y.cps.toList a b c d)) H
theorem jF:aF ["_law_tables","_law_spans","_law_first","_law_last","_law_begin","_law_end"] ["_law_tables","_law_spans"] (az eU):=⟨rfl,rfl,rfl,by decide+kernel,rfl,by decide+kernel,by decide+kernel⟩
theorem qG (T:Txt K mg):n8 P w K mg base 1 "_law_due" ["_law_tables","_law_spans"] Wr:=by
  refine iC T.d_law_due jF (fun _ _ _ _ _ _ us hl=>L2.nj (fun _ _=>rfl) us hl) ?_ fun f cdv A outer s H vs Q E hr h=>?_
  · rintro vs H Q E ⟨q',sp,z,y,a,b,c,d,rfl,_⟩;rfl
  obtain ⟨q',sp,z,y,a,b,c,d,rfl,⟨q0,q1,ts,us,hq',hq0,hq1,h4,h5⟩,hsp,hab,hb,hcd,hd,hz,q⟩:=h
  have hu:=hr.units0
  have hu64:=hr.units
  refine ⟨_,(aA (lE (au 1 kz6j) (lD (K:=K) rfl rfl (aH (aG (i:=2) jF.nd rfl (Or.inl Mu) rfl) (aH (aG (i:=3) jF.nd rfl (Or.inl Rv) rfl) (aH (aG (i:=4) jF.nd rfl (Or.inl Rx) rfl) (aH (aG (i:=5) jF.nd rfl (Or.inl Rw) rfl) dj)))))) (aA (dq (cO (gH (K:=K) rfl hu64) (au 2 Mu) aB (by first | exact bT _ | with_unfolding_all rfl)) (aC (aM (bZ (K:=K) rfl (bZ (K:=K) rfl (bZ (K:=K) rfl (bZ (K:=K) rfl (au 0 Wn) aB) (au 4 Rx)) (au 3 Rv)) (bD gM (au 5 Rw) (au 4 Rx))))) c7) (aC (aM (bZ (K:=K) rfl (bZ (K:=K) rfl (bZ (K:=K) rfl (bZ (K:=K) rfl (au 0 Wn) aB) (au 2 Mu)) (bD gM (au 3 Rv) (au 2 Mu))) (au 5 Rw)))))),?_⟩
  walk_at "sts"
  refine ⟨sp,_,rfl,.inl (SqT.of hsp),rfl,?_⟩
  walk_at "sts"
  refine kE (fun h=>?_) (fun h=>?_)
  · obtain rfl:a=0:=by have:=V.int.inj h;omega
    obtain ⟨t,rs,e1,ht,hC⟩:=h4.2 c (by omega)
    obtain ⟨r,e2,hr⟩:=hC.2 b (by show b < mS z+1;omega)
    walk_at "sts"
    refine bR (SqL.of hq0) (dO e1) ?_
    walk_at "sts"
    refine bR (SqL.of ht) (dO e2) ?_
    walk_at "sts"
    refine bR (SqL.of hr) (pR (k:=d - c) (by omega) (by omega)) ?_
    walk_at "sts"
    exact q
  · have ha:a≠0:=fun z=>h (by rw [z];rfl)
    obtain rfl:c=0:=by omega
    obtain ⟨t,rs,e1,ht,hC⟩:=h5.2 a (by omega)
    obtain ⟨r,e2,hr⟩:=hC.2 (b - a) (by show b - a < mS z - a+1;omega)
    walk_at "sts"
    refine bR (SqL.of hq1) (dO e1) ?_
    walk_at "sts"
    rw [show (b:Int) - (a:Int)=((b - a:Nat):Int) by omega]
    refine bR (SqL.of ht) (dO e2) ?_
    walk_at "sts"
    refine bR (SqL.of hr) (pR (k:=d) rfl (by omega)) ?_
    walk_at "sts"
    exact q
def Win (H:Hp) (m n:Nat) (v:V):Prop:=∃ (p:Addr) (a b c d:Nat),v= .ref p∧H p=some (.tup [.int (a:Int),.int (b:Int),.int (c:Int),.int (d:Int)])∧a≤b∧b≤m∧c≤d∧d≤n∧(a=0∨c=0)∧(b=m∨d=n)
theorem Win.same {H H':Hp} {m n:Nat} {v:V} (h:Win H m n v) (s:Same H H'):Win H' m n v:=by
  obtain ⟨p,a,b,c,d,e,hp,r⟩:=h
  exact ⟨p,a,b,c,d,e,s _ _ hp,r⟩
def Wins (H:Hp) (m n:Nat) (vs:List V):Prop:=∀ v∈vs,Win H m n v
theorem Wins.same {H H':Hp} {m n:Nat} {vs:List V} (h:Wins H m n vs) (s:Same H H'):Wins H' m n vs:=fun v hv=>(h v hv).same s
theorem Wins.app {H:Hp} {m n:Nat} {vs us:List V} (h:Wins H m n vs) (h':Wins H m n us):Wins H m n (vs ++ us):=fun v hv=>(List.mem_append.mp hv).elim (h v) (h' v)
theorem Wins.one {H:Hp} {m n:Nat} {v:V} (h:Win H m n v):Wins H m n [v]:=fun u hu=>by rw [List.mem_singleton.mp hu];exact h
theorem Win.put {H:Hp} {m n:Nat} {v:V} {g:Addr} {o:HO} {us:List V} (h:Win H m n v) (hg:H g=some (.lst us)):Win (upd H g o) m n v:=by
  obtain ⟨p,a,b,c,d,e,hp,r⟩:=h
  exact ⟨p,a,b,c,d,e,by rw [aD (fun z=>by rw [z,hg] at hp;cases hp)];exact hp,r⟩
theorem Wins.put {H:Hp} {m n:Nat} {vs:List V} {g:Addr} {o:HO} {us:List V} (h:Wins H m n vs) (hg:H g=some (.lst us)):Wins (upd H g o) m n vs:=fun v hv=>(h v hv).put hg
def Ws:Sp:=fun vs H Q _=>∃ (m n:Nat),vs=[.int m,.int n]∧m≤48∧n≤48∧∀ q us H',H q=none→Same H H'→H' q=some (.lst us)→Wins H' m n us→us.length≤9700→Q (.ref q) H'
theorem lN:aF ["_law_tall","_law_wide","_law_found","_law_begin","_law_first"] ["_law_tall","_law_wide"] (az cM):=⟨rfl,rfl,rfl,by decide+kernel,rfl,by decide+kernel,by decide+kernel⟩
theorem qH (T:Txt K mg):n8 P w K mg base 1 "_law_all" ["_law_tall","_law_wide"] Ws:=by
  refine iC T.d_law_all lN (fun _ _ _ _ _ _ us hl=>L2.nj (fun _ _=>rfl) us hl) ?_ fun f cdv A outer s H vs Q E hr h=>?_
  · rintro vs H Q E ⟨m,n,rfl,_⟩;rfl
  obtain ⟨m,n,rfl,hm,hn,q⟩:=h
  have hu:=hr.units0
  have hu64:=hr.units
  refine ⟨_,(aA (aP (i:=2) lN.nd rfl (Or.inl Dy) (dX ao) rfl) (aA (dY PassesOwn.never rfl (dm (bB Dz) T.b_range (aa (bD aV (gB 1 Rz) aB) ao)) (aG (i:=3) lN.nd rfl (Or.inr Wq) rfl) (aA (aJ (bU (K:=K) rfl PySem.F.plainAttrs_list PySem.F.slot_list_extend PySem.F.type_list_extend kh (au 2 Dy) (aa (gG (sub:=[none,some 0,some 3]) (b8 (N:=["_law_tall","_law_wide","_law_found","_law_begin","_law_first"]) (sc:=az cM) (N':=["_law_end","_law_tall","_law_begin"]) (by decide+kernel)) rfl rfl rfl (p6 (bB Dz) T.b_range (aa (gB 3 Wq) (aa (bD aV (gB 1 Rz) aB) ao))) (fun C s₀ H₀ ex=>(mK 0 (by decide+kernel) wN)) (fun C s₀ H₀ ex=>cX) (fun C s₀ H₀ ex=>(fu (aa aB (aa (dz 1 (by decide+kernel)) (aa (dz 2 (by decide+kernel)) (aa (gK 0 (by decide+kernel)) ao))))))) ao))) (aC (aJ (bU (K:=K) rfl PySem.F.plainAttrs_list PySem.F.slot_list_extend PySem.F.type_list_extend kh (au 2 Dy) (aa (gG (sub:=[none,some 3,some 1]) (b8 (N:=["_law_tall","_law_wide","_law_found","_law_begin","_law_first"]) (sc:=az cM) (N':=["_law_last","_law_begin","_law_wide"]) (by decide+kernel)) rfl rfl rfl (dm (bB Dz) T.b_range (aa (bD aV (gB 0 Ry) aB) ao)) (fun C s₀ H₀ ex=>(mK 0 (by decide+kernel) wM)) (fun C s₀ H₀ ex=>cX) (fun C s₀ H₀ ex=>(fu (aa aB (aa (gK 0 (by decide+kernel)) (aa (dz 1 (by decide+kernel)) (aa (dz 2 (by decide+kernel)) ao))))))) ao)))))) (aA (dY PassesOwn.never rfl (dm (bB Dz) T.b_range (aa (bD aV (gB 0 Ry) aB) ao)) (aG (i:=4) lN.nd rfl (Or.inr Wo) rfl) (aA (aJ (bU (K:=K) rfl PySem.F.plainAttrs_list PySem.F.slot_list_extend PySem.F.type_list_extend kh (au 2 Dy) (aa (gG (sub:=[none,some 4,some 1]) (b8 (N:=["_law_tall","_law_wide","_law_found","_law_begin","_law_first"]) (sc:=az cM) (N':=["_law_last","_law_first","_law_wide"]) (by decide+kernel)) rfl rfl rfl (p6 (bB Dz) T.b_range (aa (gB 4 Wo) (aa (bD aV (gB 0 Ry) aB) ao))) (fun C s₀ H₀ ex=>(mK 0 (by decide+kernel) wL)) (fun C s₀ H₀ ex=>cX) (fun C s₀ H₀ ex=>(fu (aa (dz 1 (by decide+kernel)) (aa (gK 0 (by decide+kernel)) (aa aB (aa (dz 2 (by decide+kernel)) ao))))))) ao))) (aC (aJ (bU (K:=K) rfl PySem.F.plainAttrs_list PySem.F.slot_list_extend PySem.F.type_list_extend kh (au 2 Dy) (aa (gG (sub:=[none,some 4,some 0]) (b8 (N:=["_law_tall","_law_wide","_law_found","_law_begin","_law_first"]) (sc:=az cM) (N':=["_law_end","_law_first","_law_tall"]) (by decide+kernel)) rfl rfl rfl (dm (bB Dz) T.b_range (aa (bD aV (gB 1 Rz) aB) ao)) (fun C s₀ H₀ ex=>(mK 0 (by decide+kernel) wK)) (fun C s₀ H₀ ex=>cX) (fun C s₀ H₀ ex=>(fu (aa (dz 1 (by decide+kernel)) (aa (dz 2 (by decide+kernel)) (aa aB (aa (gK 0 (by decide+kernel)) ao))))))) ao)))))) (aC (aM (au 2 Dy)))))),?_⟩
  walk_at "sts"
  have hsz:20000≤sizeLine:=by decide
  refine bO rfl fun fd H1 nfd S1 hfd=>?_
  walk_at "sts"
  refine ⟨_,rfl,by omega,by omega,?_⟩
  rw [show ((n:Int)+1).toNat=n+1 by omega]
  refine uM (n:=n+1) (fun i σ G=>Same H G∧(∃ us,G fd=some (.lst us)∧Wins G m n us∧us.length≤98*i)∧∃ x3 x4,σ=[some (.int (m:Int)),some (.int (n:Int)),some (.ref fd),x3,x4]) ⟨S1,⟨[],hfd,(fun v hv=>nomatch hv),by simp⟩,_,_,rfl⟩ ?_ ?_
  · rintro b σ G hb ⟨sG,⟨us,hG,hW,hl⟩,x3,x4,rfl⟩
    rw [Int.zero_add]
    walk_at "sts"
    refine ⟨.inl ⟨rfl,_,SqL.of hG⟩,?_⟩
    walk_at "sts"
    refine ⟨⟨by omega,by omega,by omega,by omega⟩,?_⟩
    rw [show ((n:Int)+1 - (b:Int)).toNat=n+1 - b by omega]
    refine eQ (n:=n+1 - b) (fun i ys G'=>Same G G'∧Wins G' m n ys∧ys.length=i) (by omega) ⟨Same.refl G,(fun v hv=>nomatch hv),rfl⟩ ?_ ?_ ?_
    · rintro i ys G' ⟨_,_,h⟩
      omega
    · rintro i ys G' hi ⟨s,hY,hyl⟩
      walk_at "sts"
      refine ⟨KeepSt.set rfl,?_⟩
      walk_at "sts"
      refine bO rfl fun tp G2 _ s2 htp=>?_
      walk_at "sts"
      refine ⟨s.trans s2,(hY.same s2).app (Wins.one ⟨tp,0,m,b,b+i,rfl,htp,by omega,by omega,by omega,by omega,.inl rfl,.inl rfl⟩),by simp;omega⟩
    rintro ys G1 D G2 ⟨s1,hY,hyl⟩ nD s2 hD
    try walk_at "sts"
    have sg:=s1.trans s2
    refine ⟨fd,D,_,_,rfl,rfl,sg _ _ hG,hD,by omega,?_⟩
    walk_at "sts"
    have W2:=((hW.same sg).app (hY.same s2)).put (sg _ _ hG) (o:=.lst (us ++ ys))
    have S2:=Same.put (o:=.lst (us ++ ys)) (sG.trans sg) nfd
    have h2:=aj (H:=G2) (a:=fd) (o:=.lst (us ++ ys))
    generalize upd G2 fd (.lst (us ++ ys))=G3 at W2 S2 h2 ⊢
    walk_at "sts"
    refine ⟨.inl ⟨rfl,_,SqL.of h2⟩,?_⟩
    walk_at "sts"
    refine ⟨_,rfl,by omega,by omega,?_⟩
    rw [show ((m:Int)+1).toNat=m+1 by omega]
    refine eQ (n:=m+1) (fun i zs G'=>Same G3 G'∧Wins G' m n zs∧zs.length=i) (by omega) ⟨Same.refl G3,(fun v hv=>nomatch hv),rfl⟩ ?_ ?_ ?_
    · rintro i zs G' ⟨_,_,h⟩
      omega
    · rintro i zs G' hi ⟨s,hY,hyl⟩
      rw [Int.zero_add]
      walk_at "sts"
      refine ⟨KeepSt.set rfl,?_⟩
      walk_at "sts"
      refine bO rfl fun tp G2 _ s2 htp=>?_
      walk_at "sts"
      refine ⟨s.trans s2,(hY.same s2).app (Wins.one ⟨tp,0,i,b,n,rfl,htp,by omega,by omega,by omega,by omega,.inl rfl,.inr rfl⟩),by simp;omega⟩
    rintro zs G4 D2 G5 ⟨s4,hY,hzl⟩ nD s5 hD
    try walk_at "sts"
    have sh:=s4.trans s5
    refine ⟨fd,D2,_,_,rfl,rfl,sh _ _ h2,hD,by simp;omega,?_⟩
    walk_at "sts"
    exact ⟨Same.put (S2.trans sh) nfd,⟨_,aj,((W2.same sh).app (hY.same s5)).put (sh _ _ h2),by simp;omega⟩,_,_,rfl⟩
  rintro σ G ⟨sG,⟨us0,hG,hW,hl0⟩,x3,x4,rfl⟩
  walk_at "sts"
  refine ⟨_,rfl,by omega,by omega,?_⟩
  rw [show ((m:Int)+1).toNat=m+1 by omega]
  refine uM (n:=m+1) (fun i σ G=>Same H G∧(∃ us,G fd=some (.lst us)∧Wins G m n us∧us.length≤4802+98*i)∧∃ x3 x4,σ=[some (.int (m:Int)),some (.int (n:Int)),some (.ref fd),x3,x4]) ⟨sG,⟨us0,hG,hW,by omega⟩,_,_,rfl⟩ ?_ ?_
  · rintro b σ G hb ⟨sG,⟨us,hG,hW,hl⟩,x3,x4,rfl⟩
    rw [Int.zero_add]
    walk_at "sts"
    refine ⟨.inl ⟨rfl,_,SqL.of hG⟩,?_⟩
    walk_at "sts"
    refine ⟨⟨by omega,by omega,by omega,by omega⟩,?_⟩
    rw [show ((m:Int)+1 - (b:Int)).toNat=m+1 - b by omega]
    refine eQ (n:=m+1 - b) (fun i ys G'=>Same G G'∧Wins G' m n ys∧ys.length=i) (by omega) ⟨Same.refl G,(fun v hv=>nomatch hv),rfl⟩ ?_ ?_ ?_
    · rintro i ys G' ⟨_,_,h⟩
      omega
    · rintro i ys G' hi ⟨s,hY,hyl⟩
      walk_at "sts"
      refine ⟨KeepSt.set rfl,?_⟩
      walk_at "sts"
      refine bO rfl fun tp G2 _ s2 htp=>?_
      walk_at "sts"
      refine ⟨s.trans s2,(hY.same s2).app (Wins.one ⟨tp,b,b+i,0,n,rfl,htp,by omega,by omega,by omega,by omega,.inr rfl,.inr rfl⟩),by simp;omega⟩
    rintro ys G1 D G2 ⟨s1,hY,hyl⟩ nD s2 hD
    try walk_at "sts"
    have sg:=s1.trans s2
    refine ⟨fd,D,_,_,rfl,rfl,sg _ _ hG,hD,by omega,?_⟩
    walk_at "sts"
    have W2:=((hW.same sg).app (hY.same s2)).put (sg _ _ hG) (o:=.lst (us ++ ys))
    have S2:=Same.put (o:=.lst (us ++ ys)) (sG.trans sg) nfd
    have h2:=aj (H:=G2) (a:=fd) (o:=.lst (us ++ ys))
    generalize upd G2 fd (.lst (us ++ ys))=G3 at W2 S2 h2 ⊢
    walk_at "sts"
    refine ⟨.inl ⟨rfl,_,SqL.of h2⟩,?_⟩
    walk_at "sts"
    refine ⟨_,rfl,by omega,by omega,?_⟩
    rw [show ((n:Int)+1).toNat=n+1 by omega]
    refine eQ (n:=n+1) (fun i zs G'=>Same G3 G'∧Wins G' m n zs∧zs.length=i) (by omega) ⟨Same.refl G3,(fun v hv=>nomatch hv),rfl⟩ ?_ ?_ ?_
    · rintro i zs G' ⟨_,_,h⟩
      omega
    · rintro i zs G' hi ⟨s,hY,hyl⟩
      rw [Int.zero_add]
      walk_at "sts"
      refine ⟨KeepSt.set rfl,?_⟩
      walk_at "sts"
      refine bO rfl fun tp G2 _ s2 htp=>?_
      walk_at "sts"
      refine ⟨s.trans s2,(hY.same s2).app (Wins.one ⟨tp,b,m,0,i,rfl,htp,by omega,by omega,by omega,by omega,.inr rfl,.inl rfl⟩),by simp;omega⟩
    rintro zs G4 D2 G5 ⟨s4,hY,hzl⟩ nD s5 hD
    try walk_at "sts"
    have sh:=s4.trans s5
    refine ⟨fd,D2,_,_,rfl,rfl,sh _ _ h2,hD,by simp;omega,?_⟩
    walk_at "sts"
    exact ⟨Same.put (S2.trans sh) nfd,⟨_,aj,((W2.same sh).app (hY.same s5)).put (sh _ _ h2),by simp;omega⟩,_,_,rfl⟩
  · rintro σ G ⟨sG,⟨us,hG,hW,hl⟩,x3,x4,rfl⟩
    walk_at "sts"
    exact q fd us G nfd sG hG hW (by omega)
end
section
variable {P:Program} {w:World} {K:PySem.W.Frag} {mg:Str→Option Value} {base:Heap}
theorem ut:(["_law_number","_law_due_here"]:List Str).Nodup:=by decide+kernel
theorem oO:(["_law_table_here","_law_tall"]:List Str).Nodup:=by decide+kernel
theorem RG:aN bu "_law_end":=by decide+kernel
theorem RJ:aN bu "_law_begin":=by decide+kernel
theorem RK:aN bu "_law_last":=by decide+kernel
theorem RL:aN bu "_law_first":=by decide+kernel
theorem Im:aN bu "_law_numbers_here":=by decide+kernel
theorem RM:aN bu "_law_tall":=by decide+kernel
theorem RN:aN bu "_law_wide":=by decide+kernel
theorem Wt:cu bu "sorted":=by decide+kernel
theorem kz6y:cu bu "_law_numbers":=by decide+kernel
theorem kz6z:aN bu "_law_cell_here":=by decide+kernel
theorem kz70:cu bG "all":=by decide+kernel
theorem DN:aN bG "_law_told":=by decide+kernel
theorem DP:aN bG "_law_end":=by decide+kernel
theorem DQ:aN bG "_law_begin":=by decide+kernel
theorem Wu:aN bG "_law_wide":=by decide+kernel
theorem Io:aN bG "_law_asks":=by decide+kernel
theorem DW:aN bG "_law_last":=by decide+kernel
theorem DX:aN bG "_law_first":=by decide+kernel
theorem Wv:aN bG "_law_tall":=by decide+kernel
theorem kz79:aN bG "_law_spans":=by decide+kernel
theorem Ww:cu bL "_law_right":=by decide+kernel
theorem RP:aN bL "_law_due_here":=by decide+kernel
theorem Wx:aN bL "_law_last":=by decide+kernel
theorem Wy:aN bL "_law_first":=by decide+kernel
theorem Wz:aN bL "_law_end":=by decide+kernel
theorem WD:aN bL "_law_begin":=by decide+kernel
theorem WF:aN bL "_law_tall":=by decide+kernel
theorem WK:aN bL "_law_wide":=by decide+kernel
theorem WL:aN bL "_law_asks":=by decide+kernel
theorem RQ:aN bL "_law_spans":=by decide+kernel
theorem kz7k:cu bL "_law_due":=by decide+kernel
theorem kz7l:aN bL "_law_tables":=by decide+kernel
theorem kz7m:aN cA "_law_asks":=by decide+kernel
theorem WM:aN cA "_law_due_here":=by decide+kernel
theorem kz7o:aN cA "_law_tables":=by decide+kernel
theorem By {H:Hp} {Q:VK} {p:Addr} {ns:List Int} (hp:H p=some (.lst (ns.map V.int))) (hn:ns.length < 64) (h:∀ (q:Addr) (ms:List Int) (H':Hp),H q=none→Same H H'→H' q=some (.lst (ms.map V.int))→ms.Perm ns→ms.Pairwise (· ≤ ·)→Q (.ref q) H'):vY [.ref p] H Q:=G6 hp hn fun q ms nq a b=>h q ms _ nq ((Same.refl H).upd nq) aj a b
theorem Ip {ms ns us:List Int} (h1:ms.Perm us) (s1:ms.Pairwise (· ≤ ·)) (h2:ns.Perm us) (s2:ns.Pairwise (· ≤ ·)):ms=ns:=
  List.Perm.eq_of_pairwise (fun a b _ _ h1 h2=>Int.le_antisymm h1 h2) s1 s2 (h1.trans h2.symm)
theorem uv {ms:List Int} {a b m:Nat} (h:ms.Perm [(a:Int),(b:Int)]) (hs:ms.Pairwise (· ≤ ·)) (ha:a≤m) (hb:b≤m):∃ c d:Nat,ms=[(c:Int),(d:Int)]∧c≤d∧d≤m:=by
  by_cases e:a≤b
  · exact ⟨a,b,Ip h hs (List.Perm.refl _) (by simp;omega),e,hb⟩
  · exact ⟨b,a,Ip h hs (List.Perm.swap _ _ _) (by simp;omega),by omega,ha⟩
def spBy:Sp:=fun vs H Q _=>∃ (n:Int) (m w:Nat),vs=[.int n,.int m,.int w]∧m≤48∧w≤48∧∀ v H',Same H H'→Win H' m w v→Q v H'
theorem bH:aF ["_law_cell_here","_law_tall","_law_wide","_law_numbers_here","_law_first","_law_last","_law_begin","_law_end"] ["_law_cell_here","_law_tall","_law_wide"] (az bu):=⟨rfl,rfl,rfl,by decide+kernel,rfl,by decide+kernel,by decide+kernel⟩
theorem j7 (T:Txt K mg):n8 P w K mg base 2 "_law_by_cell" ["_law_cell_here","_law_tall","_law_wide"] spBy:=by
  have bA:=bA (P:=P) (w:=w) (base:=base) T
  refine iC T.d_law_by_cell bH (fun _ _ _ _ _ _ us hl=>L2.j8 (fun _ _ _=>rfl) us hl) ?_ fun f cdv A outer s H vs Q E hr h=>?_
  · rintro vs H Q E ⟨n,m,f',rfl,_⟩;rfl
  obtain ⟨n,m,f',rfl,hm,hw,q⟩:=h
  have hu:=hr.units0
  have hu64:=hr.units
  refine ⟨_,(aA (aP (i:=3) bH.nd rfl (Or.inl Im) (aU bA (hr.mono (by decide)) (bB kz6y) (aa (au 0 kz6z) (aa (dX (aa aB (aa aB (aa (bD aV (au 1 RM) aB) (aa (bD aV (au 1 RM) aB) (aa (bD aV (au 2 RN) aB) (aa (bD aV (au 2 RN) aB) ao))))))) (aa aB ao))) (by decide+kernel)) rfl) (aA (lE (aX pC (bB Wt) T.b_sorted u0 (aa (jM (jK (K:=K) rfl) (au 3 Im) (fM aB) (fM aB)) ao) (by decide+kernel) (by decide+kernel)) (lD (K:=K) rfl rfl (aH (aG (i:=4) bH.nd rfl (Or.inl RL) rfl) (aH (aG (i:=5) bH.nd rfl (Or.inl RK) rfl) dj)))) (aA (lE (aX pC (bB Wt) T.b_sorted u0 (aa (jM (jK (K:=K) rfl) (au 3 Im) (fM aB) lB) ao) (by decide+kernel) (by decide+kernel)) (lD (K:=K) rfl rfl (aH (aG (i:=6) bH.nd rfl (Or.inl RJ) rfl) (aH (aG (i:=7) bH.nd rfl (Or.inl RG) rfl) dj)))) (aA (dq (cO (gH (K:=K) rfl hu64) (bZ (K:=K) rfl (au 3 Im) aB) aB (by first | exact bT _ | with_unfolding_all rfl)) (aC (aP (i:=4) bH.nd rfl (Or.inl RL) aB rfl)) (aC (aP (i:=6) bH.nd rfl (Or.inl RJ) aB rfl))) (aA (dq (cO (gH (K:=K) rfl hu64) (bZ (K:=K) rfl (au 3 Im) aB) aB (by first | exact bT _ | with_unfolding_all rfl)) (aC (aP (i:=5) bH.nd rfl (Or.inl RK) (au 1 RM) rfl)) (aC (aP (i:=7) bH.nd rfl (Or.inl RG) (au 2 RN) rfl))) (aC (aM (fu (aa (au 4 RL) (aa (au 5 RK) (aa (au 6 RJ) (aa (au 7 RG) ao)))))))))))),?_⟩
  walk_at "sts"
  have hsz:20000≤sizeLine:=by decide
  refine bO rfl fun p4 H4 _ S4 f4=>?_
  walk_at "sts"
  replace f4:H4 p4=some (.lst (([2,2,(m:Int)+1,(m:Int)+1,(f':Int)+1,(f':Int)+1]:List Int).map V.int)):=f4
  refine ⟨n,p4,[2,2,(m:Int)+1,(m:Int)+1,(f':Int)+1,(f':Int)+1],2147483587,rfl,f4,by simp,(fun y hy=>by simp at hy;omega),by omega,by omega,fun p5 ms H5 _ S5 f5 hF=>?_⟩
  walk_at "sts"
  obtain ⟨ks,rfl,hkl,hk⟩:=hF.nat
  have U5:=S4.trans S5
  match ks,hkl with
  | [k0,k1,o3,o4,o5,o6],_=>
    have h3:=hk 2 o3 ((m:Int)+1) rfl rfl
    have h4:=hk 3 o4 ((m:Int)+1) rfl rfl
    have h5:=hk 4 o5 ((f':Int)+1) rfl rfl
    have h6:=hk 5 o6 ((f':Int)+1) rfl rfl
    replace f5:H5 p5=some (.lst [.int (k0:Int),.int (k1:Int),.int (o3:Int),.int (o4:Int),.int (o5:Int),.int (o6:Int)]):=f5
    clear hk
    walk_at "sts"
    refine u9 (SqL.of f5) fun sl nsl=>?_
    walk_at "sts"
    rw [show nY [V.int (k0:Int),V.int (k1:Int),V.int (o3:Int),V.int (o4:Int),V.int (o5:Int),V.int (o6:Int)] (some 2) (some 4)=([(o3:Int),(o4:Int)]:List Int).map V.int from rfl]
    have S6:=(Same.refl H5).upd nsl (o:=.lst (([(o3:Int),(o4:Int)]:List Int).map V.int))
    have f6:=aj (H:=H5) (a:=sl) (o:=.lst (([(o3:Int),(o4:Int)]:List Int).map V.int))
    generalize upd H5 sl (.lst (([(o3:Int),(o4:Int)]:List Int).map V.int))=H6 at S6 f6 ⊢
    refine By f6 (by simp) fun p7 ms7 H7 _ S7 f7 pe7 so7=>?_
    obtain ⟨a,b,rfl,hab,hbm⟩:=uv (m:=m) pe7 so7 (by omega) (by omega)
    walk_at "sts"
    refine rW (xs:=[.int a,.int b]) (SqL.of f7) rfl ?_
    have f57:=S7 _ _ (S6 _ _ f5)
    walk_at "sts"
    refine u9 (SqL.of f57) fun sm nsm=>?_
    walk_at "sts"
    rw [show nY [V.int (k0:Int),V.int (k1:Int),V.int (o3:Int),V.int (o4:Int),V.int (o5:Int),V.int (o6:Int)] (some 4) none=([(o5:Int),(o6:Int)]:List Int).map V.int from rfl]
    have S8:=(Same.refl H7).upd nsm (o:=.lst (([(o5:Int),(o6:Int)]:List Int).map V.int))
    have f8:=aj (H:=H7) (a:=sm) (o:=.lst (([(o5:Int),(o6:Int)]:List Int).map V.int))
    generalize upd H7 sm (.lst (([(o5:Int),(o6:Int)]:List Int).map V.int))=H8 at S8 f8 ⊢
    refine By f8 (by simp) fun p9 ms9 H9 _ S9 f9 pe9 so9=>?_
    obtain ⟨c,d,rfl,hcd,hdf⟩:=uv (m:=f') pe9 so9 (by omega) (by omega)
    walk_at "sts"
    refine rW (xs:=[.int c,.int d]) (SqL.of f9) rfl ?_
    have U9:=S6.trans (S7.trans (S8.trans S9))
    have f59:=U9 _ _ f5
    have V9:=U5.trans U9
    clear S4 S5 S6 S7 S8 S9 f4 f6 f7 f8 f9 pe7 so7 pe9 so9 U9 U5
    walk_at "stn"
    with_reducible refine qQ (fun σ G=>G=H9∧∃ a' c':Nat,σ=[some (.int n),some (.int (m:Int)),some (.int (f':Int)),some (.ref p5),some (.int (a':Int)),some (.int (b:Int)),some (.int (c':Int)),some (.int (d:Int))]∧(a'=0∨c'=0)∧a'≤b∧c'≤d) ?_ ?_
    rotate_left
    · intro N hN
      walk_at "sts"
      refine kE (fun h0=>?_) (fun h0=>?_)
      · walk_at "sts"
        exact hN _ _ ⟨rfl,0,c,rfl,.inl rfl,by omega,by omega⟩
      · walk_at "sts"
        exact hN _ _ ⟨rfl,a,0,rfl,.inr rfl,by omega,by omega⟩
    rintro σ G ⟨rfl,a',c',rfl,hz,ha',hc'⟩
    walk_at "stn"
    with_reducible refine qQ (fun σ G'=>G'=G∧∃ b' d':Nat,σ=[some (.int n),some (.int (m:Int)),some (.int (f':Int)),some (.ref p5),some (.int (a':Int)),some (.int (b':Int)),some (.int (c':Int)),some (.int (d':Int))]∧(b'=m∨d'=f')∧a'≤b'∧b'≤m∧c'≤d'∧d'≤f') ?_ ?_
    rotate_left
    · intro N hN
      walk_at "sts"
      refine kE (fun h0=>?_) (fun h0=>?_)
      · walk_at "sts"
        exact hN _ _ ⟨rfl,m,d,rfl,.inl rfl,by omega,by omega,by omega,by omega⟩
      · walk_at "sts"
        exact hN _ _ ⟨rfl,b,f',rfl,.inr rfl,by omega,by omega,by omega,by omega⟩
    rintro σ G' ⟨rfl,b',d',rfl,hy,g1,g2,g3,g4⟩
    walk_at "sts"
    refine bO rfl fun tp G2 _ s2 htp=>?_
    walk_at "sts"
    exact q _ _ (V9.trans s2) ⟨tp,a',b',c',d',rfl,htp,g1,g2,g3,g4,hz,hy⟩
theorem Ir (a b c d:Int):PyData.eqv (.tuple [.int a,.int b]) (.tuple [.int c,.int d])=(decide (a=c) && decide (b=d)):=by
  simp [PyData.eqv,PyData.eqvAll]
  rfl
theorem qT (a b:Int):PySem.SeqAt.shaped (.tuple [.int a,.int b])=true:=tQ (n:=1) (Dc (n:=0) fun d hd=>by
  simp at hd
  rcases hd with rfl | rfl <;> exact Bj _) (by omega)
theorem BJ {H:Hp} {p:Addr} {a b:Int} (h:H p=some (.tup [.int a,.int b])):DR H (.tuple [.int a,.int b]) (.ref p):=Gr.mpr ⟨p,_,rfl,h,tK [a,b]⟩
theorem pU {H:Hp} {Q:VK} {p p':Addr} {a b c d:Int} (h:H p=some (.tup [.int a,.int b])) (h':H p'=some (.tup [.int c,.int d])) (hq:Q (.bl (decide (a=c) && decide (b=d))) H):Kz K (.ref p) (.ref p') H Q:=
  .inl (.inl (Gu (BJ h) (BJ h') (qT _ _) (qT _ _) (by rw [Ir];exact hq)))
theorem wO {p q:Prop} [Decidable p] [Decidable q] {A B:Prop} (h1:p→q→A) (h2:B):if (decide p && decide q)=true then A else B:=by
  by_cases hp:p
  · by_cases hq:q
    · rw [if_pos (by simp [hp,hq])];exact h1 hp hq
    · rw [if_neg (by simp [hq])];exact h2
  · rw [if_neg (by simp [hp])];exact h2
theorem WN (n:Nat):(List.range n).map (fun _=>V.bl true)=(List.replicate n true).map V.bl:=by
  induction n with
  | zero=>rfl
  | succ n ih=>rw [List.range_succ,List.map_append,ih,List.replicate_succ',List.map_append];rfl
theorem DY (n:Nat):(List.replicate n true).all id=true:=by simp
def Mw (mg:Str→Option Value):Sp:=fun vs H Q _=>∃ (x sp:Addr) (t:List Nat) (m f a b c d:Nat),vs=[.ref x,.int m,.int f,.ref sp,.int (rk t m a b c d)]∧Ak mg H x t m f∧H sp=some (.tup [.int (a:Int),.int (b:Int),.int (c:Int),.int (d:Int)])∧a≤b∧b≤m∧c≤d∧d≤f∧(a=0∨c=0)∧(b=m∨d=f)∧∀ H',Same H H'→Q (.bl true) H'
theorem eZ:aF ["_law_asks","_law_tall","_law_wide","_law_spans","_law_due_here","_law_first","_law_last","_law_begin","_law_end","_law_told"] ["_law_asks","_law_tall","_law_wide","_law_spans","_law_due_here"] (az bG):=⟨rfl,rfl,rfl,by decide+kernel,rfl,by decide+kernel,by decide+kernel⟩
theorem jR (T:Txt K mg):n8 P w K mg base 8 "_law_right" ["_law_asks","_law_tall","_law_wide","_law_spans","_law_due_here"] (Mw mg):=by
  have j4:=j4 (P:=P) (w:=w) (base:=base) T
  have jE:=jE (P:=P) (w:=w) (base:=base) T
  have iy:=iy (P:=P) (w:=w) (base:=base) T
  have j5:=j5 (P:=P) (w:=w) (base:=base) T
  have j6:=j6 (P:=P) (w:=w) (base:=base) T
  have mY:=mY (P:=P) (w:=w) (base:=base) T
  refine iC T.d_law_right eZ (fun _ _ _ _ _ _ us hl=>L2.Jc (fun _ _ _ _ _=>rfl) us hl) ?_ fun f cdv A outer s H vs Q E hr h=>?_
  · rintro vs H Q E ⟨x,sp,t,m,f',a,b,c,d,rfl,_⟩;rfl
  obtain ⟨x,sp,t,m,f',a,b,c,d,rfl,hA,hsp,h1,h2,h3,h4,h5,h6,q⟩:=h
  have hu:=hr.units0
  have hu64:=hr.units
  refine ⟨_,(aA (lE (au 3 kz79) (lD (K:=K) rfl rfl (aH (aG (i:=5) eZ.nd rfl (Or.inl DX) rfl) (aH (aG (i:=6) eZ.nd rfl (Or.inl DW) rfl) (aH (aG (i:=7) eZ.nd rfl (Or.inl DQ) rfl) (aH (aG (i:=8) eZ.nd rfl (Or.inl DP) rfl) dj)))))) (aA (aP (i:=9) eZ.nd rfl (Or.inl DN) (dX (aa (eO (au 0 Io) T.o_Asks j4 (hr.mono (by decide)) (mL fun _ _=>rfl) (aa (au 5 DX) (aa (au 6 DW) (aa (au 7 DQ) (aa (au 8 DP) ao))))) ao)) rfl) (aA (dq (cO (gH (K:=K) rfl hu64) (fu (aa (au 5 DX) (aa (au 6 DW) ao))) (fu (aa aB (aa (au 1 Wv) ao))) (by first | exact bT _ | with_unfolding_all rfl)) (aC (aJ (bU (K:=K) rfl PySem.F.plainAttrs_list PySem.F.slot_list_append PySem.F.type_list_append bj (au 9 DN) (aa (eO (au 0 Io) T.o_Asks jE (hr.mono (by decide)) (mL fun _ _=>rfl) (aa (au 7 DQ) (aa (au 8 DP) ao))) ao)))) c7) (aA (dq (cO (gH (K:=K) rfl hu64) (fu (aa (au 5 DX) (aa (au 8 DP) ao))) (fu (aa aB (aa (au 2 Wu) ao))) (by first | exact bT _ | with_unfolding_all rfl)) (aC (aJ (bU (K:=K) rfl PySem.F.plainAttrs_list PySem.F.slot_list_append PySem.F.type_list_append bj (au 9 DN) (aa (eO (au 0 Io) T.o_Asks iy (hr.mono (by decide)) (mL fun _ _=>rfl) (aa (au 6 DW) (aa (au 7 DQ) ao))) ao)))) c7) (aA (dq (cO (gH (K:=K) rfl hu64) (fu (aa (au 7 DQ) (aa (au 6 DW) ao))) (fu (aa aB (aa (au 1 Wv) ao))) (by first | exact bT _ | with_unfolding_all rfl)) (aC (aJ (bU (K:=K) rfl PySem.F.plainAttrs_list PySem.F.slot_list_append PySem.F.type_list_append bj (au 9 DN) (aa (eO (au 0 Io) T.o_Asks j5 (hr.mono (by decide)) (mL fun _ _=>rfl) (aa (au 5 DX) (aa (au 8 DP) ao))) ao)))) c7) (aA (dq (cO (gH (K:=K) rfl hu64) (fu (aa (au 7 DQ) (aa (au 8 DP) ao))) (fu (aa aB (aa (au 2 Wu) ao))) (by first | exact bT _ | with_unfolding_all rfl)) (aC (aJ (bU (K:=K) rfl PySem.F.plainAttrs_list PySem.F.slot_list_append PySem.F.type_list_append bj (au 9 DN) (aa (eO (au 0 Io) T.o_Asks j6 (hr.mono (by decide)) (mL fun _ _=>rfl) (aa (au 5 DX) (aa (au 6 DW) ao))) ao)))) c7) (aC (aM (aX (xG rfl) (bB kz70) T.b_all Gh (aa (gG (sub:=[none,some 4]) (b8 (N:=["_law_asks","_law_tall","_law_wide","_law_spans","_law_due_here","_law_first","_law_last","_law_begin","_law_end","_law_told"]) (sc:=az bG) (N':=["_law_number","_law_due_here"]) (by decide+kernel)) rfl rfl rfl (jU (K:=K) rfl (au 9 DN)) (fun C s₀ H₀ ex=>(mK 0 (by decide+kernel) ut)) (fun C s₀ H₀ ex=>cX) (fun C s₀ H₀ ex=>(xQ (aU mY (hr.mono (by decide)) (R5 (by decide+kernel)) (aa (gK 0 (by decide+kernel)) ao) (by decide+kernel)) (xP (xN (gH (K:=K) rfl hu64) (gK 0 (by decide+kernel)) (dz 1 (by decide+kernel)) (by first | exact bT _ | with_unfolding_all rfl)))))) ao) (by decide+kernel) (by decide+kernel)))))))))),?_⟩
  walk_at "sts"
  have hsz:20000≤sizeLine:=by decide
  obtain ⟨hl,dx,ty,hx,hT⟩:=id hA
  refine ⟨sp,_,rfl,.inl (SqT.of hsp),rfl,?_⟩
  walk_at "sts"
  refine ⟨x,dx,_,rfl,hx,Bt (by decide+kernel),?_⟩
  walk_at "sts"
  refine ⟨x,t,m,f',a,b,c,d,rfl,hA,h1,h2,h3,h4,h5,h6,fun H1 S1=>?_⟩
  walk_at "sts"
  obtain ⟨v,ev⟩:∃ v,v=rk t m a b c d:=⟨_,rfl⟩
  rw [← ev]
  walk_at "stn"
  refine bO rfl fun tl H2 ntl S2 htl=>?_
  have U2:=S1.trans S2
  have ntl0:=Same.back S1 ntl
  replace htl:H2 tl=some (.lst (List.replicate 1 (.int v))):=htl
  walk_at "stn"
  with_reducible refine qQ (fun σ G=>Same H G∧(∃ k,k≤2∧G tl=some (.lst (List.replicate k (.int v))))∧σ=[some (.ref x),some (.int (m:Int)),some (.int (f':Int)),some (.ref sp),some (.int v),some (.int (a:Int)),some (.int (b:Int)),some (.int (c:Int)),some (.int (d:Int)),some (.ref tl)]) ?_ ?_
  rotate_left
  · intro N hN
    walk_at "sts"
    refine bO rfl fun p1 G1 _ s1 g1=>?_
    walk_at "sts"
    refine bO rfl fun p2 G2 _ s2 g2=>?_
    walk_at "sts"
    refine pU (s2 _ _ g1) g2 ?_
    walk_at "sts"
    have sG:=U2.trans (s1.trans s2)
    have hG:=s2 _ _ (s1 _ _ htl)
    refine wO (fun e1 e2=>?_) ?_
    · obtain rfl:a=0:=by omega
      obtain rfl:b=m:=by omega
      walk_at "sts"
      refine ⟨.inl ⟨rfl,_,SqL.of hG⟩,?_⟩
      walk_at "sts"
      refine ⟨x,dx,_,rfl,sG _ _ hx,Bt (by decide+kernel),?_⟩
      walk_at "sts"
      refine ⟨x,t,b,f',c,d,rfl,hA.same sG,h3,h4,?_⟩
      walk_at "sts"
      rw [← ev]
      refine bz hG (by simp;omega) ?_
      walk_at "sts"
      refine hN _ _ ⟨Same.put sG ntl0,⟨2,by omega,?_⟩,rfl⟩
      rw [aj,← List.replicate_succ']
    · walk_at "sts"
      exact hN _ _ ⟨sG,⟨1,by omega,hG⟩,rfl⟩
  rintro σ G ⟨sG,⟨k,hk,hG⟩,rfl⟩
  walk_at "stn"
  with_reducible refine qQ (fun σ G=>Same H G∧(∃ k,k≤3∧G tl=some (.lst (List.replicate k (.int v))))∧σ=[some (.ref x),some (.int (m:Int)),some (.int (f':Int)),some (.ref sp),some (.int v),some (.int (a:Int)),some (.int (b:Int)),some (.int (c:Int)),some (.int (d:Int)),some (.ref tl)]) ?_ ?_
  rotate_left
  · intro N hN
    walk_at "sts"
    refine bO rfl fun p1 G1 _ s1 g1=>?_
    walk_at "sts"
    refine bO rfl fun p2 G2 _ s2 g2=>?_
    walk_at "sts"
    refine pU (s2 _ _ g1) g2 ?_
    walk_at "sts"
    replace sG:=sG.trans (s1.trans s2)
    replace hG:=s2 _ _ (s1 _ _ hG)
    refine wO (fun e1 e2=>?_) ?_
    · obtain rfl:a=0:=by omega
      obtain rfl:d=f':=by omega
      walk_at "sts"
      refine ⟨.inl ⟨rfl,_,SqL.of hG⟩,?_⟩
      walk_at "sts"
      refine ⟨x,dx,_,rfl,sG _ _ hx,Bt (by decide+kernel),?_⟩
      walk_at "sts"
      refine ⟨x,t,m,d,b,c,rfl,hA.same sG,h2,h3,?_⟩
      walk_at "sts"
      rw [← ev]
      refine bz hG (by simp;omega) ?_
      walk_at "sts"
      refine hN _ _ ⟨Same.put sG ntl0,⟨k+1,by omega,?_⟩,rfl⟩
      rw [aj,← List.replicate_succ']
    · walk_at "sts"
      exact hN _ _ ⟨sG,⟨k,by omega,hG⟩,rfl⟩
  clear hG sG hk k
  rintro σ G ⟨sG,⟨k,hk,hG⟩,rfl⟩
  walk_at "stn"
  with_reducible refine qQ (fun σ G=>Same H G∧(∃ k,k≤4∧G tl=some (.lst (List.replicate k (.int v))))∧σ=[some (.ref x),some (.int (m:Int)),some (.int (f':Int)),some (.ref sp),some (.int v),some (.int (a:Int)),some (.int (b:Int)),some (.int (c:Int)),some (.int (d:Int)),some (.ref tl)]) ?_ ?_
  rotate_left
  · intro N hN
    walk_at "sts"
    refine bO rfl fun p1 G1 _ s1 g1=>?_
    walk_at "sts"
    refine bO rfl fun p2 G2 _ s2 g2=>?_
    walk_at "sts"
    refine pU (s2 _ _ g1) g2 ?_
    walk_at "sts"
    replace sG:=sG.trans (s1.trans s2)
    replace hG:=s2 _ _ (s1 _ _ hG)
    refine wO (fun e1 e2=>?_) ?_
    · obtain rfl:c=0:=by omega
      obtain rfl:b=m:=by omega
      walk_at "sts"
      refine ⟨.inl ⟨rfl,_,SqL.of hG⟩,?_⟩
      walk_at "sts"
      refine ⟨x,dx,_,rfl,sG _ _ hx,Bt (by decide+kernel),?_⟩
      walk_at "sts"
      refine ⟨x,t,b,f',a,d,rfl,hA.same sG,h1,h4,?_⟩
      walk_at "sts"
      rw [← ev]
      refine bz hG (by simp;omega) ?_
      walk_at "sts"
      refine hN _ _ ⟨Same.put sG ntl0,⟨k+1,by omega,?_⟩,rfl⟩
      rw [aj,← List.replicate_succ']
    · walk_at "sts"
      exact hN _ _ ⟨sG,⟨k,by omega,hG⟩,rfl⟩
  clear hG sG hk k
  rintro σ G ⟨sG,⟨k,hk,hG⟩,rfl⟩
  walk_at "stn"
  with_reducible refine qQ (fun σ G=>Same H G∧(∃ k,k≤5∧G tl=some (.lst (List.replicate k (.int v))))∧σ=[some (.ref x),some (.int (m:Int)),some (.int (f':Int)),some (.ref sp),some (.int v),some (.int (a:Int)),some (.int (b:Int)),some (.int (c:Int)),some (.int (d:Int)),some (.ref tl)]) ?_ ?_
  rotate_left
  · intro N hN
    walk_at "sts"
    refine bO rfl fun p1 G1 _ s1 g1=>?_
    walk_at "sts"
    refine bO rfl fun p2 G2 _ s2 g2=>?_
    walk_at "sts"
    refine pU (s2 _ _ g1) g2 ?_
    walk_at "sts"
    replace sG:=sG.trans (s1.trans s2)
    replace hG:=s2 _ _ (s1 _ _ hG)
    refine wO (fun e1 e2=>?_) ?_
    · obtain rfl:c=0:=by omega
      obtain rfl:d=f':=by omega
      walk_at "sts"
      refine ⟨.inl ⟨rfl,_,SqL.of hG⟩,?_⟩
      walk_at "sts"
      refine ⟨x,dx,_,rfl,sG _ _ hx,Bt (by decide+kernel),?_⟩
      walk_at "sts"
      refine ⟨x,t,m,d,a,b,rfl,hA.same sG,h1,h2,?_⟩
      walk_at "sts"
      rw [← ev]
      refine bz hG (by simp;omega) ?_
      walk_at "sts"
      refine hN _ _ ⟨Same.put sG ntl0,⟨k+1,by omega,?_⟩,rfl⟩
      rw [aj,← List.replicate_succ']
    · walk_at "sts"
      exact hN _ _ ⟨sG,⟨k,by omega,hG⟩,rfl⟩
  clear hG sG hk k
  rintro σ G ⟨sG,⟨k,hk,hG⟩,rfl⟩
  walk_at "sts"
  refine .inl ⟨tl,rfl,⟨_,SqL.of hG⟩,?_⟩
  refine tV (xs:=List.replicate k (.int v)) (fun _=>.bl true) (by simp;omega) (SqL.of hG) ?_ ?_
  · intro j y hy
    obtain rfl:=List.eq_of_mem_replicate (List.mem_of_getElem? hy)
    walk_at "sts"
    refine ⟨KeepSt.set rfl,?_⟩
    walk_at "sts"
    refine ⟨v,rfl,?_⟩
    walk_at "sts"
    rw [decide_eq_true rfl]
    exact ⟨rfl,lH rfl⟩
  intro D G4 nD s4 hD
  rw [WN] at hD
  try walk_at "sts"
  refine ⟨D,_,rfl,hD,?_⟩
  walk_at "sts"
  rw [DY]
  exact q _ (sG.trans s4)
theorem wQ {e e':Nat→Nat→Bool} {b b' m n:Nat} (h:∀ i k,i < m→k < n→e i (b+k)=e' k (b'+i)):∀ i,i≤m→∀ k,k≤n→tb e b i k=tb e' b' k i
  | 0,_,k,_=>by rw [z9,Aa]
  | i+1,hi,0,_=>by rw [Aa,z9]
  | i+1,hi,k+1,hk=>by
    rw [yF,yF,wQ h i (by omega) k (by omega),wQ h (i+1) hi k (by omega),wQ h i (by omega) (k+1) hk,h i k (by omega) (by omega)]
    congr 1
    unfold Rk
    split <;> split <;> omega
theorem Iu (S P:List Nat) (a b c d:Nat):Af S P a b c d=Af P S c d a b:=by
  unfold Af
  refine wQ (m:=b - a) (n:=d - c) (fun i k _ _=>?_) _ (Nat.le_refl _) _ (Nat.le_refl _)
  unfold DG
  rw [Nat.zero_add,Nat.zero_add]
  by_cases h:(S.drop a).getD i 0=(P.drop c).getD k 0
  · rw [decide_eq_true h,decide_eq_true h.symm]
  · rw [decide_eq_false h,decide_eq_false (fun z=>h z.symm)]
theorem sE (S:List Nat) (a i:Nat):(S.drop a).getD i 0=S.getD (a+i) 0:=by rw [List.getD_eq_getElem?_getD,List.getElem?_drop,List.getD_eq_getElem?_getD]
theorem Ag {z y:Str} {t:List Nat} (hn:t.Nodup) (ht:∀ p,p < mS z+mS y→t[yG (mS z) (mS y) (CB z y) p]?=some p) {a b c d:Nat} (hab:a≤b) (hb:b≤mS z) (hcd:c≤d) (hd:d≤mS y) (hz:a=0∨c=0) (hw:b=mS z∨d=mS y):rk t (mS z) a b c d=Af z.cps.toList y.cps.toList a b c d:=by
  have ez:mS z=z.cps.size:=rfl
  have ey:mS y=y.cps.size:=rfl
  unfold Af
  rcases hz with rfl | rfl
  · rw [Ro (Bw z y) hn ht hb hcd hd hw,Nat.sub_zero]
    refine yH (m:=b) (n:=d - c) (fun i k hi hk=>?_) _ (Nat.le_refl _) _ (Nat.le_refl _)
    unfold DG
    rw [sE,sE,Nat.zero_add,Nat.zero_add,qF (by omega),qF (by omega)]
  · rw [Mp (Bw z y) hn ht hab hb hd hw,Nat.sub_zero]
    refine yH (m:=b - a) (n:=d) (fun i k hi hk=>?_) _ (Nat.le_refl _) _ (Nat.le_refl _)
    unfold DG
    rw [sE,sE,Nat.zero_add,Nat.zero_add,qF (by omega),qF (by omega)]
def RV (mg:Str→Option Value):Sp:=fun vs H Q _=>∃ (aq q x0 x1:Addr) (z y:Str) (v:V),vs=[.ref aq,.ref q,.int (mS z),.int (mS y),v]∧H aq=some (.lst [.ref x0,.ref x1])∧AkB mg H x0 z y∧AkB mg H x1 y z∧Tabs H q z y∧Win H (mS z) (mS y) v∧∀ H',Same H H'→Q (.bl true) H'
theorem gw:aF ["_law_asks","_law_tables","_law_tall","_law_wide","_law_spans","_law_first","_law_last","_law_begin","_law_end","_law_due_here"] ["_law_asks","_law_tables","_law_tall","_law_wide","_law_spans"] (az bL):=⟨rfl,rfl,rfl,by decide+kernel,rfl,by decide+kernel,by decide+kernel⟩
theorem lO (T:Txt K mg):n8 P w K mg base 9 "_law_both" ["_law_asks","_law_tables","_law_tall","_law_wide","_law_spans"] (RV mg):=by
  have qG:=qG (P:=P) (w:=w) (base:=base) T
  have jR:=jR (P:=P) (w:=w) (base:=base) T
  refine iC T.d_law_both gw (fun _ _ _ _ _ _ us hl=>L2.Jc (fun _ _ _ _ _=>rfl) us hl) ?_ fun f cdv A outer s H vs Q E hr h=>?_
  · rintro vs H Q E ⟨aq,tq,x0,x1,z,y,v,rfl,_⟩;rfl
  obtain ⟨aq,tq,x0,x1,z,y,v,rfl,haq,⟨t0,A0,P0,l0,ht0⟩,⟨t1,A1,P1,l1,ht1⟩,hT,⟨sp,a,b,c,d,rfl,hsp,h1,h2,h3,h4,h5,h6⟩,q⟩:=h
  have hu:=hr.units0
  have hu64:=hr.units
  refine ⟨_,(aA (lE (au 4 RQ) (lD (K:=K) rfl rfl (aH (aG (i:=5) gw.nd rfl (Or.inl Wy) rfl) (aH (aG (i:=6) gw.nd rfl (Or.inl Wx) rfl) (aH (aG (i:=7) gw.nd rfl (Or.inl WD) rfl) (aH (aG (i:=8) gw.nd rfl (Or.inl Wz) rfl) dj)))))) (aA (aP (i:=9) gw.nd rfl (Or.inl RP) (aU qG (hr.mono (by decide)) (bB kz7k) (aa (au 1 kz7l) (aa (au 4 RQ) ao)) (by decide+kernel)) rfl) (aA (dq (jx (gO (aU jR (hr.mono (by decide)) (bB Ww) (aa (bZ (K:=K) rfl (au 0 WL) aB) (aa (au 2 WF) (aa (au 3 WK) (aa (au 4 RQ) (aa (au 9 RP) ao))))) (by decide+kernel)))) (aC (aM vN)) c7) (aC (aM (aU jR (hr.mono (by decide)) (bB Ww) (aa (bZ (K:=K) rfl (au 0 WL) aB) (aa (au 3 WK) (aa (au 2 WF) (aa (fu (aa (au 7 WD) (aa (au 8 Wz) (aa (au 5 Wy) (aa (au 6 Wx) ao))))) (aa (au 9 RP) ao))))) (by decide+kernel))))))),?_⟩
  walk_at "sts"
  refine ⟨sp,_,rfl,.inl (SqT.of hsp),rfl,?_⟩
  walk_at "sts"
  refine ⟨tq,sp,z,y,a,b,c,d,rfl,hT,hsp,h1,h2,h3,h4,h5,?_⟩
  walk_at "sts"
  refine ⟨x0,sp,t0,mS z,mS y,a,b,c,d,by rw [Ag P0.nd ht0 h1 h2 h3 h4 h5 h6],A0,hsp,h1,h2,h3,h4,h5,h6,fun H1 S1=>?_⟩
  walk_at "sts"
  refine bR (SqL.of (S1 _ _ haq)) rfl ?_
  walk_at "sts"
  refine bO rfl fun p G _ s g=>?_
  walk_at "sts"
  have sG:=S1.trans s
  refine ⟨x1,p,t1,mS y,mS z,c,d,a,b,by rw [Ag P1.nd ht1 h3 h4 h1 h2 (Or.symm h5) (Or.symm h6),Iu],A1.same sG,g,h3,h4,h1,h2,Or.symm h5,Or.symm h6,fun H2 S2=>?_⟩
  walk_at "sts"
  exact q _ (sG.trans S2)
theorem BK {H:Hp}:∀ (ds:List PyData) (vs:List V),ds.length=vs.length→(∀ (k:Nat) (d:PyData) (v:V),ds[k]?=some d→vs[k]?=some v→DR H d v)→DRs H ds vs
  | [],[],_,_=>Bb.mpr rfl
  | [],_ :: _,h,_=>by simp at h
  | _ :: _,[],h,_=>by simp at h
  | d :: ds,v :: vs,h,g=>xT.mpr ⟨v,vs,rfl,g 0 d v rfl rfl,BK ds vs (by simpa using h) fun k d' v' e1 e2=>g (k+1) d' v' e1 e2⟩
def WP (n:Nat) (f:Nat→List Int):PyData:=.list ((List.range n).map fun k=>.list ((f k).map PyData.int))
theorem CT.dr {H:Hp} {rs:List V} {n:Nat} {f:Nat→List Int} {q:Addr} (h:CT H rs n f) (hq:H q=some (.lst rs)):DR H (WP n f) (.ref q):=by
  refine Ba.mpr ⟨q,rs,rfl,hq,BK _ _ (by rw [List.length_map,List.length_range,h.1]) fun k d v e1 e2=>?_⟩
  have hk:k < n:=by
    have:=(List.getElem?_eq_some_iff.mp e1).1
    rw [List.length_map,List.length_range] at this;exact this
  rw [List.getElem?_map,List.getElem?_range hk] at e1
  obtain ⟨a,e,ha⟩:=h.2 k hk
  rw [e] at e2
  cases e1;cases e2
  exact Ba.mpr ⟨a,_,rfl,ha,tK _⟩
theorem yK (n:Nat) (f:Nat→List Int):PySem.SeqAt.shaped (WP n f)=true:=by
  refine tQ (n:=2) (xZ (n:=1) fun d hd=>?_) (by omega)
  obtain ⟨k,_,rfl⟩:=List.mem_map.mp hd
  refine xZ (n:=0) fun e he=>?_
  obtain ⟨i,_,rfl⟩:=List.mem_map.mp he
  exact Bj i
theorem CT.congr {H:Hp} {rs:List V} {n:Nat} {f g:Nat→List Int} (h:CT H rs n f) (e:∀ k,k < n→f k=g k):CT H rs n g:=⟨h.1,fun k hk=>by rw [← e k hk];exact h.2 k hk⟩
def RW (mg:Str→Option Value):Sp:=fun vs H Q _=>∃ (aq q x0 x1:Addr) (z y:Str),vs=[.ref aq,.ref q,.int (mS z)]∧mS y≤48∧H aq=some (.lst [.ref x0,.ref x1])∧AkB mg H x0 z y∧Tabs H q z y∧∀ H',Same H H'→Q (.bl true) H'
theorem lq:aF ["_law_asks","_law_tables","_law_tall","_law_due_here"] ["_law_asks","_law_tables","_law_tall"] (az cA):=⟨rfl,rfl,rfl,by decide+kernel,rfl,by decide+kernel,by decide+kernel⟩
theorem fZ (T:Txt K mg):n8 P w K mg base 9 "_law_stretches" ["_law_asks","_law_tables","_law_tall"] (RW mg):=by
  have lM:=lM (P:=P) (w:=w) (base:=base) T
  refine iC T.d_law_stretches lq (fun _ _ _ _ _ _ us hl=>L2.j8 (fun _ _ _=>rfl) us hl) ?_ fun f cdv A outer s H vs Q E hr h=>?_
  · rintro vs H Q E ⟨aq,tq,x0,x1,z,y,rfl,_⟩;rfl
  obtain ⟨aq,tq,x0,x1,z,y,rfl,hy48,haq,⟨t0,A0,P0,l0,ht0⟩,⟨q0,q1,ts,us,hq',hq0,hq1,h4,h5⟩,q⟩:=h
  have hu:=hr.units0
  have hu64:=hr.units
  refine ⟨_,(aA (vR (i:=3) lq.nd rfl (Or.inl WM) (sub:=[none,some 2]) (b8 (N:=["_law_asks","_law_tables","_law_tall","_law_due_here"]) (sc:=az cA) (N':=["_law_table_here","_law_tall"]) (by decide+kernel)) rfl rfl rfl (jU (K:=K) rfl (bZ (K:=K) rfl (au 1 kz7o) aB)) (fun C s₀ H₀ ex=>(mK 0 (by decide+kernel) oO)) (fun C s₀ H₀ ex=>cX) (fun C s₀ H₀ ex=>(bZ (K:=K) rfl (gK 0 (by decide+kernel)) (dz 1 (by decide+kernel)))) rfl) (aC (aM (xN (gH (K:=K) rfl hu64) (yf (bZ (K:=K) rfl (au 0 kz7m) aB) T.o_Asks lM (hr.mono (by decide)) (mL fun _ _=>rfl)) (au 3 WM) (by first | exact bT _ | with_unfolding_all rfl))))),?_⟩
  walk_at "sts"
  have hsz:20000≤sizeLine:=by decide
  have htl:ts.length=mS y+1:=h4.1
  refine .inl ⟨q0,rfl,⟨_,SqL.of hq0⟩,?_⟩
  refine oF (xs:=ts) (fun i ys G=>G=H∧CT G ys i (fun c=>iG z.cps.toList (y.cps.toList.drop c) (mS z) (mS y - c+1))) (by omega) ⟨rfl,rfl,fun k hk=>by omega⟩ ?_ ?_ ?_ ?_
  · rintro i ys G ⟨_,h⟩
    exact Nat.le_of_eq h.1
  · rintro i ys G ⟨rfl,_⟩
    exact SqL.of hq0
  · rintro i ys G x hx ⟨rfl,hC⟩
    have hi:i < mS y+1:=by have:=(List.getElem?_eq_some_iff.mp hx).1;omega
    obtain ⟨a,rs,e1,ha,hR⟩:=h4.2 i hi
    rw [e1] at hx;cases hx
    obtain ⟨r,e2,hr⟩:=hR.2 (mS z) (by show mS z < mS z+1;omega)
    walk_at "sts"
    refine ⟨KeepSt.set rfl,?_⟩
    walk_at "sts"
    refine bR (SqL.of ha) (dO e2) ?_
    walk_at "sts"
    exact ⟨rfl,hC.push hr⟩
  rintro ys G1 D G2 ⟨rfl,hC⟩ nD s2 hD
  rw [htl] at hC
  try walk_at "sts"
  refine bR (SqL.of (s2 _ _ haq)) rfl ?_
  walk_at "sts"
  have A2:=A0.same s2
  obtain ⟨hl,dx,ty,hx,hT⟩:=id A2
  refine ⟨x0,dx,_,rfl,hx,Bt (by decide+kernel),?_⟩
  walk_at "sts"
  refine ⟨x0,t0,mS z,mS y,rfl,A2,by omega,fun p rs G3 _ s3 hp hR _=>?_⟩
  walk_at "sts"
  have hC3:=(hC.same (s2.trans s3)).congr (g:=Sg t0 (mS z) (mS y)) (fun k hk=>by
    unfold iG Sg
    rw [show mS y+1 - k=mS y - k+1 by omega]
    refine List.map_congr_left fun i hi=>?_
    have hi:=List.mem_range.mp hi
    rw [Ag P0.nd ht0 (by omega) (Nat.le_refl _) (by omega) (by omega) (.inl rfl) (.inl rfl)]
    unfold Af
    rw [Nat.sub_zero,List.drop_zero,show k+i - k=i by omega])
  refine .inl (.inl (Gs (hR.dr hp) (hC3.dr (s3 _ _ hD)) (yK _ _) ?_))
  exact q _ (s2.trans s3)
end
local macro_rules | `(tactic| walk_at "sts") => `(tactic| (with_reducible repeat (first | refine qZ ?_ | refine nF ?_ | refine oX ?_ | refine mD ?_ | refine mF ?_ | (refine' lZ ?hz0 ?_; (case hz0 => with_unfolding_all rfl)) | refine Ef ?_ | refine rC ?_ | refine jd ?_ | refine iT ?_ | refine mj ?_ | refine ph ?_ | refine lQ ?_ | refine iJ ?_ | refine lV ?_ | refine iI ?_ | refine qW ?_ | refine iM ?_ | refine rD ?_ | refine rm ?_ | refine iU ?_ | refine qX ?_ | refine lW ?_ | refine lX ?_ | refine qY ?_ | refine iQ ?_ | refine iR ?_ | refine lY ?_ | refine lU ?_ | refine iK ?_ | refine q9 ?_ | refine qg ?_ | refine qe ?_ | refine rn ?_ | refine rB ?_ | refine my ?_ | refine iV ?_ | refine iW ?_ | refine iY ?_ | refine iZ ?_ | refine jb ?_ | refine jc ?_ | refine mz ?_ | refine Eh ?_ | refine fO ?_ | refine jh ?_ | (refine' dg (SqT.of ?hz0) ?hz1 ?_; (case hz0 => first | assumption | exact aj); (case hz1 => rfl)) | refine fQ ?_ | refine fV ?_ | refine fU ?_ | refine ji ?_ | refine gU ?_ | refine gW ?_ | refine jj ?_ | refine jk ?_ | refine rE ?_ | refine gP ?_ | refine gQ ?_ | refine fP ?_ | refine mC ?_ | refine jf ?_ | (refine' Eg ?hz0 ?_; (case hz0 => with_unfolding_all first | assumption | omega | (dsimp only <;> omega) | exact ⟨by omega, by omega⟩ | exact .inl ⟨by omega, by omega⟩ | exact .inr ⟨by omega, by omega⟩ | exact ⟨by decide, by decide, by decide⟩)) | (refine' je ?hz0 ?_; (case hz0 => with_unfolding_all first | assumption | omega | (dsimp only <;> omega) | exact ⟨by omega, by omega⟩ | exact .inl ⟨by omega, by omega⟩ | exact .inr ⟨by omega, by omega⟩ | exact ⟨by decide, by decide, by decide⟩)) | (refine' bR (SqL.of ?hz0) ?hz1 ?_; (case hz0 => first | assumption | exact aj); (case hz1 => with_unfolding_all rfl)) | (refine' jL (SqT.of ?hz0) ?hz1 ?_; (case hz0 => first | assumption | exact aj); (case hz1 => with_unfolding_all rfl)) | (refine' gF ?hz0 ?hz1 ?_; (case hz0 => first | assumption | exact aj); (case hz1 => with_unfolding_all rfl)) | refine fW ?_ | refine fX ?_ | refine mG ?_ | refine jl ?_ | refine G7 ?_)))
local macro_rules | `(tactic| walk_at "stn") => `(tactic| (with_reducible repeat (first | refine qZ ?_ | refine nF ?_ | refine oX ?_ | refine mD ?_ | refine mF ?_ | (refine' lZ ?hz0 ?_; (case hz0 => with_unfolding_all rfl)) | refine Ef ?_ | refine rC ?_ | refine jd ?_ | refine iT ?_ | refine mj ?_ | refine lQ ?_ | refine iJ ?_ | refine lV ?_ | refine iI ?_ | refine qW ?_ | refine iM ?_ | refine rD ?_ | refine rm ?_ | refine iU ?_ | refine qX ?_ | refine lW ?_ | refine lX ?_ | refine qY ?_ | refine iQ ?_ | refine iR ?_ | refine lY ?_ | refine lU ?_ | refine iK ?_ | refine q9 ?_ | refine qg ?_ | refine qe ?_ | refine rn ?_ | refine rB ?_ | refine my ?_ | refine iV ?_ | refine iW ?_ | refine iY ?_ | refine iZ ?_ | refine jb ?_ | refine jc ?_ | refine mz ?_ | refine Eh ?_ | refine fO ?_ | refine jh ?_ | (refine' dg (SqT.of ?hz0) ?hz1 ?_; (case hz0 => first | assumption | exact aj); (case hz1 => rfl)) | refine fQ ?_ | refine fV ?_ | refine fU ?_ | refine ji ?_ | refine gU ?_ | refine gW ?_ | refine jj ?_ | refine jk ?_ | refine rE ?_ | refine gP ?_ | refine gQ ?_ | refine fP ?_ | refine mC ?_ | refine jf ?_ | (refine' Eg ?hz0 ?_; (case hz0 => with_unfolding_all first | assumption | omega | (dsimp only <;> omega) | exact ⟨by omega, by omega⟩ | exact .inl ⟨by omega, by omega⟩ | exact .inr ⟨by omega, by omega⟩ | exact ⟨by decide, by decide, by decide⟩)) | (refine' je ?hz0 ?_; (case hz0 => with_unfolding_all first | assumption | omega | (dsimp only <;> omega) | exact ⟨by omega, by omega⟩ | exact .inl ⟨by omega, by omega⟩ | exact .inr ⟨by omega, by omega⟩ | exact ⟨by decide, by decide, by decide⟩)) | (refine' bR (SqL.of ?hz0) ?hz1 ?_; (case hz0 => first | assumption | exact aj); (case hz1 => with_unfolding_all rfl)) | (refine' jL (SqT.of ?hz0) ?hz1 ?_; (case hz0 => first | assumption | exact aj); (case hz1 => with_unfolding_all rfl)) | (refine' gF ?hz0 ?hz1 ?_; (case hz0 => first | assumption | exact aj); (case hz1 => with_unfolding_all rfl)) | refine fW ?_ | refine fX ?_ | refine mG ?_ | refine jl ?_ | refine G7 ?_)))
section
variable {P:Program} {w:World} {K:PySem.W.Frag} {mg:Str→Option Value} {base:Heap}
theorem Iv:(["_law_cell_here","_law_tall","_law_wide"]:List Str).Nodup:=by decide+kernel
theorem Iw:(["_law_first","_law_side","_law_top"]:List Str).Nodup:=by decide+kernel
theorem Iz:(["_law_begin","_law_side","_law_top"]:List Str).Nodup:=by decide+kernel
theorem WQ:cu cF "_law_stretches":=by decide+kernel
theorem wR:zM cF "_law_tall":=by decide+kernel
theorem Ea:aN cF "_law_tables":=by decide+kernel
theorem IK:aN cF "_law_asks":=by decide+kernel
theorem Mx:aN cF "_law_asked":=by decide+kernel
theorem Mz:aN cF "_law_spans":=by decide+kernel
theorem WR:cu cF "_law_both":=by decide+kernel
theorem Ah:zM cF "_law_wide":=by decide+kernel
theorem kz7x:cu cF "_law_all":=by decide+kernel
theorem Eb:aN cF "_law_script":=by decide+kernel
theorem WT:aN cF "_law_early":=by decide+kernel
theorem IV:cu cF "_law_cell":=by decide+kernel
theorem WW:cu cF "asks_of":=by decide+kernel
theorem RX:zM cF "_law_side":=by decide+kernel
theorem RZ:zM cF "_law_top":=by decide+kernel
theorem WX:cu cF "range":=by decide+kernel
theorem WY:cu cF "_law_row":=by decide+kernel
theorem R0:aN cF "_law_menu_here":=by decide+kernel
theorem kz87:cu cF "_law_menu":=by decide+kernel
theorem W0:aN cF "_law_step":=by decide+kernel
theorem Xa:aN cF "_law_start":=by decide+kernel
theorem Xb:aN cF "_law_kinds":=by decide+kernel
theorem kz8b:cu cF "_law_numbers":=by decide+kernel
theorem kz8c:cu cF "_law_sizes":=by decide+kernel
theorem T3.put {H:Hp} {ts:List V} {n:Nat} {m:Nat→Nat} {f:Nat→Nat→List Int} {g u:Addr} {o:HO} {us:List V} (h:T3 H ts n m f) (hg:H g=some (.lst us)) (hu:V.ref u∈us) (hne:∀ a,V.ref a∈ts→a≠g):T3 (upd H g o) ts n m f:=⟨h.1,fun k hk=>by
  obtain ⟨a,rs,e,ha,hC⟩:=h.2 k hk
  exact ⟨a,rs,e,by rw [aD (hne a (List.mem_of_getElem? e))];exact ha,hC.put hg hu⟩⟩
theorem wU (y:Str) (b:Nat):(Txt.slice y (some ((b:Nat):Int)) none).length=mS y - b:=by
  have:(Txt.slice y (some ((b:Nat):Int)) none).length=(Txt.slice y (some ((b:Nat):Int)) none).cps.toList.length:=by simp [Str.length]
  rw [this,ou,List.length_drop,Array.length_toList]
def Ny (K:PySem.W.Frag):Sp:=fun vs H Q _=>∃ (a:Addr) (ns:List Int),vs=[.ref a]∧SqL K H a (ns.map V.int)∧ns.length≤63∧∀ H',Q (.bl true) H'
theorem gk:aF ["_law_script","_law_tall","_law_wide","_law_kinds","_law_start","_law_step","_law_menu_here","_law_side","_law_top","_law_tables","_law_asks","_law_early","_law_asked","_law_spans"] ["_law_script"] (az cF):=⟨rfl,rfl,rfl,by decide+kernel,rfl,by decide+kernel,by decide+kernel⟩
theorem R1 (T:Txt K mg) {f0:Addr} {fd0:FuncData} (F0:Fun K "law" "law" cF f0 fd0):oW P w K mg base zb 11 f0 fd0 ["_law_script"] (Ny K):=by
  have mZ:=mZ (P:=P) (w:=w) (base:=base) T
  have gj:=gj (P:=P) (w:=w) (base:=base) T
  have bA:=bA (P:=P) (w:=w) (base:=base) T
  have oN:=oN (P:=P) (w:=w) (base:=base) T
  have ni:=ni (P:=P) (w:=w) (base:=base) T
  have jQ:=jQ (P:=P) (w:=w) (base:=base) T
  have m9:=m9 (P:=P) (w:=w) (base:=base) T
  have fZ:=fZ (P:=P) (w:=w) (base:=base) T
  have j7:=j7 (P:=P) (w:=w) (base:=base) T
  have qH:=qH (P:=P) (w:=w) (base:=base) T
  have lO:=lO (P:=P) (w:=w) (base:=base) T
  refine okJ F0 gk ?_ fun f cdv A outer s H vs Q E hr h=>?_
  · rintro vs H Q E ⟨a,ns,rfl,_⟩;rfl
  obtain ⟨a,ns,rfl,hS,hlen,q⟩:=h
  have hu:=hr.units0
  have hu64:=hr.units
  refine ⟨_,(aA (lE (aU mZ (hr.mono (by decide)) (bB kz8c) (aa (aU gj (hr.mono (by decide)) (bB IV) (aa (au 0 Eb) (aa aB ao)) (by decide+kernel)) ao) (by decide+kernel)) (lD (K:=K) rfl rfl (aH (aG (i:=1) gk.nd rfl (Or.inr wR) rfl) (aH (aG (i:=2) gk.nd rfl (Or.inr Ah) rfl) dj)))) (aA (lE (aU bA (hr.mono (by decide)) (bB kz8b) (aa (aU gj (hr.mono (by decide)) (bB IV) (aa (au 0 Eb) (aa aB ao)) (by decide+kernel)) (aa (dX (aa aB (aa aB (aa aB ao)))) (aa aB ao))) (by decide+kernel)) (lD (K:=K) rfl rfl (aH (aG (i:=3) gk.nd rfl (Or.inl Xb) rfl) (aH (aG (i:=4) gk.nd rfl (Or.inl Xa) rfl) (aH (aG (i:=5) gk.nd rfl (Or.inl W0) rfl) dj))))) (aA (aP (i:=6) gk.nd rfl (Or.inl R0) (aU oN (hr.mono (by decide)) (bB kz87) (aa (bD aV (au 3 Xb) aB) (aa (au 4 Xa) (aa (bD aV (au 5 W0) aB) ao))) (by decide+kernel)) rfl) (aA (aP (i:=7) gk.nd rfl (Or.inr RX) (aU ni (hr.mono (by decide)) (bB WY) (aa (aU gj (hr.mono (by decide)) (bB IV) (aa (au 0 Eb) (aa aB ao)) (by decide+kernel)) (aa (gB 1 wR) (aa (au 6 R0) (aa aB ao)))) (by decide+kernel)) rfl) (aA (aP (i:=8) gk.nd rfl (Or.inr RZ) (aU ni (hr.mono (by decide)) (bB WY) (aa (aU gj (hr.mono (by decide)) (bB IV) (aa (au 0 Eb) (aa aB ao)) (by decide+kernel)) (aa (gB 2 Ah) (aa (au 6 R0) (aa aB ao)))) (by decide+kernel)) rfl) (aA (aP (i:=9) gk.nd rfl (Or.inl Ea) (dX (aa (gG (sub:=[none,some 7,some 8]) (b8 (N:=["_law_script","_law_tall","_law_wide","_law_kinds","_law_start","_law_step","_law_menu_here","_law_side","_law_top","_law_tables","_law_asks","_law_early","_law_asked","_law_spans"]) (sc:=az cF) (N':=["_law_begin","_law_side","_law_top"]) (by decide+kernel)) rfl rfl rfl (dm (bB WX) T.b_range (aa (bD aV (gB 2 Ah) aB) ao)) (fun C s₀ H₀ ex=>(mK 0 (by decide+kernel) Iz)) (fun C s₀ H₀ ex=>cX) (fun C s₀ H₀ ex=>(aU jQ (hr.mono (by decide)) (R5 (by decide+kernel)) (aa (dz 1 (by decide+kernel)) (aa (jM (jK (K:=K) rfl) (dz 2 (by decide+kernel)) (fM (gK 0 (by decide+kernel))) lB) ao)) (by decide+kernel)))) ao)) rfl) (aA (aJ (bU (K:=K) rfl PySem.F.plainAttrs_list PySem.F.slot_list_append PySem.F.type_list_append bj (au 9 Ea) (aa (gG (sub:=[none,some 7,some 8]) (b8 (N:=["_law_script","_law_tall","_law_wide","_law_kinds","_law_start","_law_step","_law_menu_here","_law_side","_law_top","_law_tables","_law_asks","_law_early","_law_asked","_law_spans"]) (sc:=az cF) (N':=["_law_first","_law_side","_law_top"]) (by decide+kernel)) rfl rfl rfl (dm (bB WX) T.b_range (aa (bD aV (gB 1 wR) aB) ao)) (fun C s₀ H₀ ex=>(mK 0 (by decide+kernel) Iw)) (fun C s₀ H₀ ex=>cX) (fun C s₀ H₀ ex=>(aU jQ (hr.mono (by decide)) (R5 (by decide+kernel)) (aa (jM (jK (K:=K) rfl) (dz 1 (by decide+kernel)) (fM (gK 0 (by decide+kernel))) lB) (aa (dz 2 (by decide+kernel)) ao)) (by decide+kernel)))) ao))) (aA (aP (i:=10) gk.nd rfl (Or.inl IK) (dX (aa (aU m9 (hr.mono (by decide)) (bB WW) (aa (gB 7 RX) (aa (gB 8 RZ) ao)) (by decide+kernel)) (aa (aU m9 (hr.mono (by decide)) (bB WW) (aa (gB 8 RZ) (aa (gB 7 RX) ao)) (by decide+kernel)) ao))) rfl) (aA (aP (i:=11) gk.nd rfl (Or.inl WT) (xN (gH (K:=K) rfl hu64) (bD lw (aU gj (hr.mono (by decide)) (bB IV) (aa (au 0 Eb) (aa aB ao)) (by decide+kernel)) aB) aB (by first | exact bT _ | with_unfolding_all rfl)) rfl) (aA (dq (qN (zr (gO (au 11 WT)) (vO (jx (gO (aU fZ (hr.mono (by decide)) (bB WQ) (aa (au 10 IK) (aa (au 9 Ea) (aa (gB 1 wR) ao))) (by decide+kernel))))))) (aC (aM vN)) c7) (aA (vR (i:=12) gk.nd rfl (Or.inl Mx) (sub:=[none,some 1,some 2]) (b8 (N:=["_law_script","_law_tall","_law_wide","_law_kinds","_law_start","_law_step","_law_menu_here","_law_side","_law_top","_law_tables","_law_asks","_law_early","_law_asked","_law_spans"]) (sc:=az cF) (N':=["_law_cell_here","_law_tall","_law_wide"]) (by decide+kernel)) rfl rfl rfl (jU (K:=K) rfl (jM (jK (K:=K) rfl) (au 0 Eb) lB (fM aB))) (fun C s₀ H₀ ex=>(mK 0 (by decide+kernel) Iv)) (fun C s₀ H₀ ex=>cX) (fun C s₀ H₀ ex=>(aU j7 (hr.mono (by decide)) (R5 (by decide+kernel)) (aa (gK 0 (by decide+kernel)) (aa (dz 1 (by decide+kernel)) (aa (dz 2 (by decide+kernel)) ao))) (by decide+kernel))) rfl) (aA (dq (cO EY (bD jq (gB 1 wR) (gB 2 Ah)) aB (by first | exact bT _ | with_unfolding_all rfl)) (aC (aJ (bU (K:=K) rfl PySem.F.plainAttrs_list PySem.F.slot_list_extend PySem.F.type_list_extend kh (au 12 Mx) (aa (aU qH (hr.mono (by decide)) (bB kz7x) (aa (gB 1 wR) (aa (gB 2 Ah) ao)) (by decide+kernel)) ao)))) c7) (aA (dY PassesOwn.never rfl (jU (K:=K) rfl (au 12 Mx)) (aG (i:=13) gk.nd rfl (Or.inl Mz) rfl) (aC (dq (jx (gO (aU lO (hr.mono (by decide)) (bB WR) (aa (au 10 IK) (aa (au 9 Ea) (aa (gB 1 wR) (aa (gB 2 Ah) (aa (au 13 Mz) ao))))) (by decide+kernel)))) (aC (aM vN)) c7))) (aA (dY PassesOwn.never rfl (jU (K:=K) rfl (De (K:=K) rfl (jM (jK (K:=K) rfl) (au 12 Mx) lB (fM aB)) lB lB (fM (Kc vA aB)))) (aG (i:=13) gk.nd rfl (Or.inl Mz) rfl) (aC (dq (jx (gO (aU lO (hr.mono (by decide)) (bB WR) (aa (au 10 IK) (aa (au 9 Ea) (aa (gB 1 wR) (aa (gB 2 Ah) (aa (au 13 Mz) ao))))) (by decide+kernel)))) (aC (aM vN)) c7))) (aC (aM (aU fZ (hr.mono (by decide)) (bB WQ) (aa (au 10 IK) (aa (au 9 Ea) (aa (gB 1 wR) ao))) (by decide+kernel)))))))))))))))))),?_⟩
  walk_at "sts"
  have hsz:20000≤sizeLine:=by decide
  refine ⟨a,ns,0,rfl,hS,fun c0=>?_⟩
  walk_at "sts"
  refine ⟨c0,rfl,fun p0 m f' H1 S1 h1 hm hf=>?_⟩
  walk_at "sts"
  refine rW (xs:=[.int m,.int f']) (SqL.of h1) rfl ?_
  walk_at "sts"
  refine ⟨a,ns,3,rfl,S1.seq hS,fun c3=>?_⟩
  walk_at "sts"
  refine bO rfl fun p1 H2 _ S2 h2=>?_
  walk_at "sts"
  replace h2:H2 p1=some (.lst (([4,27,2]:List Int).map V.int)):=h2
  refine ⟨c3,p1,[4,27,2],2147483579,rfl,h2,by simp,(fun y hy=>by simp at hy;rcases hy with rfl | rfl | rfl <;> decide),by omega,by omega,fun p2 ms H3 _ S3 h3 hF=>?_⟩
  walk_at "sts"
  obtain ⟨ks,rfl,hkl,hk⟩:=hF.nat
  match ks,hkl with
  | [k0,k1,k2],_=>
  have hk0:=hk 0 k0 4 rfl rfl
  have hk1:=hk 1 k1 27 rfl rfl
  have hk2:=hk 2 k2 2 rfl rfl
  refine rW (xs:=[.int (k0:Int),.int (k1:Int),.int (k2:Int)]) (SqL.of h3) rfl ?_
  have U3:=S1.trans (S2.trans S3)
  walk_at "sts"
  refine ⟨k0+1,k1,(k2:Int)+1,rfl,by omega,by omega,by omega,fun mq cs H4 S4 h4 hcl hcg=>?_⟩
  walk_at "sts"
  have U4:=U3.trans S4
  refine ⟨a,ns,1,rfl,U4.seq hS,fun c1=>?_⟩
  walk_at "sts"
  refine ⟨c1,m,mq,cs,2147483647,rfl,hm,h4,by omega,by omega,hcg,by omega,by omega,fun z H5 S5 rz lz=>?_⟩
  walk_at "sts"
  have U5:=U4.trans S5
  refine ⟨a,ns,2,rfl,U5.seq hS,fun c2=>?_⟩
  walk_at "sts"
  refine ⟨c2,f',mq,cs,2147483563,rfl,hf,S5 _ _ h4,by omega,by omega,hcg,by omega,by omega,fun y H6 S6 ry ly=>?_⟩
  walk_at "sts"
  have U6:=U5.trans S6
  have ez:mS z=m:=lz
  have ey:mS y=f':=ly
  subst ez ey
  have ez:z.length=mS z:=rfl
  have ey:y.length=mS y:=rfl
  clear S1 S2 S3 S4 S5 S6 h1 h2 h3 h4 hk hcg hF U3 U4 U5 lz ly
  have lz:z.length≤sizeLine:=by omega
  have ly:y.length≤sizeLine:=by omega
  refine ⟨_,rfl,by omega,by omega,?_⟩
  rw [show ((mS y:Int)+1).toNat=mS y+1 by omega]
  refine eQ (n:=mS y+1) (fun i ys G=>Same H6 G∧T3 G ys i (fun _=>mS z+1) (fun c i=>iG z.cps.toList (y.cps.toList.drop c) i (mS y - c+1))) (by omega) ⟨Same.refl H6,rfl,fun k hk=>by omega⟩ ?_ ?_ ?_
  · rintro i ys G ⟨_,h⟩
    exact Nat.le_of_eq h.1
  · rintro i ys G hi ⟨s,hT⟩
    rw [Int.zero_add]
    walk_at "sts"
    refine ⟨KeepSt.set rfl,?_⟩
    walk_at "sts"
    refine MT ly ?_
    walk_at "sts"
    refine ⟨z,_,rfl,hm,by rw [wU];omega,fun tq rs G2 _ s2 htq hC=>?_⟩
    walk_at "sts"
    rw [wU,ou] at hC
    exact ⟨s.trans s2,(hT.same s2).push htq hC⟩
  rintro ts G q0 H7 ⟨s1,hT0⟩ nq0 s2 hq0
  replace hT0:=hT0.same s2
  have U7:=U6.trans (s1.trans s2)
  try walk_at "sts"
  refine bO rfl fun tq H8 ntq S8 htq=>?_
  walk_at "sts"
  have U8:=U7.trans S8
  refine ⟨.inl ⟨rfl,_,SqL.of htq⟩,?_⟩
  walk_at "sts"
  refine ⟨_,rfl,by omega,by omega,?_⟩
  rw [show ((mS z:Int)+1).toNat=mS z+1 by omega]
  refine eQ (n:=mS z+1) (fun i ys G=>Same H8 G∧T3 G ys i (fun a=>mS z - a+1) (fun a i=>iG (z.cps.toList.drop a) y.cps.toList i (mS y+1))∧∀ a,V.ref a∈ys→a≠tq) (by omega) ⟨Same.refl H8,⟨rfl,fun k hk=>by omega⟩,fun a ha=>nomatch ha⟩ ?_ ?_ ?_
  · rintro i ys G ⟨_,h,_⟩
    exact Nat.le_of_eq h.1
  · rintro i ys G hi ⟨s,hT,hN⟩
    rw [Int.zero_add]
    walk_at "sts"
    refine ⟨KeepSt.set rfl,?_⟩
    walk_at "sts"
    refine MT lz ?_
    walk_at "sts"
    refine ⟨_,y,rfl,by rw [wU];omega,hf,fun tr rs G2 ntr s2 htr hC=>?_⟩
    walk_at "sts"
    rw [wU,ou] at hC
    refine ⟨s.trans s2,(hT.same s2).push htr hC,fun b hb=>?_⟩
    rcases List.mem_append.mp hb with h | h
    · exact hN b h
    · simp only [List.mem_cons,List.mem_nil_iff,or_false] at h
      cases h
      exact fun e=>by rw [e,s _ _ htq] at ntr;cases ntr
  rintro us G1 q1 G2 ⟨s3,hT1,hN1⟩ nq1 s4 hq1
  have sB:=s3.trans s4
  have htq2:=sB _ _ htq
  try walk_at "sts"
  refine bz htq2 (by simp;omega) ?_
  walk_at "sts"
  have n1:q1≠tq:=fun e=>by rw [e,s3 _ _ htq] at nq1;cases nq1
  have SB:=Same.put (o:=.lst ([.ref q0] ++ [.ref q1])) (S8.trans sB) ntq
  have hTB:Tabs (upd G2 tq (.lst ([.ref q0] ++ [.ref q1]))) tq z y:=⟨q0,q1,ts,us,aj,SB _ _ hq0,by rw [aD n1];exact hq1,hT0.same SB,(hT1.same s4).put htq2 (List.mem_singleton.mpr rfl) hN1⟩
  generalize upd G2 tq (.lst ([.ref q0] ++ [.ref q1]))=H9 at SB hTB ⊢
  have U9:=U7.trans SB
  clear s3 s4 sB hT1 hN1 hT0 SB htq2 S8 htq hq0 hq1 s1 s2 U7 U8 nq0 ntq nq1
  walk_at "sts"
  refine ⟨z,y,rfl,rz.b,ry.b,fun x0 HA SA A0=>?_⟩
  walk_at "sts"
  refine ⟨y,z,rfl,ry.b,rz.b,fun x1 HB SB A1=>?_⟩
  walk_at "sts"
  refine bO rfl fun aq HC naq SC haq=>?_
  walk_at "sts"
  have SAC:=SA.trans (SB.trans SC)
  have UC:=U9.trans SAC
  replace A0:=A0.same (SB.trans SC)
  replace A1:=A1.same SC
  replace hTB:=hTB.same SAC
  clear SA SB SC SAC U9 U6
  have hSC:=UC.seq hS
  refine ⟨a,ns,4,rfl,hSC,fun c4=>?_⟩
  walk_at "stn"
  generalize decide (V.int (c4 % 2)=V.int 1)=ge
  walk_at "stn"
  with_reducible refine qQ (fun σ G=>Same HC G∧σ=[some (.ref a),some (.int (mS z)),some (.int (mS y)),some (.int (k0:Int)),some (.int (k1:Int)),some (.int (k2:Int)),some (.ref mq),some (.str z),some (.str y),some (.ref tq),some (.ref aq),some (.bl ge),none,none]) ?_ ?_
  rotate_left
  · intro N hN
    cases ge with
    | true=>
      walk_at "sts"
      refine ⟨aq,tq,x0,x1,z,y,rfl,by omega,haq,A0,hTB,fun Hx Sx=>?_⟩
      walk_at "sts"
      exact hN _ _ ⟨Sx,rfl⟩
    | false=>
      walk_at "sts"
      exact hN _ _ ⟨Same.refl HC,rfl⟩
  rintro σ HD ⟨SD,rfl⟩
  have haqD:=SD _ _ haq
  replace A0:=A0.same SD
  replace A1:=A1.same SD
  replace hTB:=hTB.same SD
  have hSD:=SD.seq hSC
  clear SD haq hSC naq
  walk_at "stn"
  with_reducible refine ph ?_
  walk_at "stn"
  refine u9 hSD fun sl nsl=>?_
  rw [show nY (ns.map V.int) none (some 60)=(ns.map V.int).take 60 from Bs (k:=60)]
  have SE:=(Same.refl HD).upd nsl (o:=.lst ((ns.map V.int).take 60))
  have hsl:=aj (H:=HD) (a:=sl) (o:=.lst ((ns.map V.int).take 60))
  generalize upd HD sl (.lst ((ns.map V.int).take 60))=HE at SE hsl ⊢
  walk_at "stn"
  refine .inl ⟨sl,rfl,⟨_,SqL.of hsl⟩,?_⟩
  have hl60:((ns.map V.int).take 60).length≤60:=by rw [List.length_take];omega
  refine oF (xs:=(ns.map V.int).take 60) (fun i ys G=>Same HE G∧Wins G (mS z) (mS y) ys∧ys.length=i) (by omega) ⟨Same.refl HE,(fun v hv=>nomatch hv),rfl⟩ ?_ ?_ ?_ ?_
  · rintro i ys G ⟨_,_,h⟩
    omega
  · rintro i ys G ⟨s,_⟩
    exact SqL.of (s _ _ hsl)
  · rintro i ys G x hx ⟨s,hW,hl⟩
    obtain ⟨c,_,rfl⟩:=List.mem_map.mp (List.mem_of_mem_take (List.mem_of_getElem? hx))
    walk_at "stn"
    refine ⟨KeepSt.set rfl,?_⟩
    walk_at "stn"
    refine ⟨c,mS z,mS y,rfl,hm,hf,fun v G2 s2 hv=>?_⟩
    exact ⟨s.trans s2,(hW.same s2).app (Wins.one hv),by simp;omega⟩
  rintro ys G1 kq HF ⟨s1,hW,hyl⟩ nkq s2 hkq
  have SF:=SE.trans (s1.trans s2)
  replace hW:=hW.same s2
  have nkq0:=Same.back (SE.trans s1) nkq
  try walk_at "stn"
  with_reducible refine qQ (fun σ G=>Same HD G∧(∃ us,G kq=some (.lst us)∧Wins G (mS z) (mS y) us∧us.length≤9800)∧σ=[some (.ref a),some (.int (mS z)),some (.int (mS y)),some (.int (k0:Int)),some (.int (k1:Int)),some (.int (k2:Int)),some (.ref mq),some (.str z),some (.str y),some (.ref tq),some (.ref aq),some (.bl ge),some (.ref kq),none]) ?_ ?_
  rotate_left
  · intro N hN
    walk_at "sts"
    refine kE (fun h=>?_) (fun h=>?_)
    · walk_at "sts"
      refine ⟨.inl ⟨rfl,_,SqL.of hkq⟩,?_⟩
      walk_at "sts"
      refine ⟨mS z,mS y,rfl,hm,hf,fun eq es G2 neq s3 heq hE hEl=>?_⟩
      walk_at "sts"
      refine ⟨kq,eq,_,_,rfl,rfl,s3 _ _ hkq,heq,by omega,?_⟩
      walk_at "sts"
      exact hN _ _ ⟨Same.put (SF.trans s3) nkq0,⟨_,aj,((hW.same s3).app hE).put (s3 _ _ hkq),by simp;omega⟩,rfl⟩
    · walk_at "sts"
      exact hN _ _ ⟨SF,⟨ys,hkq,hW,by omega⟩,rfl⟩
  clear hkq hW SF s1 s2
  rintro σ HG ⟨SG,⟨us,hkq,hW,hul⟩,rfl⟩
  walk_at "stn"
  with_reducible refine ph ?_
  walk_at "stn"
  refine .inl ⟨kq,rfl,⟨_,SqL.of hkq⟩,?_⟩
  refine oU (xs:=us) (fun i σ G=>Same HG G∧∃ x13,σ=[some (.ref a),some (.int (mS z)),some (.int (mS y)),some (.int (k0:Int)),some (.int (k1:Int)),some (.int (k2:Int)),some (.ref mq),some (.str z),some (.str y),some (.ref tq),some (.ref aq),some (.bl ge),some (.ref kq),x13]) ⟨Same.refl HG,_,rfl⟩ (fun i σ G _ h=>SqL.of (h.1 _ _ hkq)) ?_ ?_
  · rintro i v σ G hv ⟨s,x13,rfl⟩
    have sG:=SG.trans s
    walk_at "sts"
    refine ⟨aq,tq,x0,x1,z,y,v,rfl,sG _ _ haqD,A0.same sG,A1.same sG,hTB.same sG,(hW v (List.mem_of_getElem? hv)).same s,fun Hx Sx=>?_⟩
    walk_at "sts"
    exact ⟨s.trans Sx,_,rfl⟩
  rintro σ G ⟨s,x13,rfl⟩
  walk_at "stn"
  with_reducible refine ph ?_
  walk_at "stn"
  refine u9 (SqL.of (s _ _ hkq)) fun s20 ns20=>?_
  rw [show nY us none (some 20)=us.take 20 from Bs (k:=20)]
  have SI:=(Same.refl G).upd ns20 (o:=.lst (us.take 20))
  have hs20:=aj (H:=G) (a:=s20) (o:=.lst (us.take 20))
  generalize upd G s20 (.lst (us.take 20))=HI at SI hs20 ⊢
  have hl20:(us.take 20).length≤20:=by rw [List.length_take];omega
  walk_at "stn"
  refine ⟨s20,us.take 20,-1,rfl,rfl,by decide,SqL.of hs20,by rw [yd,List.length_reverse];omega,fun ra nra=>?_⟩
  rw [yd]
  have SM:=(Same.refl HI).upd nra (o:=.lst (us.take 20).reverse)
  have hra:=aj (H:=HI) (a:=ra) (o:=.lst (us.take 20).reverse)
  generalize upd HI ra (.lst (us.take 20).reverse)=HM at SM hra ⊢
  have sM:=s.trans (SI.trans SM)
  walk_at "stn"
  refine .inl ⟨ra,rfl,⟨_,SqL.of hra⟩,?_⟩
  refine oU (xs:=(us.take 20).reverse) (fun i σ G=>Same HM G∧∃ x13,σ=[some (.ref a),some (.int (mS z)),some (.int (mS y)),some (.int (k0:Int)),some (.int (k1:Int)),some (.int (k2:Int)),some (.ref mq),some (.str z),some (.str y),some (.ref tq),some (.ref aq),some (.bl ge),some (.ref kq),x13]) ⟨Same.refl HM,_,rfl⟩ (fun i σ G _ h=>SqL.of (h.1 _ _ hra)) ?_ ?_
  · rintro i v σ G hv ⟨s,x13,rfl⟩
    have sG:=SG.trans (sM.trans s)
    walk_at "sts"
    refine ⟨aq,tq,x0,x1,z,y,v,rfl,sG _ _ haqD,A0.same sG,A1.same sG,hTB.same sG,(hW v (List.mem_of_mem_take (List.mem_reverse.mp (List.mem_of_getElem? hv)))).same (sM.trans s),fun Hx Sx=>?_⟩
    walk_at "sts"
    exact ⟨s.trans Sx,_,rfl⟩
  rintro σ G ⟨s,x13,rfl⟩
  have sG:=SG.trans (sM.trans s)
  walk_at "sts"
  refine ⟨aq,tq,x0,x1,z,y,rfl,by omega,sG _ _ haqD,A0.same sG,hTB.same sG,fun Hx Sx=>?_⟩
  walk_at "sts"
  exact q _
end
end My
def PySem.W.Fast.tw3981999614979405346:Nat:=0
def PySem.W.Fast.tw5843619261396497001:Nat:=0
def PySem.W.Fast.tw4899789924082142844:Nat:=0
def PySem.W.Fast.tw2403204812909154008:Nat:=0
def PySem.W.Fast.tw14993105537285808370:Nat:=0
def PySem.W.Fast.tw4705157048681058886:Nat:=0
def PySem.W.Fast.tw5134209615640270463:Nat:=0
def PySem.W.Fast.tw6015679612149087699:Nat:=0
def PySem.W.Fast.tw3904498108223446158:Nat:=0
def PySem.W.Fast.tw2825871254713424249:Nat:=0
def PySem.W.Fast.tw4842062940320550266:Nat:=0
def PySem.W.Fast.tw18316497239192349091:Nat:=0
def PySem.W.Fast.tw17190454725628648907:Nat:=0
def PySem.W.Fast.tw15189319325871169857:Nat:=0
def PySem.W.Fast.tw4350514981785358921:Nat:=0
def PySem.W.Fast.tw17974203050819566898:Nat:=0
def PySem.W.Fast.tw3609391349197821518:Nat:=0
def PySem.W.Fast.tw6018009978833073319:Nat:=0
def PySem.W.Fast.tw15462855432057302905:Nat:=0
def PySem.W.Fast.tw5159694889350183100:Nat:=0
def PySem.W.Fast.tw7657507253774725930:Nat:=0
def PySem.W.Fast.tw9169362964537648428:Nat:=0
def PySem.W.Fast.tw2011994937347646358:Nat:=0
def PySem.W.Fast.tw11693287176948143855:Nat:=0
def PySem.W.Fast.tw7489045569538918287:Nat:=0
def PySem.W.Fast.tw18014280178128448304:Nat:=0
def PySem.W.Fast.tw4250095121337927292:Nat:=0
def PySem.W.Fast.tw10835445345286587975:Nat:=0
def PySem.W.Fast.tw8172647286235759879:Nat:=0
def PySem.W.Fast.tw6050110684470022423:Nat:=0
def PySem.W.Fast.tw13593133031007583001:Nat:=0
def PySem.W.Fast.tw16756410950540479996:Nat:=0
def PySem.W.Fast.tw6402116442198317719:Nat:=0
def PySem.W.Fast.tw16957529968884745721:Nat:=0
def PySem.W.Fast.tw17643706664261414476:Nat:=0
def PySem.W.Fast.tw11586816988330382392:Nat:=0
def PySem.W.Fast.tw12211547122241116767:Nat:=0
def PySem.W.Fast.tw5299195778896909265:Nat:=0
def PySem.W.Fast.tw9161267099083533775:Nat:=0
def PySem.W.Fast.tw2805079706393468309:Nat:=0
def PySem.W.Fast.tw11318354278043184530:Nat:=0
def PySem.W.Fast.tw18234902170625570450:Nat:=0
def PySem.W.Fast.tw13190505420971892421:Nat:=0
def PySem.W.Fast.tw17418408492877645063:Nat:=0
def PySem.W.Fast.tw5633057337916350602:Nat:=0
def PySem.W.Fast.tw16125539156245757016:Nat:=0
def PySem.W.Fast.tw7940261861425350897:Nat:=0
def PySem.W.Fast.tw3742008852926182932:Nat:=0
def PySem.W.Fast.tw14089008449959234741:Nat:=0
def PySem.W.Fast.tw17583086147676689259:Nat:=0
def PySem.W.Fast.tw16861925134248349083:Nat:=0
def PySem.W.Fast.tw6590364392558924382:Nat:=0
def PySem.W.Fast.tw10312320383001617763:Nat:=0
def PySem.W.Fast.tw713799352238549298:Nat:=0
def PySem.W.Fast.tw4671449711349393538:Nat:=0
def PySem.W.Fast.tw8783805191385791975:Nat:=0
def PySem.W.Fast.tw17390122557742699733:Nat:=0
def PySem.W.Fast.tw11435144419956901029:Nat:=0
def PySem.W.Fast.tw15885418194305190151:Nat:=0
def PySem.W.Fast.tw450731136200582351:Nat:=0
def PySem.W.Fast.tw5279223847067456351:Nat:=0
def PySem.W.Fast.tw18103553087792213839:Nat:=0
def PySem.W.Fast.tw10777892397972073442:Nat:=0
def PySem.W.Fast.tw17218514602554641879:Nat:=0
def PySem.W.Fast.tw9464674165294936367:Nat:=0
def PySem.W.Fast.tw17280196427649550535:Nat:=0
def PySem.W.Fast.tw7302676673542446310:Nat:=0
def PySem.W.Fast.tw4526230679963975558:Nat:=0
def PySem.W.Fast.tw16635793265043297124:Nat:=0
def PySem.W.Fast.tw4531887458275221655:Nat:=0
def PySem.W.Fast.tw4999317868619403493:Nat:=0
def PySem.W.Fast.tw4040747959664988541:Nat:=0
def PySem.W.Fast.tw15285127330497079072:Nat:=0
def PySem.W.Fast.tw10329229585080119719:Nat:=0
def PySem.W.Fast.tw6515806995640018053:Nat:=0
def PySem.W.Fast.tw12678552350232128654:Nat:=0
def PySem.W.Fast.tw7141537486122720955:Nat:=0
def PySem.W.Fast.tw7865926201644668752:Nat:=0
def PySem.W.Fast.tw11114056572017787477:Nat:=0
def PySem.W.Fast.tw15057212728759383058:Nat:=0
def PySem.W.Fast.tw15590353325134265172:Nat:=0
def PySem.W.Fast.tw14252197097601002037:Nat:=0
def PySem.W.Fast.tw15999118474086919588:Nat:=0
def PySem.W.Fast.tw12435230282419680180:Nat:=0
def PySem.W.Fast.tw15304491796044667131:Nat:=0
def PySem.W.Fast.tw8999309837632475678:Nat:=0
def PySem.W.Fast.tw1992574740853936866:Nat:=0
def PySem.W.Fast.tw14256485325826442957:Nat:=0
def PySem.W.Fast.tw8385036827004389292:Nat:=0
def PySem.W.Fast.tw5283655608523929684:Nat:=0
def PySem.W.Fast.tw8654787327995719591:Nat:=0
def PySem.W.Fast.tw11215300942537500774:Nat:=0
def PySem.W.Fast.tw6163304072764112071:Nat:=0
def PySem.W.Fast.tw6099022787929236234:Nat:=0
def PySem.W.Fast.tw6569068804777998381:Nat:=0
def PySem.W.Fast.tw1418466550696695306:Nat:=0
def PySem.W.Fast.tw11011413116328001853:Nat:=0
def PySem.W.Fast.tw2372411501069110186:Nat:=0
def PySem.W.Fast.tw3074241587684547970:Nat:=0
def PySem.W.Fast.tw17471603303845792749:Nat:=0
def PySem.W.Fast.tw7357921008368343367:Nat:=0
def PySem.W.Fast.tw9239534783367777189:Nat:=0
def PySem.W.Fast.tw4279173274876963812:Nat:=0
def PySem.W.Fast.tw6846146762210931146:Nat:=0
def PySem.W.Fast.tw11374417198716100664:Nat:=0
def PySem.W.Fast.tw2278698187385083683:Nat:=0
def PySem.W.Fast.tw5057496420437469561:Nat:=0
def PySem.W.Fast.tw13341774728633022457:Nat:=0
def PySem.W.Fast.tw330796403681129182:Nat:=0
def PySem.W.Fast.tw1801280442650269062:Nat:=0
def PySem.W.Fast.tw17371182885997051504:Nat:=0
def PySem.W.Fast.tw12014617683200385560:Nat:=0
def PySem.W.Fast.tw11855962869230794604:Nat:=0
def PySem.W.Fast.tw18181568825945787137:Nat:=0
def PySem.W.Fast.tw11393966998992796576:Nat:=0
def PySem.W.Fast.tw9818155814361392341:Nat:=0
def PySem.W.Fast.tw5161937696062589095:Nat:=0
def PySem.W.Fast.tw15922343574852235174:Nat:=0
def PySem.W.Fast.tw12457054324463202606:Nat:=0
def PySem.W.Fast.tw16814997643365499591:Nat:=0
def PySem.W.Fast.tw5090232337234657792:Nat:=0
def PySem.W.Fast.tw11888305420923576724:Nat:=0
def PySem.W.Fast.tw8750909606085442792:Nat:=0
def PySem.W.Fast.tw9757892059865116665:Nat:=0
def PySem.W.Fast.tw8701269530844860207:Nat:=0
def PySem.W.Fast.tw13652814307834579571:Nat:=0
def PySem.W.Fast.tw17676984674010270818:Nat:=0
def PySem.W.Fast.tw15334518807479012965:Nat:=0
def PySem.W.Fast.tw17275193897267548063:Nat:=0
def PySem.W.Fast.tw4836548005570003974:Nat:=0
def PySem.W.Fast.tw2665198922271395350:Nat:=0
def PySem.W.Fast.tw17949892422336646454:Nat:=0
def PySem.W.Fast.tw16603002039398675909:Nat:=0
def PySem.W.Fast.tw16935471493133119461:Nat:=0
def PySem.W.Fast.tw4247478917566134095:Nat:=0
def PySem.W.Fast.tw774127313216959041:Nat:=0
def PySem.W.Fast.tw3872904261960702615:Nat:=0
def PySem.W.Fast.tw2891062669005667942:Nat:=0
def PySem.W.Fast.tw8746905045920581716:Nat:=0
def PySem.W.Fast.tw16972617966612705526:Nat:=0
def PySem.W.Fast.tw13324184447887416865:Nat:=0
def PySem.W.Fast.tw13620101883762522650:Nat:=0
def PySem.W.Fast.tw30613487633313184:Nat:=0
def PySem.W.Fast.tw5925018539091231551:Nat:=0
def PySem.W.Fast.tw10598573656133050785:Nat:=0
def PySem.W.Fast.tw8746262778955370934:Nat:=0
def PySem.W.Fast.tw10040164855015292077:Nat:=0
def PySem.W.Fast.tw18052587554994071098:Nat:=0
def PySem.W.Fast.tw6325460100538911090:Nat:=0
def PySem.W.Fast.tw10393859246777102405:Nat:=0
def PySem.W.Fast.tw7564056765249976139:Nat:=0
def PySem.W.Fast.tw13754713246878074615:Nat:=0
def PySem.W.Fast.tw722697157991295710:Nat:=0
def PySem.W.Fast.tw4703959785442252453:Nat:=0
def PySem.W.Fast.tw13037066423769601870:Nat:=0
def PySem.W.Fast.tw453324621268581898:Nat:=0
def PySem.W.Fast.tw16897896471155427322:Nat:=0
def PySem.W.Fast.tw1033964536160121031:Nat:=0
def PySem.W.Fast.tw13427160022713175613:Nat:=0
def PySem.W.Fast.tw16579299801324378908:Nat:=0
def PySem.W.Fast.tw9851065515689040863:Nat:=0
def PySem.W.Fast.tw7637505689474777953:Nat:=0
def PySem.W.Fast.tw6912371452821506238:Nat:=0
def PySem.W.Fast.tw18333436498579107187:Nat:=0
def PySem.W.Fast.tw496455786813805126:Nat:=0
def PySem.W.Fast.tw12090433422167906186:Nat:=0
def PySem.W.Fast.tw4670576917924749129:Nat:=0
def PySem.W.Fast.tw4511141505366165590:Nat:=0
def PySem.W.Fast.tw4617877708938661609:Nat:=0
def PySem.W.Fast.tw2065371875021268382:Nat:=0
def PySem.W.Fast.tw10768036521623989698:Nat:=0
def PySem.W.Fast.tw3904857744194566945:Nat:=0
def PySem.W.Fast.tw16940018117663179742:Nat:=0
def PySem.W.Fast.tw17690523346812603718:Nat:=0
def PySem.W.Fast.tw4651205985127917925:Nat:=0
def PySem.W.Fast.tw3458749646247908540:Nat:=0
def PySem.W.Fast.tw10869553996487906773:Nat:=0
def PySem.W.Fast.tw8735899780218436699:Nat:=0
def PySem.W.Fast.tw8834716592994416221:Nat:=0
def PySem.W.Fast.tw11750763694883201598:Nat:=0
def PySem.W.Fast.tw14121504796177202755:Nat:=0
def PySem.W.Fast.tw6757000009719172153:Nat:=0
def PySem.W.Fast.tw14172712172718096040:Nat:=0
def PySem.W.Fast.tw15961733067454653618:Nat:=0
def PySem.W.Fast.tw4416884382267883448:Nat:=0
def PySem.W.Fast.tw9881765600163119908:Nat:=0
def PySem.W.Fast.tw1895970014940472659:Nat:=0
def PySem.W.Fast.tw2286385942398033140:Nat:=0
def PySem.W.Fast.tw3394069385363954330:Nat:=0
def PySem.W.Fast.tw3544997928615220225:Nat:=0
def PySem.W.Fast.tw15594872717860146329:Nat:=0
def PySem.W.Fast.tw17151828048998033294:Nat:=0
def PySem.W.Fast.tw9063844811418480231:Nat:=0
def PySem.W.Fast.tw12367021482863873524:Nat:=0
def PySem.W.Fast.tw16121062883780554387:Nat:=0
def PySem.W.Fast.tw16128891357438386336:Nat:=0
def PySem.W.Fast.tw1136864630037246797:Nat:=0
def PySem.W.Fast.tw1234451526107853386:Nat:=0
def PySem.W.Fast.tw12445067887775073211:Nat:=0
def PySem.W.Fast.tw5000162535763708268:Nat:=0
def PySem.W.Fast.tw11362161142337804470:Nat:=0
def PySem.W.Fast.tw9452178835545054728:Nat:=0
def PySem.W.Fast.tw641532645366543951:Nat:=0
def PySem.W.Fast.tw8482995923737866403:Nat:=0
def PySem.W.Fast.tw3965145932745798236:Nat:=0
def PySem.W.Fast.tw13229534464938665543:Nat:=0
def PySem.W.Fast.tw17284881112367824954:Nat:=0
def PySem.W.Fast.tw15427787872713011622:Nat:=0
def PySem.W.Fast.tw11549683342388908918:Nat:=0
def PySem.W.Fast.tw14698515244579988767:Nat:=0
def PySem.W.Fast.tw2681443013676278531:Nat:=0
def PySem.W.Fast.tw4327047973342622289:Nat:=0
def PySem.W.Fast.tw758357623223709904:Nat:=0
def PySem.W.Fast.tw8103992300855727953:Nat:=0
def PySem.W.Fast.tw12261158467063005092:Nat:=0
def PySem.W.Fast.tw14478495580508799015:Nat:=0
def PySem.W.Fast.tw15710024787610389152:Nat:=0
def PySem.W.Fast.tw8610450543471663587:Nat:=0
def PySem.W.Fast.tw6130979922760908457:Nat:=0
def PySem.W.Fast.tw14851076822240818047:Nat:=0
def PySem.W.Fast.tw7983275810790658844:Nat:=0
def PySem.W.Fast.tw814503083258561072:Nat:=0
def PySem.W.Fast.tw13498638170489117627:Nat:=0
def PySem.W.Fast.tw7715950322313836180:Nat:=0
def PySem.W.Fast.tw13717435827490500089:Nat:=0
def PySem.W.Fast.tw5529013787366317787:Nat:=0
def PySem.W.Fast.tw11385658702498592979:Nat:=0
def PySem.W.Fast.tw3997200363040547937:Nat:=0
def PySem.W.Fast.tw11561665353032022113:Nat:=0
def PySem.W.Fast.tw5420839351158542600:Nat:=0
def PySem.W.Fast.tw14555567056803522522:Nat:=0
def PySem.W.Fast.tw9393808114885942010:Nat:=0
def PySem.W.Fast.tw17017185049415525847:Nat:=0
def PySem.W.Fast.tw3752270806656029804:Nat:=0
def PySem.W.Fast.tw13710712489982765949:Nat:=0
def PySem.W.Fast.tw13113193542698910540:Nat:=0
def PySem.W.Fast.tw14112106136650810355:Nat:=0
def PySem.W.Fast.tw1971109962378833842:Nat:=0
def PySem.W.Fast.tw5274277001512755210:Nat:=0
def PySem.W.Fast.tw4667641915211600914:Nat:=0
def PySem.W.Fast.tw11466733534926903010:Nat:=0
def PySem.W.Fast.tw3089660511130212270:Nat:=0
def PySem.W.Fast.tw10524663676639905503:Nat:=0
def PySem.W.Fast.tw5265558920782827605:Nat:=0
def PySem.W.Fast.tw401854141250319489:Nat:=0
def PySem.W.Fast.tw13243499446742451162:Nat:=0
def PySem.W.Fast.tw2013613037518337100:Nat:=0
def PySem.W.Fast.tw4135885645205526278:Nat:=0
def PySem.W.Fast.tw11975892726995533828:Nat:=0
def PySem.W.Fast.tw8681979124399013153:Nat:=0
def PySem.W.Fast.tw15816984428292180205:Nat:=0
def PySem.W.Fast.tw9088243379450063521:Nat:=0
def PySem.W.Fast.tw14019534445601393270:Nat:=0
def PySem.W.Fast.tw11705520204783049623:Nat:=0
def PySem.W.Fast.tw9895252733072919616:Nat:=0
def PySem.W.Fast.tw17219245764155827153:Nat:=0
def PySem.W.Fast.tw5862841029168730884:Nat:=0
def PySem.W.Fast.tw12580012010616591015:Nat:=0
def PySem.W.Fast.tw13938433219401538718:Nat:=0
def PySem.W.Fast.tw10254532624582980869:Nat:=0
def PySem.W.Fast.tw13427657279066595595:Nat:=0
def PySem.W.Fast.tw7660169708961794498:Nat:=0
def PySem.W.Fast.tw15401746729614229517:Nat:=0
def PySem.W.Fast.tw1069742358881358042:Nat:=0
def PySem.W.Fast.tw14165053676815664563:Nat:=0
def PySem.W.Fast.tw14354046992616697829:Nat:=0
def PySem.W.Fast.tw16429178653749787811:Nat:=0
def PySem.W.Fast.tw17137366470692270655:Nat:=0
def PySem.W.Fast.tw13037163292833238533:Nat:=0
def PySem.W.Fast.tw5534792183278979723:Nat:=0
def PySem.W.Fast.tw12446773114432191561:Nat:=0
def PySem.W.Fast.tw6623711300078164895:Nat:=0
def PySem.W.Fast.tw10627333057560387978:Nat:=0
def PySem.W.Fast.tw8428253364849357435:Nat:=0
def PySem.W.Fast.tw17142554941501171794:Nat:=0
def PySem.W.Fast.tw1455933230298138366:Nat:=0
def PySem.W.Fast.tw2569563813531388263:Nat:=0
def PySem.W.Fast.tw6029820987341807234:Nat:=0
def PySem.W.Fast.tw16555794925346204512:Nat:=0
def PySem.W.Fast.tw1985929410786825945:Nat:=0
def PySem.W.Fast.tw7603748476150811812:Nat:=0
def PySem.W.Fast.tw688483804090547573:Nat:=0
def PySem.W.Fast.tw9532082221735554498:Nat:=0
def PySem.W.Fast.tw8045143975105058833:Nat:=0
def PySem.W.Fast.tw11795305261438304131:Nat:=0
def PySem.W.Fast.tw16530359096033976421:Nat:=0
def PySem.W.Fast.tw17604189917031057860:Nat:=0
def PySem.W.Fast.tw8314581212741833257:Nat:=0
def PySem.W.Fast.tw17359638759329273379:Nat:=0
def PySem.W.Fast.tw17444098891933494937:Nat:=0
def PySem.W.Fast.tw26603563876258814:Nat:=0
def PySem.W.Fast.tw15869047138674854705:Nat:=0
def PySem.W.Fast.tw3406676158866220264:Nat:=0
def PySem.W.Fast.tw9580803901616511878:Nat:=0
def PySem.W.Fast.tw18242259616179099431:Nat:=0
def PySem.W.Fast.tw9598427923086825264:Nat:=0
def PySem.W.Fast.tw14713754056792475916:Nat:=0
def PySem.W.Fast.tw11350808833288032256:Nat:=0
def PySem.W.Fast.tw10848850205692494880:Nat:=0
def PySem.W.Fast.tw8688178752699333075:Nat:=0
def PySem.W.Fast.tw2048152122711357135:Nat:=0
def PySem.W.Fast.tw12931765700455632316:Nat:=0
def PySem.W.Fast.tw11264397985909949504:Nat:=0
def PySem.W.Fast.tw12620374970282042575:Nat:=0
def PySem.W.Fast.tw7222134874434521970:Nat:=0
def PySem.W.Fast.tw14040664928135636282:Nat:=0
def PySem.W.Fast.tw7143685315316608240:Nat:=0
def PySem.W.Fast.tw1353341491388200780:Nat:=0
def PySem.W.Fast.tw13165706274661749757:Nat:=0
def PySem.W.Fast.tw14692864334252215342:Nat:=0
def PySem.W.Fast.tw2447389356044703741:Nat:=0
def PySem.W.Fast.tw15799617928701040740:Nat:=0
def PySem.W.Fast.tw16629328043074975195:Nat:=0
def PySem.W.Fast.tw2855290024088904337:Nat:=0
def PySem.W.Fast.tw17071604328037016121:Nat:=0
def PySem.W.Fast.tw5786913533593473079:Nat:=0
def PySem.W.Fast.tw4939683018437649407:Nat:=0
def PySem.W.Fast.tw12152679239142176972:Nat:=0
def PySem.W.Fast.tw9576123001675212796:Nat:=0
def PySem.W.Fast.tw6921566163262305490:Nat:=0
def PySem.W.Fast.tw14299305931754681733:Nat:=0
def PySem.W.Fast.tw483436095760365729:Nat:=0
def PySem.W.Fast.tw13726242227798051503:Nat:=0
def PySem.W.Fast.tw6689261951130601296:Nat:=0
def PySem.W.Fast.tw11257766940129184434:Nat:=0
def PySem.W.Fast.tw9083500827579722814:Nat:=0
def PySem.W.Fast.tw16747062531147806116:Nat:=0
def PySem.W.Fast.tw2107550670717273344:Nat:=0
def PySem.W.Fast.tw10882267975082968173:Nat:=0
def PySem.W.Fast.tw322832695426432081:Nat:=0
def PySem.W.Fast.tw13241861486590988920:Nat:=0
def PySem.W.Fast.tw8640822042153237872:Nat:=0
def PySem.W.Fast.tw13839083323393242112:Nat:=0
def PySem.W.Fast.tw12068107869656829570:Nat:=0
def PySem.W.Fast.tw18011467981890173180:Nat:=0
def PySem.W.Fast.tw3137773699880037576:Nat:=0
def PySem.W.Fast.tw1999851418450025091:Nat:=0
def PySem.W.Fast.tw7296919206286924079:Nat:=0
def PySem.W.Fast.tw5076655257140576959:Nat:=0
def PySem.W.Fast.tw1112952528734039948:Nat:=0
def PySem.W.Fast.tw7868988509069959755:Nat:=0
def PySem.W.Fast.tw8952811867132457714:Nat:=0
def PySem.W.Fast.tw9949519284747169123:Nat:=0
def PySem.W.Fast.tw7448522522684085906:Nat:=0
def PySem.W.Fast.tw10167017212201046533:Nat:=0
def PySem.W.Fast.tw14024199559626948549:Nat:=0
def PySem.W.Fast.tw8597427497788410892:Nat:=0
def PySem.W.Fast.tw7496749872590274199:Nat:=0
def PySem.W.Fast.tw4374208130437825086:Nat:=0
def PySem.W.Fast.tw9656157354622927175:Nat:=0
def PySem.W.Fast.tw5676745825685182601:Nat:=0
def PySem.W.Fast.tw3144299508483170312:Nat:=0
def PySem.W.Fast.tw8283674397550843890:Nat:=0
def PySem.W.Fast.tw15169776978449696198:Nat:=0
def PySem.W.Fast.tw11465279954032578396:Nat:=0
def PySem.W.Fast.tw12640687073711138727:Nat:=0
def PySem.W.Fast.tw9099186308870128496:Nat:=0
def PySem.W.Fast.tw13914848269134635650:Nat:=0
def PySem.W.Fast.tw6625017023082444297:Nat:=0
def PySem.W.Fast.tw14207034428877755739:Nat:=0
def PySem.W.Fast.tw18011379989007040000:Nat:=0
def PySem.W.Fast.tw5933252684416806403:Nat:=0
def PySem.W.Fast.tw1231734437127032779:Nat:=0
def PySem.W.Fast.tw4816114705730394620:Nat:=0
def PySem.W.Fast.tw12046187645883937412:Nat:=0
def PySem.W.Fast.tw15767141365435476639:Nat:=0
def PySem.W.Fast.tw15791414629399461433:Nat:=0
def PySem.W.Fast.tw13299260469799818875:Nat:=0
def PySem.W.Fast.tw13505612159238592174:Nat:=0
def PySem.W.Fast.tw9831085298975031863:Nat:=0
def PySem.W.Fast.tw18378737345287413356:Nat:=0
def PySem.W.Fast.tw15227780475483672971:Nat:=0
def PySem.W.Fast.tw4014886798282034061:Nat:=0
def PySem.W.Fast.tw3480475205867582433:Nat:=0
def PySem.W.Fast.tw12275267541431918877:Nat:=0
def PySem.W.Fast.tw18163815718761594182:Nat:=0
def PySem.W.Fast.tw7491775645004011345:Nat:=0
def PySem.W.Fast.tw9080384494720329809:Nat:=0
def PySem.W.Fast.tw10477866255802347304:Nat:=0
def PySem.W.Fast.tw4111716684154827239:Nat:=0
def PySem.W.Fast.tw17730970578964389216:Nat:=0
def PySem.W.Fast.tw15321371859170835588:Nat:=0
def PySem.W.Fast.tw9895214696418467081:Nat:=0
def PySem.W.Fast.tw14992194456219593623:Nat:=0
def PySem.W.Fast.tw14123559816929585222:Nat:=0
def PySem.W.Fast.tw14546321875802512160:Nat:=0
def PySem.W.Fast.tw13105370095165820663:Nat:=0
def PySem.W.Fast.tw17267876093138657509:Nat:=0
def PySem.W.Fast.tw1967049961971496002:Nat:=0
def PySem.W.Fast.tw11352151522277598249:Nat:=0
def PySem.W.Fast.tw15794029271279193190:Nat:=0
def PySem.W.Fast.tw14146790852858172714:Nat:=0
def PySem.W.Fast.tw836071681202825691:Nat:=0
def PySem.W.Fast.tw3246496832717106310:Nat:=0
def PySem.W.Fast.tw1614299983424455674:Nat:=0
def PySem.W.Fast.tw1514703828198314666:Nat:=0
def PySem.W.Fast.tw118403860386538109:Nat:=0
def PySem.W.Fast.tw4241163242231955232:Nat:=0
def PySem.W.Fast.tw4787614938148804091:Nat:=0
def PySem.W.Fast.tw13079390401212214696:Nat:=0
def PySem.W.Fast.tw11869761203916448862:Nat:=0
def PySem.W.Fast.tw9842676213312240807:Nat:=0
def PySem.W.Fast.tw12550830004082284498:Nat:=0
def PySem.W.Fast.tw13884503813120358731:Nat:=0
def PySem.W.Fast.tw5073833607628670324:Nat:=0
def PySem.W.Fast.tw5881579799123423512:Nat:=0
def PySem.W.Fast.tw9826760894771150993:Nat:=0
def PySem.W.Fast.tw4305805809438794617:Nat:=0
def PySem.W.Fast.tw9345970298805272615:Nat:=0
def PySem.W.Fast.tw7862355584804199441:Nat:=0
def PySem.W.Fast.tw7285850871009519846:Nat:=0
def PySem.W.Fast.tw13818418274364539363:Nat:=0
def PySem.W.Fast.tw4913461685772892878:Nat:=0
def PySem.W.Fast.tw16006922940137671852:Nat:=0
def PySem.W.Fast.tw5687132253276883423:Nat:=0
def PySem.W.Fast.tw7943632652474472752:Nat:=0
def PySem.W.Fast.tw1705964835263710496:Nat:=0
def PySem.W.Fast.tw1064515503477295662:Nat:=0
def PySem.W.Fast.tw8124758025544839225:Nat:=0
def PySem.W.Fast.tw3890957853132046749:Nat:=0
def PySem.W.Fast.tw5955037836977828272:Nat:=0
def PySem.W.Fast.tw5591937973291197588:Nat:=0
def PySem.W.Fast.tw10153243861557468647:Nat:=0
def PySem.W.Fast.tw5684978527344793141:Nat:=0
def PySem.W.Fast.tw1701974577299327759:Nat:=0
def PySem.W.Fast.tw9736229322249050734:Nat:=0
def PySem.W.Fast.tw16429665185215799351:Nat:=0
def PySem.W.Fast.tw1932262736028311958:Nat:=0
def PySem.W.Fast.tw10438126791526843105:Nat:=0
def PySem.W.Fast.tw1572877293475674450:Nat:=0
def PySem.W.Fast.tw3280435433740311972:Nat:=0
def PySem.W.Fast.tw9993469830405974128:Nat:=0
def PySem.W.Fast.tw12650612647560018746:Nat:=0
def PySem.W.Fast.tw8968841715464425748:Nat:=0
def PySem.W.Fast.tw8116566785563898704:Nat:=0
def PySem.W.Fast.tw9891415177599343544:Nat:=0
def PySem.W.Fast.tw9349664389780325491:Nat:=0
def PySem.W.Fast.tw15061309993786445213:Nat:=0
def PySem.W.Fast.tw2490381504969954082:Nat:=0
def PySem.W.Fast.tw722354270848686601:Nat:=0
def PySem.W.Fast.tw4605782470936751119:Nat:=0
def PySem.W.Fast.tw1035561218395363627:Nat:=0
def PySem.W.Fast.tw7160224578836470136:Nat:=0
def PySem.W.Fast.tw824603568862761992:Nat:=0
def PySem.W.Fast.tw9534620690114315874:Nat:=0
def PySem.W.Fast.tw5658434739441983516:Nat:=0
def PySem.W.Fast.tw15093254834161229886:Nat:=0
def PySem.W.Fast.tw18055574766310955183:Nat:=0
def PySem.W.Fast.tw8947311689233672598:Nat:=0
def PySem.W.Fast.tw17884731470558306238:Nat:=0
def PySem.W.Fast.tw14606935953254258894:Nat:=0
def PySem.W.Fast.tw16480083777428088760:Nat:=0
def PySem.W.Fast.tw4976516189241208388:Nat:=0
def PySem.W.Fast.tw4025860550132740754:Nat:=0
def PySem.W.Fast.tw4194895696534758175:Nat:=0
def PySem.W.Fast.tw7169738961257777117:Nat:=0
def PySem.W.Fast.tw15195462094130096361:Nat:=0
def PySem.W.Fast.tw3209590557271874046:Nat:=0
def PySem.W.Fast.tw6621333357796835600:Nat:=0
def PySem.W.Fast.tw17104579802817226067:Nat:=0
def PySem.W.Fast.tw5634266436247083778:Nat:=0
def PySem.W.Fast.tw3536809379601444344:Nat:=0
def PySem.W.Fast.tw16340475371240448250:Nat:=0
def PySem.W.Fast.tw11171891497789768192:Nat:=0
def PySem.W.Fast.tw2183144990671569312:Nat:=0
def PySem.W.Fast.tw11715480420941758528:Nat:=0
def PySem.W.Fast.tw14987138004825916167:Nat:=0
def PySem.W.Fast.tw16339675103566799025:Nat:=0
def PySem.W.Fast.tw14579156067326676654:Nat:=0
def PySem.W.Fast.tw1833598370766985569:Nat:=0
def PySem.W.Fast.tw7491751889145543706:Nat:=0
def PySem.W.Fast.tw14626533026987829756:Nat:=0
def PySem.W.Fast.tw9644668110969786451:Nat:=0
def PySem.W.Fast.tw10724547322365213607:Nat:=0
def PySem.W.Fast.tw5987051031592843872:Nat:=0
def PySem.W.Fast.tw6157002434322908728:Nat:=0
def PySem.W.Fast.tw10420566155868568462:Nat:=0
def PySem.W.Fast.tw14648422443452223307:Nat:=0
def PySem.W.Fast.tw15102347831339110574:Nat:=0
def PySem.W.Fast.tw3426015178500851259:Nat:=0
def PySem.W.Fast.tw13409406782044464537:Nat:=0
def PySem.W.Fast.tw11418708014350083568:Nat:=0
def PySem.W.Fast.tw6361491749640319558:Nat:=0
def PySem.W.Fast.tw1105508741309309016:Nat:=0
def PySem.W.Fast.tw1297714412850966824:Nat:=0
def PySem.W.Fast.tw3118560966247951448:Nat:=0
def PySem.W.Fast.tw6132209535800974459:Nat:=0
def PySem.W.Fast.tw13250111699694656800:Nat:=0
def PySem.W.Fast.tw8808399193413832382:Nat:=0
def PySem.W.Fast.tw6721192170116696724:Nat:=0
def PySem.W.Fast.tw5679191669248263484:Nat:=0
def PySem.W.Fast.tw1565811283150701467:Nat:=0
def PySem.W.Fast.tw7901181685745190232:Nat:=0
def PySem.W.Fast.tw11817425848097244446:Nat:=0
def PySem.W.Fast.tw1923669606363894318:Nat:=0
def PySem.W.Fast.tw16825898394837324030:Nat:=0
def PySem.W.Fast.tw8717958622441531190:Nat:=0
def PySem.W.Fast.tw6276326182307358501:Nat:=0
def PySem.W.Fast.tw2053130421780690993:Nat:=0
def PySem.W.Fast.tw9240246865319105745:Nat:=0
def PySem.W.Fast.tw9211623646495674663:Nat:=0
def PySem.W.Fast.tw11528964308399313553:Nat:=0
def PySem.W.Fast.tw14308987267231281692:Nat:=0
def PySem.W.Fast.tw7829986140321213636:Nat:=0
def PySem.W.Fast.tw3595182029950882825:Nat:=0
def PySem.W.Fast.tw2402088508898758455:Nat:=0
def PySem.W.Fast.tw2118325169297571152:Nat:=0
def PySem.W.Fast.tw9948599631280798047:Nat:=0
def PySem.W.Fast.tw16703398351595521881:Nat:=0
def PySem.W.Fast.tw17234000512504211312:Nat:=0
def PySem.W.Fast.tw11408065941154675384:Nat:=0
def PySem.W.Fast.tw12086109676925170566:Nat:=0
def PySem.W.Fast.tw10978598922692087298:Nat:=0
def PySem.W.Fast.tw11013181451575910314:Nat:=0
def PySem.W.Fast.tw17774512990766307873:Nat:=0
def PySem.W.Fast.tw12724399080540837967:Nat:=0
def PySem.W.Fast.tw4685140060390204457:Nat:=0
def PySem.W.Fast.tw10508823523220258929:Nat:=0
def PySem.W.Fast.tw1056017382975320455:Nat:=0
def PySem.W.Fast.tw9776474269386732307:Nat:=0
def PySem.W.Fast.tw16909322499582366182:Nat:=0
def PySem.W.Fast.tw5731837849076074190:Nat:=0
def PySem.W.Fast.tw17903015683796221706:Nat:=0
def PySem.W.Fast.tw9996496015340368642:Nat:=0
def PySem.W.Fast.tw17249348741654009804:Nat:=0
def PySem.W.Fast.tw8758115189734984902:Nat:=0
def PySem.W.Fast.tw8886972900765859715:Nat:=0
def PySem.W.Fast.tw11587788798737506829:Nat:=0
def PySem.W.Fast.tw1073735418412040318:Nat:=0
def PySem.W.Fast.tw9982002958704080936:Nat:=0
def PySem.W.Fast.tw6165399573556775390:Nat:=0
def PySem.W.Fast.tw6687091265943315509:Nat:=0
def PySem.W.Fast.tw1758213165253494989:Nat:=0
def PySem.W.Fast.tw4273331087522744426:Nat:=0
def PySem.W.Fast.tw1628124276333849911:Nat:=0
def PySem.W.Fast.tw10425327372494749706:Nat:=0
def PySem.W.Fast.tw8161946819391158792:Nat:=0
def PySem.W.Fast.tw3372288793633521064:Nat:=0
def PySem.W.Fast.tw9616936794714889207:Nat:=0
def PySem.W.Fast.tw14945908589581126203:Nat:=0
def PySem.W.Fast.tw4079789659897403898:Nat:=0
def PySem.W.Fast.tw600893140200238827:Nat:=0
def PySem.W.Fast.tw14447085526535240864:Nat:=0
def PySem.W.Fast.tw8071229560236465081:Nat:=0
def PySem.W.Fast.tw3938586108720495839:Nat:=0
def PySem.W.Fast.tw16862138395367731413:Nat:=0
def PySem.W.Fast.tw10619676952909219732:Nat:=0
def PySem.W.Fast.tw8369563868744011887:Nat:=0
def PySem.W.Fast.tw15411725014883277371:Nat:=0
def PySem.W.Fast.tw4345570744437810183:Nat:=0
def PySem.W.Fast.tw12601133697411132405:Nat:=0
def PySem.W.Fast.tw6848200565607141068:Nat:=0
def PySem.W.Fast.tw13066237852311385157:Nat:=0
def PySem.W.Fast.tw11676500961684763247:Nat:=0
def PySem.W.Fast.tw1852928465735314643:Nat:=0
def PySem.W.Fast.tw2375345499939967585:Nat:=0
def PySem.W.Fast.tw16520249815079791653:Nat:=0
def PySem.W.Fast.tw15049123821386959602:Nat:=0
def PySem.W.Fast.tw10786951752606476829:Nat:=0
def PySem.W.Fast.tw8750051178945281224:Nat:=0
def PySem.W.Fast.tw10522553503980707817:Nat:=0
def PySem.W.Fast.tw2299324195115081253:Nat:=0
def PySem.W.Fast.tw10585552228874281901:Nat:=0
def PySem.W.Fast.tw5919094174751809865:Nat:=0
def PySem.W.Fast.tw4276773175808628076:Nat:=0
def PySem.W.Fast.tw4729316578153088726:Nat:=0
def PySem.W.Fast.tw16972390099132523178:Nat:=0
def PySem.W.Fast.tw9648106002226609925:Nat:=0
def PySem.W.Fast.tw11187202425802950580:Nat:=0
def PySem.W.Fast.tw5019568771061046717:Nat:=0
def PySem.W.Fast.tw17963447418813653929:Nat:=0
def PySem.W.Fast.tw973723988224575975:Nat:=0
def PySem.W.Fast.tw10464599331694162450:Nat:=0
def PySem.W.Fast.tw7412471747320205241:Nat:=0
def PySem.W.Fast.tw13533507234867956400:Nat:=0
def PySem.W.Fast.tw10827330277196367398:Nat:=0
def PySem.W.Fast.tw3930547664099288902:Nat:=0
def PySem.W.Fast.tw4290434115496024032:Nat:=0
def PySem.W.Fast.tw12113971843279905595:Nat:=0
def PySem.W.Fast.tw5082938676894868604:Nat:=0
def PySem.W.Fast.tw4805110095917824546:Nat:=0
def PySem.W.Fast.tw16403059832229763667:Nat:=0
def PySem.W.Fast.tw17602304275559219963:Nat:=0
def PySem.W.Fast.tw5827674846103995766:Nat:=0
def PySem.W.Fast.tw10200219101177985548:Nat:=0
def PySem.W.Fast.tw4859969529341141483:Nat:=0
def PySem.W.Fast.tw14189510018085603930:Nat:=0
def PySem.W.Fast.tw1845374861268384050:Nat:=0
def PySem.W.Fast.tw1341293709936982459:Nat:=0
def PySem.W.Fast.tw5526424071888909863:Nat:=0
def PySem.W.Fast.tw15053356498524269276:Nat:=0
def PySem.W.Fast.tw13894146712910179210:Nat:=0
def PySem.W.Fast.tw10622975031233544753:Nat:=0
def PySem.W.Fast.tw8444427080903164902:Nat:=0
def PySem.W.Fast.tw5119616933285601476:Nat:=0
def PySem.W.Fast.tw7065076526068565240:Nat:=0
def PySem.W.Fast.tw5879285928529119667:Nat:=0
def PySem.W.Fast.tw4583717284398227801:Nat:=0
def PySem.W.Fast.tw13576493378539364599:Nat:=0
def PySem.W.Fast.tw16643249204616092332:Nat:=0
def PySem.W.Fast.tw11049156330846931480:Nat:=0
def PySem.W.Fast.tw16209260962903616527:Nat:=0
def PySem.W.Fast.tw18415039202697949488:Nat:=0
def PySem.W.Fast.tw10760693157012367133:Nat:=0
def PySem.W.Fast.tw918586373586612384:Nat:=0
def PySem.W.Fast.tw11844562237245060308:Nat:=0
def PySem.W.Fast.tw17788463534474496218:Nat:=0
def PySem.W.Fast.tw13821939477631263798:Nat:=0
def PySem.W.Fast.tw347914600780850546:Nat:=0
def PySem.W.Fast.tw9960338037697175394:Nat:=0
def PySem.W.Fast.tw1704662070908235083:Nat:=0
def PySem.W.Fast.tw3318809557386817582:Nat:=0
def PySem.W.Fast.tw14982808963474892731:Nat:=0
def PySem.W.Fast.tw4847028665638044464:Nat:=0
def PySem.W.Fast.tw5573094258577949935:Nat:=0
def PySem.W.Fast.tw11207676677337919378:Nat:=0
def PySem.W.Fast.tw16177538721612377681:Nat:=0
def PySem.W.Fast.tw6197877631394554070:Nat:=0
def PySem.W.Fast.tw437458475411526602:Nat:=0
def PySem.W.Fast.tw12592168693053707000:Nat:=0
def PySem.W.Fast.tw16598550902178403275:Nat:=0
def PySem.W.Fast.tw5305063653243504146:Nat:=0
def PySem.W.Fast.tw6707583342162300003:Nat:=0
def PySem.W.Fast.tw5300887387921207309:Nat:=0
def PySem.W.Fast.tw12747950219088001883:Nat:=0
def PySem.W.Fast.tw6152790019896523580:Nat:=0
def PySem.W.Fast.tw13372538434750526271:Nat:=0
def PySem.W.Fast.tw5491311996255657757:Nat:=0
def PySem.W.Fast.tw17603108462785703476:Nat:=0
def PySem.W.Fast.tw14694085321369351214:Nat:=0
def PySem.W.Fast.tw9657304861570352285:Nat:=0
def PySem.W.Fast.tw3465389574760237819:Nat:=0
def PySem.W.Fast.tw17195090854382508861:Nat:=0
def PySem.W.Fast.tw17992191167195156950:Nat:=0
def PySem.W.Fast.tw9015772003153215640:Nat:=0
open PySem PySem.W PyProof.Rows
set_option maxRecDepth 100000 in
set_option maxHeartbeats 0 in
theorem PySem.Challenge.cw_panethread_k44_whole_windows_of_boards_holds : PySem.Challenge.rw_panethread_k44_whole_windows_of_boards.Holds := by
  w_on;o_law;k_head;(case hw=>w_witness2)
  k_fill
  refine L2.Ua (l:=PySem.Challenge.rw_panethread_k44_whole_windows_of_boards) (st:=My.cF) (k:=11) (x:="_law_script") (sp:=My.Ny) rfl rfl rfl ⟨rfl,by decide,by decide,rfl⟩ (fun w h Y=>PySem.W.kIn_of Y) (fun _ _ _ _ _ _ us hl=>L2.sH (fun _=>rfl) us hl) ?F (fun K H a ns hl hS=>⟨a,ns,rfl,hS,hl,fun _=>rfl⟩)
  case F=>
    intro w mg h KX G
    have b_all:mg "all"=none:=by
      refine' PySem.W.mg_none_of KX G ?a
      (case a=>k_is)
    have b_bool:mg "bool"=none:=by
      refine' PySem.W.mg_none_of KX G ?a
      (case a=>k_is)
    have b_enumerate:mg "enumerate"=none:=by
      refine' PySem.W.mg_none_of KX G ?a
      (case a=>k_is)
    have b_int:mg "int"=none:=by
      refine' PySem.W.mg_none_of KX G ?a
      (case a=>k_is)
    have b_isinstance:mg "isinstance"=none:=by
      refine' PySem.W.mg_none_of KX G ?a
      (case a=>k_is)
    have b_len:mg "len"=none:=by
      refine' PySem.W.mg_none_of KX G ?a
      (case a=>k_is)
    have b_list:mg "list"=none:=by
      refine' PySem.W.mg_none_of KX G ?a
      (case a=>k_is)
    have b_max:mg "max"=none:=by
      refine' PySem.W.mg_none_of KX G ?a
      (case a=>k_is)
    have b_range:mg "range"=none:=by
      refine' PySem.W.mg_none_of KX G ?a
      (case a=>k_is)
    have b_reversed:mg "reversed"=none:=by
      refine' PySem.W.mg_none_of KX G ?a
      (case a=>k_is)
    have b_sorted:mg "sorted"=none:=by
      refine' PySem.W.mg_none_of KX G ?a
      (case a=>k_is)
    have b_str:mg "str"=none:=by
      refine' PySem.W.mg_none_of KX G ?a
      (case a=>k_is)
    have b_tuple:mg "tuple"=none:=by
      refine' PySem.W.mg_none_of KX G ?a
      (case a=>k_is)
    have b_zip:mg "zip"=none:=by
      refine' PySem.W.mg_none_of KX G ?a
      (case a=>k_is)
    have c_CROSS:∃ t,mg "CROSS"=some (.str "x" t):=by
      refine' L2.kI KX G ?a ?h
      (case a=>k_is);(case h=>exact ⟨_,by with_unfolding_all rfl⟩)
    have c_LETTERS:∃ t,mg "LETTERS"=some (.str "abcdefghijklmnopqrstuvwxyz" t):=by
      refine' L2.kI KX G ?a ?h
      (case a=>k_is);(case h=>exact ⟨_,by with_unfolding_all rfl⟩)
    have c_MOST_LINES:∃ t,mg "MOST_LINES"=some (.int 96 t):=by
      refine' L2.kI KX G ?a ?h
      (case a=>k_is);(case h=>exact ⟨_,by with_unfolding_all rfl⟩)
    have c_MOST_SIGNS:∃ t,mg "MOST_SIGNS"=some (.int 48 t):=by
      refine' L2.kI KX G ?a ?h
      (case a=>k_is);(case h=>exact ⟨_,by with_unfolding_all rfl⟩)
    have c_POINT:∃ t,mg "POINT"=some (.str "." t):=by
      refine' L2.kI KX G ?a ?h
      (case a=>k_is);(case h=>exact ⟨_,by with_unfolding_all rfl⟩)
    have c_TOUCH:∃ t,mg "TOUCH"=some (.str "o" t):=by
      refine' L2.kI KX G ?a ?h
      (case a=>k_is);(case h=>exact ⟨_,by with_unfolding_all rfl⟩)
    have d_is_number:L2.dR (L2.KOf KX) mg "is_number" My.dZ:=by
      dsimp only [L2.KOf]
      refine' L2.bC KX G ?a ?l ?c ?k
      (case a=>k_is);(case l=>k_is);(case c=>k_is);(case k=>k_is)
    have d_is_within:L2.dR (L2.KOf KX) mg "is_within" My.d7:=by
      dsimp only [L2.KOf]
      refine' L2.bC KX G ?a ?l ?c ?k
      (case a=>k_is);(case l=>k_is);(case c=>k_is);(case k=>k_is)
    have d_is_span:L2.dR (L2.KOf KX) mg "is_span" My.gY:=by
      dsimp only [L2.KOf]
      refine' L2.bC KX G ?a ?l ?c ?k
      (case a=>k_is);(case l=>k_is);(case c=>k_is);(case k=>k_is)
    have d_need_place:L2.dR (L2.KOf KX) mg "need_place" My.cY:=by
      dsimp only [L2.KOf]
      refine' L2.bC KX G ?a ?l ?c ?k
      (case a=>k_is);(case l=>k_is);(case c=>k_is);(case k=>k_is)
    have d_need_span:L2.dR (L2.KOf KX) mg "need_span" My.dB:=by
      dsimp only [L2.KOf]
      refine' L2.bC KX G ?a ?l ?c ?k
      (case a=>k_is);(case l=>k_is);(case c=>k_is);(case k=>k_is)
    have d_is_row:L2.dR (L2.KOf KX) mg "is_row" My.fJ:=by
      dsimp only [L2.KOf]
      refine' L2.bC KX G ?a ?l ?c ?k
      (case a=>k_is);(case l=>k_is);(case c=>k_is);(case k=>k_is)
    have d_need_row:L2.dR (L2.KOf KX) mg "need_row" My.gZ:=by
      dsimp only [L2.KOf]
      refine' L2.bC KX G ?a ?l ?c ?k
      (case a=>k_is);(case l=>k_is);(case c=>k_is);(case k=>k_is)
    have d_need_rows:L2.dR (L2.KOf KX) mg "need_rows" My.gm:=by
      dsimp only [L2.KOf]
      refine' L2.bC KX G ?a ?l ?c ?k
      (case a=>k_is);(case l=>k_is);(case c=>k_is);(case k=>k_is)
    have d_lines_above:L2.dR (L2.KOf KX) mg "lines_above" My.dJ:=by
      dsimp only [L2.KOf]
      refine' L2.bC KX G ?a ?l ?c ?k
      (case a=>k_is);(case l=>k_is);(case c=>k_is);(case k=>k_is)
    have d_signs_of_row:L2.dR (L2.KOf KX) mg "signs_of_row" My.bc:=by
      dsimp only [L2.KOf]
      refine' L2.bC KX G ?a ?l ?c ?k
      (case a=>k_is);(case l=>k_is);(case c=>k_is);(case k=>k_is)
    have d_over_row:L2.dR (L2.KOf KX) mg "over_row" My.cz:=by
      dsimp only [L2.KOf]
      refine' L2.bC KX G ?a ?l ?c ?k
      (case a=>k_is);(case l=>k_is);(case c=>k_is);(case k=>k_is)
    have d_cells_of:L2.dR (L2.KOf KX) mg "cells_of" My.bF:=by
      dsimp only [L2.KOf]
      refine' L2.bC KX G ?a ?l ?c ?k
      (case a=>k_is);(case l=>k_is);(case c=>k_is);(case k=>k_is)
    have d_ends_of:L2.dR (L2.KOf KX) mg "ends_of" My.cU:=by
      dsimp only [L2.KOf]
      refine' L2.bC KX G ?a ?l ?c ?k
      (case a=>k_is);(case l=>k_is);(case c=>k_is);(case k=>k_is)
    have d_over_cells:L2.dR (L2.KOf KX) mg "over_cells" My.aY:=by
      dsimp only [L2.KOf]
      refine' L2.bC KX G ?a ?l ?c ?k
      (case a=>k_is);(case l=>k_is);(case c=>k_is);(case k=>k_is)
    have d_ways_of:L2.dR (L2.KOf KX) mg "ways_of" My.cL:=by
      dsimp only [L2.KOf]
      refine' L2.bC KX G ?a ?l ?c ?k
      (case a=>k_is);(case l=>k_is);(case c=>k_is);(case k=>k_is)
    have d_is_turning:L2.dR (L2.KOf KX) mg "is_turning" My.bI:=by
      dsimp only [L2.KOf]
      refine' L2.bC KX G ?a ?l ?c ?k
      (case a=>k_is);(case l=>k_is);(case c=>k_is);(case k=>k_is)
    have d_need_turning:L2.dR (L2.KOf KX) mg "need_turning" My.du:=by
      dsimp only [L2.KOf]
      refine' L2.bC KX G ?a ?l ?c ?k
      (case a=>k_is);(case l=>k_is);(case c=>k_is);(case k=>k_is)
    have d_counts:L2.dR (L2.KOf KX) mg "counts" My.cZ:=by
      dsimp only [L2.KOf]
      refine' L2.bC KX G ?a ?l ?c ?k
      (case a=>k_is);(case l=>k_is);(case c=>k_is);(case k=>k_is)
    have d_need_window:L2.dR (L2.KOf KX) mg "need_window" My.cB:=by
      dsimp only [L2.KOf]
      refine' L2.bC KX G ?a ?l ?c ?k
      (case a=>k_is);(case l=>k_is);(case c=>k_is);(case k=>k_is)
    have d_asks_of:L2.dR (L2.KOf KX) mg "asks_of" My.gn:=by
      dsimp only [L2.KOf]
      refine' L2.bC KX G ?a ?l ?c ?k
      (case a=>k_is);(case l=>k_is);(case c=>k_is);(case k=>k_is)
    have d_law_cell:L2.dR (L2.KOf KX) mg "_law_cell" My.ie:=by
      dsimp only [L2.KOf]
      refine' L2.bC KX G ?a ?l ?c ?k
      (case a=>k_is);(case l=>k_is);(case c=>k_is);(case k=>k_is)
    have d_law_numbers:L2.dR (L2.KOf KX) mg "_law_numbers" My.bQ:=by
      dsimp only [L2.KOf]
      refine' L2.bC KX G ?a ?l ?c ?k
      (case a=>k_is);(case l=>k_is);(case c=>k_is);(case k=>k_is)
    have d_law_menu:L2.dR (L2.KOf KX) mg "_law_menu" My.gf:=by
      dsimp only [L2.KOf]
      refine' L2.bC KX G ?a ?l ?c ?k
      (case a=>k_is);(case l=>k_is);(case c=>k_is);(case k=>k_is)
    have d_law_row:L2.dR (L2.KOf KX) mg "_law_row" My.dM:=by
      dsimp only [L2.KOf]
      refine' L2.bC KX G ?a ?l ?c ?k
      (case a=>k_is);(case l=>k_is);(case c=>k_is);(case k=>k_is)
    have d_law_whole:L2.dR (L2.KOf KX) mg "_law_whole" My.d8:=by
      dsimp only [L2.KOf]
      refine' L2.bC KX G ?a ?l ?c ?k
      (case a=>k_is);(case l=>k_is);(case c=>k_is);(case k=>k_is)
    have d_law_sizes:L2.dR (L2.KOf KX) mg "_law_sizes" My.gq:=by
      dsimp only [L2.KOf]
      refine' L2.bC KX G ?a ?l ?c ?k
      (case a=>k_is);(case l=>k_is);(case c=>k_is);(case k=>k_is)
    have d_law_table:L2.dR (L2.KOf KX) mg "_law_table" My.bM:=by
      dsimp only [L2.KOf]
      refine' L2.bC KX G ?a ?l ?c ?k
      (case a=>k_is);(case l=>k_is);(case c=>k_is);(case k=>k_is)
    have d_law_due:L2.dR (L2.KOf KX) mg "_law_due" My.eU:=by
      dsimp only [L2.KOf]
      refine' L2.bC KX G ?a ?l ?c ?k
      (case a=>k_is);(case l=>k_is);(case c=>k_is);(case k=>k_is)
    have d_law_all:L2.dR (L2.KOf KX) mg "_law_all" My.cM:=by
      dsimp only [L2.KOf]
      refine' L2.bC KX G ?a ?l ?c ?k
      (case a=>k_is);(case l=>k_is);(case c=>k_is);(case k=>k_is)
    have d_law_by_cell:L2.dR (L2.KOf KX) mg "_law_by_cell" My.bu:=by
      dsimp only [L2.KOf]
      refine' L2.bC KX G ?a ?l ?c ?k
      (case a=>k_is);(case l=>k_is);(case c=>k_is);(case k=>k_is)
    have d_law_right:L2.dR (L2.KOf KX) mg "_law_right" My.bG:=by
      dsimp only [L2.KOf]
      refine' L2.bC KX G ?a ?l ?c ?k
      (case a=>k_is);(case l=>k_is);(case c=>k_is);(case k=>k_is)
    have d_law_both:L2.dR (L2.KOf KX) mg "_law_both" My.bL:=by
      dsimp only [L2.KOf]
      refine' L2.bC KX G ?a ?l ?c ?k
      (case a=>k_is);(case l=>k_is);(case c=>k_is);(case k=>k_is)
    have d_law_stretches:L2.dR (L2.KOf KX) mg "_law_stretches" My.cA:=by
      dsimp only [L2.KOf]
      refine' L2.bC KX G ?a ?l ?c ?k
      (case a=>k_is);(case l=>k_is);(case c=>k_is);(case k=>k_is)
    have d_law:L2.dR (L2.KOf KX) mg "law" My.cF:=by
      dsimp only [L2.KOf]
      refine' L2.bC KX G ?a ?l ?c ?k
      (case a=>k_is);(case l=>k_is);(case c=>k_is);(case k=>k_is)
    have x_NoRow:L2.rG (L2.KOf KX) mg "NoRow" ["found"] "NoRow.__init__" My.pH:=by
      dsimp only [L2.KOf]
      refine' L2.xX KX G ?a ?b ?kp ?na ?i ?t ?l ?c ?k
      (case a=>k_is);(case b=>kernel_rfl);(case kp=>k_is);(case na=>kernel_rfl);(case i=>k_is);(case t=>k_is);(case l=>k_is);(case c=>k_is);(case k=>k_is)
    have x_NoPlace:L2.rG (L2.KOf KX) mg "NoPlace" ["found"] "NoPlace.__init__" My.kW:=by
      dsimp only [L2.KOf]
      refine' L2.xX KX G ?a ?b ?kp ?na ?i ?t ?l ?c ?k
      (case a=>k_is);(case b=>kernel_rfl);(case kp=>k_is);(case na=>kernel_rfl);(case i=>k_is);(case t=>k_is);(case l=>k_is);(case c=>k_is);(case k=>k_is)
    have x_NoSpan:L2.rG (L2.KOf KX) mg "NoSpan" ["begin","end"] "NoSpan.__init__" My.kY:=by
      dsimp only [L2.KOf]
      refine' L2.xX KX G ?a ?b ?kp ?na ?i ?t ?l ?c ?k
      (case a=>k_is);(case b=>kernel_rfl);(case kp=>k_is);(case na=>kernel_rfl);(case i=>k_is);(case t=>k_is);(case l=>k_is);(case c=>k_is);(case k=>k_is)
    have x_NoTurning:L2.rG (L2.KOf KX) mg "NoTurning" ["found"] "NoTurning.__init__" My.iD:=by
      dsimp only [L2.KOf]
      refine' L2.xX KX G ?a ?b ?kp ?na ?i ?t ?l ?c ?k
      (case a=>k_is);(case b=>kernel_rfl);(case kp=>k_is);(case na=>kernel_rfl);(case i=>k_is);(case t=>k_is);(case l=>k_is);(case c=>k_is);(case k=>k_is)
    have x_NoWindow:L2.rG (L2.KOf KX) mg "NoWindow" ["found"] "NoWindow.__init__" My.jB:=by
      dsimp only [L2.KOf]
      refine' L2.xX KX G ?a ?b ?kp ?na ?i ?t ?l ?c ?k
      (case a=>k_is);(case b=>kernel_rfl);(case kp=>k_is);(case na=>kernel_rfl);(case i=>k_is);(case t=>k_is);(case l=>k_is);(case c=>k_is);(case k=>k_is)
    have o_Board:L2.rK (L2.KOf KX) mg "Board":=by
      dsimp only [L2.KOf]
      refine' L2.Hc KX G ?a ?b ?s ?m ?k
      (case a=>k_is);(case b=>kernel_rfl);(case s=>k_is);(case m=>first | k_is | kernel_rfl);(case k=>k_is)
    have n_Board:∀ f∈(["held_side","held_top","held_cells","held_coming","held_lines","held_ways"]:List Str),L2.NoAttr (L2.KOf KX) (L2.aK mg "Board") f:=by
      dsimp only [L2.KOf]
      refine' L2.Hd KX G ?a ?b
      (case a=>k_is);(case b=>kernel_rfl)
    have o_Tally:L2.rK (L2.KOf KX) mg "Tally":=by
      dsimp only [L2.KOf]
      refine' L2.Hc KX G ?a ?b ?s ?m ?k
      (case a=>k_is);(case b=>kernel_rfl);(case s=>k_is);(case m=>first | k_is | kernel_rfl);(case k=>k_is)
    have n_Tally:∀ f∈(["held_ends","held_counts"]:List Str),L2.NoAttr (L2.KOf KX) (L2.aK mg "Tally") f:=by
      dsimp only [L2.KOf]
      refine' L2.Hd KX G ?a ?b
      (case a=>k_is);(case b=>kernel_rfl)
    have o_Asks:L2.rK (L2.KOf KX) mg "Asks":=by
      dsimp only [L2.KOf]
      refine' L2.Hc KX G ?a ?b ?s ?m ?k
      (case a=>k_is);(case b=>kernel_rfl);(case s=>k_is);(case m=>first | k_is | kernel_rfl);(case k=>k_is)
    have n_Asks:∀ f∈(["held_tally","held_many","held_far"]:List Str),L2.NoAttr (L2.KOf KX) (L2.aK mg "Asks") f:=by
      dsimp only [L2.KOf]
      refine' L2.Hd KX G ?a ?b
      (case a=>k_is);(case b=>kernel_rfl)
    have m_Board___init__:L2.gC (L2.KOf KX) mg "Board" "__init__" "Board.__init__" My.aQ:=by
      dsimp only [L2.KOf]
      refine' L2.jN KX G ?a ?i ?n ?l ?c ?k
      (case a=>k_is);(case i=>k_is);(case n=>first | k_is | kernel_rfl);(case l=>k_is);(case c=>k_is);(case k=>k_is)
    have m_Board_lines:L2.gC (L2.KOf KX) mg "Board" "lines" "Board.lines" My.fK:=by
      dsimp only [L2.KOf]
      refine' L2.jN KX G ?a ?i ?n ?l ?c ?k
      (case a=>k_is);(case i=>k_is);(case n=>first | k_is | kernel_rfl);(case l=>k_is);(case c=>k_is);(case k=>k_is)
    have m_Tally___init__:L2.gC (L2.KOf KX) mg "Tally" "__init__" "Tally.__init__" My.bN:=by
      dsimp only [L2.KOf]
      refine' L2.jN KX G ?a ?i ?n ?l ?c ?k
      (case a=>k_is);(case i=>k_is);(case n=>first | k_is | kernel_rfl);(case l=>k_is);(case c=>k_is);(case k=>k_is)
    have m_Tally_below:L2.gC (L2.KOf KX) mg "Tally" "below" "Tally.below" My.cG:=by
      dsimp only [L2.KOf]
      refine' L2.jN KX G ?a ?i ?n ?l ?c ?k
      (case a=>k_is);(case i=>k_is);(case n=>first | k_is | kernel_rfl);(case l=>k_is);(case c=>k_is);(case k=>k_is)
    have m_Asks___init__:L2.gC (L2.KOf KX) mg "Asks" "__init__" "Asks.__init__" My.bJ:=by
      dsimp only [L2.KOf]
      refine' L2.jN KX G ?a ?i ?n ?l ?c ?k
      (case a=>k_is);(case i=>k_is);(case n=>first | k_is | kernel_rfl);(case l=>k_is);(case c=>k_is);(case k=>k_is)
    have m_Asks_reckoned:L2.gC (L2.KOf KX) mg "Asks" "reckoned" "Asks.reckoned" My.bK:=by
      dsimp only [L2.KOf]
      refine' L2.jN KX G ?a ?i ?n ?l ?c ?k
      (case a=>k_is);(case i=>k_is);(case n=>first | k_is | kernel_rfl);(case l=>k_is);(case c=>k_is);(case k=>k_is)
    have m_Asks_reckoned_stretch:L2.gC (L2.KOf KX) mg "Asks" "reckoned_stretch" "Asks.reckoned_stretch" My.bw:=by
      dsimp only [L2.KOf]
      refine' L2.jN KX G ?a ?i ?n ?l ?c ?k
      (case a=>k_is);(case i=>k_is);(case n=>first | k_is | kernel_rfl);(case l=>k_is);(case c=>k_is);(case k=>k_is)
    have m_Asks_window:L2.gC (L2.KOf KX) mg "Asks" "window" "Asks.window" My.b7:=by
      dsimp only [L2.KOf]
      refine' L2.jN KX G ?a ?i ?n ?l ?c ?k
      (case a=>k_is);(case i=>k_is);(case n=>first | k_is | kernel_rfl);(case l=>k_is);(case c=>k_is);(case k=>k_is)
    have m_Asks_stretch:L2.gC (L2.KOf KX) mg "Asks" "stretch" "Asks.stretch" My.cP:=by
      dsimp only [L2.KOf]
      refine' L2.jN KX G ?a ?i ?n ?l ?c ?k
      (case a=>k_is);(case i=>k_is);(case n=>first | k_is | kernel_rfl);(case l=>k_is);(case c=>k_is);(case k=>k_is)
    have m_Asks_beginning:L2.gC (L2.KOf KX) mg "Asks" "beginning" "Asks.beginning" My.bW:=by
      dsimp only [L2.KOf]
      refine' L2.jN KX G ?a ?i ?n ?l ?c ?k
      (case a=>k_is);(case i=>k_is);(case n=>first | k_is | kernel_rfl);(case l=>k_is);(case c=>k_is);(case k=>k_is)
    have m_Asks_ending:L2.gC (L2.KOf KX) mg "Asks" "ending" "Asks.ending" My.dh:=by
      dsimp only [L2.KOf]
      refine' L2.jN KX G ?a ?i ?n ?l ?c ?k
      (case a=>k_is);(case i=>k_is);(case n=>first | k_is | kernel_rfl);(case l=>k_is);(case c=>k_is);(case k=>k_is)
    have m_Asks_across:L2.gC (L2.KOf KX) mg "Asks" "across" "Asks.across" My.di:=by
      dsimp only [L2.KOf]
      refine' L2.jN KX G ?a ?i ?n ?l ?c ?k
      (case a=>k_is);(case i=>k_is);(case n=>first | k_is | kernel_rfl);(case l=>k_is);(case c=>k_is);(case k=>k_is)
    have m_Asks_table_row:L2.gC (L2.KOf KX) mg "Asks" "table_row" "Asks.table_row" My.bY:=by
      dsimp only [L2.KOf]
      refine' L2.jN KX G ?a ?i ?n ?l ?c ?k
      (case a=>k_is);(case i=>k_is);(case n=>first | k_is | kernel_rfl);(case l=>k_is);(case c=>k_is);(case k=>k_is)
    have m_Asks_table:L2.gC (L2.KOf KX) mg "Asks" "table" "Asks.table" My.eV:=by
      dsimp only [L2.KOf]
      refine' L2.jN KX G ?a ?i ?n ?l ?c ?k
      (case a=>k_is);(case i=>k_is);(case n=>first | k_is | kernel_rfl);(case l=>k_is);(case c=>k_is);(case k=>k_is)
    exact ⟨d_law,fun base f fd F=>My.R1 ⟨b_all,b_bool,b_enumerate,b_int,b_isinstance,b_len,b_list,b_max,b_range,b_reversed,b_sorted,b_str,b_tuple,b_zip,c_CROSS,c_LETTERS,c_MOST_LINES,c_MOST_SIGNS,c_POINT,c_TOUCH,d_is_number,d_is_within,d_is_span,d_need_place,d_need_span,d_is_row,d_need_row,d_need_rows,d_lines_above,d_signs_of_row,d_over_row,d_cells_of,d_ends_of,d_over_cells,d_ways_of,d_is_turning,d_need_turning,d_counts,d_need_window,d_asks_of,d_law_cell,d_law_numbers,d_law_menu,d_law_row,d_law_whole,d_law_sizes,d_law_table,d_law_due,d_law_all,d_law_by_cell,d_law_right,d_law_both,d_law_stretches,d_law,x_NoRow,x_NoPlace,x_NoSpan,x_NoTurning,x_NoWindow,o_Board,n_Board,o_Tally,n_Tally,o_Asks,n_Asks,m_Board___init__,m_Board_lines,m_Tally___init__,m_Tally_below,m_Asks___init__,m_Asks_reckoned,m_Asks_reckoned_stretch,m_Asks_window,m_Asks_stretch,m_Asks_beginning,m_Asks_ending,m_Asks_across,m_Asks_table_row,m_Asks_table⟩ F⟩
