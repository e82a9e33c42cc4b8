import PyProof.Rows.All
import Wide.All
import OpenK.AllK
import Wide.FinOn
import Lean
import PyProof.EqAt
import PyProof.EqKinds
import PyProof.TupleCall
import KE.KSortTup
import PyProof.ZipIter
import PyProof.TupleIter
import PyProof.WalksMore
import PyProof.Rows.TupIter
import PyProof.EnumIter
import PyProof.EnumFor
import PyProof.EnumStmt
import PyProof.ReprRoads
import PyProof.Rows.SeqMore
import PyProof.ListMulRoad
import PyProof.FactsAll.tuple_2
import PyProof.FactsAll.tuple_3
import PyProof.Rows.Tup
import PyProof.ListRange
import PyProof.TupleOfSeq
import PyProof.SumAny
import PyProof.ConsumeS
import PyProof.Rows.CallKwBuiltin
import KE.KLam
import KE.KSortKey
import PyProof.AutoSeq1
import KE.KListMore
import PyProof.FactsAll.subtypes_4
import PyProof.SetRoads
import PyProof.Rows.SetFrom
import PyProof.WalkInts
import PySem.Challenge.RW_thinways_k34_few_judged
set_option Elab.async false
set_option linter.all false
set_option maxRecDepth 100000
namespace L2
open PySem PySem.Spec PyProof.Rows
/-- a key: an int or a str -/
abbrev Key:=Sum Int Str
def keyIs:Key->Value->Bool
 | .inl k,v=>Value.isInt k v
 | .inr x,v=>Value.isStrOf x v
def keyH (w:World):Key->Int
 | .inl k=>hashInt k
 | .inr x=>hashStr w x
theorem keyIs_shape:∀ {k:Key} {v:Value},keyIs k v=true->(∃ i t,k=Sum.inl i∧v=Value.int i t)∨(∃ x t,k=Sum.inr x∧v=Value.str x t)
 | .inl i,v,h=>by
  obtain⟨t,e⟩:=Value.isInt_shape (k:=i) (v:=v) h
  exact .inl ⟨i,t,rfl,e⟩
 | .inr x,v,h=>by
  obtain⟨t,e⟩:=Value.isStrOf_shape (x:=x) (v:=v) h
  exact .inr ⟨x,t,rfl,e⟩
theorem key_ll (a b:Int):decide ((Sum.inl a:Key)=Sum.inl b)=(a == b):=by
 by_cases e:a=b
 ·subst e;simp
 ·have h:¬ (Sum.inl a:Key)=Sum.inl b:=fun q=>e (Sum.inl.inj q)
  rw[decide_eq_false h]
  exact (beq_eq_false_iff_ne.mpr e).symm
theorem key_rr (a b:Str):decide ((Sum.inr a:Key)=Sum.inr b)=decide (a=b):=by
 by_cases e:a=b
 ·subst e;simp
 ·have h:¬ (Sum.inr a:Key)=Sum.inr b:=fun q=>e (Sum.inr.inj q)
  rw[decide_eq_false h,decide_eq_false e]
theorem key_lr (a:Int) (b:Str):decide ((Sum.inl a:Key)=Sum.inr b)=false:=decide_eq_false (fun q=>nomatch q)
theorem key_rl (a:Str) (b:Int):decide ((Sum.inr a:Key)=Sum.inl b)=false:=decide_eq_false (fun q=>nomatch q)
def mixKind (prog:Program) (w:World):PySem.KeyKind prog w Key where
 is:=keyIs
 hash:=keyH w
 inj:=fun v a b ha hb=>by
  rcases keyIs_shape ha with ⟨i,t,rfl,rfl⟩ | ⟨x,t,rfl,rfl⟩
  ·rcases keyIs_shape hb with ⟨j,u,rfl,e⟩ | ⟨y,u,rfl,e⟩
   ·injection e with e1 _;rw[e1]
   ·exact nomatch e
  ·rcases keyIs_shape hb with ⟨j,u,rfl,e⟩ | ⟨y,u,rfl,e⟩
   ·exact nomatch e
   ·injection e with e1 _;rw[e1]
 byValue:=fun k v h=>by
  rcases keyIs_shape h with ⟨i,t,rfl,rfl⟩ | ⟨x,t,rfl,rfl⟩ <;> rfl
 pyHash:=fun hv h=>by
  rcases keyIs_shape hv with ⟨i,t,rfl,rfl⟩ | ⟨x,t,rfl,rfl⟩
  ·exact wpAny_pyHash_int h
  ·exact wpAny_pyHash_str h
 eqBool:=fun hu hv h=>by
  rcases keyIs_shape hu with ⟨i,t,rfl,rfl⟩ | ⟨x,t,rfl,rfl⟩
  ·rcases keyIs_shape hv with ⟨j,u,rfl,rfl⟩ | ⟨y,u,rfl,rfl⟩
   ·rw[key_ll] at h;exact wpAny_eqBool_int h
   ·rw[key_lr] at h;exact SeqAt.EqAt.int_str i t y u _ _ _ _ h
  ·rcases keyIs_shape hv with ⟨j,u,rfl,rfl⟩ | ⟨y,u,rfl,rfl⟩
   ·rw[key_rl] at h;exact SeqAt.EqAt.str_int x t j u _ _ _ _ h
   ·rw[key_rr] at h;exact wpAny_eqBool_str h
 «strs»:=fun k x t v h=>by
  rcases keyIs_shape h with ⟨i,u,rfl,e⟩ | ⟨y,u,rfl,e⟩
  ·exact nomatch e
  ·injection e with e1 _
   subst e1
   cases v <;> rfl
end L2
namespace L2
open PySem PySem.Spec PyProof.Rows
/-- a value, without the heap -/
inductive V where
 | non | bl (b:Bool) | int (i:Int) | str (x:Str) | byt (b:Array UInt8) | flt (b:UInt64) | ref (a:Addr) | ty (n:String)
 deriving DecidableEq
def RelV:V->Value->Prop
 | .non,u=>u=Value.none
 | .bl b,u=>u=Value.bool b
 | .int i,u=>∃ t,u=Value.int i t
 | .str x,u=>∃ t,u=Value.str x t
 | .byt b,u=>∃ t,u=Value.bytes b t
 | .flt b,u=>∃ t,u=Value.float b t
 | .ref a,u=>u=Value.ref a
 | .ty n,u=>u=Value.type n
abbrev Vals:List V->List Value->Prop:=Paired RelV
theorem Vals.length {xs:List V} {us:List Value} (r:Vals xs us):xs.length=us.length:=Paired.length r
theorem Vals.get:∀ {xs:List V} {us:List Value} {i:Nat} {x:V},Vals xs us->xs[i]?=some x->∃ u,us[i]?=some u∧RelV x u
 | _,_,_,_,.nil,e=>by simp at e
 | _,_,0,_,.cons r _,e=>by simp at e;subst e;exact⟨_,rfl,r⟩
 | _,_,i + 1,x,.cons _ t,e=>by
  obtain⟨u,h1,h2⟩:=Vals.get (i:=i) (x:=x) t (by simpa using e)
  exact⟨u,by simpa using h1,h2⟩
theorem Vals.set {x:V} {u:Value} (r:RelV x u):∀ {xs:List V} {us:List Value} (i:Nat),Vals xs us->Vals (xs.set i x) (us.set i u)
 | _,_,_,.nil=>.nil
 | _,_,0,.cons _ t=>.cons r t
 | _,_,i + 1,.cons q t=>.cons q (Vals.set r i t)
theorem Vals.append:∀ {xs ys:List V} {us ws:List Value},Vals xs us->Vals ys ws->Vals (xs++ys) (us++ws)
 | _,_,_,_,.nil,s=>s
 | _,_,_,_,.cons r t,s=>.cons r (Vals.append t s)
theorem Vals.take:∀ {xs:List V} {us:List Value} (n:Nat),Vals xs us->Vals (xs.take n) (us.take n)
 | _,_,0,_=>.nil
 | _,_,_ + 1,.nil=>.nil
 | _,_,n + 1,.cons r t=>.cons r (Vals.take n t)
theorem Vals.drop:∀ {xs:List V} {us:List Value} (n:Nat),Vals xs us->Vals (xs.drop n) (us.drop n)
 | _,_,0,r=>r
 | _,_,_ + 1,.nil=>.nil
 | _,_,n + 1,.cons _ t=>Vals.drop n t
def RelO:Option V->Option Value->Prop
 | some v,some u=>RelV v u
 | none,none=>True
 | _,_=>False
def KV {κ:Type}:List (κ × V)->List (κ × Value)->Prop:=Paired fun (p:κ × V) (q:κ × Value)=>p.1=q.1∧RelV p.2 q.2
/-- a key of a dict (00_mix): an int or a text -/
def kV:Key->V
 | .inl i=>.int i
 | .inr x=>.str x
/-- what stands at a tracked address -/
inductive HO where
  /-- a list -/
 | lst (xs:List V)
  /-- a tuple (never changes) -/
 | tup (xs:List V)
  /-- a dict whose keys are ints and texts; one whose keys are tuples of ints and texts (the empty one is both) -/
 | dK (kvs:List (Key × V)) | dT (kvs:List (List Key × V))
  /-- a set of ints: its members, its size -/
 | set (S:Int->Bool) (n:Nat)
  /-- an instance of the class at C, its dict at dx, its attributes -/
 | ins (C dx:Addr) (fs:List (Str × V))
  /-- the dict of the instance at x -/
 | own (x:Addr)
  /-- the dict of an exception -/
 | xd (fs:List (Str × V))
  /-- a bound method, f of x -/
 | met (f x:Addr)
  /-- a range object lo, lo + 1, .. below hi -/
 | rng (lo hi:Int)
  /-- a thing that is known to the object (the script; a dict while a loop walks it): read, never written while it is so -/
 | frz (o:Obj) (u:HO)
  /-- a code object's table -/
 | tbl (ps:Array Value)
  /-- any other thing, by what is true of its one object (a def of one's own: SetO a S n := HO.ext fun h => ..) -/
 | ext (φ:Heap->Prop)
abbrev Hp:=Addr->Option HO
def upd (H:Hp) (a:Addr) (o:HO):Hp:=fun b=>if b=a then some o else H b
theorem upd_same {H:Hp} {a:Addr} {o:HO}:upd H a o a=some o:=by unfold upd;rw[if_pos rfl]
theorem upd_ne {H:Hp} {a b:Addr} {o:HO} (h:b≠a):upd H a o b=H b:=by unfold upd;rw[if_neg h]
theorem ne_of_none {H:Hp} {a b:Addr} {o:HO} (h:H a=some o) (h':H b=none):a≠b:=by
 intro e;subst e;rw[h] at h';cases h'
section
variable (P:Program) (w:World)
/-- a tuple with no dict of its own -/
def TupN (h:Heap) (a:Addr) (items:Array Value):Prop:=∃ o,h.get? a=some o∧o.cls=.type "tuple"∧(∃ n,o.data=.seq items n)∧o.dict=none
theorem TupN.tup {h:Heap} {a:Addr} {items:Array Value} (x:TupN h a items):IsTup h a items:=let ⟨o,e,c,d,_⟩:=x;⟨o,e,c,d⟩
theorem TupN.new (h:Heap) (items:Array Value):TupN (h.push { cls:=.type "tuple",data:=.seq items }) h.objs.size items:=⟨_,Heap.get?_push_size _ rfl,rfl,⟨_,rfl⟩,rfl⟩
def ObjOk (H:Hp) (h:Heap) (a:Addr):HO->Prop
 | .lst xs=>xs.length≤sizeLine∧∃ (its:List Value) (n:Nat),Vals xs its∧h.get? a=some { cls:=.type "list",data:=.seq its.toArray n }
 | .tup xs=>xs.length≤sizeLine∧∃ its:List Value,Vals xs its∧TupN h a its.toArray
 | .dK kvs=>kvs.length≤sizeLine∧(a == sysModules)=false∧∃ vs,KV kvs vs∧h.DictOf (mixKind P w) a vs
 | .dT kvs => kvs.length ≤ sizeLine ∧ (a == sysModules) = false ∧ ∃ xs : List (List Key × Addr × Value),
     Paired (fun (p:List Key × V) (q:List Key × Addr × Value)=>p.1=q.1∧H q.2.1=some (.tup (p.1.map kV))∧RelV p.2 q.2.2) kvs xs ∧
     ∃ o es ep,h.get? a=some o∧o.ExactDict∧o.data=.dict es ep∧es.toList=xs.map (entryOfKey (tupleKind (mixKind P w)))∧(xs.map (·.1)).Nodup
 | .set S n=>h.SetOf (intKind P w) a S n
 | .ins C dx fs => H dx = some (.own a) ∧ fs.length ≤ 1000 ∧ dx ≠ a ∧ h.get? a = some (PySem.W.instObj C dx) ∧
     ∃ mA,h.Ns1 dx mA∧(∀ f,RelO (fs.lookup f) (mA f))∧PySem.Within mA (fs.map (·.1))
 | .own _=>∃ o,h.get? a=some o
 | .xd fs=>∃ mA,h.Ns1 a mA∧∀ f,RelO (fs.lookup f) (mA f)
 | .rng lo hi=>∃ t u v,h.get? a=some { cls:=.type "range",data:=.fields #[.int lo t,.int hi u,.int 1 v] }
 | .frz o u=>h.get? a=some o∧ObjOk H h a u
 | .tbl ps=>h.get? a=some { cls:=.none,data:=.fields ps }
 | .met f x=>h.get? a=some (PySem.W.methodObj (.ref f) (.ref x))
 | .ext φ=>φ h∧(∃ o,h.get? a=some o)∧∀ h1 h2:Heap,φ h1->(∀ o,h1.get? a=some o->h2.get? a=some o)->φ h2
/-- the abstract heap is held -/
def HOk (H:Hp) (h:Heap):Prop:=∀ a o,H a=some o->ObjOk P w H h a o
end
section
variable {P:Program} {w:World} {H H':Hp} {h h':Heap} {a:Addr} {o:HO}
theorem ObjOk.lt (x:ObjOk P w H h a o):a < h.objs.size:=by
 cases o with
 | lst xs=>obtain⟨_,_,_,_,e⟩:=x;exact Heap.lt_size e
 | tup xs=>obtain⟨_,_,_,p⟩:=x;exact p.tup.lt
 | dK kvs=>obtain⟨_,_,_,_,o,_,_,e,_⟩:=x;exact Heap.lt_size e
 | dT kvs=>obtain⟨_,_,_,_,o,_,_,e,_⟩:=x;exact Heap.lt_size e
 | set S n=>obtain⟨o,_,_,_,e,_⟩:=x;exact Heap.lt_size e
 | ins C dx fs=>obtain⟨_,_,_,e,_⟩:=x;exact Heap.lt_size e
 | own y=>obtain⟨_,e⟩:=x;exact Heap.lt_size e
 | xd fs=>obtain⟨_,⟨_,_,_,e,_⟩,_⟩:=x;exact Heap.lt_size e
 | rng lo hi=>obtain⟨_,_,_,e⟩:=x;exact Heap.lt_size e
 | frz ob u=>obtain⟨e,_⟩:=x;exact Heap.lt_size e
 | tbl ps=>exact Heap.lt_size (show h.get? a=some _ from x)
 | met f y=>exact Heap.lt_size (show h.get? a=some _ from x)
 | ext φ=>obtain⟨_,⟨_,e⟩,_⟩:=x;exact Heap.lt_size e
theorem Paired.mapP {α β:Type} {F G:α->β->Prop}:∀ {l₁:List α} {l₂:List β},Paired F l₁ l₂->(∀ a b,F a b->G a b)->Paired G l₁ l₂
 | _,_,.nil,_=>.nil
 | _,_,.cons r t,f=>.cons (f _ _ r) (Paired.mapP t f)
/-- what an object's description leans on: its own object, its own dict, the tuples -/
theorem ObjOk.stay (x:ObjOk P w H h a o) (k:∀ b u,(b=a∨H b=some (.own a))->h.get? b=some u->h'.get? b=some u)
  (ho:∀ b,H b=some (.own a)->H' b=some (.own a)) (ht:∀ b xs,H b=some (.tup xs)->H' b=some (.tup xs)):ObjOk P w H' h' a o:=by
 induction o with
 | lst xs=>obtain⟨z,its,n,r,e⟩:=x;exact⟨z,its,n,r,k _ _ (.inl rfl) e⟩
 | tup xs=>obtain⟨z,its,r,ob,e,c⟩:=x;exact⟨z,its,r,ob,k _ _ (.inl rfl) e,c⟩
 | dK kvs=>obtain⟨z,y,vs,r,ob,es,ep,e,c⟩:=x;exact⟨z,y,vs,r,ob,es,ep,k _ _ (.inl rfl) e,c⟩
 | dT kvs =>
  obtain⟨z,y,xs,r,ob,es,ep,e,c⟩:=x
  exact⟨z,y,xs,Paired.mapP r fun p q z=>⟨z.1,ht _ _ z.2.1,z.2.2⟩,ob,es,ep,k _ _ (.inl rfl) e,c⟩
 | set S n=>obtain⟨ob,es,ep,t,e,c⟩:=x;exact⟨ob,es,ep,t,k _ _ (.inl rfl) e,c⟩
 | ins C dx fs =>
  obtain⟨d,z,ne,e,mA,⟨od,es,ep,e2,c⟩,r⟩:=x
  exact⟨ho _ d,z,ne,k _ _ (.inl rfl) e,mA,⟨od,es,ep,k _ _ (.inr d) e2,c⟩,r⟩
 | own y=>obtain⟨ob,e⟩:=x;exact⟨ob,k _ _ (.inl rfl) e⟩
 | xd fs=>obtain⟨mA,⟨od,es,ep,e,c⟩,r⟩:=x;exact⟨mA,⟨od,es,ep,k _ _ (.inl rfl) e,c⟩,r⟩
 | rng lo hi=>obtain⟨t,u,v,e⟩:=x;exact⟨t,u,v,k _ _ (.inl rfl) e⟩
 | frz ob u ih=>obtain⟨e,q⟩:=x;exact⟨k _ _ (.inl rfl) e,ih q⟩
 | tbl ps =>
  have e:h.get? a=some { cls:=.none,data:=.fields ps }:=x
  show h'.get? a=some { cls:=.none,data:=.fields ps }
  exact k a _ (.inl rfl) e
 | met f y =>
  have e:h.get? a=some (PySem.W.methodObj (.ref f) (.ref y)):=x
  show h'.get? a=some (PySem.W.methodObj (.ref f) (.ref y))
  exact k a _ (.inl rfl) e
 | ext φ=>obtain⟨p,⟨o,e⟩,st⟩:=x;exact⟨st _ _ p fun o q=>k _ _ (.inl rfl) q,⟨o,k _ _ (.inl rfl) e⟩,st⟩
theorem HOk.lt (x:HOk P w H h) (e:H a=some o):a < h.objs.size:=(x a o e).lt
theorem HOk.fresh (x:HOk P w H h) (e:h.objs.size≤a):H a=none:=by
 cases q:H a with
 | none=>rfl
 | some u=>exact absurd (Nat.lt_of_lt_of_le (x.lt q) e) (Nat.lt_irrefl _)
/-- every object of the heap is kept -/
theorem HOk.kept (x:HOk P w H h) (k:∀ b u,h.get? b=some u->h'.get? b=some u):HOk P w H h':=fun a o e =>
 (x a o e).stay (fun b u _ q=>k b u q) (fun _ q=>q) fun _ _ q=>q
/-- a new object is laid and tracked -/
theorem HOk.laid (x:HOk P w H h) (k:∀ b u,h.get? b=some u->h'.get? b=some u) (hp:h.objs.size≤a) (new:ObjOk P w (upd H a o) h' a o):HOk P w (upd H a o) h':=fun b u e=>by
 have hn:=x.fresh hp
 by_cases hb:b=a
 ·subst hb;rw[upd_same] at e;cases e;exact new
 ·rw[upd_ne hb] at e
  exact (x b u e).stay (fun c v _ q=>k c v q) (fun c q=>by rw[upd_ne (ne_of_none q hn)];exact q) fun c xs q=>by rw[upd_ne (ne_of_none q hn)];exact q
end
/-- what may be read as u: it is u, or a known u -/
def Rd (H:Hp) (a:Addr) (u:HO):Prop:=H a=some u∨∃ o,H a=some (.frz o u)
theorem Rd.ok {P:Program} {w:World} {H:Hp} {h:Heap} {a:Addr} {u:HO} (r:Rd H a u) (x:HOk P w H h):ObjOk P w H h a u:=by
 rcases r with r | ⟨o,r⟩
 ·exact x a u r
 ·obtain⟨_,q⟩:=x a _ r
  exact q
/-- what may be written -/
def Mut:Option HO->Prop
 | some (.lst _)=>True
 | some (.dK _)=>True
 | some (.dT _)=>True
 | some (.set _ _)=>True
 | some (.ins _ _ _)=>True
 | some (.ext _)=>True
 | _=>False
section
variable {P:Program} {w:World} {H:Hp} {h h':Heap} {x e:Addr} {o':HO}
/-- the object at e is changed: x itself, or the dict of the instance x -/
theorem HOk.write (ok:HOk P w H h) (mu:Mut (H x)) (he:e=x∨H e=some (.own x)) (k:∀ b u,b≠e->h.get? b=some u->h'.get? b=some u) (heo:∃ u,h'.get? e=some u)
  (new:ObjOk P w (upd H x o') h' x o'):HOk P w (upd H x o') h':=fun b u q=>by
 have nown:∀ c y,H c=some (.own y)->c≠x:=fun c y r z=>by subst z;rw[r] at mu;exact mu
 have ntup:∀ c xs,H c=some (.tup xs)->c≠x:=fun c xs r z=>by subst z;rw[r] at mu;exact mu
 by_cases hb:b=x
 ·subst hb;rw[upd_same] at q;cases q;exact new
 ·rw[upd_ne hb] at q
  by_cases hbe:b=e
  ·have q':H b=some (.own x):=by
    rcases he with z | z
    ·exact absurd (hbe.trans z) hb
    ·rw[hbe];exact z
   rw[q] at q';cases q'
   obtain⟨v,hv⟩:=heo
   exact⟨v,by rw[hbe];exact hv⟩
  ·refine (ok b u q).stay (fun c v hc r=>k c v ?_ r) (fun c r=>by rw[upd_ne (nown c b r)];exact r) fun c xs r=>by rw[upd_ne (ntup c xs r)];exact r
   rcases hc with rfl | hc
   ·exact hbe
   ·rintro rfl
    rcases he with z | z
    ·exact nown c b hc z
    ·rw[hc] at z;cases z;exact hb rfl
end
structure Un (fs ex:List Addr) (H H':Hp) (h h':Heap):Prop where
 keep:∀ b o,h.get? b=some o->H b=none->b ∉ fs->b ∉ ex->h'.get? b=some o
 slot:∀ b o,h.get? b=some o->H b=none->b ∈ fs->b ∉ ex->∃ sl,h'.get? b=some { o with slots:=sl }
 free:∀ b o,h.get? b=some o->H b=none->b ∉ ex->H' b=none
 there:∀ b o,h.get? b=some o->b ∉ ex->∃ o',h'.get? b=some o'
 tups:∀ b xs,H b=some (.tup xs)->H' b=some (.tup xs)
 frzs:∀ b o u,H b=some (.frz o u)->H' b=some (.frz o u)
 tbls:∀ b ps,H b=some (.tbl ps)->∃ more,H' b=some (.tbl (ps++more))
section
variable {fs fs' ex ex':List Addr} {H H1 H2:Hp} {h h1 h2 h':Heap} {a x e:Addr} {o:HO}
theorem Un.any (u:Un fs ex H H1 h h1) {b:Addr} {ob:Obj} (q:h.get? b=some ob) (n:H b=none) (hx:b ∉ ex):∃ sl,h1.get? b=some { ob with slots:=sl }:=by
 by_cases hb:b ∈ fs
 ·exact u.slot b ob q n hb hx
 ·exact⟨ob.slots,u.keep b ob q n hb hx⟩
theorem Un.trans (a:Un fs ex H H1 h h1) (b:Un fs ex H1 H2 h1 h2):Un fs ex H H2 h h2 where
 keep:=fun c ob q n hc hx=>b.keep c ob (a.keep c ob q n hc hx) (a.free c ob q n hx) hc hx
 slot:=fun c ob q n hc hx=>by
  obtain⟨sl,e1⟩:=a.slot c ob q n hc hx
  obtain⟨sl',e2⟩:=b.slot c _ e1 (a.free c ob q n hx) hc hx
  exact⟨sl',e2⟩
 free:=fun c ob q n hx=>by
  obtain⟨o',e1⟩:=a.there c ob q hx
  exact b.free c o' e1 (a.free c ob q n hx) hx
 there:=fun c ob q hx=>by
  obtain⟨o',e1⟩:=a.there c ob q hx
  exact b.there c o' e1 hx
 tups:=fun c xs q=>b.tups c xs (a.tups c xs q)
 frzs:=fun c ob xs q=>b.frzs c ob xs (a.frzs c ob xs q)
 tbls:=fun c ps q=>by
  obtain⟨m1,e1⟩:=a.tbls c ps q
  obtain⟨m2,e2⟩:=b.tbls c _ e1
  exact⟨m1++m2,by rw[e2,Array.append_assoc]⟩
theorem Un.kept (k:∀ b u,h.get? b=some u->h'.get? b=some u):Un fs ex H H h h' :=
 ⟨fun b ob q _ _ _=>k b ob q,fun b ob q _ _ _=>⟨ob.slots,k b ob q⟩,fun _ _ _ n _=>n,fun b ob q _=>⟨ob,k b ob q⟩,fun _ _ q=>q,fun _ _ _ q=>q,fun _ ps q=>⟨#[],by rw[q];simp⟩⟩
theorem Un.refl:Un fs ex H H h h:=Un.kept fun _ _ q=>q
theorem Un.laid (k:∀ b u,h.get? b=some u->h'.get? b=some u) (hp:h.objs.size≤a) (hn:H a=none):Un fs ex H (upd H a o) h h' where
 keep:=fun b u q _ _ _=>k b u q
 slot:=fun b u q _ _ _=>⟨u.slots,k b u q⟩
 free:=fun b u q n _=>by rw[upd_ne (Nat.ne_of_lt (Nat.lt_of_lt_of_le (Heap.lt_size q) hp))];exact n
 there:=fun b u q _=>⟨u,k b u q⟩
 tups:=fun b xs q=>by rw[upd_ne (ne_of_none q hn)];exact q
 frzs:=fun b u xs q=>by rw[upd_ne (ne_of_none q hn)];exact q
 tbls:=fun b ps q=>⟨#[],by rw[upd_ne (ne_of_none q hn),q];simp⟩
theorem Un.write (mu:Mut (H x)) (he:e=x∨H e=some (.own x)) (k:∀ b u,b≠e->h.get? b=some u->h'.get? b=some u) (heo:∃ u,h'.get? e=some u):Un fs ex H (upd H x o) h h':=by
 have hx:∀ b,H b=none->b≠x:=fun b n z=>by subst z;rw[n] at mu;exact mu
 have hb:∀ b,H b=none->b≠e:=fun b n z=>by
  subst z
  rcases he with r | r
  ·exact hx b n r
  ·rw[n] at r;cases r
 have hm:∀ b u,H b=some u->¬ Mut (some u)->b≠x:=fun b u q nm z=>by subst z;rw[q] at mu;exact nm mu
 refine⟨fun b u q n _ _=>k b u (hb b n) q,fun b u q n _ _=>⟨u.slots,k b u (hb b n) q⟩,fun b u q n _=>by rw[upd_ne (hx b n)];exact n,fun b u q _=>?_,
  fun b xs q=>by rw[upd_ne (hm b _ q fun z=>z)];exact q,fun b u xs q=>by rw[upd_ne (hm b _ q fun z=>z)];exact q,fun b ps q=>⟨#[],by rw[upd_ne (hm b _ q fun z=>z),q];simp⟩⟩
 by_cases hbe:b=e
 ·subst hbe;exact heo
 ·exact⟨u,k b u hbe q⟩
end
def trk (h:Heap) (H:Hp):List Addr:=(List.range h.objs.size).filter fun a=>(H a).isSome
def hidT (h:Heap) (H:Hp):Heap:=PySem.W.hideAll h (trk h H)
theorem hidT_size (h:Heap) (H:Hp):(hidT h H).objs.size=h.objs.size:=PySem.W.hideAll_size _ _
theorem hidT_get {h:Heap} {H:Hp} {b:Addr} {o:Obj} (e:h.get? b=some o) (n:H b=none):(hidT h H).get? b=some o :=
 PySem.W.hideAll_get _ e fun hm=>by
  have q:(H b).isSome=true:=(List.mem_filter.mp hm).2
  rw[n] at q;simp at q
theorem of_hidT {h:Heap} {H:Hp} {b:Addr} {o:Obj} (e:(hidT h H).get? b=some o):h.get? b=some o∧H b=none:=by
 have e':h.get? b=some o:=PySem.W.of_hideAll (trk h H) e
 refine⟨e',?_⟩
 cases q:H b with
 | none=>rfl
 | some x =>
  have hm:b ∈ trk h H:=List.mem_filter.mpr ⟨List.mem_range.mpr (Heap.lt_size e'),by simp [q]⟩
  have z:(hidT h H).get? b=none:=PySem.W.hideAll_none (trk h H) hm
  rw[z] at e;cases e
def allNews (g h:Heap) (L:Addr):List (Addr × Obj):=(List.range h.objs.size).filterMap fun a=>if a=L∨(g.get? a).isSome=true then none else (h.get? a).map fun o=>(a,o)
def rest (g h:Heap) (L d:Addr):List (Addr × Obj):=(allNews g h L).filter fun p=>decide (p.1≠d)
end L2
namespace L2
open PySem PySem.Spec PyProof.Rows
/-- the module's facts, over the base: the heap at the law's entry without what is tracked there -/
structure Mod (K:PySem.W.Frag) (mg:Str->Option Value) (base:Heap):Prop where
 kin:K.In base
 glob:base.Ns mainGlobals mg
 blt:∃ mb,base.Ns builtinsNs mb∧∀ x:Str,x≠"__name__"->mb x=bootBuiltins x
 nolimit:base.NoLimit
/-- the context: a def's body (or a comprehension's block) running. base: fixed through the whole law; s₀, H₀: the entry; outer: the frames whose slots others may change (a def's callers); stack: all frames that run;
   ex: iterators that were made ahead of the entry and are walked here (a comprehension's); fn: the names whose cells were made at the entry (a def: all; a comprehension's block: its own); calm: not within an except suite; pn: pins that every state bears; xe: what is wanted of an exception that leaves the code -/
structure Cx where
 prog:Program
 w:World
 K:PySem.W.Frag
 mg:Str->Option Value
 base:Heap
 A:Around
 N:List Str
 s₀:Shared
 H₀:Hp
 env:Env
 outer:List Env
 stack:List Env
 ex:List Addr
 fn:Str->Bool
 calm:Bool
 pn:List (Addr × Obj)
 xe:Value->Shared->Prop
/-- the callers' frames -/
def frs (l:List Env):List Addr:=l.filterMap (·.frame)
abbrev Cx.fs (X:Cx):List Addr:=frs X.outer
def Vis (sc:Scope) (x:Str):Prop:=sc.names.lookup x=some .local∨sc.names.lookup x=some .cell∨sc.names.lookup x=some .free
def Loc (sc:Scope) (x:Str):Prop:=sc.names.lookup x=some .local∨sc.names.lookup x=some .cell
def Look (env:Env) (h:Heap) (m:Str->Option Value) (x:Str) (u:Value):Prop :=
 (env.kindOf x=some .local∧m x=some u)∨((env.kindOf x=some .cell∨env.kindOf x=some .free)∧∃ c,env.cells.lookup x=some c∧h.IsCell c (some u))
structure Cx.Ok (X:Cx):Prop where
 mod:Mod X.K X.mg X.base
 kind:X.env.scope.kind=.function
 glob:X.env.globals=mainGlobals
 blt:X.env.builtins=builtinsNs
 above:X.s₀.heap.objs.size≤X.env.locals
 inj:∀ x y c,X.env.cells.lookup x=some c->X.env.cells.lookup y=some c->x=y
 has:∀ x,(X.env.kindOf x=some .cell∨X.env.kindOf x=some .free)->∃ c,X.env.cells.lookup x=some c
 cab:∀ x c,X.fn x=true->X.env.cells.lookup x=some c->X.s₀.heap.objs.size≤c
 hd:X.calm=true->X.A.handled=none
 frames:X.A.frames=some X.stack
 stk:X.stack=X.outer∨(X.stack=X.env::X.outer∧X.env.frame=some X.env.locals)
 exf:∀ b ∈ X.ex,b≠X.env.locals∧∀ x c,X.env.cells.lookup x=some c->c≠b
 bs:∀ b o,X.base.get? b=some o->X.s₀.heap.get? b=some o∧X.H₀ b=none
 bsz:X.base.objs.size≤X.s₀.heap.objs.size
 noex:∀ b o,X.base.get? b=some o->b ∉ X.ex
 exfs:∀ b ∈ X.ex,b ∉ X.fs
 funs:X.s₀.heap.FunFrames X.base X.outer
 frf:∀ b ∈ X.fs,X.H₀ b=none
structure Inv (X:Cx) (pins:List (Addr × Obj)) (σ:List (Option V)) (H:Hp) (s:Shared):Prop where
 ok:X.Ok
 os:s.os=X.s₀.os
 bare:AllBare s.gens
 base:Un X.fs X.ex X.H₀ H X.s₀.heap s.heap
 loc:∃ m,s.heap.Ns X.env.locals m∧∀ (i:Nat) (x:Str) (v:V),X.N[i]?=some x->σ[i]?=some (some v)->Vis X.env.scope x->∃ u,RelV v u∧Look X.env s.heap m x u
 cell:∀ x c,X.env.cells.lookup x=some c->∃ v,s.heap.IsCell c v
 free:H X.env.locals=none
 freeC:∀ x c,X.env.cells.lookup x=some c->H c=none
 pin:∀ p ∈ X.pn++pins,s.heap.get? p.1=some p.2∧H p.1=none∧p.1≠X.env.locals∧p.1 ∉ X.fs∧∀ v,p.2.data≠.cell v
 hok:HOk X.prog X.w H s.heap
 len:σ.length=X.N.length
section
variable {X:Cx} {pins:List (Addr × Obj)} {σ:List (Option V)} {H H':Hp} {s:Shared} {h':Heap}
theorem Cx.Ok.nofr (ok:X.Ok) {b:Addr} {o:Obj} (e:X.base.get? b=some o):b ∉ X.fs:=fun hb=>by
 have:=(ok.funs.mem hb).1
 rw[e] at this;cases this
theorem Inv.bs (I:Inv X pins σ H s):∀ b o,X.base.get? b=some o->s.heap.get? b=some o∧H b=none:=fun b o e =>
 ⟨I.base.keep b o (I.ok.bs b o e).1 (I.ok.bs b o e).2 (I.ok.nofr e) (I.ok.noex b o e),I.base.free b o (I.ok.bs b o e).1 (I.ok.bs b o e).2 (I.ok.noex b o e)⟩
theorem Inv.bk (I:Inv X pins σ H s):∀ b o,X.base.get? b=some o->s.heap.get? b=some o:=fun b o e=>(I.bs b o e).1
theorem Inv.mod (I:Inv X pins σ H s):Mod X.K X.mg X.base:=I.ok.mod
theorem Inv.kIn (I:Inv X pins σ H s):X.K.In s.heap:=I.ok.mod.kin.keeps I.bk
theorem Inv.lt (I:Inv X pins σ H s):X.env.locals < s.heap.objs.size:=let ⟨_,hn,_⟩:=I.loc;hn.lt
theorem Inv.sz (I:Inv X pins σ H s):X.s₀.heap.objs.size≤s.heap.objs.size:=Nat.le_trans I.ok.above (Nat.le_of_lt I.lt)
theorem Inv.nofs (I:Inv X pins σ H s) {a:Addr} (h:s.heap.objs.size≤a):a ∉ X.fs:=fun hb=>by
 obtain⟨_,o,ho,_⟩:=I.ok.funs.mem hb
 exact absurd (Nat.lt_of_lt_of_le (Heap.lt_size ho) (Nat.le_trans I.sz h)) (Nat.lt_irrefl _)
theorem Inv.cne (I:Inv X pins σ H s):∀ x c,X.env.cells.lookup x=some c->c≠X.env.locals:=fun x c e z=>by
 obtain⟨v,o,ho,hd⟩:=I.cell x c e
 obtain⟨m,⟨o',es,ep,ho',hd',_⟩,_⟩:=I.loc
 rw[z,ho'] at ho;cases ho;rw[hd'] at hd;cases hd
theorem Inv.funs (I:Inv X pins σ H s):s.heap.FunFrames X.base X.outer:=by
 have all:∀ (l:List Env),(∀ b ∈ frs l,b ∈ X.fs)->X.s₀.heap.FunFrames X.base l->s.heap.FunFrames X.base l:=by
  intro l
  induction l with
  | nil=>intro _ _;trivial
  | cons env r ih =>
   intro hs hl
   obtain⟨hk,⟨L,o,hf,hn,ho,hd⟩,hr⟩:=hl
   have hL:L ∈ X.fs:=hs L (by unfold frs;rw[List.filterMap_cons,hf];exact List.mem_cons_self)
   obtain⟨sl,e⟩:=I.base.slot L o ho (I.ok.frf L hL) hL fun z=>I.ok.exfs L z hL
   exact⟨hk,⟨L,_,hf,hn,e,hd⟩,ih (fun b hb=>hs b (by unfold frs;rw[List.filterMap_cons,hf];exact List.mem_cons_of_mem _ hb)) hr⟩
 exact all X.outer (fun _ hb=>hb) I.ok.funs
/-- the frames that run, for a call -/
theorem Inv.stack (I:Inv X pins σ H s):s.heap.FunFrames X.base X.stack:=by
 rcases I.ok.stk with e | ⟨e,hf⟩
 ·rw[e];exact I.funs
 ·rw[e]
  obtain⟨m,hn,_⟩:=I.loc
  refine .cons (by rw[I.ok.kind];decide) hf hn ?_ I.funs
  exact Heap.get?_none_of_le (Nat.le_trans I.ok.bsz I.ok.above)
theorem Inv.stkSub (I:Inv X pins σ H s):∀ b ∈ frs X.stack,b ∈ X.env.locals::X.fs:=fun b hb=>by
 rcases I.ok.stk with e | ⟨e,hf⟩
 ·rw[e] at hb;exact List.mem_cons_of_mem _ hb
 ·rw[e] at hb
  unfold frs at hb
  rw[List.filterMap_cons,hf] at hb
  exact hb
theorem Inv.stkFree (I:Inv X pins σ H s):∀ b ∈ frs X.stack,H b=none:=fun b hb=>by
 rcases List.mem_cons.mp (I.stkSub b hb) with e | hb
 ·rw[e];exact I.free
 ·obtain⟨_,o,ho,_⟩:=I.ok.funs.mem hb
  exact I.base.free b o ho (I.ok.frf b hb) fun z=>I.ok.exfs b z hb
/-- THE STEP: the untracked objects but the frame and the records at ch are kept (the callers' frames up to slots), the frame's map is kept, the new abstract heap is held -/
theorem Inv.step {g':Array GenState} {t':Nat} {d':Drawn} {ch:List Addr} (I:Inv X pins σ H s)
  (hch:∀ b ∈ ch,(b ∈ X.ex∨X.s₀.heap.objs.size≤b)∧b≠X.env.locals∧(∀ x c,X.env.cells.lookup x=some c->c≠b)∧∀ p ∈ X.pn++pins,p.1≠b)
  (keep:∀ b o,b≠X.env.locals->b ∉ X.fs->b ∉ ch->s.heap.get? b=some o->H b=none->h'.get? b=some o)
  (slot:∀ b o,b≠X.env.locals->b ∈ X.fs->b ∉ ch->s.heap.get? b=some o->H b=none->∃ sl,h'.get? b=some { o with slots:=sl }) (free:∀ b o,b ∉ ch->s.heap.get? b=some o->H b=none->H' b=none)
  (there:∀ b o,b ∉ ch->s.heap.get? b=some o->∃ o',h'.get? b=some o')
  (tups:∀ b xs,H b=some (.tup xs)->H' b=some (.tup xs)) (frzs:∀ b o u,H b=some (.frz o u)->H' b=some (.frz o u)) (tbls:∀ b ps,H b=some (.tbl ps)->∃ more,H' b=some (.tbl (ps++more)))
  (ns:∀ m,s.heap.Ns X.env.locals m->h'.Ns X.env.locals m) (hok:HOk X.prog X.w H' h') (hg:AllBare g') :
  Inv X pins σ H' { s with heap:=h',gens:=g',drawn:=d',toks:=t' }:=by
 have neL:∀ b o,X.s₀.heap.get? b=some o->b≠X.env.locals:=fun b o e=>Nat.ne_of_lt (Nat.lt_of_lt_of_le (Heap.lt_size e) I.ok.above)
 have neC:∀ b o,X.s₀.heap.get? b=some o->b ∉ X.ex->b ∉ ch:=fun b o e hx hb=>by
  rcases (hch b hb).1 with z | z
  ·exact hx z
  ·exact absurd (Nat.lt_of_lt_of_le (Heap.lt_size e) z) (Nat.lt_irrefl _)
 have cellK:∀ x c,X.env.cells.lookup x=some c->∀ v,s.heap.IsCell c v->h'.IsCell c v:=fun x c e v ⟨o,ho,hd⟩=>by
  have nch:c ∉ ch:=fun z=>(hch c z).2.2.1 x c e rfl
  by_cases hc:c ∈ X.fs
  ·obtain⟨sl,q⟩:=slot c o (I.cne x c e) hc nch ho (I.freeC x c e)
   exact⟨_,q,hd⟩
  ·exact⟨o,keep c o (I.cne x c e) hc nch ho (I.freeC x c e),hd⟩
 refine⟨I.ok,I.os,hg,⟨fun b o e n hb hx=>?_,fun b o e n hb hx=>?_,fun b o e n hx=>?_,fun b o e hx=>?_,fun b xs e=>tups b xs (I.base.tups b xs e),fun b o xs e=>frzs b o xs (I.base.frzs b o xs e),fun b ps e=>?_⟩,?_,fun x c e=>?_,?_,fun x c e=>?_,fun p hp=>?_,hok,I.len⟩
 ·exact keep b o (neL b o e) hb (neC b o e hx) (I.base.keep b o e n hb hx) (I.base.free b o e n hx)
 ·obtain⟨sl,e1⟩:=I.base.slot b o e n hb hx
  obtain⟨sl',e2⟩:=slot b _ (neL b o e) hb (neC b o e hx) e1 (I.base.free b o e n hx)
  exact⟨sl',e2⟩
 ·obtain⟨o',e1⟩:=I.base.there b o e hx
  exact free b o' (neC b o e hx) e1 (I.base.free b o e n hx)
 ·obtain⟨o',e1⟩:=I.base.there b o e hx
  exact there b o' (neC b o e hx) e1
 ·obtain⟨m1,e1⟩:=I.base.tbls b ps e
  obtain⟨m2,e2⟩:=tbls b _ e1
  exact⟨m1++m2,by rw[e2,Array.append_assoc]⟩
 ·obtain⟨m,hn,hl⟩:=I.loc
  refine⟨m,ns m hn,fun i x v e1 e2 e3=>?_⟩
  obtain⟨u,r,l⟩:=hl i x v e1 e2 e3
  refine⟨u,r,?_⟩
  rcases l with l | ⟨k,c,e,z⟩
  ·exact .inl l
  ·exact .inr ⟨k,c,e,cellK x c e _ z⟩
 ·obtain⟨v,z⟩:=I.cell x c e
  exact⟨v,cellK x c e v z⟩
 ·obtain⟨m,⟨o,_,_,ho,_⟩,_⟩:=I.loc
  exact free _ o (fun z=>(hch _ z).2.1 rfl) ho I.free
 ·obtain⟨v,o,ho,hd⟩:=I.cell x c e
  exact free c o (fun z=>(hch c z).2.2.1 x c e rfl) ho (I.freeC x c e)
 ·obtain⟨e,n,ne,nf,d⟩:=I.pin p hp
  have nch:p.1 ∉ ch:=fun z=>(hch p.1 z).2.2.2 p hp rfl
  exact⟨keep p.1 p.2 ne nf nch e n,free p.1 p.2 nch e n,ne,nf,d⟩
/-- .. where the frame's own object is kept too -/
theorem Inv.un {t':Nat} (I:Inv X pins σ H s) (u:Un X.fs [] H H' s.heap h') (hok:HOk X.prog X.w H' h'):Inv X pins σ H' { s with heap:=h',toks:=t' }:=by
 obtain⟨m,⟨o,es,ep,ho,r⟩,_⟩:=id I.loc
 obtain⟨sl,hL⟩:=u.any ho I.free (by simp)
 exact I.step (g':=s.gens) (d':=s.drawn) (ch:=[]) (fun _ z=>nomatch z) (fun b o _ hb _ e n=>u.keep b o e n hb (by simp)) (fun b o _ hb _ e n=>u.slot b o e n hb (by simp)) (fun b o _ e n=>u.free b o e n (by simp)) (fun b o _ e=>u.there b o e (by simp)) u.tups u.frzs u.tbls (fun m' hm=>by
  obtain⟨o',es',ep',ho',r'⟩:=hm
  rw[ho] at ho';cases ho'
  exact⟨_,es',ep',hL,r'⟩) hok I.bare
/-- behind a call (or a comprehension's block): the slots of this frame may have changed too, the records at ch may have turned -/
theorem Inv.call {g':Array GenState} {t':Nat} {d':Drawn} {ch:List Addr} (I:Inv X pins σ H s) (u:Un (frs X.stack) ch H H' s.heap h') (hok:HOk X.prog X.w H' h') (hg:AllBare g')
  (hch:∀ b ∈ ch,(b ∈ X.ex∨X.s₀.heap.objs.size≤b)∧b≠X.env.locals∧(∀ x c,X.env.cells.lookup x=some c->c≠b)∧∀ p ∈ X.pn++pins,p.1≠b) :
  Inv X pins σ H' { s with heap:=h',gens:=g',drawn:=d',toks:=t' }:=by
 obtain⟨m,⟨o,es,ep,ho,r⟩,_⟩:=id I.loc
 obtain⟨sl,hL⟩:=u.any ho I.free fun z=>(hch _ z).2.1 rfl
 exact I.step (ch:=ch) hch (fun b o hL hb hc e n=>u.keep b o e n (fun z=>(List.mem_cons.mp (I.stkSub b z)).elim hL hb) hc) (fun b o _ _ hc e n=>u.any e n hc) (fun b o hc e n=>u.free b o e n hc) (fun b o hc e=>u.there b o e hc) u.tups u.frzs u.tbls (fun m' hm=>by
  obtain⟨o',es',ep',ho',r'⟩:=hm
  rw[ho] at ho';cases ho'
  exact⟨_,es',ep',hL,r'⟩) hok hg
/-- an untracked record of ours (an iterator) has turned -/
theorem Inv.turned {t':Nat} {it:Addr} (I:Inv X pins σ H s) (k:∀ b o,b≠it->s.heap.get? b=some o->h'.get? b=some o) (hn:H it=none) (hL:it≠X.env.locals)
  (h1:it ∈ X.ex∨X.s₀.heap.objs.size≤it) (h2:∀ x c,X.env.cells.lookup x=some c->c≠it) (h3:∀ p ∈ X.pn++pins,p.1≠it):Inv X pins σ H { s with heap:=h',toks:=t' }:=by
 have nit:∀ b u,H b=some u->b≠it:=fun b u e z=>by rw[z,hn] at e;cases e
 refine I.step (g':=s.gens) (d':=s.drawn) (ch:=[it]) (fun b hb=>?_) (fun b o _ _ hc e _=>k b o (fun z=>hc (by simp [z])) e) (fun b o _ _ hc e _=>⟨o.slots,k b o (fun z=>hc (by simp [z])) e⟩) (fun _ _ _ _ n=>n)
  (fun b o hc e=>⟨o,k b o (fun z=>hc (by simp [z])) e⟩) (fun _ _ e=>e) (fun _ _ _ e=>e) (fun b ps e=>⟨#[],by rw[e];simp⟩) (fun m hm=>?_) (fun b u e=>?_) I.bare
 ·have e:b=it:=by simpa using hb
  subst e
  exact⟨h1,hL,h2,h3⟩
 ·obtain⟨o,es,ep,ho,r⟩:=hm
  exact⟨o,es,ep,k _ o (Ne.symm hL) ho,r⟩
 ·refine (I.hok b u e).stay (fun c v hc q=>k c v ?_ q) (fun _ q=>q) fun _ _ q=>q
  rcases hc with z | z
  ·rw[z];exact nit b u e
  ·exact nit c _ z
theorem Inv.tok (I:Inv X pins σ H s) (t:Nat):Inv X pins σ H { s with toks:=t }:=I.un (h':=s.heap) (t':=t) Un.refl I.hok
/-- all objects kept -/
theorem Inv.kept {t':Nat} (I:Inv X pins σ H s) (k:∀ b u,s.heap.get? b=some u->h'.get? b=some u):Inv X pins σ H { s with heap:=h',toks:=t' }:=I.un (Un.kept k) (I.hok.kept k)
/-- a new object laid and tracked -/
theorem Inv.laid {a:Addr} {o:HO} {t':Nat} (I:Inv X pins σ H s) (k:∀ b u,s.heap.get? b=some u->h'.get? b=some u) (hp:s.heap.objs.size≤a) (new:ObjOk X.prog X.w (upd H a o) h' a o) :
  Inv X pins σ (upd H a o) { s with heap:=h',toks:=t' }:=I.un (Un.laid k hp (I.hok.fresh hp)) (I.hok.laid k hp new)
/-- an object written -/
theorem Inv.write {x e:Addr} {o:HO} {t':Nat} (I:Inv X pins σ H s) (mu:Mut (H x)) (he:e=x∨H e=some (.own x)) (k:∀ b u,b≠e->s.heap.get? b=some u->h'.get? b=some u) (heo:∃ u,h'.get? e=some u)
  (new:ObjOk X.prog X.w (upd H x o) h' x o):Inv X pins σ (upd H x o) { s with heap:=h',toks:=t' }:=I.un (Un.write mu he k heo) (I.hok.write mu he k heo new)
theorem Inv.pins_of {pins':List (Addr × Obj)} (I:Inv X pins σ H s) (h:∀ p ∈ pins',s.heap.get? p.1=some p.2∧H p.1=none∧p.1≠X.env.locals∧p.1 ∉ X.fs∧∀ v,p.2.data≠.cell v):Inv X pins' σ H s :=
 ⟨I.ok,I.os,I.bare,I.base,I.loc,I.cell,I.free,I.freeC,fun p hp=>(List.mem_append.mp hp).elim (fun z=>I.pin p (List.mem_append_left _ z)) (h p),I.hok,I.len⟩
theorem nodup_ix {N:List Str} (hN:N.Nodup) {i j:Nat} {x:Str} (a:N[i]?=some x) (b:N[j]?=some x):i=j:=by
 obtain⟨h1,e1⟩:=List.getElem?_eq_some_iff.mp a
 obtain⟨h2,e2⟩:=List.getElem?_eq_some_iff.mp b
 exact (List.getElem_inj hN).mp (e1.trans e2.symm)
/-- a name is stored; what changed -/
theorem store_ok2 {M:Model} {A:Around} {E:Value->Shared->Prop} {i:Nat} {x:Str} {v:V} {u:Value} {Q:Unit->Shared->Prop} (I:Inv X pins σ H s) (hN:X.N.Nodup) (hi:X.N[i]?=some x) (hx:Loc X.env.scope x) (r:RelV v u)
  (h:∀ s',Inv X pins (σ.set i (some v)) H s'->(∃ a,Heap.SameBut a s.heap s'.heap∧(a=X.env.locals∨X.env.cells.lookup x=some a))->Q () s') (hf:X.fn x=true∨X.env.scope.names.lookup x=some .local:=by first | exact .inl rfl | exact .inr rfl | assumption):wpAny M A (storeName X.env x u) Q E s:=by
 obtain⟨m,hn,hl⟩:=id I.loc
 have hcls:(X.env.scope.kind == .class || (X.env.scope.kind == .module && X.env.locals != X.env.globals))=false:=by rw[I.ok.kind];rfl
 have hiσ:i < σ.length:=by rw[I.len];exact (List.getElem?_eq_some_iff.mp hi).1
 have cne:=I.cne
 have tracked:∀ {a:Addr} {h':Heap},(∃ o,s.heap.get? a=some o∧H a=none)->Heap.SameBut a s.heap h'->HOk X.prog X.w H h':=fun {a h'} ha hs b ob e=>by
  obtain⟨_,_,hfree⟩:=ha
  refine (I.hok b ob e).stay (fun c w' hc q=>(hs.2 c ?_).trans q) (fun _ q=>q) fun _ _ q=>q
  rintro rfl
  rcases hc with rfl | hc
  ·rw[hfree] at e;cases e
  ·rw[hfree] at hc;cases hc
 rcases hx with hk | hk
 ·refine wpAny_storeName_local hk hn (fun h' hn' hs=>?_) hcls
  obtain⟨oL,_,_,hoL,_⟩:=id hn
  refine h _ ⟨I.ok,I.os,I.bare,⟨fun b o e n hb hx=>?_,fun b o e n hb hx=>?_,I.base.free,fun b o e hx=>?_,I.base.tups,I.base.frzs,I.base.tbls⟩,⟨_,hn',fun j y v' e1 e2 e3=>?_⟩,fun y c e=>?_,I.free,I.freeC,fun p hp=>?_,tracked ⟨oL,hoL,I.free⟩ hs,by simpa using I.len⟩ ⟨_,hs,.inl rfl⟩
  ·exact (hs.2 b (Nat.ne_of_lt (Nat.lt_of_lt_of_le (Heap.lt_size e) I.ok.above))).trans (I.base.keep b o e n hb hx)
  ·obtain⟨sl,e1⟩:=I.base.slot b o e n hb hx
   exact⟨sl,(hs.2 b (Nat.ne_of_lt (Nat.lt_of_lt_of_le (Heap.lt_size e) I.ok.above))).trans e1⟩
  ·obtain⟨o',e1⟩:=I.base.there b o e hx
   exact⟨o',(hs.2 b (Nat.ne_of_lt (Nat.lt_of_lt_of_le (Heap.lt_size e) I.ok.above))).trans e1⟩
  ·by_cases hj:j=i
   ·subst hj
    rw[hi] at e1;cases e1
    rw[List.getElem?_set_self hiσ] at e2
    cases e2
    exact⟨u,r,.inl ⟨hk,by simp⟩⟩
   ·rw[List.getElem?_set_ne (Ne.symm hj)] at e2
    obtain⟨u',r',q⟩:=hl j y v' e1 e2 e3
    refine⟨u',r',?_⟩
    rcases q with ⟨k,e⟩ | ⟨k,c,e,z⟩
    ·refine .inl ⟨k,?_⟩
     have:y≠x:=fun e=>hj (nodup_ix hN e1 (e ▸ hi))
     simp [this,e]
    ·exact .inr ⟨k,c,e,z.sameBut hs (cne y c e)⟩
  ·obtain⟨w',z⟩:=I.cell y c e
   exact⟨w',z.sameBut hs (cne y c e)⟩
  ·obtain⟨e,n,ne,nf,d⟩:=I.pin p hp
   exact⟨(hs.2 p.1 ne).trans e,n,ne,nf,d⟩
 ·have hfn:X.fn x=true:=by
   rcases hf with z | z
   ·exact z
   ·rw[z] at hk;cases hk
  obtain⟨c,hc⟩:=I.ok.has x (.inl hk)
  obtain⟨w',z⟩:=I.cell x c hc
  refine wpAny_storeName_cell I.ok.kind hk hc z (fun h' hc' hs=>?_)
  obtain⟨oc,hoc,hocd⟩:=id z
  refine h { s with heap:=h' } ⟨I.ok,I.os,I.bare,⟨fun b o e n hb hx=>?_,fun b o e n hb hx=>?_,I.base.free,fun b o e hx=>?_,I.base.tups,I.base.frzs,I.base.tbls⟩,⟨m,hn.sameBut hs (Ne.symm (cne x c hc)),fun j y v' e1 e2 e3=>?_⟩,fun y c' e=>?_,I.free,I.freeC,fun p hp=>?_,tracked ⟨oc,hoc,I.freeC x c hc⟩ hs,by simpa using I.len⟩ ⟨c,hs,.inr hc⟩
  ·exact (hs.2 b (Nat.ne_of_lt (Nat.lt_of_lt_of_le (Heap.lt_size e) (I.ok.cab x c hfn hc)))).trans (I.base.keep b o e n hb hx)
  ·obtain⟨sl,e1⟩:=I.base.slot b o e n hb hx
   exact⟨sl,(hs.2 b (Nat.ne_of_lt (Nat.lt_of_lt_of_le (Heap.lt_size e) (I.ok.cab x c hfn hc)))).trans e1⟩
  ·obtain⟨o',e1⟩:=I.base.there b o e hx
   exact⟨o',(hs.2 b (Nat.ne_of_lt (Nat.lt_of_lt_of_le (Heap.lt_size e) (I.ok.cab x c hfn hc)))).trans e1⟩
  ·by_cases hj:j=i
   ·subst hj
    rw[hi] at e1;cases e1
    rw[List.getElem?_set_self hiσ] at e2
    cases e2
    exact⟨u,r,.inr ⟨.inl hk,c,hc,hc'⟩⟩
   ·rw[List.getElem?_set_ne (Ne.symm hj)] at e2
    obtain⟨u',r',q⟩:=hl j y v' e1 e2 e3
    refine⟨u',r',?_⟩
    rcases q with q | ⟨k,c',e,z'⟩
    ·exact .inl q
    ·refine .inr ⟨k,c',e,z'.sameBut hs ?_⟩
     rintro rfl
     exact hj (nodup_ix hN e1 (I.ok.inj _ _ _ e hc ▸ hi))
  ·by_cases hcc:c'=c
   ·subst hcc;exact⟨_,hc'⟩
   ·obtain⟨w2,z2⟩:=I.cell y c' e
    exact⟨w2,z2.sameBut hs hcc⟩
  ·obtain⟨e,n,ne,nf,d⟩:=I.pin p hp
   refine⟨(hs.2 p.1 ?_).trans e,n,ne,nf,d⟩
   intro q
   rw[q,hoc] at e
   have q':oc=p.2:=Option.some.inj e
   exact d w' (by rw[← q'];exact hocd)
theorem store_ok {M:Model} {A:Around} {E:Value->Shared->Prop} {i:Nat} {x:Str} {v:V} {u:Value} {Q:Unit->Shared->Prop} (I:Inv X pins σ H s) (hN:X.N.Nodup) (hi:X.N[i]?=some x) (hx:Loc X.env.scope x) (r:RelV v u)
  (h:∀ s',Inv X pins (σ.set i (some v)) H s'->Q () s') (hf:X.fn x=true∨X.env.scope.names.lookup x=some .local:=by first | exact .inl rfl | exact .inr rfl | assumption):wpAny M A (storeName X.env x u) Q E s :=
 store_ok2 I hN hi hx r (fun s' I' _=>h s' I') hf
/-- behind a call or a block, the state as it is -/
theorem Inv.call' {s':Shared} {ch:List Addr} (I:Inv X pins σ H s) (ho:s'.os=s.os) (u:Un (frs X.stack) ch H H' s.heap s'.heap) (hok:HOk X.prog X.w H' s'.heap) (hg:AllBare s'.gens)
  (hch:∀ b ∈ ch,(b ∈ X.ex∨X.s₀.heap.objs.size≤b)∧b≠X.env.locals∧(∀ x c,X.env.cells.lookup x=some c->c≠b)∧∀ p ∈ X.pn++pins,p.1≠b):Inv X pins σ H' s':=by
 obtain⟨h',g',d',t',o'⟩:=s'
 have e:o'=s.os:=ho
 subst e
 exact I.call (g':=g') (t':=t') (d':=d') u hok hg hch
end
/-- an exception: its class, its own dict's address (where it has one), the abstract heap behind it -/
abbrev XK:=Value->Option Addr->Hp->Prop
abbrev St:=List (Option V)
abbrev VK:=V->Hp->Prop
/-- an expression's reading; a test's; an argument list's -/
abbrev TE:=St->Hp->VK->Prop
abbrev TT:=St->Hp->(Bool->Hp->Prop)->Prop
abbrev TA:=St->Hp->(List V->Hp->Prop)->Prop
/-- what is wanted behind a statement -/
structure Ends where
 nx:St->Hp->Prop
 rt:VK
 bk:St->Hp->Prop:=fun _ _=>False
 ct:St->Hp->Prop:=fun _ _=>False
abbrev TS:=Ends->St->Hp->Prop
def EP (X:Cx) (pins:List (Addr × Obj)) (σ:St) (Q:VK) (u:Value) (s':Shared):Prop:=∃ v H',Inv X pins σ H' s'∧RelV v u∧Q v H'
def TP (X:Cx) (pins:List (Addr × Obj)) (σ:St) (Q:Bool->Hp->Prop) (b:Bool) (s':Shared):Prop:=∃ H',Inv X pins σ H' s'∧Q b H'
def AP (X:Cx) (pins:List (Addr × Obj)) (σ:St) (Q:List V->Hp->Prop) (us:List Value) (s':Shared):Prop:=∃ vs H',Inv X pins σ H' s'∧Vals vs us∧Q vs H'
def SP (X:Cx) (pins:List (Addr × Obj)) (D:Ends) (f:Flow) (s':Shared):Prop :=
 match f with
 | .next=>∃ σ' H',Inv X pins σ' H' s'∧D.nx σ' H'
 | .brk=>∃ σ' H',Inv X pins σ' H' s'∧D.bk σ' H'
 | .cont=>∃ σ' H',Inv X pins σ' H' s'∧D.ct σ' H'
 | .ret u=>∃ v σ' H',Inv X pins σ' H' s'∧RelV v u∧D.rt v H'
def PE (X:Cx) (e:Expr) (t:TE):Prop :=
 ∀ (pins:List (Addr × Obj)) (s:Shared) (σ:St) (H:Hp) (Q:VK),Inv X pins σ H s->t σ H Q->wpAny (model X.prog X.w) X.A (eval e X.env) (EP X pins σ Q) X.xe s
def PT (X:Cx) (e:Expr) (t:TT):Prop :=
 ∀ (pins:List (Addr × Obj)) (s:Shared) (σ:St) (H:Hp) (Q:Bool->Hp->Prop),Inv X pins σ H s->t σ H Q->wpAny (model X.prog X.w) X.A (isTrue e X.env (eval e X.env)) (TP X pins σ Q) X.xe s
/-- a test whatever its 'whole' is (and, or) -/
def PW (X:Cx) (e:Expr) (t:TT):Prop :=
 ∀ (whole:Sem Value) (pins:List (Addr × Obj)) (s:Shared) (σ:St) (H:Hp) (Q:Bool->Hp->Prop),Inv X pins σ H s->t σ H Q->wpAny (model X.prog X.w) X.A (isTrue e X.env whole) (TP X pins σ Q) X.xe s
theorem PW.pt {X:Cx} {e:Expr} {t:TT} (h:PW X e t):PT X e t:=h _
/-- an argument list (no star), from the left -/
def PA (X:Cx) (es:List Expr) (t:TA):Prop :=
 ∀ (pos:Pos) (pins:List (Addr × Obj)) (s:Shared) (σ:St) (H:Hp) (Q:List V->Hp->Prop),Inv X pins σ H s->t σ H Q->wpAny (model X.prog X.w) X.A (spliced (backTo pos (starEach es X.env))) (AP X pins σ Q) X.xe s
def PS (X:Cx) (st:Stmt) (t:TS):Prop :=
 ∀ (pins:List (Addr × Obj)) (s:Shared) (σ:St) (H:Hp) (D:Ends),Inv X pins σ H s->t D σ H->wpAny (model X.prog X.w) X.A (exec st X.env) (SP X pins D) X.xe s
def PSs (X:Cx) (st:List Stmt) (t:TS):Prop :=
 ∀ (pins:List (Addr × Obj)) (s:Shared) (σ:St) (H:Hp) (D:Ends),Inv X pins σ H s->t D σ H->wpAny (model X.prog X.w) X.A (execs st X.env) (SP X pins D) X.xe s
/-- weaken the end -/
theorem thn {α:Type} {t:Sem α} {Q Q':α->Shared->Prop} {M:Model} {A:Around} {E:Value->Shared->Prop} {s:Shared} (h:wpAny M A t Q E s) (hQ:∀ a s,Q a s->Q' a s):wpAny M A t Q' E s:=wpAny_mono h hQ fun _ _ x=>x
end L2
namespace L2
open PySem PySem.Spec PyProof.Rows
section
variable {X:Cx}
def tVar (i:Nat):TE:=fun σ H Q=>∃ v,σ[i]?=some (some v)∧Q v H
def tC (v:V):TE:=fun _ H Q=>Q v H
theorem pe_var {i:Nat} {x:Str} {pos:Pos} (hN:X.N[i]?=some x) (hv:Vis X.env.scope x) (hd:(x == ("__debug__":Str))=false:=by decide) (hcd:(x == ("__classdict__":Str))=false:=by decide):PE X (.Name x pos) (tVar i):=by
 intro pins s σ H Q I h
 obtain⟨v,e,h⟩:=h
 obtain⟨m,hn,hl⟩:=I.loc
 obtain⟨u,r,l⟩:=hl i x v hN e hv
 have fin:EP X pins σ Q u s:=⟨v,H,I,r,h⟩
 rcases l with ⟨hk,hm⟩ | ⟨hk,c,hc,hcell⟩
 ·exact wpAny_Name (wpAny_loadName_local I.ok.kind hk hn hm fin) hd
 ·rcases hk with hk | hk
  ·exact wpAny_Name (wpAny_loadName_cell I.ok.kind hk hc hcell fin) hd
  ·exact wpAny_Name (wpAny_loadName_free I.ok.kind hk hc hcell fin hcd) hd
theorem pe_int {i j pos}:PE X (.Constant (.int i) j pos) (tC (.int i)):=fun _ _ _ H _ I h=>wpAny_Constant_int ⟨.int i,H,I.tok _,⟨_,rfl⟩,h⟩
theorem pe_bl {b j pos}:PE X (.Constant (.bool b) j pos) (tC (.bl b)):=fun _ _ _ H _ I h=>Constant_bool ⟨.bl b,H,I,rfl,h⟩
theorem pe_non {j pos}:PE X (.Constant .none j pos) (tC .non):=fun _ _ _ H _ I h=>Constant_none ⟨.non,H,I,rfl,h⟩
theorem pe_str {x j pos}:PE X (.Constant (.str x) j pos) (tC (.str x)):=fun _ _ _ H _ I h=>Calls.Constant_str ⟨.str x,H,I.tok _,⟨_,rfl⟩,h⟩
/-- a global name of the def -/
def Gl (X:Cx) (x:Str):Prop:=X.env.kindOf x=some .globalImplicit
theorem ld_glob {E:Value->Shared->Prop} {pins:List (Addr × Obj)} {s:Shared} {σ:St} {H:Hp} {x:Str} {u:Value} {pos:Pos} {Q:Value->Shared->Prop} (I:Inv X pins σ H s) (hg:Gl X x) (hm:X.mg x=some u) (h:Q u s)
  (hd:(x == ("__debug__":Str))=false:=by decide):wpAny (model X.prog X.w) X.A (eval (.Name x pos) X.env) Q E s :=
 Calls.Name_function_global I.ok.kind hg (Calls.loadGlobal_global (by rw[I.ok.glob];exact I.mod.glob.keeps I.bk) hm h) hd
theorem ld_blt {E:Value->Shared->Prop} {pins:List (Addr × Obj)} {s:Shared} {σ:St} {H:Hp} {x:Str} {u:Value} {pos:Pos} {Q:Value->Shared->Prop} (I:Inv X pins σ H s) (hg:Gl X x) (hm:X.mg x=none) (hv:bootBuiltins x=some u) (h:Q u s)
  (hn:x≠"__name__":=by decide) (hd:(x == ("__debug__":Str))=false:=by decide):wpAny (model X.prog X.w) X.A (eval (.Name x pos) X.env) Q E s:=by
 obtain⟨mb,h1,h2⟩:=I.mod.blt
 exact Calls.Name_function_global I.ok.kind hg (Calls.loadGlobal_builtin (by rw[I.ok.glob];exact I.mod.glob.keeps I.bk) hm (by rw[I.ok.blt];exact h1.keeps I.bk) ((h2 x hn).trans hv) h) hd
theorem pe_bltn {x:Str} {v:V} {u:Value} {pos:Pos} (hg:Gl X x) (hm:X.mg x=none) (hv:bootBuiltins x=some u) (r:RelV v u) (hn:x≠"__name__":=by decide) (hd:(x == ("__debug__":Str))=false:=by decide):PE X (.Name x pos) (tC v) :=
 fun _ _ _ H _ I h=>ld_blt I hg hm hv ⟨v,H,I,r,h⟩ hn hd
variable {a b:Expr} {ta tb:TE} {pos:Pos}
def PC (X:Cx) (op:CmpOp) (a b:Expr) (t:TE):Prop :=
 ∀ (pins:List (Addr × Obj)) (s:Shared) (σ:St) (H:Hp) (Q:VK),Inv X pins σ H s->t σ H Q ->
  wpAny (model X.prog X.w) X.A (eval a X.env) (fun v s₁=>wpAny (model X.prog X.w) X.A (eval b X.env) (fun u s₂=>wpAny (model X.prog X.w) X.A (compareOp op v u) (EP X pins σ Q) X.xe s₂) X.xe s₁) X.xe s
/-- a comparison as a value, as a test -/
def tB (t:TE):TT:=fun σ H Q=>t σ H fun x H1=>∃ c,x=.bl c∧Q c H1
/-- an expression whose value is a bool, as a test -/
theorem pt_val {e:Expr} {t:TE} (h:PE X e t) (he:∀ whole,isTrue e X.env whole=(do let v ← whole;standAt e.pos;holding [v] (truthy v)):=by intro _;rfl):PT X e (tB t):=by
 intro pins s σ H Q I hw
 refine isTrue_plain (thn (h pins s σ H _ I hw) fun v s1 ⟨x,H1,I1,r1,q1⟩=>?_) (he _)
 obtain⟨d,rfl,q⟩:=q1
 cases r1
 exact wpAny_truthy_bool ⟨H1,I1,q⟩
variable {tA tB':TT} {rest:List Expr}
def tAnd (t u:TT):TT:=fun σ H Q=>t σ H fun c H1=>if c=true then u σ H1 Q else Q false H1
def tOr (t u:TT):TT:=fun σ H Q=>t σ H fun c H1=>if c=true then Q true H1 else u σ H1 Q
def tNot (t:TT):TT:=fun σ H Q=>t σ H fun c H1=>Q (!c) H1
theorem pw_and1 (ha:PT X a tA):PW X (.BoolOp .And [a] pos) tA:=by
 intro wh pins s σ H Q I h
 refine isTrue_and (thn (ha pins s σ H Q I h) fun c s1 e=>?_)
 cases c with
 | true=>exact isTrue_and_nil e
 | false=>exact e
theorem pw_or1 (ha:PT X a tA):PW X (.BoolOp .Or [a] pos) tA:=by
 intro wh pins s σ H Q I h
 refine isTrue_or (thn (ha pins s σ H Q I h) fun c s1 e=>?_)
 cases c with
 | false=>exact isTrue_or_nil e
 | true=>exact e
theorem pw_and (ha:PT X a tA) (hb:PW X (.BoolOp .And (b::rest) pos) tB'):PW X (.BoolOp .And (a::b::rest) pos) (tAnd tA tB'):=by
 intro wh pins s σ H Q I h
 refine isTrue_and (thn (ha pins s σ H _ I h) fun c s1 ⟨H1,I1,q1⟩=>?_)
 cases c with
 | true=>exact hb wh pins s1 σ H1 Q I1 q1
 | false=>exact⟨H1,I1,q1⟩
theorem pw_or (ha:PT X a tA) (hb:PW X (.BoolOp .Or (b::rest) pos) tB'):PW X (.BoolOp .Or (a::b::rest) pos) (tOr tA tB'):=by
 intro wh pins s σ H Q I h
 refine isTrue_or (thn (ha pins s σ H _ I h) fun c s1 ⟨H1,I1,q1⟩=>?_)
 cases c with
 | true=>exact⟨H1,I1,q1⟩
 | false=>exact hb wh pins s1 σ H1 Q I1 q1
theorem pt_not (ha:PT X a tA):PT X (.UnaryOp .Not a pos) (tNot tA):=by
 intro pins s σ H Q I h
 exact isTrue_not (ha pins s σ H (fun c H1=>Q (!c) H1) I h)
/-- .. as values (bools) -/
def tAndV (ta tb:TE):TE:=fun σ H Q=>ta σ H fun x H1=>∃ c,x=.bl c∧if c=true then tb σ H1 Q else Q (.bl false) H1
def tOrV (ta tb:TE):TE:=fun σ H Q=>ta σ H fun x H1=>∃ c,x=.bl c∧if c=true then Q (.bl true) H1 else tb σ H1 Q
def tNotV (ta:TE):TE:=fun σ H Q=>ta σ H fun x H1=>∃ c,x=.bl c∧Q (.bl (!c)) H1
theorem pe_one {op} {t:TE} (h:PE X a t):PE X (.BoolOp op [a] pos) t:=fun pins s σ H Q I hw=>BoolOp_one (h pins s σ H Q I hw)
theorem pe_and (ha:PE X a ta) (hb:PE X (.BoolOp .And (b::rest) pos) tb):PE X (.BoolOp .And (a::b::rest) pos) (tAndV ta tb):=by
 intro pins s σ H Q I h
 refine BoolOp_and (thn (ha pins s σ H _ I h) fun v s1 ⟨x,H1,I1,r1,q1⟩=>?_)
 obtain⟨c,rfl,q1⟩:=q1
 cases r1
 refine wpAny_truthy_bool ?_
 cases c with
 | true=>exact hb pins s1 σ H1 Q I1 q1
 | false=>exact⟨.bl false,H1,I1,rfl,q1⟩
theorem pe_or (ha:PE X a ta) (hb:PE X (.BoolOp .Or (b::rest) pos) tb):PE X (.BoolOp .Or (a::b::rest) pos) (tOrV ta tb):=by
 intro pins s σ H Q I h
 refine BoolOp_or (thn (ha pins s σ H _ I h) fun v s1 ⟨x,H1,I1,r1,q1⟩=>?_)
 obtain⟨c,rfl,q1⟩:=q1
 cases r1
 refine wpAny_truthy_bool ?_
 cases c with
 | false=>exact hb pins s1 σ H1 Q I1 q1
 | true=>exact⟨.bl true,H1,I1,rfl,q1⟩
theorem pe_not (ha:PE X a ta):PE X (.UnaryOp .Not a pos) (tNotV ta):=by
 intro pins s σ H Q I h
 refine UnaryOp_ (thn (ha pins s σ H _ I h) fun v s1 ⟨x,H1,I1,r1,q1⟩=>?_)
 obtain⟨c,rfl,q1⟩:=q1
 cases r1
 exact not_of (wpAny_truthy_bool ⟨.bl (!c),H1,I1,rfl,q1⟩)
/-- a if t else b -/
def tIf (t:TT) (ta tb:TE):TE:=fun σ H Q=>t σ H fun c H1=>if c=true then ta σ H1 Q else tb σ H1 Q
theorem pe_ifExp {c:Expr} (hc:PT X c tA) (ha:PE X a ta) (hb:PE X b tb):PE X (.IfExp c a b pos) (tIf tA ta tb):=by
 intro pins s σ H Q I h
 refine wpAny_IfExp (thn (hc pins s σ H _ I h) fun d s1 ⟨H1,I1,q1⟩=>?_)
 cases d with
 | true=>exact ha pins s1 σ H1 Q I1 q1
 | false=>exact hb pins s1 σ H1 Q I1 q1
end
end L2
namespace L2
open PySem PySem.Spec PyProof.Rows
def SqL (K:PySem.W.Frag) (H:Hp) (a:Addr) (xs:List V):Prop :=
 Rd H a (.lst xs) ∨
  ∃ (o:Obj) (its:Array Value) (n:Nat),K.lookup a=some o∧o.cls=.type "list"∧o.dict=none∧o.data=.seq its n∧its.size≤sizeLine∧Vals xs its.toList
def SqT (K:PySem.W.Frag) (H:Hp) (a:Addr) (xs:List V):Prop :=
 Rd H a (.tup xs) ∨
  ∃ (o:Obj) (its:Array Value) (n:Nat),K.lookup a=some o∧o.cls=.type "tuple"∧o.data=.seq its n∧its.size≤sizeLine∧Vals xs its.toList
def absV:Value->Option V
 | .none=>some .non
 | .bool b=>some (.bl b)
 | .int i _=>some (.int i)
 | .str x _=>some (.str x)
 | .bytes b _=>some (.byt b)
 | .float b _=>some (.flt b)
 | .ref a=>some (.ref a)
 | .type n=>some (.ty n)
 | _=>none
theorem RelV.abs {x:V} {u:Value} (r:RelV x u):absV u=some x:=by
 cases x with
 | non=>cases r;rfl
 | bl _=>cases r;rfl
 | int _=>obtain⟨t,rfl⟩:=r;rfl
 | str _=>obtain⟨t,rfl⟩:=r;rfl
 | byt _=>obtain⟨t,rfl⟩:=r;rfl
 | flt _=>obtain⟨t,rfl⟩:=r;rfl
 | ref _=>cases r;rfl
 | ty _=>cases r;rfl
theorem RelV.inj {x y:V} {u:Value} (r:RelV x u) (q:RelV y u):x=y:=Option.some.inj (r.abs.symm.trans q.abs)
theorem Vals.inj:∀ {xs ys:List V} {us:List Value},Vals xs us->Vals ys us->xs=ys
 | _,_,_,.nil,.nil=>rfl
 | _,_,_,.cons r t,.cons r' t'=>by rw[r.inj r',Vals.inj t t']
section
variable {X:Cx} {pins:List (Addr × Obj)} {σ:St} {H:Hp} {s:Shared} {a:Addr} {xs ys:List V}
theorem SqL.of {K:PySem.W.Frag} (h:H a=some (.lst xs)):SqL K H a xs:=.inl (.inl h)
theorem SqT.of {K:PySem.W.Frag} (h:H a=some (.tup xs)):SqT K H a xs:=.inl (.inl h)
theorem Inv.list (I:Inv X pins σ H s) (h:SqL X.K H a xs):∃ its:List Value,Vals xs its∧PlainL s.heap a its.toArray∧xs.length≤sizeLine:=by
 rcases h with h | ⟨o,its,n,hk,hc,hd,hs,hz,r⟩
 ·obtain⟨z,its,n,r,e⟩:=h.ok I.hok
  exact⟨its,r,⟨_,n,e,rfl,rfl,rfl⟩,z⟩
 ·refine⟨its.toList,r,⟨o,n,I.kIn a o hk,hc,hd,by simpa using hs⟩,?_⟩
  have e:=r.length
  simp only [Array.length_toList] at e
  omega
theorem Inv.tuple (I:Inv X pins σ H s) (h:SqT X.K H a xs):∃ its:List Value,Vals xs its∧IsTup s.heap a its.toArray∧xs.length≤sizeLine:=by
 rcases h with h | ⟨o,its,n,hk,hc,hs,hz,r⟩
 ·obtain⟨z,its,r,p⟩:=h.ok I.hok
  exact⟨its,r,p.tup,z⟩
 ·refine⟨its.toList,r,⟨o,I.kIn a o hk,hc,n,by simpa using hs⟩,?_⟩
  have e:=r.length
  simp only [Array.length_toList] at e
  omega
theorem Inv.list_inj (I:Inv X pins σ H s) (h:SqL X.K H a xs) (h':SqL X.K H a ys):xs=ys:=by
 obtain⟨its,r,⟨o,n,e,_,_,d⟩,_⟩:=I.list h
 obtain⟨its',r',⟨o',n',e',_,_,d'⟩,_⟩:=I.list h'
 rw[e] at e';cases e'
 rw[d] at d'
 injection d' with d1 _
 have:its=its':=by simpa using congrArg Array.toList d1
 subst this
 exact r.inj r'
theorem Inv.tuple_inj (I:Inv X pins σ H s) (h:SqT X.K H a xs) (h':SqT X.K H a ys):xs=ys:=by
 obtain⟨its,r,⟨o,e,_,n,d⟩,_⟩:=I.tuple h
 obtain⟨its',r',⟨o',e',_,n',d'⟩,_⟩:=I.tuple h'
 rw[e] at e';cases e'
 rw[d] at d'
 injection d' with d1 _
 have:its=its':=by simpa using congrArg Array.toList d1
 subst this
 exact r.inj r'
end
abbrev Cx.wish (X:Cx) (E:Value->Shared->Prop):Cx:={ X with xe:=E }
/-- no exception leaves -/
abbrev Cx.nox (X:Cx):Cx:=X.wish fun _ _=>False
theorem Cx.Ok.wish {X:Cx} (ok:X.Ok) (E:Value->Shared->Prop):(X.wish E).Ok :=
 ⟨ok.mod,ok.kind,ok.glob,ok.blt,ok.above,ok.inj,ok.has,ok.cab,ok.hd,ok.frames,ok.stk,ok.exf,ok.bs,ok.bsz,ok.noex,ok.exfs,ok.funs,ok.frf⟩
theorem Cx.Ok.unwish {X:Cx} {E:Value->Shared->Prop} (ok:(X.wish E).Ok):X.Ok :=
 ⟨ok.mod,ok.kind,ok.glob,ok.blt,ok.above,ok.inj,ok.has,ok.cab,ok.hd,ok.frames,ok.stk,ok.exf,ok.bs,ok.bsz,ok.noex,ok.exfs,ok.funs,ok.frf⟩
section
variable {X:Cx} {pins:List (Addr × Obj)} {σ:St} {H:Hp} {s:Shared} {E:Value->Shared->Prop}
theorem Inv.wish (I:Inv X pins σ H s) (E:Value->Shared->Prop):Inv (X.wish E) pins σ H s:=⟨I.ok.wish E,I.os,I.bare,I.base,I.loc,I.cell,I.free,I.freeC,I.pin,I.hok,I.len⟩
theorem Inv.unwish (I:Inv (X.wish E) pins σ H s):Inv X pins σ H s:=⟨I.ok.unwish,I.os,I.bare,I.base,I.loc,I.cell,I.free,I.freeC,I.pin,I.hok,I.len⟩
theorem SP.unwish {D:Ends} {f:Flow} {s':Shared} (h:SP (X.wish E) pins D f s'):SP X pins D f s':=by
 cases f with
 | next=>obtain⟨σ',H',I,q⟩:=h;exact⟨σ',H',I.unwish,q⟩
 | brk=>obtain⟨σ',H',I,q⟩:=h;exact⟨σ',H',I.unwish,q⟩
 | cont=>obtain⟨σ',H',I,q⟩:=h;exact⟨σ',H',I.unwish,q⟩
 | ret u=>obtain⟨v,σ',H',I,r,q⟩:=h;exact⟨v,σ',H',I.unwish,r,q⟩
theorem PSs.nox {st:List Stmt} {t:TS} (h:PSs X.nox st t):PSs X st t:=fun pins s σ H D I hw =>
 wpAny_mono (h pins s σ H D (I.wish _) hw) (fun _ _ q=>q.unwish) fun _ _ z=>False.elim z
end
section
variable {X:Cx} {st:Stmt} {rest:List Stmt} {t u:TS} {e:Expr} {te:TE} {pos:Pos}
def tNext:TS:=fun D σ H=>D.nx σ H
def tSeq (t u:TS):TS:=fun D σ H=>t { D with nx:=u D } σ H
theorem pss_nil:PSs X [] tNext:=fun _ _ σ H _ I h=>wpAny_execs_nil ⟨σ,H,I,h⟩
theorem pss_cons (h1:PS X st t) (h2:PSs X rest u):PSs X (st::rest) (tSeq t u):=by
 intro pins s σ H D I h
 refine wpAny_execs_cons (thn (h1 pins s σ H { D with nx:=u D } I h) fun f s1 q=>?_)
 cases f with
 | next =>
  obtain⟨σ',H',I',q⟩:=q
  exact h2 pins s1 σ' H' D I' q
 | ret v=>exact q
 | brk=>exact q
 | cont=>exact q
theorem pss_one (h1:PS X st t):PSs X [st] t:=by
 intro pins s σ H D I h
 refine wpAny_execs_cons (thn (h1 pins s σ H D I h) fun f s1 q=>?_)
 cases f with
 | next=>exact wpAny_execs_nil q
 | ret v=>exact q
 | brk=>exact q
 | cont=>exact q
def tCont:TS:=fun D σ H=>D.ct σ H
theorem ps_continue:PS X (.Continue pos) tCont:=fun _ _ σ H _ I h=>wpAny_Continue ⟨σ,H,I,h⟩
/-- in a def's body nothing is shown -/
theorem Inv.quiet {pins:List (Addr × Obj)} {σ:St} {H:Hp} {s:Shared} (I:Inv X pins σ H s):interactive X.env=false:=by simp [interactive,I.ok.kind]
/-- an expression whose value is dropped -/
def tDrop (te:TE):TS:=fun D σ H=>te σ H fun _ H1=>D.nx σ H1
theorem ps_expr (he:PE X e te) (hs:swapsWith e none pos.line X.env=pure false:=by rfl):PS X (.Expr e pos) (tDrop te):=by
 intro pins s σ H D I h
 exact wpAny_Expr_any (thn (he pins s σ H _ I h) fun v s1 ⟨x,H1,I1,r1,q1⟩=>⟨σ,H1,I1,q1⟩) I.quiet hs
def tRet (te:TE):TS:=fun D σ H=>te σ H D.rt
theorem ps_ret (he:PE X e te):PS X (.Return (some e) pos) (tRet te):=by
 intro pins s σ H D I h
 exact wpAny_Return_some (thn (he pins s σ H _ I h) fun v s1 ⟨x,H1,I1,r1,q1⟩=>⟨x,σ,H1,I1,r1,q1⟩)
def tIfS (c:TT) (t u:TS):TS:=fun D σ H=>c σ H fun b H1=>if b=true then t D σ H1 else u D σ H1
theorem ps_if {c:Expr} {a b:List Stmt} {tc:TT} (hc:PT X c tc) (ha:PSs X a t) (hb:PSs X b u):PS X (.If c a b pos) (tIfS tc t u):=by
 intro pins s σ H D I h
 refine wpAny_If (thn (hc pins s σ H _ I h) fun d s1 ⟨H1,I1,q1⟩=>?_)
 cases d with
 | true=>exact ha pins s1 σ H1 D I1 q1
 | false=>exact hb pins s1 σ H1 D I1 q1
end
abbrev TG:=V->St->Hp->(St->Hp->Prop)->Prop
abbrev TGs:=List V->St->Hp->(St->Hp->Prop)->Prop
def PG (X:Cx) (target:Expr) (t:TG):Prop :=
 ∀ (pins:List (Addr × Obj)) (s:Shared) (σ:St) (H:Hp) (v:V) (u:Value) (Q:St->Hp->Prop),Inv X pins σ H s->RelV v u->t v σ H Q ->
  wpAny (model X.prog X.w) X.A (assign target X.env u) (fun _ s'=>∃ σ' H',Inv X pins σ' H' s'∧Q σ' H') X.xe s
/-- several targets, one after another -/
def PGs (X:Cx) (ts:List Expr) (t:TGs):Prop :=
 ∀ (pins:List (Addr × Obj)) (s:Shared) (σ:St) (H:Hp) (vs:List V) (us:List Value) (Q:St->Hp->Prop),Inv X pins σ H s->Vals vs us->t vs σ H Q ->
  wpAny (model X.prog X.w) X.A (assignInOrder ((assignEach ts X.env).map (·.2)) us) (fun _ s'=>∃ σ' H',Inv X pins σ' H' s'∧Q σ' H') X.xe s
/-- o[i] = v, by values -/
abbrev TSet:=V->V->V->Hp->(Hp->Prop)->Prop
def PSet (X:Cx) (t:TSet):Prop :=
 ∀ (pins:List (Addr × Obj)) (s:Shared) (σ:St) (H:Hp) (o i v:V) (ov iv u:Value) (Q:Hp->Prop),Inv X pins σ H s->RelV o ov->RelV i iv->RelV v u->t o i v H Q ->
  wpAny (model X.prog X.w) X.A (setItem ov iv u) (fun _ s'=>∃ H',Inv X pins σ H' s'∧Q H') X.xe s
section
variable {X:Cx} {pos:Pos}
def gName (i:Nat):TG:=fun v σ H Q=>Q (σ.set i (some v)) H
theorem pg_name {i:Nat} {x:Str} (hN:X.N.Nodup) (hi:X.N[i]?=some x) (hx:Loc X.env.scope x) (hf:X.fn x=true∨X.env.scope.names.lookup x=some .local:=by first | exact .inl rfl | exact .inr rfl | assumption):PG X (.Name x pos) (gName i):=by
 intro pins s σ H v u Q I r h
 exact wpAny_assign_Name (store_ok I hN hi hx r (fun s' I'=>⟨_,H,I',h⟩) hf)
def gNil:TGs:=fun vs σ H Q=>vs=[]∧Q σ H
def gCons (t:TG) (u:TGs):TGs:=fun vs σ H Q=>∃ v r,vs=v::r∧t v σ H fun σ' H'=>u r σ' H' Q
theorem pgs_nil:PGs X [] gNil:=by
 intro pins s σ H vs us Q I r h
 obtain⟨e,h⟩:=h
 subst e
 cases r
 exact assignInOrder_nil ⟨σ,H,I,h⟩
theorem pgs_cons {e:Expr} {es:List Expr} {t:TG} {u:TGs} (h1:PG X e t) (h2:PGs X es u)
  (hs:(assignEach (e::es) X.env).map (·.2)=assign e X.env::(assignEach es X.env).map (·.2):=by rfl):PGs X (e::es) (gCons t u):=by
 intro pins s σ H vs us Q I r h
 obtain⟨v,vr,e1,h⟩:=h
 subst e1
 cases r with
 | cons r rr =>
  rw[hs]
  refine assignInOrder_cons (thn (h1 pins s σ H _ _ _ I r h) fun _ s1 ⟨σ1,H1,I1,q1⟩=>?_)
  exact h2 pins s1 σ1 H1 _ _ Q I1 rr q1
/-- (a, b, ..) = a tuple of that length -/
def gTup (K:PySem.W.Frag) (n:Nat) (t:TGs):TG:=fun v σ H Q=>∃ a xs,v=.ref a∧SqT K H a xs∧xs.length=n∧t xs σ H Q
theorem pg_tup {es:List Expr} {k:Nat} {t:TGs} {n:Nat} (hc:X.calm=true) (h:PGs X es t)
  (hn:(assignEach es X.env).length=n:=by rfl) (hst:(assignEach es X.env).findIdx? (·.1)=none:=by rfl):PG X (.Tuple es k pos) (gTup X.K n t):=by
 intro pins s σ H v u Q I r hw
 obtain⟨a,xs,e1,hq,hl,hw⟩:=hw
 subst e1
 cases r
 obtain⟨its,rv,ht,hz⟩:=I.tuple hq
 refine assign_Tuple_tuple (I.ok.hd hc) ht (by simp [hn,← hl,rv.length]) hst fun h' hx=>?_
 have I1:Inv X pins σ H { s with heap:=h' }:=I.kept (t':=s.toks) fun b o e=>hx b o (Nat.ne_of_lt (Heap.lt_size e)) e
 exact h pins _ σ H xs _ Q I1 (by simpa using rv) hw
/-- o[i] = .. -/
def gSub (to ti:TE) (t:TSet):TG:=fun v σ H Q=>to σ H fun o H1=>ti σ H1 fun i H2=>t o i v H2 fun H3=>Q σ H3
theorem pg_sub {o i:Expr} {to ti:TE} {t:TSet} (ho:PE X o to) (hi:PE X i ti) (hs:PSet X t)
  (ha:∀ v,assign (.Subscript o i pos) X.env v=(do
   let ov ← holding [v] (eval o X.env)
   let iv ← holding [v,ov] (eval i X.env)
   standAt pos
   holding [v,ov,iv] (setItem ov iv v)
   release [v,ov,iv] []):=by intro _;rfl):PG X (.Subscript o i pos) (gSub to ti t):=by
 intro pins s σ H v u Q I r h
 rw[ha]
 refine wpAny_bind (wpAny_holding (thn (ho pins s σ H _ I h) fun ov s1 ⟨x,H1,I1,r1,q1⟩=>?_))
 refine wpAny_bind (wpAny_holding (thn (hi pins s1 σ H1 _ I1 q1) fun iv s2 ⟨y,H2,I2,r2,q2⟩=>?_))
 refine wpAny_bind (wpAny_standAt (wpAny_bind (wpAny_holding (thn (hs pins s2 σ H2 x y v ov iv u _ I2 r1 r2 r q2) fun _ s3 ⟨H3,I3,q3⟩=>?_))))
 exact wpAny_release ⟨σ,H3,I3,q3⟩
/-- target = value -/
def tAsg (te:TE) (g:TG):TS:=fun D σ H=>te σ H fun x H1=>g x σ H1 D.nx
theorem ps_asg {tg e:Expr} {te:TE} {g:TG} (he:PE X e te) (hg:PG X tg g) (hs:swapsWithSole [tg] e pos.line X.env=pure false:=by rfl) (hw:swappedStores [tg] e X.env=pure none:=by rfl)
  (h1:(assignEach [tg] X.env).map (·.2)=[assign tg X.env]:=by rfl):PS X (.Assign [tg] e pos) (tAsg te g):=by
 intro pins s σ H D I h
 refine wpAny_Assign_stores (thn (he pins s σ H _ I h) fun v s1 ⟨x,H1,I1,r1,q1⟩=>?_) hs hw
 rw[h1]
 exact thn (hg pins s1 σ H1 x v _ I1 r1 q1) fun _ s2 q=>q
/-- name = value -/
theorem ps_set {i:Nat} {x:Str} {e:Expr} {te:TE} {pos':Pos} (hN:X.N.Nodup) (hi:X.N[i]?=some x) (hx:Loc X.env.scope x) (he:PE X e te) (hs:swapsWith e (some (.Name x pos')) pos.line X.env=pure false:=by rfl) (hf:X.fn x=true∨X.env.scope.names.lookup x=some .local:=by first | exact .inl rfl | exact .inr rfl | assumption) :
  PS X (.Assign [.Name x pos'] e pos) (tAsg te (gName i)):=by
 intro pins s σ H D I h
 refine wpAny_Assign_Name (thn (he pins s σ H _ I h) fun v s1 ⟨y,H1,I1,r1,q1⟩=>?_) hs
 exact store_ok I1 hN hi hx r1 (fun s2 I2=>⟨_,H1,I2,q1⟩) hf
end
section
variable {X:Cx} {pos:Pos}
/-- the invariant W with its measure -/
def tWhile (c:TT) (tb:TS):TS:=fun D σ H=>∃ W:Nat->St->Hp->Prop,(∃ m,W m σ H)∧∀ m σ H,W m σ H ->
 c σ H fun b H1=>if b=true then ∃ N:St->Hp->Prop,(∀ σ' H',N σ' H'->∃ m',m' < m∧W m' σ' H')∧tb { D with nx:=N,ct:=N,bk:=D.nx } σ H1 else D.nx σ H1
theorem ps_while {c:Expr} {body:List Stmt} {tc:TT} {tb:TS} (hp:PassesOwn (model X.prog X.w) X.A X.env X.xe) (hc:PT X c tc) (hb:PSs X body tb):PS X (.While c body [] pos) (tWhile tc tb):=by
 intro pins s σ H D I h
 obtain⟨W,⟨m0,w0⟩,turn⟩:=h
 refine wpAny_While (codeAny_whileLoop (fun n s'=>∃ σ' H',Inv X pins σ' H' s'∧W n σ' H') ?_ m0 ⟨σ,H,I,w0⟩)
 rintro n s1 ⟨σ1,H1,I1,w1⟩
 refine wpAny_passesOwn hp (thn (hc pins s1 σ1 H1 _ I1 (turn n σ1 H1 w1)) fun b s2 ⟨H2,I2,q2⟩=>?_)
 cases b with
 | true =>
  obtain⟨N,hN,q2⟩:=q2
  rw[if_pos rfl]
  refine wpAny_passesOwn hp (thn (hb pins s2 σ1 H2 _ I2 q2) fun f s3 q3=>?_)
  cases f with
  | next =>
   obtain⟨σ3,H3,I3,n3⟩:=q3
   obtain⟨m',hm,w3⟩:=hN σ3 H3 n3
   exact⟨m',hm,σ3,H3,I3,w3⟩
  | cont =>
   obtain⟨σ3,H3,I3,n3⟩:=q3
   obtain⟨m',hm,w3⟩:=hN σ3 H3 n3
   exact⟨m',hm,σ3,H3,I3,w3⟩
  | brk=>exact q3
  | ret v=>exact q3
 | false =>
  rw[if_neg Bool.false_ne_true]
  exact wpAny_execs_nil ⟨σ1,H2,I2,q2⟩
end
/-- at turn i: it yields x (the heap may grow), or it stops -/
structure It where
 go:Nat->Hp->Prop
 yld:Nat->Hp->V->Hp->Prop
 stop:Nat->Hp->Prop
/-- the iterator's own objects may turn: they are not the frame's, not pinned, younger than the entry (or a comprehension's own) -/
def FpOk (X:Cx) (pins:List (Addr × Obj)) (H:Hp) (b:Addr):Prop :=
 H b=none∧b≠X.env.locals∧b ∉ X.fs∧(b ∈ X.ex∨X.s₀.heap.objs.size≤b)∧(∀ x c,X.env.cells.lookup x=some c->c≠b)∧∀ p ∈ X.pn++pins,p.1≠b
theorem Inv.fpOk {X:Cx} {pins:List (Addr × Obj)} {σ:St} {H H':Hp} {s:Shared} {b:Addr} (I:Inv X pins σ H s) (hb:s.heap.objs.size≤b) (hn:H' b=none):FpOk X pins H' b:=by
 refine⟨hn,Nat.ne_of_gt (Nat.lt_of_lt_of_le I.lt hb),I.nofs hb,.inr (Nat.le_trans I.sz hb),fun x c e z=>?_,fun p hp z=>?_⟩
 ·obtain⟨v,q⟩:=I.cell x c e
  exact absurd (Nat.lt_of_lt_of_le q.lt (by rw[z];exact hb)) (Nat.lt_irrefl _)
 ·exact absurd (Nat.lt_of_lt_of_le (Heap.lt_size (I.pin p hp).1) (by rw[z];exact hb)) (Nat.lt_irrefl _)
structure Turn (P:Program) (w:World) (K:PySem.W.Frag) (tg:Expr) (J:It) (fp:List Addr) (it:Addr) (tn:Nat->Heap->Prop):Prop where
 mem:it ∈ fp
 obj:∀ i h,tn i h->∀ b ∈ fp,∃ o,h.get? b=some o∧∀ v,o.data≠.cell v
 keep:∀ i h h',tn i h->(∀ b ∈ fp,∀ o,h.get? b=some o->h'.get? b=some o)->tn i h'
 item:∀ (X:Cx),X.prog=P->X.w=w->X.K=K->X.calm=true->∀ (i:Nat) (pins:List (Addr × Obj)) (s:Shared) (σ:St) (H:Hp) (E:Value->Shared->Prop),Inv X pins σ H s->(∀ b ∈ fp,FpOk X pins H b)->tn i s.heap->J.go i H ->
  wpAny (model P w) X.A (pyNext (.ref it)) (fun r s1=>∃ u,r=some u ∧
   wpAny (model P w) X.A (letOwnedTupleGo tg (.ref it) u) (fun _ s2=>∃ x H',Inv X pins σ H' s2∧RelV x u∧J.yld i H x H'∧tn (i + 1) s2.heap∧∀ b ∈ fp,H' b=none) E s1) E s
 done:∀ (X:Cx),X.prog=P->X.w=w->X.K=K->X.calm=true->∀ (i:Nat) (pins:List (Addr × Obj)) (s:Shared) (σ:St) (H:Hp) (E:Value->Shared->Prop),Inv X pins σ H s->(∀ b ∈ fp,FpOk X pins H b)->tn i s.heap->J.stop i H ->
  wpAny (model P w) X.A (pyNext (.ref it)) (fun r s1=>r=none∧Inv X pins σ H s1) E s
 self:∀ (A:Around) (i:Nat) (s:Shared) (Q:Value->Shared->Prop) (E:Value->Shared->Prop),tn i s.heap->Q (.ref it) s->wpAny (model P w) A (pyIter (.ref it)) Q E s
abbrev TI:=St->Hp->(It->Hp->Prop)->Prop
/-- an iterator has come -/
def PIE (X:Cx) (pins:List (Addr × Obj)) (σ:St) (tg:Expr) (R:It->Hp->Prop) (itv:Value) (s2:Shared):Prop :=
 ∃ (it:Addr) (fp:List Addr) (tn:Nat->Heap->Prop) (J:It) (H':Hp),itv=.ref it∧Inv X pins σ H' s2∧Turn X.prog X.w X.K tg J fp it tn∧tn 0 s2.heap∧(∀ b ∈ fp,FpOk X pins H' b)∧R J H'
def PI (X:Cx) (tg iter:Expr) (wi:TI):Prop :=
 ∀ (pins:List (Addr × Obj)) (s:Shared) (σ:St) (H:Hp) (R:It->Hp->Prop),Inv X pins σ H s->wi σ H R ->
  wpAny (model X.prog X.w) X.A (eval iter X.env) (fun v s1=>wpAny (model X.prog X.w) X.A (pyIter v) (PIE X pins σ tg R) X.xe s1) X.xe s
/-- the step ahead of the store is nothing for an iterator that keeps no tuple -/
theorem go_of {M:Model} {A:Around} {E:Value->Shared->Prop} {s:Shared} {tg:Expr} {it:Addr} {u:Value} {o:Obj} {n:String} {vs:Array Value} {Q:Unit->Shared->Prop} (ho:s.heap.get? it=some o) (hc:o.cls=.type n) (hd:o.data=.fields vs)
  (hn:["enumerate","zip","dict_itemiterator","dict_reverseitemiterator","odict_iterator","itertools.zip_longest","itertools.pairwise"].contains n=false) (hQ:Q () s):wpAny M A (letOwnedTupleGo tg (.ref it) u) Q E s:=by
 unfold letOwnedTupleGo
 cases tg <;> first
  | exact wpAny_pure hQ
  | (cases u <;> first
      | exact wpAny_pure hQ
      | (refine wpAny_bind (wpAny_load ho ?_)
         rw[hc,hd]
         show wpAny M A (if (["enumerate","zip","dict_itemiterator","dict_reverseitemiterator","odict_iterator","itertools.zip_longest","itertools.pairwise"].contains n && vs[0]? == some (rawInt _))=true then _ else _) Q E s
         rw[if_neg (by intro h;rw[hn,Bool.false_and] at h;cases h)]
         exact wpAny_pure hQ))
/-- the list at a, as it stands at each turn (a loop may append to it) -/
def Itl (K:PySem.W.Frag) (a:Addr):It :=
 ⟨fun i H=>∃ xs x,SqL K H a xs∧xs[i]?=some x,fun i H x H'=>H'=H∧∀ xs,SqL K H a xs->xs[i]?=some x,fun i H=>∃ xs,SqL K H a xs∧xs.length≤i⟩
def Itt (K:PySem.W.Frag) (a:Addr):It :=
 ⟨fun i H=>∃ xs x,SqT K H a xs∧xs[i]?=some x,fun i H x H'=>H'=H∧∀ xs,SqT K H a xs->xs[i]?=some x,fun i H=>∃ xs,SqT K H a xs∧xs.length≤i⟩
/-- lo, lo + 1, .. (n of them) -/
def Itr (lo:Int) (n:Nat):It:=⟨fun i _=>i < n,fun i H x H'=>H'=H∧x=.int (lo + i),fun i _=>n≤i⟩
theorem turn_list {P:Program} {w:World} {K:PySem.W.Frag} {tg:Expr} (a it:Addr):Turn P w K tg (Itl K a) [it] it (fun i h=>h.IsListIter it a i) where
 mem:=by simp
 obj:=fun i h st b hb=>by
  have e:b=it:=by simpa using hb
  subst e
  obtain⟨o,e,c,d⟩:=st
  exact⟨o,e,fun v z=>by rw[d] at z;cases z⟩
 keep:=fun i h h' st k=>st.at fun o e=>k it (by simp) o e
 item:=by
  intro X hP hw hK hc i pins s σ H E I hf st hg
  subst hP hw hK
  obtain⟨xs,x,hq,hx⟩:=hg
  obtain⟨its,rv,p,hz⟩:=I.list hq
  obtain⟨u,hu,ru⟩:=rv.get hx
  obtain⟨f0,f1,f2,f3,f4,f5⟩:=hf it (by simp)
  refine wpAny_pyNext_list_item st p.isList (x:=u) (by simpa using hu) fun h' st' sb=>?_
  have I1:Inv X pins σ H { s with heap:=h' }:=I.turned (t':=s.toks) (fun b o hb e=>(sb.2 b hb).trans e) f0 f1 f3 f4 f5
  obtain⟨o,e,c,d⟩:=id st'
  exact⟨u,rfl,go_of (s:={ s with heap:=h' }) e c d (by decide) ⟨x,H,I1,ru,⟨rfl,fun ys hy=>by rw[I.list_inj hy hq];exact hx⟩,st',fun b hb=>(hf b hb).1⟩⟩
 done:=by
  intro X hP hw hK hc i pins s σ H E I hf st hg
  subst hP hw hK
  obtain⟨xs,hq,hx⟩:=hg
  obtain⟨its,rv,p,hz⟩:=I.list hq
  obtain⟨f0,f1,f2,f3,f4,f5⟩:=hf it (by simp)
  have hl:=rv.length
  exact wpAny_pyNext_list_end (I.ok.hd hc) st p.isList (by simp;omega) fun h' eb=>⟨rfl,I.turned (t':=s.toks) (fun b o hb e=>eb b o hb e) f0 f1 f3 f4 f5⟩
 self:=fun _ _ _ _ _ st h=>wpAny_pyIter_listiter st h
theorem turn_tuple {P:Program} {w:World} {K:PySem.W.Frag} {tg:Expr} (a it:Addr):Turn P w K tg (Itt K a) [it] it (fun i h=>h.IsTupleIter it a i) where
 mem:=by simp
 obj:=fun i h st b hb=>by
  have e:b=it:=by simpa using hb
  subst e
  obtain⟨o,e,c,d⟩:=st
  exact⟨o,e,fun v z=>by rw[d] at z;cases z⟩
 keep:=fun i h h' st k=>st.at fun o e=>k it (by simp) o e
 item:=by
  intro X hP hw hK hc i pins s σ H E I hf st hg
  subst hP hw hK
  obtain⟨xs,x,hq,hx⟩:=hg
  obtain⟨its,rv,p,hz⟩:=I.tuple hq
  obtain⟨u,hu,ru⟩:=rv.get hx
  obtain⟨f0,f1,f2,f3,f4,f5⟩:=hf it (by simp)
  refine wpAny_pyNext_tuple_item st (show s.heap.IsTuple a its.toArray from p) (x:=u) (by simpa using hu) fun h' st' sb=>?_
  have I1:Inv X pins σ H { s with heap:=h' }:=I.turned (t':=s.toks) (fun b o hb e=>(sb.2 b hb).trans e) f0 f1 f3 f4 f5
  obtain⟨o,e,c,d⟩:=id st'
  exact⟨u,rfl,go_of (s:={ s with heap:=h' }) e c d (by decide) ⟨x,H,I1,ru,⟨rfl,fun ys hy=>by rw[I.tuple_inj hy hq];exact hx⟩,st',fun b hb=>(hf b hb).1⟩⟩
 done:=by
  intro X hP hw hK hc i pins s σ H E I hf st hg
  subst hP hw hK
  obtain⟨xs,hq,hx⟩:=hg
  obtain⟨its,rv,p,hz⟩:=I.tuple hq
  obtain⟨f0,f1,f2,f3,f4,f5⟩:=hf it (by simp)
  have hl:=rv.length
  exact wpAny_pyNext_tuple_end (I.ok.hd hc) st (show s.heap.IsTuple a its.toArray from p) (by simp;omega) fun h' eb=>⟨rfl,I.turned (t':=s.toks) (fun b o hb e=>eb b o hb e) f0 f1 f3 f4 f5⟩
 self:=fun _ _ _ _ _ st h=>wpAny_pyIter_tupleiter st h
theorem turn_range {P:Program} {w:World} {K:PySem.W.Frag} {tg:Expr} (it:Addr) (lo:Int) (n:Nat):Turn P w K tg (Itr lo n) [it] it (fun i h=>IsRangeIter h it (lo + (i:Nat) * 1) ((n:Int) - (i:Nat)) 1) where
 mem:=by simp
 obj:=fun i h st b hb=>by
  have e:b=it:=by simpa using hb
  subst e
  exact⟨_,st,fun v z=>by
   have z':Data.fields _=Data.cell v:=z
   cases z'⟩
 keep:=fun i h h' st k=>k it (by simp) _ st
 item:=by
  intro X hP hw hK hc i pins s σ H E I hf st hg
  subst hP hw hK
  obtain⟨f0,f1,f2,f3,f4,f5⟩:=hf it (by simp)
  have W:=Walks.range (prog:=X.prog) (w:=X.w) (I.ok.hd hc) it lo 1 n
  refine W.item i s _ _ hg st fun v h' tk hv st' kk=>?_
  obtain⟨t,rfl⟩:=hv
  have I1:Inv X pins σ H { s with heap:=h',toks:=tk }:=I.turned (fun b o hb e=>kk b o (by simpa using hb) e) f0 f1 f3 f4 f5
  refine⟨_,rfl,go_of (s:={ s with heap:=h',toks:=tk }) (n:="range_iterator") st' rfl rfl (by decide) ⟨.int (lo + i),H,I1,⟨t,?_⟩,⟨rfl,rfl⟩,st',fun b hb=>(hf b hb).1⟩⟩
  rw[Int.mul_one]
 done:=by
  intro X hP hw hK hc i pins s σ H E I hf st hg
  subst hP hw hK
  obtain⟨f0,f1,f2,f3,f4,f5⟩:=hf it (by simp)
  exact wpAny_pyNext_range_end (I.ok.hd hc) st (by have:n≤i:=hg;omega) fun h' eb=>⟨rfl,I.turned (t':=s.toks) (fun b o hb e=>eb b o hb e) f0 f1 f3 f4 f5⟩
 self:=fun _ _ _ _ _ st h=>wpAny_pyIter_rangeiter st h
end L2
namespace L2
open PySem PySem.Spec PyProof.Rows
section
variable {X:Cx} {tg:Expr}
def iList (K:PySem.W.Frag) (tl:TE):TI:=fun σ H R=>tl σ H fun x H1=>∃ a,x=.ref a∧(∃ xs,SqL K H1 a xs)∧R (Itl K a) H1
def iTup (K:PySem.W.Frag) (tl:TE):TI:=fun σ H R=>tl σ H fun x H1=>∃ a,x=.ref a∧(∃ xs,SqT K H1 a xs)∧R (Itt K a) H1
theorem pi_list {l:Expr} {tl:TE} (hl:PE X l tl):PI X tg l (iList X.K tl):=by
 intro pins s σ H R I h
 refine thn (hl pins s σ H _ I h) fun v s1 ⟨x,H1,I1,r1,q1⟩=>?_
 obtain⟨a,e,⟨xs,hq⟩,q⟩:=q1
 subst e
 cases r1
 obtain⟨its,rv,p,hz⟩:=I1.list hq
 refine wpAny_pyIter_list p.isList ?_
 refine⟨s1.heap.objs.size,[s1.heap.objs.size],_,_,H1,rfl,I1.kept (t':=s1.toks) fun b o e=>Heap.get?_push_of_some _ e,turn_list a _,⟨_,Heap.get?_push_size _ rfl,rfl,rfl⟩,fun b hb=>?_,q⟩
 have e:b=s1.heap.objs.size:=by simpa using hb
 subst e
 exact I1.fpOk (Nat.le_refl _) (I1.hok.fresh (Nat.le_refl _))
theorem pi_tup {l:Expr} {tl:TE} (hl:PE X l tl):PI X tg l (iTup X.K tl):=by
 intro pins s σ H R I h
 refine thn (hl pins s σ H _ I h) fun v s1 ⟨x,H1,I1,r1,q1⟩=>?_
 obtain⟨a,e,⟨xs,hq⟩,q⟩:=q1
 subst e
 cases r1
 obtain⟨its,rv,p,hz⟩:=I1.tuple hq
 refine wpAny_pyIter_tuple (show s1.heap.IsTuple a its.toArray from p) ?_
 refine⟨s1.heap.objs.size,[s1.heap.objs.size],_,_,H1,rfl,I1.kept (t':=s1.toks) fun b o e=>Heap.get?_push_of_some _ e,turn_tuple a _,⟨_,Heap.get?_push_size _ rfl,rfl,rfl⟩,fun b hb=>?_,q⟩
 have e:b=s1.heap.objs.size:=by simpa using hb
 subst e
 exact I1.fpOk (Nat.le_refl _) (I1.hok.fresh (Nat.le_refl _))
/-- a range object just made, walked -/
theorem range_it {pins:List (Addr × Obj)} {σ:St} {H:Hp} {s:Shared} {R:It->Hp->Prop} {E:Value->Shared->Prop} {lo hi:Int} {t u v:Tok} {tk:Nat} (I:Inv X pins σ H s) (h1:-(2 ^ 62)≤lo) (h2:lo < 2 ^ 62) (h3:-(2 ^ 62)≤hi) (h4:hi < 2 ^ 62)
  (q:R (Itr lo (hi - lo).toNat) H):wpAny (model X.prog X.w) X.A (pyIter (.ref s.heap.objs.size)) (PIE X pins σ tg R) E { s with heap:=s.heap.push { cls:=.type "range",data:=.fields #[.int lo t,.int hi u,.int 1 v] },toks:=tk }:=by
 refine wpAny_pyIter_range (IsRange.new ..) (small_one h1 h2 h3 h4) ?_
 have I1:Inv X pins σ H { s with heap:=s.heap.push { cls:=.type "range",data:=.fields #[.int lo t,.int hi u,.int 1 v] },toks:=tk }:=I.kept fun b o e=>Heap.get?_push_of_some _ e
 refine⟨(s.heap.push { cls:=.type "range",data:=.fields #[.int lo t,.int hi u,.int 1 v] }).objs.size,[(s.heap.push { cls:=.type "range",data:=.fields #[.int lo t,.int hi u,.int 1 v] }).objs.size],_,_,H,rfl,
  I1.kept (t':=tk) fun b o e=>Heap.get?_push_of_some _ e,turn_range _ lo (hi - lo).toNat,?_,fun b hb=>?_,q⟩
 ·have e1:lo + ((0:Nat):Int) * 1=lo:=by simp
  have e2:(((hi - lo).toNat:Nat):Int) - ((0:Nat):Int)=Builtin.Range.rangeSize lo hi 1:=by rw[rangeSize_one];split <;> omega
  show IsRangeIter _ _ (lo + ((0:Nat):Int) * 1) ((((hi - lo).toNat:Nat):Int) - ((0:Nat):Int)) 1
  rw[e1,e2]
  exact Heap.get?_push_size _ rfl
 ·have e:b=(s.heap.push { cls:=.type "range",data:=.fields #[.int lo t,.int hi u,.int 1 v] }).objs.size:=by simpa using hb
  subst e
  exact I1.fpOk (Nat.le_refl _) (I1.hok.fresh (Nat.le_refl _))
def iRng1 (ta:TA):TI:=fun σ H R=>ta σ H fun vs H1=>∃ j:Int,vs=[.int j]∧-(2 ^ 62)≤j∧j < 2 ^ 62∧R (Itr 0 j.toNat) H1
def iRng2 (ta:TA):TI:=fun σ H R=>ta σ H fun vs H1=>∃ i j:Int,vs=[.int i,.int j]∧(-(2 ^ 62)≤i∧i < 2 ^ 62∧-(2 ^ 62)≤j∧j < 2 ^ 62)∧R (Itr i (j - i).toNat) H1
theorem pi_range1 {a:Expr} {ta:TA} {p pos:Pos} (hg:Gl X "range") (hm:X.mg "range"=none) (ha:PA X [a] ta) (hs:starEach [a] X.env=[(false,eval a X.env)]:=by rfl):PI X tg (.Call (.Name "range" p) [a] [] pos) (iRng1 ta):=by
 intro pins s σ H R I h
 refine Call_ (ld_blt I hg hm boot_range (PyProof.Rows.callWith_type1 (thn (ha pos pins s σ H _ I h) fun us s1 ⟨vs,H1,I1,r1,q1⟩=>?_) hs rfl))
 obtain⟨j,e,q1,q2,q⟩:=q1
 subst e
 cases r1 with
 | cons r rr =>
  cases rr
  obtain⟨t,rfl⟩:=r
  exact call_range_1 (range_it I1 (by omega) (by omega) q1 q2 (by simpa using q))
theorem pi_range2 {a b:Expr} {ta:TA} {p pos:Pos} (hg:Gl X "range") (hm:X.mg "range"=none) (ha:PA X [a,b] ta) (hs:starEach [a,b] X.env=[(false,eval a X.env),(false,eval b X.env)]:=by rfl) (hs2:starEach [b] X.env=[(false,eval b X.env)]:=by rfl) :
  PI X tg (.Call (.Name "range" p) [a,b] [] pos) (iRng2 ta):=by
 intro pins s σ H R I h
 refine Call_ (ld_blt I hg hm boot_range (PyProof.Rows.callWith_type1 (thn (ha pos pins s σ H _ I h) fun us s1 ⟨vs,H1,I1,r1,q1⟩=>?_) (by rw[hs,hs2]) (by rw[hs2];rfl)))
 obtain⟨i,j,e,⟨q1,q2,q3,q4⟩,q⟩:=q1
 subst e
 cases r1 with
 | cons r rr =>
  cases rr with
  | cons r' rr =>
   cases rr
   obtain⟨t,rfl⟩:=r
   obtain⟨t',rfl⟩:=r'
   exact call_range_2 (range_it I1 q1 q2 q3 q4 q)
/-- W: the invariant by the turn and a measure; N: what the body is to reach -/
def tFor (wi:TI) (g:TG) (tb:TS):TS:=fun D σ H=>wi σ H fun J H1=>∃ W:Nat->Nat->St->Hp->Prop,(∃ m,W 0 m σ H1)∧∀ i m σ H,W i m σ H ->
 (J.stop i H∧D.nx σ H)∨(J.go i H∧∃ N:St->Hp->Prop,(∀ σ' H',N σ' H'->∃ m',m' < m∧W (i + 1) m' σ' H')∧∀ x H',J.yld i H x H'->g x σ H' fun σ2 H2=>tb { D with nx:=N,ct:=N,bk:=D.nx } σ2 H2)
/-- the records at fp as they stand -/
def pinsAt (fp:List Addr) (h:Heap):List (Addr × Obj):=fp.filterMap fun b=>(h.get? b).map fun o=>(b,o)
theorem mem_pinsAt {fp:List Addr} {h:Heap} {b:Addr} {o:Obj} (hb:b ∈ fp) (e:h.get? b=some o):(b,o) ∈ pinsAt fp h:=List.mem_filterMap.mpr ⟨b,hb,by rw[e];rfl⟩
theorem of_pinsAt {fp:List Addr} {h:Heap} {p:Addr × Obj} (hp:p ∈ pinsAt fp h):p.1 ∈ fp∧h.get? p.1=some p.2:=by
 obtain⟨b,hb,e⟩:=List.mem_filterMap.mp hp
 cases q:h.get? b with
 | none=>rw[q] at e;cases e
 | some o =>
  rw[q] at e
  have e':(b,o)=p:=Option.some.inj e
  subst e'
  exact⟨hb,q⟩
theorem Inv.pinned {pins:List (Addr × Obj)} {σ:St} {H:Hp} {s:Shared} {fp:List Addr} (I:Inv X pins σ H s) (hf:∀ b ∈ fp,FpOk X pins H b) (ho:∀ b ∈ fp,∃ o,s.heap.get? b=some o∧∀ v,o.data≠.cell v):Inv X (pins++pinsAt fp s.heap) σ H s :=
 I.pins_of fun p hp=>(List.mem_append.mp hp).elim (fun z=>I.pin p (List.mem_append_right _ z)) fun z=>by
  obtain⟨hb,e⟩:=of_pinsAt z
  obtain⟨f0,f1,f2,_⟩:=hf p.1 hb
  obtain⟨o,e',d⟩:=ho p.1 hb
  rw[e] at e';cases e'
  exact⟨e,f0,f1,f2,d⟩
theorem Inv.unpinned {pins pl:List (Addr × Obj)} {σ:St} {H:Hp} {s:Shared} (I:Inv X (pins++pl) σ H s):Inv X pins σ H s:=I.pins_of fun p hp=>I.pin p (List.mem_append_right _ (List.mem_append_left _ hp))
theorem ps_for {iter:Expr} {body:List Stmt} {wi:TI} {g:TG} {tb:TS} {pos:Pos} (hp:PassesOwn (model X.prog X.w) X.A X.env X.xe) (hc:X.calm=true) (hi:PI X tg iter wi) (hg:PG X tg g) (hb:PSs X body tb)
  (hs:∀ x,foldedSetIterable iter X.env x=pure x:=by intro _;rfl):PS X (.For tg iter body [] pos) (tFor wi g tb):=by
 intro pins s σ H D I h
 refine wpAny_For (thn (hi pins s σ H _ I h) fun v s1 h1=>thn h1 fun itv s2 h2=>?_) hs
 obtain⟨it,fp,tn,J,H2,e,I2,T,st2,f2,W,⟨m0,w0⟩,turn⟩:=h2
 subst e
  -- what stays true of the iterator's objects through the loop
 have stat:∀ {H':Hp},(∀ b ∈ fp,H' b=none)->∀ b ∈ fp,FpOk X pins H' b:=fun hn b hb=>⟨hn b hb,(f2 b hb).2⟩
 refine codeAny_forLoop_any (fun n s'=>∃ i σ' H',Inv X pins σ' H' s'∧tn i s'.heap∧(∀ b ∈ fp,H' b=none)∧W i n σ' H') ?_ m0 ⟨0,σ,H2,I2,st2,fun b hb=>(f2 b hb).1,w0⟩
 rintro n s3 ⟨i,σ3,H3,I3,st3,fr3,w3⟩
 rcases turn i n σ3 H3 w3 with ⟨stop,qn⟩ | ⟨go,N,hN,step⟩
 ·refine wpAny_passesOwn hp (thn (T.done X rfl rfl rfl hc i pins s3 σ3 H3 X.xe I3 (stat fr3) st3 stop) fun r s4 ⟨hr,I4⟩=>?_)
  subst hr
  exact wpAny_execs_nil ⟨σ3,H3,I4,qn⟩
 ·refine wpAny_passesOwn hp (thn (T.item X rfl rfl rfl hc i pins s3 σ3 H3 X.xe I3 (stat fr3) st3 go) fun r s4 ⟨u,hr,h4⟩=>?_)
  subst hr
  refine wpAny_passesOwn hp (thn h4 fun _ s5 ⟨x,H5,I5,r5,y5,st5,fr5⟩=>?_)
  have I5':=I5.pinned (stat fr5) (T.obj _ _ st5)
  refine wpAny_passesOwn hp (thn (hg _ s5 σ3 H5 x u _ I5' r5 (step x H5 y5)) fun _ s6 ⟨σ6,H6,I6,q6⟩=>?_)
  refine wpAny_passesOwn hp (thn (hb _ s6 σ6 H6 _ I6 q6) fun f s7 q7=>?_)
  have again:∀ {σ7:St} {H7:Hp},Inv X (pins++pinsAt fp s5.heap) σ7 H7 s7->N σ7 H7->∃ m,m < n∧∃ i σ' H',Inv X pins σ' H' s7∧tn i s7.heap∧(∀ b ∈ fp,H' b=none)∧W i m σ' H':=fun {σ7 H7} I7 n7=>by
   obtain⟨m',hm,w7⟩:=hN σ7 H7 n7
   refine⟨m',hm,i + 1,σ7,H7,I7.unpinned,T.keep _ _ _ st5 fun b hb o e=>(I7.pin (b,o) (List.mem_append_right _ (List.mem_append_right _ (mem_pinsAt hb e)))).1,fun b hb=>?_,w7⟩
   obtain⟨o,e,d⟩:=T.obj _ _ st5 b hb
   exact (I7.pin (b,o) (List.mem_append_right _ (List.mem_append_right _ (mem_pinsAt hb e)))).2.1
  cases f with
  | next=>obtain⟨σ7,H7,I7,n7⟩:=q7;exact again I7 n7
  | cont=>obtain⟨σ7,H7,I7,n7⟩:=q7;exact again I7 n7
  | brk=>obtain⟨σ7,H7,I7,q7⟩:=q7;exact⟨σ7,H7,I7.unpinned,q7⟩
  | ret v=>obtain⟨x7,σ7,H7,I7,r7,q7⟩:=q7;exact⟨x7,σ7,H7,I7.unpinned,r7,q7⟩
end
/-- over a list that the body leaves as it is -/
theorem for_list {K:PySem.W.Frag} {a:Addr} {xs:List V} {g:TG} {tb:TS} {D:Ends} {σ:St} {H:Hp} (Pv:Nat->St->Hp->Prop) (h0:Pv 0 σ H) (hl:∀ i σ H,i≤xs.length->Pv i σ H->SqL K H a xs)
  (hs:∀ i x σ H,xs[i]?=some x->Pv i σ H->g x σ H fun σ2 H2=>tb { D with nx:=Pv (i + 1),ct:=Pv (i + 1),bk:=D.nx } σ2 H2) (hd:∀ σ H,Pv xs.length σ H->D.nx σ H) :
  ∃ W:Nat->Nat->St->Hp->Prop,(∃ m,W 0 m σ H)∧∀ i m σ H,W i m σ H ->
   ((Itl K a).stop i H∧D.nx σ H)∨((Itl K a).go i H∧∃ N:St->Hp->Prop,(∀ σ' H',N σ' H'->∃ m',m' < m∧W (i + 1) m' σ' H')∧∀ x H',(Itl K a).yld i H x H'->g x σ H' fun σ2 H2=>tb { D with nx:=N,ct:=N,bk:=D.nx } σ2 H2):=by
 refine⟨fun i m σ H=>m=xs.length - i∧i≤xs.length∧Pv i σ H,⟨xs.length,by simp,Nat.zero_le _,h0⟩,?_⟩
 rintro i m σ H ⟨rfl,hi,p⟩
 have q:=hl i σ H hi p
 by_cases hlt:i < xs.length
 ·refine .inr ⟨⟨xs,xs[i],q,by simp [hlt]⟩,Pv (i + 1),fun σ' H' p'=>⟨xs.length - (i + 1),by omega,rfl,hlt,p'⟩,fun x H' y=>?_⟩
  obtain⟨e,y⟩:=y
  subst e
  exact hs i x σ _ (y xs q) p
 ·have e:i=xs.length:=by omega
  subst e
  exact .inl ⟨⟨xs,q,Nat.le_refl _⟩,hd σ H p⟩
theorem for_tup {K:PySem.W.Frag} {a:Addr} {xs:List V} {g:TG} {tb:TS} {D:Ends} {σ:St} {H:Hp} (Pv:Nat->St->Hp->Prop) (h0:Pv 0 σ H) (hl:∀ i σ H,i≤xs.length->Pv i σ H->SqT K H a xs)
  (hs:∀ i x σ H,xs[i]?=some x->Pv i σ H->g x σ H fun σ2 H2=>tb { D with nx:=Pv (i + 1),ct:=Pv (i + 1),bk:=D.nx } σ2 H2) (hd:∀ σ H,Pv xs.length σ H->D.nx σ H) :
  ∃ W:Nat->Nat->St->Hp->Prop,(∃ m,W 0 m σ H)∧∀ i m σ H,W i m σ H ->
   ((Itt K a).stop i H∧D.nx σ H)∨((Itt K a).go i H∧∃ N:St->Hp->Prop,(∀ σ' H',N σ' H'->∃ m',m' < m∧W (i + 1) m' σ' H')∧∀ x H',(Itt K a).yld i H x H'->g x σ H' fun σ2 H2=>tb { D with nx:=N,ct:=N,bk:=D.nx } σ2 H2):=by
 refine⟨fun i m σ H=>m=xs.length - i∧i≤xs.length∧Pv i σ H,⟨xs.length,by simp,Nat.zero_le _,h0⟩,?_⟩
 rintro i m σ H ⟨rfl,hi,p⟩
 have q:=hl i σ H hi p
 by_cases hlt:i < xs.length
 ·refine .inr ⟨⟨xs,xs[i],q,by simp [hlt]⟩,Pv (i + 1),fun σ' H' p'=>⟨xs.length - (i + 1),by omega,rfl,hlt,p'⟩,fun x H' y=>?_⟩
  obtain⟨e,y⟩:=y
  subst e
  exact hs i x σ _ (y xs q) p
 ·have e:i=xs.length:=by omega
  subst e
  exact .inl ⟨⟨xs,q,Nat.le_refl _⟩,hd σ H p⟩
theorem for_range {lo:Int} {n:Nat} {g:TG} {tb:TS} {D:Ends} {σ:St} {H:Hp} (Pv:Nat->St->Hp->Prop) (h0:Pv 0 σ H)
  (hs:∀ i σ H,i < n->Pv i σ H->g (.int (lo + i)) σ H fun σ2 H2=>tb { D with nx:=Pv (i + 1),ct:=Pv (i + 1),bk:=D.nx } σ2 H2) (hd:∀ σ H,Pv n σ H->D.nx σ H) :
  ∃ W:Nat->Nat->St->Hp->Prop,(∃ m,W 0 m σ H)∧∀ i m σ H,W i m σ H ->
   ((Itr lo n).stop i H∧D.nx σ H)∨((Itr lo n).go i H∧∃ N:St->Hp->Prop,(∀ σ' H',N σ' H'->∃ m',m' < m∧W (i + 1) m' σ' H')∧∀ x H',(Itr lo n).yld i H x H'->g x σ H' fun σ2 H2=>tb { D with nx:=N,ct:=N,bk:=D.nx } σ2 H2):=by
 refine⟨fun i m σ H=>m=n - i∧i≤n∧Pv i σ H,⟨n,by simp,Nat.zero_le _,h0⟩,?_⟩
 rintro i m σ H ⟨rfl,hi,p⟩
 by_cases hlt:i < n
 ·refine .inr ⟨hlt,Pv (i + 1),fun σ' H' p'=>⟨n - (i + 1),by omega,rfl,hlt,p'⟩,fun x H' y=>?_⟩
  obtain⟨e,y⟩:=y
  subst e y
  exact hs i σ _ hlt p
 ·have e:i=n:=by omega
  subst e
  exact .inl ⟨Nat.le_refl _,hd σ H p⟩
end L2
namespace L2
open PySem PySem.Spec PyProof.Rows
abbrev R2:=V->V->Hp->VK->Prop
/-- a two-place operation on values: f is binaryOp op, inplaceOp op or compareOp op -/
def OpR (X:Cx) (f:Value->Value->Sem Value) (r:R2):Prop :=
 ∀ (pins:List (Addr × Obj)) (s:Shared) (σ:St) (H:Hp) (x y:V) (v u:Value) (Q:VK),Inv X pins σ H s->RelV x v->RelV y u->r x y H Q ->
  wpAny (model X.prog X.w) X.A (f v u) (EP X pins σ Q) X.xe s
/-- a one-place operation -/
def UnR (X:Cx) (f:Value->Sem Value) (r:V->Hp->VK->Prop):Prop :=
 ∀ (pins:List (Addr × Obj)) (s:Shared) (σ:St) (H:Hp) (x:V) (v:Value) (Q:VK),Inv X pins σ H s->RelV x v->r x H Q ->
  wpAny (model X.prog X.w) X.A (f v) (EP X pins σ Q) X.xe s
/-- a call of a value that is known (a builtin, a type) with values -/
def CallR (X:Cx) (f:Value) (r:List V->Hp->VK->Prop):Prop :=
 ∀ (pins:List (Addr × Obj)) (s:Shared) (σ:St) (H:Hp) (xs:List V) (us:List Value) (Q:VK),Inv X pins σ H s->Vals xs us->r xs H Q ->
  wpAny (model X.prog X.w) X.A (call f us) (EP X pins σ Q) X.xe s
def tOp (r:R2) (ta tb:TE):TE:=fun σ H Q=>ta σ H fun x H1=>tb σ H1 fun y H2=>r x y H2 Q
def tUn (r:V->Hp->VK->Prop) (ta:TE):TE:=fun σ H Q=>ta σ H fun x H1=>r x H1 Q
/-- ints in, under C, and a value out -/
def rI (C:Int->Int->Prop) (g:Int->Int->V):R2:=fun x y H Q=>∃ i j,x=.int i∧y=.int j∧C i j∧Q (g i j) H
def rI0 (g:Int->Int->V):R2:=fun x y H Q=>∃ i j,x=.int i∧y=.int j∧Q (g i j) H
def rU (g:Int->V):V->Hp->VK->Prop:=fun x H Q=>∃ i,x=.int i∧Q (g i) H
section
variable {X:Cx} {a b c:Expr} {ta tb tc:TE} {pos:Pos}
theorem binT (ha:PE X a ta) (hb:PE X b tb) {pins:List (Addr × Obj)} {s:Shared} {σ:St} {H:Hp} {R:V->V->Hp->Prop} (I:Inv X pins σ H s)
  (h:ta σ H fun x H1=>tb σ H1 fun y H2=>R x y H2) {Q:Value->Shared->Prop} {f:Value->Value->Sem Value}
  (hf:∀ v u s2 x y H2,Inv X pins σ H2 s2->RelV x v->RelV y u->R x y H2->wpAny (model X.prog X.w) X.A (f v u) Q X.xe s2) :
  wpAny (model X.prog X.w) X.A (eval a X.env) (fun v s₁=>wpAny (model X.prog X.w) X.A (eval b X.env) (fun u s₂=>wpAny (model X.prog X.w) X.A (f v u) Q X.xe s₂) X.xe s₁) X.xe s:=by
 refine thn (ha pins s σ H _ I h) fun v s1 ⟨x,H1,I1,r1,q1⟩=>?_
 refine thn (hb pins s1 σ H1 _ I1 q1) fun u s2 ⟨y,H2,I2,r2,q2⟩=>?_
 exact hf v u s2 x y H2 I2 r1 r2 q2
theorem pe_op {op:Operator} {r:R2} (ho:OpR X (binaryOp op) r) (ha:PE X a ta) (hb:PE X b tb):PE X (.BinOp a op b pos) (tOp r ta tb):=by
 intro pins s σ H Q I h
 exact wpAny_BinOp (binT ha hb I h fun v u s2 x y H2 I2 rx ry q=>ho pins s2 σ H2 x y v u Q I2 rx ry q)
theorem pe_un {op:UnaryOp} {r:V->Hp->VK->Prop} (ho:UnR X (unaryOp op) r) (ha:PE X a ta):PE X (.UnaryOp op a pos) (tUn r ta):=by
 intro pins s σ H Q I h
 exact UnaryOp_ (thn (ha pins s σ H _ I h) fun v s1 ⟨x,H1,I1,r1,q1⟩=>ho pins s1 σ H1 x v Q I1 r1 q1)
theorem opI {f:Value->Value->Sem Value} {C:Int->Int->Prop} {g:Int->Int->Int}
  (rule:∀ (i j:Int) (t u:Tok) (s:Shared) (Q:Value->Shared->Prop) (E:Value->Shared->Prop),C i j->Q (.int (g i j) s.toks) { s with toks:=s.toks + 1 }->wpAny (model X.prog X.w) X.A (f (.int i t) (.int j u)) Q E s) :
  OpR X f (rI C fun i j=>.int (g i j)):=by
 intro pins s σ H x y v u Q I rx ry h
 obtain⟨i,j,rfl,rfl,hc,q⟩:=h
 obtain⟨t,rfl⟩:=rx
 obtain⟨t',rfl⟩:=ry
 exact rule i j t t' s _ _ hc ⟨.int (g i j),H,I.tok _,⟨_,rfl⟩,q⟩
theorem opI0 {f:Value->Value->Sem Value} {g:Int->Int->Int}
  (rule:∀ (i j:Int) (t u:Tok) (s:Shared) (Q:Value->Shared->Prop) (E:Value->Shared->Prop),Q (.int (g i j) s.toks) { s with toks:=s.toks + 1 }->wpAny (model X.prog X.w) X.A (f (.int i t) (.int j u)) Q E s) :
  OpR X f (rI0 fun i j=>.int (g i j)):=by
 intro pins s σ H x y v u Q I rx ry h
 obtain⟨i,j,rfl,rfl,q⟩:=h
 obtain⟨t,rfl⟩:=rx
 obtain⟨t',rfl⟩:=ry
 exact rule i j t t' s _ _ ⟨.int (g i j),H,I.tok _,⟨_,rfl⟩,q⟩
theorem opB0 {f:Value->Value->Sem Value} {g:Int->Int->Bool}
  (rule:∀ (i j:Int) (t u:Tok) (s:Shared) (Q:Value->Shared->Prop) (E:Value->Shared->Prop),Q (.bool (g i j)) s->wpAny (model X.prog X.w) X.A (f (.int i t) (.int j u)) Q E s) :
  OpR X f (rI0 fun i j=>.bl (g i j)):=by
 intro pins s σ H x y v u Q I rx ry h
 obtain⟨i,j,rfl,rfl,q⟩:=h
 obtain⟨t,rfl⟩:=rx
 obtain⟨t',rfl⟩:=ry
 exact rule i j t t' s _ _ ⟨.bl (g i j),H,I,rfl,q⟩
def CDiv (i j:Int):Prop:=0 < j∧j < 1073741824
def CPow (i j:Int):Prop:=0≤j∧j≤1000000∧i.natAbs < 2 ^ 64
def CMul (i j:Int):Prop:=(-(2 ^ 64) < i∧i < 2 ^ 64)∨(-(2 ^ 64) < j∧j < 2 ^ 64)
theorem CMul.ok {i j:Int} (h:CMul i j):IntMulOk i j:=by
 rcases h with ⟨h1,h2⟩ | ⟨h1,h2⟩
 ·exact .of_left (intBits_le_64 h1 h2)
 ·exact .of_right (intBits_le_64 h1 h2)
theorem op_add:OpR X (binaryOp .Add) (rI0 fun i j=>.int (i + j)):=opI0 fun _ _ _ _ _ _ _ q=>add_int q
theorem op_sub:OpR X (binaryOp .Sub) (rI0 fun i j=>.int (i - j)):=opI0 fun _ _ _ _ _ _ _ q=>sub_int q
theorem op_mul:OpR X (binaryOp .Mult) (rI CMul fun i j=>.int (i * j)):=opI fun _ _ _ _ _ _ _ hc q=>mul_int q hc.ok
/-- // by a positive divisor -/
theorem op_fdiv:OpR X (binaryOp .FloorDiv) (rI CDiv fun i j=>.int (i / j)):=opI fun i j _ _ _ _ _ hc q=>by
 have h1:(0:Int) < j:=hc.1
 have h2:j < 1073741824:=hc.2
 exact floordiv_int (by omega) (by rw[Int.fdiv_eq_ediv_of_nonneg i (by omega)];exact q) (.inl (PyProof.noPylong_small (by omega)))
/-- % by a positive divisor of any size -/
theorem op_mod:OpR X (binaryOp .Mod) (rI (fun _ j=>0 < j) fun i j=>.int (i % j)):=opI fun i j _ _ _ _ _ hc q=>by
 have h1:(0:Int) < j:=hc
 exact mod_int' (by omega) (by rw[Int.fmod_eq_emod_of_nonneg i (by omega)];exact q)
theorem op_pow:OpR X (binaryOp .Pow) (rI CPow fun i j=>.int (i ^ j.toNat)):=opI fun _ _ _ _ _ _ _ hc q=>pow_int_small hc.1 hc.2.1 hc.2.2 q
theorem unI {f:Value->Sem Value} {g:Int->Int}
  (rule:∀ (i:Int) (t:Tok) (s:Shared) (Q:Value->Shared->Prop) (E:Value->Shared->Prop),Q (.int (g i) s.toks) { s with toks:=s.toks + 1 }->wpAny (model X.prog X.w) X.A (f (.int i t)) Q E s) :
  UnR X f (rU fun i=>.int (g i)):=by
 intro pins s σ H x v Q I rx h
 obtain⟨i,rfl,q⟩:=h
 obtain⟨t,rfl⟩:=rx
 exact rule i t s _ _ ⟨.int (g i),H,I.tok _,⟨_,rfl⟩,q⟩
theorem un_neg:UnR X (unaryOp .USub) (rU fun i=>.int (-i)):=unI fun _ _ _ _ _ q=>neg_int q
end
/-- the scalars that == tells apart as data does -/
def scal:V->V->Bool
 | .non,.non=>true | .non,.int _=>true | .int _,.non=>true | .non,.bl _=>true | .bl _,.non=>true | .non,.str _=>true | .str _,.non=>true
 | .int _,.int _=>true | .bl _,.bl _=>true | .str _,.str _=>true | .byt _,.byt _=>true
 | .int _,.str _=>true | .str _,.int _=>true | .bl _,.str _=>true | .str _,.bl _=>true
 | _,_=>false
def rEq:R2:=fun x y H Q=>scal x y=true∧Q (.bl (decide (x=y))) H
def rNe:R2:=fun x y H Q=>scal x y=true∧Q (.bl (!decide (x=y))) H
theorem dec_int {i j:Int}:decide (V.int i=V.int j)=(i == j):=by
 rw[Bool.eq_iff_iff]
 simp
theorem dec_bl {i j:Bool}:decide (V.bl i=V.bl j)=(i == j):=by
 rw[Bool.eq_iff_iff]
 simp
theorem dec_str {i j:Str}:decide (V.str i=V.str j)=(i == j):=by
 rw[Bool.eq_iff_iff]
 simp
theorem dec_byt {i j:Array UInt8}:decide (V.byt i=V.byt j)=(i.toList == j.toList):=by
 rw[Bool.eq_iff_iff]
 cases i
 cases j
 simp
section
variable {X:Cx} {a b c:Expr} {ta tb tc:TE} {pos:Pos}
theorem fin_bl {pins:List (Addr × Obj)} {σ:St} {H:Hp} {s:Shared} {Q:VK} {k k':Bool} (I:Inv X pins σ H s) (q:Q (.bl k) H) (e:k=k'):EP X pins σ Q (.bool k') s:=by
 subst e
 exact⟨.bl k,H,I,rfl,q⟩
theorem op_eq:OpR X (compareOp .Eq) rEq:=by
 intro pins s σ H x y v u Q I rx ry h
 obtain⟨hs,q⟩:=h
 cases x with
 | non =>
  cases rx
  cases y with
  | non=>cases ry;exact PySem.EqNone.eq_none_none (fin_bl I q (by simp))
  | bl j=>cases ry;exact PySem.EqNone.eq_none_bool (fin_bl I q (by simp))
  | int j=>obtain⟨t',rfl⟩:=ry;exact PySem.EqNone.eq_none_int (fin_bl I q (by simp))
  | str j=>obtain⟨t',rfl⟩:=ry;exact PySem.EqNone.eq_none_str (fin_bl I q (by simp))
  | _=>exact absurd (show false=true from hs) Bool.false_ne_true
 | bl i =>
  cases rx
  cases y with
  | non=>cases ry;exact PySem.EqNone.eq_bool_none (fin_bl I q (by simp))
  | bl j=>cases ry;exact eq_bool (fin_bl I q dec_bl)
  | str j=>obtain⟨t',rfl⟩:=ry;exact PySem.EqMixed.eq_bool_str (fin_bl I q (by simp))
  | _=>exact absurd (show false=true from hs) Bool.false_ne_true
 | int i =>
  obtain⟨t,rfl⟩:=rx
  cases y with
  | non=>cases ry;exact PySem.EqNone.eq_int_none (fin_bl I q (by simp))
  | int j=>obtain⟨t',rfl⟩:=ry;exact eq_int (fin_bl I q dec_int)
  | str j=>obtain⟨t',rfl⟩:=ry;exact PySem.EqMixed.eq_int_str (fin_bl I q (by simp))
  | _=>exact absurd (show false=true from hs) Bool.false_ne_true
 | str i =>
  obtain⟨t,rfl⟩:=rx
  cases y with
  | non=>cases ry;exact PySem.EqNone.eq_str_none (fin_bl I q (by simp))
  | bl j=>cases ry;exact PySem.EqMixed.eq_str_bool (fin_bl I q (by simp))
  | int j=>obtain⟨t',rfl⟩:=ry;exact PySem.EqMixed.eq_str_int (fin_bl I q (by simp))
  | str j=>obtain⟨t',rfl⟩:=ry;exact eq_str (fin_bl I q dec_str)
  | _=>exact absurd (show false=true from hs) Bool.false_ne_true
 | byt i =>
  obtain⟨t,rfl⟩:=rx
  cases y with
  | byt j=>obtain⟨t',rfl⟩:=ry;exact PySem.W.eq_bytes (fin_bl I q dec_byt)
  | _=>exact absurd (show false=true from hs) Bool.false_ne_true
 | _=>cases y <;> exact absurd (show false=true from hs) Bool.false_ne_true
theorem op_ne:OpR X (compareOp .NotEq) rNe:=by
 intro pins s σ H x y v u Q I rx ry h
 obtain⟨hs,q⟩:=h
 cases x with
 | non =>
  cases rx
  cases y with
  | non=>cases ry;exact PySem.EqNone.ne_none_none (fin_bl I q (by simp))
  | bl j=>cases ry;exact PySem.EqNone.ne_none_bool (fin_bl I q (by simp))
  | int j=>obtain⟨t',rfl⟩:=ry;exact PySem.EqNone.ne_none_int (fin_bl I q (by simp))
  | str j=>obtain⟨t',rfl⟩:=ry;exact PySem.EqNone.ne_none_str (fin_bl I q (by simp))
  | _=>exact absurd (show false=true from hs) Bool.false_ne_true
 | bl i =>
  cases rx
  cases y with
  | non=>cases ry;exact PySem.EqNone.ne_bool_none (fin_bl I q (by simp))
  | bl j=>cases ry;exact ne_bool (fin_bl I q (congrArg not dec_bl))
  | str j=>obtain⟨t',rfl⟩:=ry;exact PySem.EqMixed.ne_bool_str (fin_bl I q (by simp))
  | _=>exact absurd (show false=true from hs) Bool.false_ne_true
 | int i =>
  obtain⟨t,rfl⟩:=rx
  cases y with
  | non=>cases ry;exact PySem.EqNone.ne_int_none (fin_bl I q (by simp))
  | int j=>obtain⟨t',rfl⟩:=ry;exact ne_int (fin_bl I q (congrArg not dec_int))
  | str j=>obtain⟨t',rfl⟩:=ry;exact PySem.EqMixed.ne_int_str (fin_bl I q (by simp))
  | _=>exact absurd (show false=true from hs) Bool.false_ne_true
 | str i =>
  obtain⟨t,rfl⟩:=rx
  cases y with
  | non=>cases ry;exact PySem.EqNone.ne_str_none (fin_bl I q (by simp))
  | bl j=>cases ry;exact PySem.EqMixed.ne_str_bool (fin_bl I q (by simp))
  | int j=>obtain⟨t',rfl⟩:=ry;exact PySem.EqMixed.ne_str_int (fin_bl I q (by simp))
  | str j=>obtain⟨t',rfl⟩:=ry;exact ne_str (fin_bl I q (congrArg not dec_str))
  | _=>exact absurd (show false=true from hs) Bool.false_ne_true
 | byt i =>
  obtain⟨t,rfl⟩:=rx
  cases y with
  | byt j=>obtain⟨t',rfl⟩:=ry;exact PySem.W.ne_bytes (fin_bl I q (congrArg not dec_byt))
  | _=>exact absurd (show false=true from hs) Bool.false_ne_true
 | _=>cases y <;> exact absurd (show false=true from hs) Bool.false_ne_true
theorem op_lt:OpR X (compareOp .Lt) (rI0 fun i j=>.bl (decide (i < j))):=opB0 fun _ _ _ _ _ _ _ q=>lt_int q
theorem op_le:OpR X (compareOp .LtE) (rI0 fun i j=>.bl (decide (i≤j))):=opB0 fun _ _ _ _ _ _ _ q=>le_int q
theorem op_gt:OpR X (compareOp .Gt) (rI0 fun i j=>.bl (decide (j < i))):=opB0 fun _ _ _ _ _ _ _ q=>gt_int q
theorem op_ge:OpR X (compareOp .GtE) (rI0 fun i j=>.bl (decide (j≤i))):=opB0 fun _ _ _ _ _ _ _ q=>ge_int q
/-- is None, is not None: the right side a value none -/
theorem op_isN:OpR X (compareOp .Is) (fun x y H Q=>y=.non∧Q (.bl (decide (x=.non))) H):=by
 intro pins s σ H x y v u Q I rx ry h
 obtain⟨rfl,q⟩:=h
 cases ry
 refine is_none_gen (fin_bl I q ?_)
 cases x <;> first
  | (cases rx;rfl)
  | (obtain⟨t,rfl⟩:=rx;rfl)
theorem op_notN:OpR X (compareOp .IsNot) (fun x y H Q=>y=.non∧Q (.bl (!decide (x=.non))) H):=by
 intro pins s σ H x y v u Q I rx ry h
 obtain⟨rfl,q⟩:=h
 cases ry
 refine isnot_none_gen (fin_bl I q ?_)
 cases x <;> first
  | (cases rx;rfl)
  | (obtain⟨t,rfl⟩:=rx;rfl)
theorem nomark (b:Expr) {op:CmpOp} (h:op≠.In:=by decide) (h2:op≠.NotIn:=by decide):behindInMarks op b=false:=by
 have e1:(op == CmpOp.In)=false:=by cases op <;> first | rfl | exact absurd rfl h
 have e2:(op == CmpOp.NotIn)=false:=by cases op <;> first | rfl | exact absurd rfl h2
 cases b <;> simp [behindInMarks,e1,e2]
/-- a comparison as a value; hm: nomark b, or (for in, not in) by with_unfolding_all rfl -/
theorem pe_cmpR {op:CmpOp} {r:R2} (ho:OpR X (compareOp op) r) (ha:PE X a ta) (hb:PE X b tb) (hm:behindInMarks op b=false):PE X (.Compare a [op] [b] pos) (tOp r ta tb):=by
 intro pins s σ H Q I h
 exact wpAny_Compare1 (binT ha hb I h fun v u s2 x y H2 I2 rx ry q=>ho pins s2 σ H2 x y v u Q I2 rx ry q) hm
/-- a reading of a value as a test -/
def tTest (t:TE):TT:=fun σ H Q=>t σ H fun x H'=>∃ k,x=.bl k∧Q k H'
theorem pt_cmpR {op:CmpOp} {r:R2} (ho:OpR X (compareOp op) r) (ha:PE X a ta) (hb:PE X b tb) (hm:behindInMarks op b=false):PT X (.Compare a [op] [b] pos) (tTest (tOp r ta tb)):=by
 intro pins s σ H Q I h
 refine wpAny_isTrue_Compare1 (thn (ha pins s σ H _ I h) fun v s1 ⟨x,H1,I1,r1,q1⟩=>thn (hb pins s1 σ H1 _ I1 q1) fun u s2 ⟨y,H2,I2,r2,q2⟩ =>
  thn (ho pins s2 σ H2 x y v u _ I2 r1 r2 q2) fun c s3 ⟨z,H3,I3,r3,k,e,q3⟩=>?_) hm
 subst e
 cases r3
 exact wpAny_truthy_bool ⟨H3,I3,q3⟩
/-- a op1 b op2 c -/
def tChain (r r':R2) (ta tb tc:TE):TE:=fun σ H Q=>ta σ H fun x H1=>tb σ H1 fun y H2=>r x y H2 fun z H3=>∃ k,z=.bl k ∧
 (if k=true then tc σ H3 fun w' H4=>r' y w' H4 Q else Q (.bl false) H3)
theorem pe_chain {op op':CmpOp} {r r':R2} (ho:OpR X (compareOp op) r) (ho':OpR X (compareOp op') r') (ha:PE X a ta) (hb:PE X b tb) (hc:PE X c tc)
  (hm:lastMarks [op,op'] [b,c]=false:=by with_unfolding_all rfl):PE X (.Compare a [op,op'] [b,c] pos) (tChain r r' ta tb tc):=by
 intro pins s σ H Q I h
 refine Compare_chain (thn (ha pins s σ H _ I h) fun v s1 ⟨x,H1,I1,r1,q1⟩=>chain_link (thn (hb pins s1 σ H1 _ I1 q1) fun u s2 ⟨y,H2,I2,r2,q2⟩ =>
  thn (ho pins s2 σ H2 x y v u _ I2 r1 r2 q2) fun d s3 ⟨z,H3,I3,r3,k,e,q3⟩=>?_)) hm
 subst e
 cases r3
 refine wpAny_truthy_bool ?_
 cases k with
 | false=>exact ite_ff ⟨.bl false,H3,I3,rfl,q3⟩
 | true=>exact ite_tt (chain_last (thn (hc pins s3 σ H3 _ I3 q3) fun w' s4 ⟨z',H4,I4,r4,q4⟩=>ho' pins s4 σ H4 y z' u w' Q I4 r2 r4 q4))
theorem line63:(sizeLine:Nat) < 2 ^ 63:=by rw[sizeLine_eq];decide
theorem vals1 {x:V} {us:List Value} (r:Vals [x] us):∃ u,us=[u]∧RelV x u:=by
 cases r with
 | cons r1 r2=>cases r2;exact⟨_,rfl,r1⟩
theorem vals2 {x y:V} {us:List Value} (r:Vals [x,y] us):∃ u w',us=[u,w']∧RelV x u∧RelV y w':=by
 cases r with
 | cons r1 r2 =>
  cases r2 with
  | cons r3 r4=>cases r4;exact⟨_,_,rfl,r1,r3⟩
theorem call_max2 (hc:X.calm=true):CallR X (.builtin "max") (fun xs H Q=>∃ i j,xs=[.int i,.int j]∧Q (.int (if j > i then j else i)) H):=by
 intro pins s σ H xs us Q I r h
 obtain⟨i,j,rfl,q⟩:=h
 obtain⟨u,w',rfl,⟨t,rfl⟩,⟨t',rfl⟩⟩:=vals2 r
 refine max_two_ints (I.ok.hd hc) fun h' tk k=>⟨_,H,I.kept k,?_,q⟩
 by_cases hj:j > i
 ·rw[if_pos hj,if_pos hj];exact⟨_,rfl⟩
 ·rw[if_neg hj,if_neg hj];exact⟨_,rfl⟩
theorem call_min2 (hc:X.calm=true):CallR X (.builtin "min") (fun xs H Q=>∃ i j,xs=[.int i,.int j]∧Q (.int (if j < i then j else i)) H):=by
 intro pins s σ H xs us Q I r h
 obtain⟨i,j,rfl,q⟩:=h
 obtain⟨u,w',rfl,⟨t,rfl⟩,⟨t',rfl⟩⟩:=vals2 r
 refine min_two_ints (I.ok.hd hc) fun h' tk k=>⟨_,H,I.kept k,?_,q⟩
 by_cases hj:j < i
 ·rw[if_pos hj,if_pos hj];exact⟨_,rfl⟩
 ·rw[if_neg hj,if_neg hj];exact⟨_,rfl⟩
theorem call_int1:CallR X (.type "int") (fun xs H Q=>(∃ i,xs=[.int i]∧Q (.int i) H)∨∃ k,xs=[.bl k]∧Q (.int (if k then 1 else 0)) H):=by
 intro pins s σ H xs us Q I r h
 rcases h with ⟨i,rfl,q⟩ | ⟨k,rfl,q⟩
 ·obtain⟨u,rfl,t,rfl⟩:=vals1 r
  exact call_int_int ⟨.int i,H,I,⟨_,rfl⟩,q⟩
 ·obtain⟨u,rfl,r1⟩:=vals1 r
  cases r1
  exact call_int_bool ⟨.int (if k then 1 else 0),H,I.tok _,⟨_,rfl⟩,q⟩
end
end L2
namespace L2
open PySem PySem.Spec PyProof.Rows
structure ObjM (h:Heap) (x dx C:Addr) (mA:Str->Option Value):Prop where
 obj:h.get? x=some (PySem.W.instObj C dx)
 ns:h.Ns1 dx mA
 ne:dx≠x
theorem lookIn_ns {h:Heap} {dx:Addr} {mA:Str->Option Value} (n:h.Ns1 dx mA):∃ od,h.get? dx=some od∧∀ name,PySem.W.lookIn name od=some (mA name):=by
 obtain⟨o,es,ep,ho,hd,hk,_,hm⟩:=n
 refine⟨o,ho,fun name=>?_⟩
 have e:=hm name
 unfold nsFind findBy at e
 rw[← Array.find?_toList] at e
 unfold PySem.W.lookIn
 rw[hd]
 dsimp only
 split
 ·rename_i y q
  rw[q] at e
  exact congrArg some e
 ·rename_i q
  rw[q] at e
  have a:es.toList.any (·.refKey)=false:=by
   rw[List.any_eq_false]
   intro y hy
   obtain⟨z,t,hkey⟩:=hk y (Array.mem_toList_iff.mp hy)
   simp [DictEntry.refKey,hkey]
  have a':¬ es.toList.any (·.refKey)=true:=by rw[a];exact Bool.false_ne_true
  rw[if_neg a']
  exact congrArg some e
theorem ObjM.look {h:Heap} {x dx C:Addr} {mA:Str->Option Value} (I:ObjM h x dx C mA):∃ od,PySem.W.InstAt h x (PySem.W.instObj C dx) C (some od)∧∀ name,PySem.W.lookIn name od=some (mA name) :=
 let ⟨od,ho,hl⟩:=lookIn_ns I.ns
 ⟨od,⟨I.obj,rfl,rfl,ho⟩,hl⟩
section
variable {prog:Program} {w:World} {A:Around} {E:Value->Shared->Prop} {s:Shared} {K:PySem.W.Frag} {x dx C f:Addr} {mA:Str->Option Value} {name:Str} {v:Value}
end
section
variable {P:Program} {w:World} {H H':Hp} {h h':Heap} {a C dx:Addr} {fs fs':List (Str × V)}
theorem ins_get (hok:HOk P w H h) (e:H a=some (.ins C dx fs)):∃ mA,ObjM h a dx C mA∧(∀ f,RelO (fs.lookup f) (mA f))∧PySem.Within mA (fs.map (·.1))∧fs.length≤1000∧H dx=some (.own a):=by
 obtain⟨d,z,ne,ob,mA,n,r,q⟩:=(show ObjOk P w H h a (.ins C dx fs) from hok a _ e)
 exact⟨mA,⟨ob,n,ne⟩,r,q,z,d⟩
end
structure Cls (K:PySem.W.Frag) (C:Addr):Prop where
 pg:PySem.W.plainGet K C Str.empty=true
 hd:PySem.W.hasDictIn K C=true
 po:PySem.W.plainOver K C=true
 sa:PySem.W.findIn K (.ref C) "__setattr__"=some (some (.builtin "object.__setattr__"))
theorem Cls.get {K:PySem.W.Frag} {C:Addr} (c:Cls K C) (f:Str):PySem.W.plainGet K C f=true:=c.pg
/-- a constant of the class -/
structure Con (K:PySem.W.Frag) (C:Addr) (f:Str) (v:V) (u:Value):Prop where
 at_:PySem.W.findIn K (.ref C) f=some (some u)
 rel:RelV v u
 get:PySem.W.specialIn K u "__get__"=some none
 cp:PySem.W.copiedNames.contains f=false
section
variable {X:Cx} {pins:List (Addr × Obj)} {σ:St} {H:Hp} {s:Shared} {a C dx:Addr} {fs:List (Str × V)} {f:Str} {v:V} {A:Around} {E:Value->Shared->Prop}
end
section
variable {X:Cx} {o e value:Expr} {f:Str} {pos pos' tpos:Pos} {ta tv:TE}
end
section
variable {X:Cx} {pins:List (Addr × Obj)} {σ:St} {H:Hp} {s:Shared} {A:Around} {E:Value->Shared->Prop} {Q:Value->Shared->Prop} {c:Value} {b:Bool}
/-- the type of a value, as the fragment's deciders take it; for an instance its class -/
inductive TyOf (K:PySem.W.Frag) (H:Hp):V->Value->Prop where
 | non:TyOf K H .non (.type "NoneType")
 | bl (x:Bool):TyOf K H (.bl x) (.type "bool")
 | int (i:Int):TyOf K H (.int i) (.type "int")
 | str (x:Str):TyOf K H (.str x) (.type "str")
 | flt (x:UInt64):TyOf K H (.flt x) (.type "float")
 | lst {a:Addr} {xs:List V} (e:H a=some (.lst xs)):TyOf K H (.ref a) (.type "list")
 | frz {a:Addr} {o:Obj} {xs:List V} (e:H a=some (.frz o (.lst xs))):TyOf K H (.ref a) (.type "list")
 | tup {a:Addr} {xs:List V} (e:H a=some (.tup xs)):TyOf K H (.ref a) (.type "tuple")
 | dK {a:Addr} {kvs:List (Key × V)} (e:H a=some (.dK kvs)):TyOf K H (.ref a) (.type "dict")
 | dT {a:Addr} {kvs:List (List Key × V)} (e:H a=some (.dT kvs)):TyOf K H (.ref a) (.type "dict")
 | ins {a C dx : Addr} {fs : List (Str × V)} (e : H a = some (.ins C dx fs)) (cl : Cls K C) (ha : PySem.W.findIn K (.ref C) "__class__" = some (some (.builtin "object.__class__")))
     (hn:PySem.W.specialIn K (.builtin "object.__class__") "__get__"=some (some (.builtin "getset_descriptor.__get__"))) (htk:PySem.W.takesIn K (.builtin "object.__class__")=some true)
     (hm:PySem.W.mroIn K C (.type "object")=some true):TyOf K H (.ref a) (.ref C)
/-- isinstance(x, c) for one class c, a built-in or an own one: kitOne's answer -/
theorem isinst_ok {x:V} {u t:Value} (I:Inv X pins σ H s) (rx:RelV x u) (ty:TyOf X.K H x t) (e:PySem.W.kitOne X.K t c=some b) (h:∀ tk,Q (.bool b) { s with toks:=tk }) :
  wpAny (model X.prog X.w) A (call (.builtin "isinstance") [u,c]) Q E s:=by
 cases ty with
 | non=>cases (show u=Value.none from rx);exact PySem.W.kia_one PySem.W.kitx_none I.kIn True.intro e (fun z=>nomatch z) h
 | bl y=>cases (show u=Value.bool y from rx);exact PySem.W.kia_one PySem.W.kitx_bool I.kIn True.intro e (fun z=>nomatch z) h
 | int i=>obtain⟨t,q⟩:=(show ∃ t,u=Value.int i t from rx);cases q;exact PySem.W.kia_one PySem.W.kitx_int I.kIn True.intro e (fun z=>nomatch z) h
 | str y=>obtain⟨t,q⟩:=(show ∃ t,u=Value.str y t from rx);cases q;exact PySem.W.kia_one PySem.W.kitx_str I.kIn True.intro e (fun z=>nomatch z) h
 | flt y=>obtain⟨t,q⟩:=(show ∃ t,u=Value.float y t from rx);cases q;exact PySem.W.kia_one PySem.W.kitx_float I.kIn True.intro e (fun z=>nomatch z) h
 | @lst a xs ea =>
  cases (show u=Value.ref a from rx)
  obtain⟨_,_,n,_,h1⟩:=(show ObjOk X.prog X.w H s.heap a (.lst xs) from I.hok a _ ea)
  exact PySem.W.kia_one PySem.W.kitx_list I.kIn ⟨_,h1,rfl⟩ e (fun z=>nomatch z) h
 | @frz a ob xs ea =>
  cases (show u=Value.ref a from rx)
  obtain⟨_,_,_,n,_,h1⟩:=(show ObjOk X.prog X.w H s.heap a (.frz ob (.lst xs)) from I.hok a _ ea)
  exact PySem.W.kia_one PySem.W.kitx_list I.kIn ⟨_,h1,rfl⟩ e (fun z=>nomatch z) h
 | @tup a xs ea =>
  cases (show u=Value.ref a from rx)
  obtain⟨_,_,_,p⟩:=(show ObjOk X.prog X.w H s.heap a (.tup xs) from I.hok a _ ea)
  obtain⟨o,h1,h2,_⟩:=p
  exact PySem.W.kia_one PySem.W.kitx_tuple I.kIn ⟨o,h1,h2⟩ e (fun z=>nomatch z) h
 | @dK a kvs ea =>
  cases (show u=Value.ref a from rx)
  obtain⟨_,_,vs,_,p⟩:=(show ObjOk X.prog X.w H s.heap a (.dK kvs) from I.hok a _ ea)
  obtain⟨o,es,ep,h1,h2,_⟩:=p
  exact PySem.W.kia_one PySem.W.kitx_dict I.kIn ⟨o,h1,h2.1⟩ e (fun z=>nomatch z) h
 | @dT a kvs ea =>
  cases (show u=Value.ref a from rx)
  obtain⟨_,_,xs,_,o,es,ep,h1,h2,_⟩:=(show ObjOk X.prog X.w H s.heap a (.dT kvs) from I.hok a _ ea)
  exact PySem.W.kia_one PySem.W.kitx_dict I.kIn ⟨o,h1,h2.1⟩ e (fun z=>nomatch z) h
 | @ins a C dx fs ea cl ha hn htk hm =>
  cases (show u=Value.ref a from rx)
  obtain⟨mA,O,_⟩:=ins_get I.hok ea
  obtain⟨od,J,_⟩:=O.look
  exact PySem.W.kia_one (PySem.W.kitx_own (cl.get _) cl.hd ha hn htk hm) I.kIn J e (fun z=>nomatch z) h
end
end L2
namespace L2
open PySem PySem.Spec PyProof.Rows
structure Room (k:Nat) (A:Around):Prop where
 hd:A.handled=none
 dp:A.depth + 3 * k + 5 < recursionLimit
 un:A.units + 16 * k + 200 < cLine
 gd:A.guards=some []
theorem Room.mono {j k:Nat} {A:Around} (r:Room k A) (h:j≤k):Room j A:=⟨r.hd,by have:=r.dp;omega,by have:=r.un;omega,r.gd⟩
theorem Room.deeper {k:Nat} {A:Around} (r:Room (k + 1) A) (env:Env):Room k (A.deeper env) :=
 ⟨r.hd,by have:=r.dp;show A.depth + 1 + 3 * k + 5 < _;omega,by have:=r.un;show A.units + 3 + 16 * k + 200 < _;omega,r.gd⟩
theorem Room.depth {k:Nat} {A:Around} (r:Room k A):A.depth < recursionLimit:=by have:=r.dp;omega
theorem Room.units {k:Nat} {A:Around} (r:Room k A):A.units + 64 < cLine:=by have:=r.un;omega
theorem Room.units0 {k:Nat} {A:Around} (r:Room k A):A.units < cLine:=by have:=r.un;omega
def tNil:TA:=fun _ H Q=>Q [] H
def tCons (ta:TE) (tr:TA):TA:=fun σ H Q=>ta σ H fun x H1=>tr σ H1 fun xs H2=>Q (x::xs) H2
section
variable {X:Cx} {e:Expr} {es:List Expr} {te:TE} {t:TA} {pos:Pos}
theorem pa_nil:PA X [] tNil:=fun _ _ _ _ H Q I h=>Calls.spliced_nil ⟨[],H,I,.nil,h⟩
theorem pa_cons (ha:PE X e te) (hr:PA X es t) (hs:starEach (e::es) X.env=(false,eval e X.env)::starEach es X.env:=by rfl):PA X (e::es) (tCons te t):=by
 intro pos pins s σ H Q I h
 rw[hs]
 show wpAny _ _ (spliced ((false,eval e X.env)::backTo pos (starEach es X.env))) _ _ s
 refine Calls.spliced_cons (thn (ha pins s σ H _ I h) fun u s1 ⟨x,H1,I1,r1,q1⟩=>?_)
 exact thn (hr pos pins s1 σ H1 _ I1 q1) fun us s2 ⟨xs,H2,I2,r2,q2⟩=>⟨x::xs,H2,I2,.cons r1 r2,q2⟩
/-- a tuple, a list of written items -/
def tTup (t:TA):TE:=fun σ H Q=>t σ H fun xs H1=>xs.length≤sizeLine∧∀ p,H1 p=none->Q (.ref p) (upd H1 p (.tup xs))
def tLst (t:TA):TE:=fun σ H Q=>t σ H fun xs H1=>xs.length≤sizeLine∧∀ p,H1 p=none->Q (.ref p) (upd H1 p (.lst xs))
theorem pe_tup {x1} (h:PA X es t):PE X (.Tuple es x1 pos) (tTup t):=by
 intro pins s σ H Q I hq
 refine wpAny_Tuple_spliced (thn (h pos pins s σ H _ I hq) fun us s1 ⟨xs,H1,I1,r,z,q⟩=>⟨by rw[← r.length];exact z,?_⟩)
 have hf:H1 s1.heap.objs.size=none:=I1.hok.fresh (Nat.le_refl _)
 refine⟨.ref s1.heap.objs.size,upd H1 s1.heap.objs.size (.tup xs),I1.laid (t':=s1.toks) (fun b u e=>Heap.get?_push_of_some _ e) (Nat.le_refl _) ?_,rfl,q _ hf⟩
 exact⟨z,us,r,⟨_,Heap.get?_push_size _ rfl,rfl,⟨_,rfl⟩,rfl⟩⟩
theorem pe_lst (h:PA X es t):PE X (.List es pos) (tLst t):=by
 intro pins s σ H Q I hq
 refine wpAny_List_spliced (thn (h pos pins s σ H _ I hq) fun us s1 ⟨xs,H1,I1,r,z,q⟩=>⟨by rw[← r.length];exact z,?_⟩)
 have hf:H1 s1.heap.objs.size=none:=I1.hok.fresh (Nat.le_refl _)
 refine⟨.ref s1.heap.objs.size,upd H1 s1.heap.objs.size (.lst xs),I1.laid (t':=s1.toks) (fun b u e=>Heap.get?_push_of_some _ e) (Nat.le_refl _) ?_,rfl,q _ hf⟩
 exact⟨z,us,0,r,Heap.get?_push_size _ rfl⟩
end
/-- a def's promise: the bound arguments in the parameters' order, the heap, the wanted end, the wanted exception -/
abbrev Sp:=List V->Hp->VK->XK->Prop
/-- how an exception lies behind a call (file 08 gives it): the callers' frames, abstract heap and state ahead of the call, the wish, the exception, the state -/
abbrev CXT:=List Env->Hp->Shared->XK->Value->Shared->Prop
/-- the state at a call -/
structure Env0 (P:Program) (w:World) (K:PySem.W.Frag) (mg:Str->Option Value) (base:Heap) (A:Around) (outer:List Env) (s:Shared) (H:Hp):Prop where
 frames:A.frames=some outer
 mod:Mod K mg base
 bs:∀ b o,base.get? b=some o->s.heap.get? b=some o∧H b=none
 bsz:base.objs.size≤s.heap.objs.size
 funs:s.heap.FunFrames base outer
 frf:∀ b ∈ frs outer,H b=none
 hok:HOk P w H s.heap
 bare:AllBare s.gens
/-- a call's end -/
def CE (outer:List Env) (P:Program) (w:World) (H:Hp) (s:Shared) (Q:VK) (u:Value) (s':Shared):Prop :=
 ∃ v H',s'.os=s.os∧AllBare s'.gens∧Un (frs outer) [] H H' s.heap s'.heap∧HOk P w H' s'.heap∧RelV v u∧Q v H'
def CR (CX:CXT) (outer:List Env) (P:Program) (w:World) (H:Hp) (s:Shared) (Q:VK) (E:XK) (r:Result) (s':Shared):Prop :=
 match r with
 | .ok (.ret u)=>CE outer P w H s Q u s'
 | .ok _=>False
 | .error e=>CX outer H s E e s'
structure FnOk (P:Program) (w:World) (K:PySem.W.Frag) (mg:Str->Option Value) (base:Heap) (CX:CXT) (k:Nat) (f:Addr) (fd:FuncData) (ps:List Str) (sp:Sp):Prop where
 len:∀ vs H Q E,sp vs H Q E->vs.length=ps.length
 run:∀ (A:Around) (outer:List Env) (s:Shared) (H:Hp) (args:Args) (us:List Value) (vs:List V) (Q:VK) (E:XK),Room k A->Env0 P w K mg base A outer s H->BindsTo s fd args (ps.zip us)->Vals vs us->sp vs H Q E ->
  codeAny (model P w) A (.call (.ref f) args) (CR CX outer P w H s Q E) s
theorem FnOk.mono {P:Program} {w:World} {K:PySem.W.Frag} {mg:Str->Option Value} {base:Heap} {CX:CXT} {j k:Nat} {f:Addr} {fd:FuncData} {ps:List Str} {sp:Sp} (F:FnOk P w K mg base CX j f fd ps sp) (h:j≤k) :
  FnOk P w K mg base CX k f fd ps sp:=⟨F.len,fun A outer s H args us vs Q E hr=>F.run A outer s H args us vs Q E (hr.mono h)⟩
section
variable {X:Cx} {pins:List (Addr × Obj)} {σ:St} {H:Hp} {s s':Shared}
/-- from a body: what a callee wants -/
theorem Inv.env0 (I:Inv X pins σ H s):Env0 X.prog X.w X.K X.mg X.base X.A X.stack s H :=
 ⟨I.ok.frames,I.ok.mod,I.bs,Nat.le_trans I.ok.bsz I.sz,I.stack,I.stkFree,I.hok,I.bare⟩
/-- behind a call -/
theorem Inv.after {Q:VK} {u:Value} (I:Inv X pins σ H s) (h:CE X.stack X.prog X.w H s Q u s'):EP X pins σ Q u s':=by
 obtain⟨v,H',os,bare,un,hok,r,q⟩:=h
 obtain⟨hh,g,d,t,os'⟩:=s'
 obtain rfl:os'=s.os:=os
 exact⟨v,H',I.call (h':=hh) (g':=g) (d':=d) (t':=t) (ch:=[]) un hok bare (fun b z=>absurd z (by simp)),r,q⟩
end
/-- f(..): the written arguments, then the defaults dvs; E: what is wanted of an exception -/
def tCall (sp:Sp) (dvs:List V) (E:XK) (t:TA):TE:=fun σ H Q=>t σ H fun vs H1=>sp (vs++dvs) H1 Q E
/-- how the parameters are bound: us the positional arguments, kw the keywords' values by name, ds the defaults that fill up -/
def Binds (K:PySem.W.Frag) (fd:FuncData) (ps:List Str) (ds:List Value):Prop :=
 ∀ (s:Shared) (us:List Value),K.In s.heap->(us++ds).length=ps.length->BindsTo s fd ⟨us,[]⟩ (ps.zip (us++ds))
/-- every parameter is given -/
theorem Binds.all {K:PySem.W.Frag} {fd:FuncData} {ps:List Str} (h:∀ us:List Value,us.length=ps.length->bindArgs fd ⟨us,[]⟩=pure (ps.zip us)):Binds K fd ps []:=fun s us _ hl=>by
 rw[List.append_nil] at hl ⊢
 exact .of_eq (h us hl)
/-- an exception of a callee reaches what this body wants of exceptions -/
def Passes (CX:CXT) (X:Cx) (E:XK):Prop:=∀ (pins:List (Addr × Obj)) (σ:St) (H:Hp) (s:Shared) (e:Value) (s':Shared),Inv X pins σ H s->CX X.stack H s E e s'->X.xe e s'
section
variable {X:Cx} {CX:CXT} {k:Nat} {f C:Addr} {fd:FuncData} {ps:List Str} {sp:Sp} {dvs:List V} {ds:List Value} {E:XK} {x m:Str} {p pos apos:Pos} {e o:Expr} {es:List Expr} {ta:TE} {t:TA}
/-- the callee runs -/
theorem run_fn {pins:List (Addr × Obj)} {σ:St} {H:Hp} {s:Shared} {Q:VK} {us:List Value} {vs:List V} (F:FnOk X.prog X.w X.K X.mg X.base CX k f fd ps sp) (hr:Room k X.A) (hb:Binds X.K fd ps ds) (hd:Vals dvs ds) (hx:Passes CX X E)
  (I:Inv X pins σ H s) (r:Vals vs us) (h:sp (vs++dvs) H Q E):wpAny (model X.prog X.w) X.A (call (.ref f) us) (EP X pins σ Q) X.xe s:=by
 have r2:Vals (vs++dvs) (us++ds):=r.append hd
 have hl:(us++ds).length=ps.length:=by rw[← r2.length];exact F.len _ _ _ _ h
 refine wpAny_call (codeAny_mono (F.run X.A X.stack s H ⟨us,[]⟩ (us++ds) (vs++dvs) Q E hr I.env0 (hb s us I.kIn hl) r2 h) fun r s' hq=>?_)
 cases r with
 | error e=>exact hx pins σ H s e s' I hq
 | ok fl =>
  cases fl with
  | ret u=>exact I.after hq
  | next=>exact False.elim hq
  | brk=>exact False.elim hq
  | cont=>exact False.elim hq
theorem pe_call (F:FnOk X.prog X.w X.K X.mg X.base CX k f fd ps sp) (hr:Room k X.A) (hg:Gl X x) (hm:X.mg x=some (.ref f)) (hk:PySem.W.keepIn X.K (.ref f)=true) (hb:Binds X.K fd ps ds) (hd:Vals dvs ds) (hx:Passes CX X E)
  (ha:PA X (e::es) t) (hdb:(x == ("__debug__":Str))=false:=by decide) (he:starEach (e::es) X.env=(false,eval e X.env)::starEach es X.env:=by rfl) (hpl:(backTo pos (starEach es X.env)).any (·.1)=false:=by rfl) :
  PE X (.Call (.Name x p) (e::es) [] pos) (tCall sp dvs E t):=by
 intro pins s σ H Q I h
 refine wpAny_Call_Name_kw (ld_glob I hg hm ?_ hdb)
 refine PySem.W.callWith_K (h₀:=X.base) I.ok.mod.kin hk (thn (ha pos pins s σ H _ I h) fun us s1 ⟨vs,H1,I1,r,q⟩=>⟨I1.kIn,?_⟩) he hpl
 exact run_fn F hr hb hd hx I1 r q
/-- what a class must have to be made -/
structure Mk (K:PySem.W.Frag) (C f:Addr):Prop where
 makes:PySem.W.makesIn K C=true
 init:PySem.W.findIn K (.ref C) "__init__"=some (some (.ref f))
 fn:PySem.W.isFn K (.ref f)=true
 kp:PySem.W.keepIn K (.ref C)=true
end
section
variable {X:Cx} {CX:CXT} {k:Nat} {f C:Addr} {fd:FuncData} {ps ks:List Str} {sp:Sp} {E:XK} {x m:Str} {p pos apos kpos:Pos} {e o:Expr} {es:List Expr} {kws:List Keyword} {te ta:TE} {t tk:TA} {nm:Option Str}
variable {g:List Value->List Value->List Value} {gV:List V->List V->List V}
end
/-- names: the parameters first -/
structure FnScope (N P:List Str) (sc:Scope):Prop where
 kind:sc.kind=.function
 co:sc.isCoroutine=false
 gen:sc.isGenerator=false
 nd:N.Nodup
 pre:N.take P.length=P
 par:∀ x ∈ P,sc.names.lookup x=some .local∨sc.names.lookup x=some .cell
 nofree:∀ y ∈ sc.names,y.2≠.free
theorem bindL_out {kindOf:Str->Option NameKind} {x:Str}:∀ {binds:List (Str × Value)} {m:Str->Option Value},(∀ v,(x,v) ∉ binds)->bindL kindOf binds m x=m x
 | [],_,_=>rfl
 | (n,v)::r,m,h=>by
  unfold bindL
  rw[bindL_out fun w hw=>h w (List.mem_cons_of_mem _ hw)]
  split
  ·have:x≠n:=by rintro rfl;exact h v List.mem_cons_self
   simp [this]
  ·rfl
theorem bindC_out {kindOf:Str->Option NameKind} {x:Str}:∀ {binds:List (Str × Value)} {m:Str->Option Value},(∀ v,(x,v) ∉ binds)->bindC kindOf binds m x=m x
 | [],_,_=>rfl
 | (n,v)::r,m,h=>by
  unfold bindC
  rw[bindC_out fun w hw=>h w (List.mem_cons_of_mem _ hw)]
  split
  ·rfl
  ·have:x≠n:=by rintro rfl;exact h v List.mem_cons_self
   simp [this]
theorem bindL_get {kindOf:Str->Option NameKind} {x:Str} {v:Value}:∀ {P:List Str} {vs:List Value} {i:Nat} {m:Str->Option Value},P.Nodup->P[i]?=some x->vs[i]?=some v->kindOf x=some .local ->
  bindL kindOf (P.zip vs) m x=some v
 | [],_,_,_,_,h,_,_=>by simp at h
 | _::_,[],_,_,_,_,h,_=>by simp at h
 | p::P,w::vs,0,m,nd,h1,h2,hk=>by
  simp at h1 h2;subst h1;subst h2
  show bindL kindOf ((p,w)::P.zip vs) m p=_
  unfold bindL
  rw[bindL_out fun v hv=>(List.nodup_cons.mp nd).1 (List.of_mem_zip hv).1,if_pos hk]
  simp
 | p::P,w::vs,i + 1,m,nd,h1,h2,hk=>by
  show bindL kindOf ((p,w)::P.zip vs) m x=_
  unfold bindL
  exact bindL_get (i:=i) (List.nodup_cons.mp nd).2 (by simpa using h1) (by simpa using h2) hk
theorem bindC_get {kindOf:Str->Option NameKind} {x:Str} {v:Value}:∀ {P:List Str} {vs:List Value} {i:Nat} {m:Str->Option Value},P.Nodup->P[i]?=some x->vs[i]?=some v->kindOf x≠some .local ->
  bindC kindOf (P.zip vs) m x=some v
 | [],_,_,_,_,h,_,_=>by simp at h
 | _::_,[],_,_,_,_,h,_=>by simp at h
 | p::P,w::vs,0,m,nd,h1,h2,hk=>by
  simp at h1 h2;subst h1;subst h2
  show bindC kindOf ((p,w)::P.zip vs) m p=_
  unfold bindC
  rw[bindC_out fun v hv=>(List.nodup_cons.mp nd).1 (List.of_mem_zip hv).1,if_neg hk]
  simp
 | p::P,w::vs,i + 1,m,nd,h1,h2,hk=>by
  show bindC kindOf ((p,w)::P.zip vs) m x=_
  unfold bindC
  exact bindC_get (i:=i) (List.nodup_cons.mp nd).2 (by simpa using h1) (by simpa using h2) hk
/-- the names' values at the entry -/
def start (N:List Str) (vs:List V):St:=vs.map some++List.replicate (N.length - vs.length) none
/-- the context of a def's body, at its entry; an exception leaves the frame, then lies as CX says -/
def cxOf (CX:CXT) (P:Program) (w:World) (K:PySem.W.Frag) (mg:Str->Option Value) (base:Heap) (N:List Str) (qual:Str) (scope:Scope) (f:Addr) (cd:Value) (A:Around) (outer:List Env) (s:Shared) (H:Hp) (E:XK):Cx where
 prog:=P
 w:=w
 K:=K
 mg:=mg
 base:=base
 A:=A.deeper (envOfC qual scope s.heap.objs.size f cd)
 N:=N
 s₀:=s
 H₀:=H
 env:=envOfC qual scope s.heap.objs.size f cd
 outer:=outer
 stack:=envOfC qual scope s.heap.objs.size f cd::outer
 ex:=[]
 calm:=true
 fn:=fun _=>true
 pn:=[]
 xe:=fun e s'=>wpAny (model P w) (A.deeper (envOfC qual scope s.heap.objs.size f cd)) (leaving (envOfC qual scope s.heap.objs.size f cd) e) (fun _ s''=>CX outer H s E e s'') (fun e' s''=>CX outer H s E e' s'') s'
theorem cell_has {sc:Scope} {n:Nat} {x:Str} (h:sc.names.lookup x=some .cell):∃ c,(cellsFrom n sc.names []).lookup x=some c:=by
 have q:=PySem.W.cellsFrom_some sc.names n [] (.inl h)
 exact Option.isSome_iff_exists.mp q
theorem inv_start {CX:CXT} {P:Program} {w:World} {K:PySem.W.Frag} {mg:Str->Option Value} {base:Heap} {N ps:List Str} {qual:Str} {scope:Scope} {f:Addr} {cd:Value} {A:Around} {outer:List Env} {s s1:Shared} {H:Hp} {E:XK} {us:List Value} {vs:List V}
  (S:FnScope N ps scope) (hd:A.handled=none) (e0:Env0 P w K mg base A outer s H) (hl:vs.length=ps.length) (r:Vals vs us)
  (x:InCallC s s.heap.objs.size (bindL (envOfC qual scope s.heap.objs.size f cd).kindOf (ps.zip us) fun _=>none) (cellsFrom (s.heap.objs.size + 1) scope.names []) (bindC (envOfC qual scope s.heap.objs.size f cd).kindOf (ps.zip us) fun _=>none) s1) :
  Inv (cxOf CX P w K mg base N qual scope f cd A outer s H E) [] (start N vs) H s1:=by
 have hpl:ps.length≤N.length:=by have:=congrArg List.length S.pre;rw[List.length_take] at this;omega
 obtain⟨h1,tk,rfl,hk⟩:=x.done
 have noA:∀ b:Addr,b ∉ (cxOf CX P w K mg base N qual scope f cd A outer s H E).ex:=fun b z=>absurd (show b ∈ ([]:List Addr) from z) (by simp)
 refine⟨⟨e0.mod,S.kind,rfl,rfl,Nat.le_refl _,fun y z c h1 h2=>?_,fun y hy=>?_,fun y c _ h=>?_,fun _=>hd,Around.frames_deeper e0.frames,.inr ⟨rfl,rfl⟩,fun b z=>absurd z (noA b),e0.bs,e0.bsz,fun b _ _=>noA b,fun b z=>absurd z (noA b),e0.funs,e0.frf⟩,
  rfl,e0.bare,Un.kept hk,⟨_,x.toInCall.ns,fun i y v h1 h2 h3=>?_⟩,fun y c h=>⟨_,x.cell y c h⟩,e0.hok.fresh (Nat.le_refl _),fun y c h=>?_,fun p hp=>absurd (show p ∈ ([]:List (Addr × Obj)) from hp) (by simp),e0.hok.kept hk,?_⟩
 ·exact name_of_addr x.apart (PySem.mem_of_lookup h1) (PySem.mem_of_lookup h2)
 ·have hy:scope.names.lookup y=some .cell∨scope.names.lookup y=some .free:=hy
  rcases hy with hy | hy
  ·exact cell_has hy
  ·exact absurd rfl (S.nofree _ (PySem.mem_of_lookup hy))
 ·exact Nat.le_of_lt (x.above y c (PySem.mem_of_lookup h))
 ·have hi:i < vs.length:=by
   unfold start at h2
   by_cases hi:i < vs.length
   ·exact hi
   ·rw[List.getElem?_append_right (by simpa using hi)] at h2
    rw[List.getElem?_replicate] at h2
    split at h2 <;> cases h2
  have ha:vs[i]?=some v:=by
   unfold start at h2
   rw[List.getElem?_append_left (by simpa using hi),List.getElem?_map] at h2
   cases e:vs[i]? with
   | none=>rw[e] at h2;cases h2
   | some a=>rw[e] at h2;cases h2;rfl
  obtain⟨u,hu,rv⟩:=r.get ha
  have hp:ps[i]?=some y:=by
   rw[← S.pre,List.getElem?_take_of_lt (by omega)];exact h1
  have ndP:ps.Nodup:=by rw[← S.pre];exact S.nd.sublist (List.take_sublist _ _)
  refine⟨u,rv,?_⟩
  rcases S.par y (List.mem_of_getElem? hp) with k | k
  ·exact .inl ⟨k,bindL_get ndP hp hu k⟩
  ·obtain⟨c,e⟩:=cell_has (n:=s.heap.objs.size + 1) k
   refine .inr ⟨.inl k,c,e,?_⟩
   have q:=x.cell y c e
   rw[bindC_get ndP hp hu (by show scope.names.lookup y≠_;rw[k];decide)] at q
   exact q
 ·exact e0.hok.fresh (Nat.le_of_lt (x.above y c (PySem.mem_of_lookup h)))
 ·unfold start
  show _=N.length
  rw[List.length_append,List.length_map,List.length_replicate]
  omega
/-- THE RULE: a def (or a method) of the text, by its body. The body's reading t is chosen for each entry; it is run at the parameters' values -/
theorem fn_of {CX:CXT} {P:Program} {w:World} {K:PySem.W.Frag} {mg:Str->Option Value} {base:Heap} {k:Nat} {f:Addr} {name qual:Str} {params:Arguments} {body:List Stmt} {scope:Scope} {dV kV doc pm cdv ct oc:Value} {an od:Option Addr}
  {osl:Array (Option Value)} {N ps:List Str} {sp:Sp} (lk:K.lookup f=some ⟨oc,od,.func (PySem.W.fnOf name qual params body scope dV kV doc pm an cdv ct),osl⟩) (hcd:PySem.W.codeIn K cdv qual=true) (S:FnScope N ps scope)
  (len:∀ vs H Q E,sp vs H Q E->vs.length=ps.length)
  (hbody:∀ (A:Around) (outer:List Env) (s:Shared) (H:Hp) (vs:List V) (Q:VK) (E:XK),Room k (A.deeper (envOfC qual scope s.heap.objs.size f cdv))->sp vs H Q E ->
   ∃ t,PSs (cxOf CX P w K mg base N qual scope f cdv A outer s H E) body t∧t { nx:=fun _ H'=>Q .non H',rt:=Q } (start N vs) H) :
  FnOk P w K mg base CX (k + 1) f (PySem.W.fnOf name qual params body scope dV kV doc pm an cdv ct) ps sp:=by
 refine⟨len,fun A outer s H args us vs Q E hr e0 hb r hsp=>?_⟩
 have hl:=len _ _ _ _ hsp
 have KX:K.In s.heap:=e0.mod.kin.keeps fun b o e=>(e0.bs b o e).1
 have lim:s.heap.NoLimit:=e0.mod.nolimit.keeps fun b o e=>(e0.bs b o e).1
 have hkind:∀ y ∈ ps.zip us,scope.names.lookup y.1=some .local∨(scope.names.lookup y.1=some .cell∧((cellsFrom (s.heap.objs.size + 1) scope.names []).lookup y.1).isSome=true):=fun ⟨n,v⟩ hy=>by
  rcases S.par n (List.of_mem_zip hy).1 with q | q
  ·exact .inl q
  ·exact .inr ⟨q,PySem.W.cellsFrom_some _ _ _ (.inl q)⟩
 refine codeAny_call_function hr.depth (KX _ _ lk) rfl S.co S.gen rfl (PySem.W.codeRec_of KX hcd) (hb _ _ _ _ ?_)
 refine wpAny_newFunctionEnv_cells S.kind hkind fun env he s1 x=>?_
 subst he
 refine⟨lim.keeps x.toInCall.keep,codeAny_func ?_⟩
 obtain⟨t,ht,hq⟩:=hbody A outer s H vs Q E (hr.deeper _) hsp
 have I:Inv (cxOf CX P w K mg base N qual scope f cdv A outer s H E) [] (start N vs) H s1:=inv_start S hr.hd e0 hl r x
 refine wpAny_mono (ht [] s1 (start N vs) H _ I hq) (fun fl s' hs=>?_) fun e s' hs=>hs
 have fin:∀ {σ':St} {H':Hp} {v:V} {u:Value},Inv (cxOf CX P w K mg base N qual scope f cdv A outer s H E) [] σ' H' s'->RelV v u->Q v H'->CE outer P w H s Q u s' :=
  fun {σ' H' v u} J rv q=>⟨v,H',J.os,J.bare,J.base,J.hok,rv,q⟩
 cases fl with
 | ret u =>
  obtain⟨v,σ',H',J,rv,q⟩:=hs
  exact fin J rv q
 | next =>
  obtain⟨σ',H',J,q⟩:=hs
  exact fin (v:=V.non) (u:=Value.none) J rfl q
 | brk =>
  obtain⟨_,_,_,q⟩:=hs
  exact False.elim q
 | cont =>
  obtain⟨_,_,_,q⟩:=hs
  exact False.elim q
end L2
namespace L2
open PySem PySem.Spec PyProof.Rows
section
variable {X:Cx} {x:Str} {p pos:Pos} {e:Expr} {es:List Expr} {t:TA} {id T:String} {r:List V->Hp->VK->Prop}
def tCB (r:List V->Hp->VK->Prop) (t:TA):TE:=fun σ H Q=>t σ H fun vs H1=>r vs H1 Q
/-- f(e, ..), f a built-in function -/
theorem pe_callB (hc:CallR X (.builtin id) r) (hg:Gl X x) (hm:X.mg x=none) (hv:bootBuiltins x=some (.builtin id)) (ha:PA X (e::es) t) (hn:x≠"__name__":=by decide) (hdb:(x == ("__debug__":Str))=false:=by decide)
  (he:starEach (e::es) X.env=(false,eval e X.env)::starEach es X.env:=by rfl) (hpl:(backTo pos (starEach es X.env)).any (·.1)=false:=by rfl):PE X (.Call (.Name x p) (e::es) [] pos) (tCB r t):=by
 intro pins s σ H Q I h
 refine wpAny_Call_Name_kw (ld_blt I hg hm hv ?_ hn hdb)
 exact PyProof.Rows.callWith_builtin1 (thn (ha pos pins s σ H _ I h) fun us s1 ⟨vs,H1,I1,r1,q1⟩=>hc pins s1 σ H1 vs us Q I1 r1 q1) he hpl
/-- T(e, ..), T a built-in type -/
theorem pe_callTy (hc:CallR X (.type T) r) (hg:Gl X x) (hm:X.mg x=none) (hv:bootBuiltins x=some (.type T)) (ha:PA X (e::es) t) (hn:x≠"__name__":=by decide) (hdb:(x == ("__debug__":Str))=false:=by decide)
  (he:starEach (e::es) X.env=(false,eval e X.env)::starEach es X.env:=by rfl) (hpl:(backTo pos (starEach es X.env)).any (·.1)=false:=by rfl):PE X (.Call (.Name x p) (e::es) [] pos) (tCB r t):=by
 intro pins s σ H Q I h
 refine wpAny_Call_Name_kw (ld_blt I hg hm hv ?_ hn hdb)
 exact PyProof.Rows.callWith_type1 (thn (ha pos pins s σ H _ I h) fun us s1 ⟨vs,H1,I1,r1,q1⟩=>hc pins s1 σ H1 vs us Q I1 r1 q1) he hpl
end
end L2
namespace HT
open PySem PyProof.Rows
/-- t < u of tuples of ints -/
def lexLt:List Int->List Int->Bool
 | [],[]=>false
 | [],_::_=>true
 | _::_,[]=>false
 | x::xs,y::ys=>if x=y then lexLt xs ys else decide (x < y)
theorem lexLt_cons (x y:Int) (xs ys:List Int):lexLt (x::xs) (y::ys)=if x=y then lexLt xs ys else decide (x < y):=rfl
theorem lexLt_nil_nil:lexLt [] []=false:=rfl
theorem lexLt_nil_cons (y:Int) (ys:List Int):lexLt [] (y::ys)=true:=rfl
theorem lexLt_cons_nil (x:Int) (xs:List Int):lexLt (x::xs) []=false:=rfl
theorem eqAt_int (A:Around) (s:Shared) (a:Int) (t:Tok) (c:Int) (u:Tok):∃ e,SeqAt.EqAt A s (.int a t) (.int c u) e∧(e=true↔a=c) :=
 ⟨(a == c),SeqAt.EqAt.int_int a t c u,by simp⟩
theorem rcLt_int (A:Around) (s:Shared) (a:Int) (t:Tok) (c:Int) (u:Tok) (prog:Program) (w:World) (E:Value->Shared->Prop) (Q:Value->Shared->Prop) (h:Q (.bool (decide (a < c))) s) :
  wpAny (model prog w) A (richCompare .Lt (.int a t) (.int c u)) Q E s :=
 (PyProof.Rows.lt_int h:wpAny (model prog w) A (compareOp .Lt (.int a t) (.int c u)) Q E s)
section
open PySem.SeqAt
open PySem.AutoSeq1 (wpAny_loadPart')
open PySem.MeetsSeq PySem.MeetsSeq2 PySem.MeetsSeq3
theorem tuple_lt_ints (l b:Addr) (items items2:Array Value) (n n2:Nat) (dd dd2:Option Addr) (sl sl2:Array (Option Value)) (ns ms:List Int) (hi:IntsAre items.toList ns) (hj:IntsAre items2.toList ms) :
  Meets (Builtin.«tuple.__lt__» ⟨[.ref l,.ref b],[]⟩)
   (fun _ R s=>s.heap.get? l=some { cls:=.type "tuple",dict:=dd,data:=.seq items n,slots:=sl }∧s.heap.get? b=some { cls:=.type "tuple",dict:=dd2,data:=.seq items2 n2,slots:=sl2 } ∧
    R (.ok (.ret (.bool (lexLt ns ms)))) s) :=
 .of_wp fun prog w A R s h=>by
  obtain⟨hp,g,d,tk,os⟩:=s;obtain⟨hl,hb,h⟩:=h
  have f2:=AutoSeq1.sub_tuple_tuple
  have z1:items.size=ns.length:=by rw[← hi.length];simp
  have z2:items2.size=ms.length:=by rw[← hj.length];simp
  wp_walk using wpAny_loadPart' hl,wpAny_loadPart' hb,wpAny_forIn_list _ (fun rest b s'=>b.1=none∧s'=⟨hp,g,d,tk,os⟩∧∃ (vs ws:List Value) (ns' ms':List Int),rest=vs.zip ws ∧
   IntsAre vs ns'∧IntsAre ws ms'∧ns'.length + items2.size=ms'.length + items.size∧R (.ok (.ret (.bool (lexLt ns' ms')))) ⟨hp,g,d,tk,os⟩) _
  case turn =>
   rintro ⟨y,x⟩ rest b s' ⟨hb',rfl,vs,ws,ns',ms',hz,hvi,hwi,hlen,hR⟩
   cases hvi with
   | nil=>rw[List.zip_nil_left] at hz;cases hz
   | cons a t hvi' =>
    cases hwi with
    | nil=>rw[List.zip_nil_right] at hz;cases hz
    | cons c u hwi' =>
     rw[List.zip_cons_cons] at hz
     injection hz with hyx hrest
     injection hyx with hy hx
     subst hy hx
     rw[lexLt_cons] at hR
     simp only [List.length_cons] at hlen
     obtain⟨e,he,hiff⟩:=eqAt_int A.in1 ⟨hp,g,d,tk,os⟩ a t c u
     refine wpAny_bind (he prog w _ _ ?_)
     cases e with
     | true =>
      rw[if_pos (hiff.mp rfl)] at hR
      wp_walk
      exact⟨rfl,rfl,_,_,_,_,hrest,hvi',hwi',by omega,hR⟩
     | false =>
      rw[if_neg (fun q=>absurd (hiff.mpr q) Bool.false_ne_true)] at hR
      have hri:=rcLt_int A.in1 ⟨hp,g,d,tk,os⟩ a t c u prog w
      wp_walk using hri
      exact⟨_,rfl,by simpa using hR⟩
  case fin =>
   rintro ⟨b1,b2⟩ s' ⟨hb',rfl,vs,ws,ns',ms',hz,hvi,hwi,hlen,hR⟩
   simp only at hb'
   subst hb'
   have hv:lexLt ns' ms'=decide (items.size < items2.size):=by
    cases hvi with
    | nil =>
     cases hwi with
     | nil =>
      simp only [List.length_nil] at hlen
      rw[lexLt_nil_nil]
      exact (decide_eq_false (by omega)).symm
     | cons c u hw =>
      simp only [List.length_nil,List.length_cons] at hlen
      rw[lexLt_nil_cons]
      exact (decide_eq_true (by omega)).symm
    | cons a t hv =>
     cases hwi with
     | nil =>
      simp only [List.length_nil,List.length_cons] at hlen
      rw[lexLt_cons_nil]
      exact (decide_eq_false (by omega)).symm
     | cons c u hw =>
      rw[List.zip_cons_cons] at hz
      cases hz
   rw[hv] at hR
   wp_walk
   exact⟨_,rfl,by simpa [Builtin.Tuple.tupleCompareSizes] using hR⟩
  case h =>
   exact⟨rfl,rfl,items.toList,items2.toList,ns,ms,rfl,hi,hj,by omega,h⟩
end
section
variable {prog:Program} {w:World} {A:Around} {E:Value->Shared->Prop} {s:Shared}
theorem lt_tupInts {l b:Addr} {items items2:Array Value} {ns ms:List Int} {Q:Value->Shared->Prop} (hl:IsTup s.heap l items) (hb:IsTup s.heap b items2) (hi:IntsAre items.toList ns) (hj:IntsAre items2.toList ms)
  (hu:A.units < cLine) (h:Q (.bool (lexLt ns ms)) s):wpAny (model prog w) A (compareOp .Lt (.ref l) (.ref b)) Q E s:=by
 obtain⟨⟨cls,dd,data,sl⟩,ho,hc,n,hd⟩:=id hl
 obtain⟨⟨cls2,dd2,data2,sl2⟩,ho2,hc2,n2,hd2⟩:=id hb
 simp only at hc hd hc2 hd2
 subst hc hd hc2 hd2
 exact richCompare_meets_room (op:=.Lt) ⟨_,ho,rfl⟩ ⟨_,ho2,rfl⟩ PySem.F.slot_tuple_lt PySem.F.entry_tuple_lt (PySem.F.args_tuple_lt_2 _ _) (tuple_lt_ints l b items items2 n n2 dd dd2 sl sl2 ns ms hi hj)
  ⟨ho,ho2,show Value.bool (lexLt ns ms)≠Value.notImplemented∧Q (.bool (lexLt ns ms)) s from ⟨(fun x=>nomatch x),h⟩⟩ hu
/-- t + u, t not empty -/
theorem cat_tup {t b:Addr} {vs ws:List Value} {Q:Value->Shared->Prop} (ht:IsTup s.heap t vs.toArray) (hb:IsTup s.heap b ws.toArray) (hv:vs≠[])
  (h1:ws=[]->Q (.ref t) s) (h2:ws≠[]->Q (.ref s.heap.objs.size) { s with heap:=s.heap.push { cls:=.type "tuple",data:=.seq (vs++ws).toArray } })
  (hsz:vs.length + ws.length≤sizeLine):wpAny (model prog w) A (binaryOp .Add (.ref t) (.ref b)) Q E s:=by
 obtain⟨⟨cls,dd,data,sl⟩,ho,hc,n,hd⟩:=id ht
 obtain⟨⟨cls2,dd2,data2,sl2⟩,ho2,hc2,n2,hd2⟩:=id hb
 simp only at hc hd hc2 hd2
 subst hc hd hc2 hd2
 have e:vs.toArray++ws.toArray=(vs++ws).toArray:=by simp
 by_cases hw:ws=[]
 ·exact concat_meets ⟨_,ho,rfl⟩ ⟨_,ho2,rfl⟩ noFill_tuple_add seq_tuple_add PySem.F.slot_tuple_add PySem.F.entry_tuple_add (PySem.F.args_tuple_add_2 _ _)
   (tuple_addW1 t b vs.toArray ws.toArray n n2 dd dd2 sl sl2 (by simpa using hv) (by simp [hw])) ⟨ho,ho2,h1 hw⟩
 ·refine concat_meets ⟨_,ho,rfl⟩ ⟨_,ho2,rfl⟩ noFill_tuple_add seq_tuple_add PySem.F.slot_tuple_add PySem.F.entry_tuple_add (PySem.F.args_tuple_add_2 _ _)
   (tuple_addW2 t b vs.toArray ws.toArray n n2 dd dd2 sl sl2 (by simpa using hv) (by simpa using hw) (by rw[List.size_toArray,List.size_toArray];exact hsz)) ⟨ho,ho2,?_⟩
  rw[e]
  exact h2 hw
/-- a slice's bound as a place among n (d where it is left out) -/
def sIx (n d:Nat):Option Int->Nat
 | none=>d
 | some v=>if v < 0 then (v + (n:Int)).toNat else min v.toNat n
theorem sIx_none (n d:Nat):sIx n d none=d:=rfl
theorem sIx_nat (n d k:Nat):sIx n d (some (k:Int))=min k n:=by
 show (if (k:Int) < 0 then ((k:Int) + (n:Int)).toNat else min (k:Int).toNat n)=min k n
 rw[if_neg (by omega),Int.toNat_natCast]
theorem sIx_le (n d:Nat) (hd:d≤n) (o:Option Int):sIx n d o≤n:=by
 cases o with
 | none=>exact hd
 | some v =>
  show (if v < 0 then (v + (n:Int)).toNat else min v.toNat n)≤n
  by_cases hv:v < 0
  ·rw[if_pos hv];omega
  ·rw[if_neg hv];exact Nat.min_le_right _ _
theorem clip_eq (v:Int) (n d:Nat):(if v < 0 then max (v + (n:Int)) 0 else min v (n:Int))=((sIx n d (some v):Nat):Int):=by
 show (if v < 0 then max (v + (n:Int)) 0 else min v (n:Int))=(((if v < 0 then (v + (n:Int)).toNat else min v.toNat n):Nat):Int)
 by_cases hv:v < 0
 ·simp only [if_pos hv];omega
 ·simp only [if_neg hv];omega
theorem adjust_gen (lo hi:Option Int) (n:Nat):Builtin.Slice.sliceAdjust lo hi 1 (n:Int)=(((sIx n 0 lo:Nat):Int),((sIx n n hi:Nat):Int)):=by
 have h1:¬ ((1:Int) < 0):=by omega
 unfold Builtin.Slice.sliceAdjust
 simp only [h1,if_false]
 refine Prod.ext ?_ ?_
 ·cases lo with
  | none=>rfl
  | some v=>exact clip_eq v n 0
 ·cases hi with
  | none=>rfl
  | some v=>exact clip_eq v n n
theorem places_gen (i j:Nat):Builtin.Slice.slicePlaces (i:Int) (j:Int) 1=j - i:=by
 unfold Builtin.Slice.slicePlaces
 have h1:(1:Int) > 0:=by omega
 simp only [h1,if_true,Int.ediv_one]
 split <;> omega
theorem slicePart_ {v:Value} {o:Option Int} {Q:Option Int->Shared->Prop} (p:IsPart v o) (h:Q o s):wpAny (model prog w) A (Builtin.Slice.slicePartIndex v) Q E s:=by
 cases p with
 | none=>exact slicePart_none h
 | int i t=>exact slicePart_int h
theorem sliceApplied_gen {sl:Addr} {vl vu:Value} {lo hi:Option Int} {n:Nat} {Q:Int × Int × Nat->Shared->Prop} (hs:s.heap.IsSliceOf sl vl vu .none) (pl:IsPart vl lo) (pu:IsPart vu hi)
  (h:Q (((sIx n 0 lo:Nat):Int),1,sIx n n hi - sIx n 0 lo) s):wpAny (model prog w) A (Builtin.Slice.sliceApplied (.ref sl) (pure (n:Int))) Q E s:=by
 obtain⟨os,hos,hcs,hds⟩:=id hs
 unfold Builtin.Slice.sliceApplied Builtin.Slice.sliceFields
 refine wpAny_bind (wpAny_bind (wpAny_field hos hds (x:=vl) rfl (wpAny_bind (wpAny_field hos hds (x:=vu) rfl (wpAny_bind (wpAny_field hos hds (x:=.none) rfl (wpAny_pure ?_)))))))
 refine wpAny_bind (slicePart_none ?_)
 show wpAny _ _ (if ((1:Int) == 0)=true then _ else _) _ _ s
 rw[if_neg (by decide)]
 refine wpAny_bind (slicePart_ pl (wpAny_bind (slicePart_ pu (wpAny_bind (wpAny_pure ?_)))))
 show wpAny _ _ (match Builtin.Slice.sliceAdjust lo hi 1 (n:Int) with | (lo,hi)=>pure (lo,(1:Int),Builtin.Slice.slicePlaces lo hi 1)) _ _ s
 rw[adjust_gen lo hi n]
 show wpAny _ _ (pure (((sIx n 0 lo:Nat):Int),(1:Int),Builtin.Slice.slicePlaces ((sIx n 0 lo:Nat):Int) ((sIx n n hi:Nat):Int) 1)) _ _ s
 rw[places_gen]
 exact wpAny_pure h
theorem pick_gen (xs:Array Value) (i k:Nat):((List.range k).filterMap fun (m:Nat)=>xs[((i:Int) + (m:Int) * 1).toNat]?).toArray=((xs.toList.drop i).take k).toArray:=by
 have e:(fun (m:Nat)=>xs[((i:Int) + (m:Int) * 1).toNat]?)=fun m=>xs[i + m]?:=by
  funext m
  have:((i:Int) + (m:Int) * 1).toNat=i + m:=by omega
  rw[this]
 rw[e]
 have:=pick_run xs i k
 rw[List.filterMap_map] at this
 have e2:((fun x=>xs[x]?) ∘ fun x=>i + x)=fun m=>xs[i + m]?:=rfl
 rw[e2] at this
 rw[this]
theorem getItem_tuple_cut {t sl:Addr} {items:Array Value} {vl vu:Value} {lo hi:Option Int} {Q:Value->Shared->Prop} (ht:IsTup s.heap t items) (hs:s.heap.IsSliceOf sl vl vu .none) (pl:IsPart vl lo) (pu:IsPart vu hi)
  (hw:¬ (sIx items.size 0 lo=0∧sIx items.size items.size hi=items.size))
  (h:Q (.ref s.heap.objs.size) { s with heap:=s.heap.push { cls:=.type "tuple",data:=.seq ((items.toList.drop (sIx items.size 0 lo)).take (sIx items.size items.size hi - sIx items.size 0 lo)).toArray } })
  (hsz:items.size≤sizeLine):wpAny (model prog w) A (getItem (.ref t) (.ref sl)) Q E s:=by
 have htake:sizeOk (.seq ((items.toList.drop (sIx items.size 0 lo)).take (sIx items.size items.size hi - sIx items.size 0 lo)).toArray):=by
  show ((items.toList.drop (sIx items.size 0 lo)).take (sIx items.size items.size hi - sIx items.size 0 lo)).toArray.size≤sizeLine
  rw[List.size_toArray,List.length_take,List.length_drop,Array.length_toList]
  omega
 have hj:sIx items.size items.size hi≤items.size:=sIx_le _ _ (Nat.le_refl _) hi
 obtain⟨os,hos,hcs,hds⟩:=id hs
 have hTs:s.TypeIs (.ref sl) "slice":=⟨os,hos,hcs⟩
 unfold getItem
 try with_reducible refine wpAny_holding ?_
 first | refine wpAny_bind (wpAny_pure ?_) | skip
 refine wpAny_bind (wpAny_sequenceKey ht.typeIs (by decide) ?_)
 refine wpAny_bind (wpAny_callSpecial?_slot (name:=Str.ofString "__getitem__") ht.typeIs PyProof.Rows.slot_tuple_getitem
  (wpAny_call_entry PyProof.Rows.slot_tuple_getitem ht.typeIs entry_tuple_getitem ?_ (args_tuple_getitem _ _)))
 show wpAny _ _ (Builtin.Tuple.tupleItemsOf (.ref t) >>= _) _ _ s
 refine wpAny_bind (tupleItemsOf_ ht ?_)
 refine wpAny_bind (wpAny_typeOf hTs ?_)
 rw[if_pos (by decide)]
 refine wpAny_bind (sliceApplied_gen hs pl pu ?_)
 have hno:¬ ((((sIx items.size 0 lo:Nat):Int) == 0 && (1:Int) == 1 && (sIx items.size items.size hi - sIx items.size 0 lo) == items.size)=true):=by
  intro q
  rw[Bool.and_eq_true,Bool.and_eq_true] at q
  have q1:((sIx items.size 0 lo:Nat):Int)=0:=eq_of_beq q.1.1
  have q2:sIx items.size items.size hi - sIx items.size 0 lo=items.size:=eq_of_beq q.2
  exact hw ⟨by omega,by omega⟩
 show wpAny _ _ (if (((sIx items.size 0 lo:Nat):Int) == 0 && (1:Int) == 1 && (sIx items.size items.size hi - sIx items.size 0 lo) == items.size)=true then _ else _) _ _ s
 rw[if_neg hno,pick_gen]
 first
  | exact wpAny_bind (m:=Builtin.Tuple.tupleExact _) (wpAny_newObj_type (wpAny_pure ⟨_,rfl,wpAny_pure h⟩) htake)
  | exact wpAny_bind (m:=Builtin.Tuple.tupleExact _) (wpAny_newObj_type (wpAny_bind (wpAny_pure (wpAny_pure ⟨_,rfl,wpAny_pure h⟩))) htake)
  | exact wpAny_bind (wpAny_bind (m:=Builtin.Tuple.tupleExact _) (wpAny_newObj_type (wpAny_pure (wpAny_pure ⟨_,rfl,wpAny_pure h⟩)) htake))
  | exact wpAny_bind (wpAny_bind (m:=Builtin.Tuple.tupleExact _) (wpAny_newObj_type (wpAny_pure ⟨_,rfl,wpAny_pure h⟩) htake))
end
end HT
namespace L2
open PySem PySem.Spec PyProof.Rows
abbrev TO:=St->Hp->(Option Int->Hp->Prop)->Prop
/-- a slice's part (left out, or an int) -/
def PO (X:Cx) (e:Option Expr) (t:TO):Prop :=
 ∀ (pins:List (Addr × Obj)) (s:Shared) (σ:St) (H:Hp) (Q:Option Int->Hp->Prop),Inv X pins σ H s->t σ H Q ->
  wpAny (model X.prog X.w) X.A (evalPart e X.env) (fun u s'=>∃ o H',Inv X pins σ H' s'∧IsPart u o∧Q o H') X.xe s
def tNoPart:TO:=fun _ H Q=>Q none H
def tPart (t:TE):TO:=fun σ H Q=>t σ H fun x H1=>∃ i,x=.int i∧Q (some i) H1
theorem intsAre_of {ns:List Int}:∀ {us:List Value},Vals (ns.map V.int) us->IntsAre us ns:=by
 induction ns with
 | nil=>intro us r;rw[List.map_nil] at r;cases r;exact .nil
 | cons n ns ih =>
  intro us r
  rw[List.map_cons] at r
  cases r with
  | cons r1 r2 =>
   obtain⟨t,e⟩:=r1
   subst e
   exact .cons n t (ih r2)
section
variable {X:Cx} {e:Expr} {te:TE} {lo hi:Option Expr} {tl th:TO} {pos p2:Pos}
theorem po_none:PO X none tNoPart:=by
 intro pins s σ H Q I h
 rw[evalPart_none]
 exact wpAny_pure ⟨none,H,I,.none,h⟩
theorem po_some (h:PE X e te):PO X (some e) (tPart te):=by
 intro pins s σ H Q I hw
 rw[evalPart_some]
 refine thn (h pins s σ H _ I hw) fun u s1 ⟨x,H1,I1,r1,q1⟩=>?_
 obtain⟨i,rfl,q⟩:=q1
 obtain⟨t,rfl⟩:=r1
 exact⟨some i,H1,I1,.int i t,q⟩
/-- what a slice of a value is, by values: the slice object stands at sl -/
def SlR (X:Cx) (r:V->Option Int->Option Int->Hp->VK->Prop):Prop :=
 ∀ (pins:List (Addr × Obj)) (s:Shared) (σ:St) (H:Hp) (x:V) (v vl vu:Value) (lo hi:Option Int) (sl:Addr) (Q:VK),Inv X pins σ H s->RelV x v->s.heap.IsSliceOf sl vl vu .none->IsPart vl lo->IsPart vu hi->r x lo hi H Q ->
  ∃ T id,typeLookup (.type T) "__getitem__"=pure (some (.builtin id))∧s.TypeIs v T∧wpAny (model X.prog X.w) X.A (getItem v (.ref sl)) (EP X pins σ Q) X.xe s
def tSl (r:V->Option Int->Option Int->Hp->VK->Prop) (te:TE) (tl th:TO):TE:=fun σ H Q=>te σ H fun x H1=>tl σ H1 fun l H2=>th σ H2 fun u H3=>r x l u H3 Q
/-- a[lo:hi], any a -/
theorem pe_slice {r:V->Option Int->Option Int->Hp->VK->Prop} (hr:SlR X r) (he:PE X e te) (hl:PO X lo tl) (hu:PO X hi th):PE X (.Subscript e (.Slice lo hi none p2) pos) (tSl r te tl th):=by
 intro pins s σ H Q I h
 refine Subscript_ (thn (he pins s σ H _ I h) fun v s1 ⟨x,H1,I1,r1,q1⟩=>?_)
 refine wpAny_Slice (thn (hl pins s1 σ H1 _ I1 q1) fun vl s2 ⟨l,H2,I2,pl,q2⟩=>thn (hu pins s2 σ H2 _ I2 q2) fun vu s3 ⟨u,H3,I3,pu,q3⟩=>?_)
 rw[evalPart_none]
 refine wpAny_pure ?_
 have I4:Inv X pins σ H3 { s3 with heap:=s3.heap.push { cls:=.type "slice",data:=.fields #[vl,vu,.none] } }:=I3.kept (t':=s3.toks) fun b ob q=>Heap.get?_push_of_some _ q
 obtain⟨T,id,hT,ht,hg⟩:=hr pins { s3 with heap:=s3.heap.push { cls:=.type "slice",data:=.fields #[vl,vu,.none] } } σ H3 x v vl vu l u s3.heap.objs.size Q I4 r1 (Heap.IsSliceOf.new ..) pl pu q3
 show wpAny (model X.prog X.w) X.A (subscriptTail e (.Slice lo hi none p2) v (.ref s3.heap.objs.size)) (EP X pins σ Q) X.xe { s3 with heap:=s3.heap.push { cls:=.type "slice",data:=.fields #[vl,vu,.none] } }
 exact tail_any (ops:=[.ref s3.heap.objs.size,v]) ht hT hg (by with_unfolding_all rfl)
/-- the items of xs[lo:hi] -/
def cutV (xs:List V) (lo hi:Option Int):List V:=(xs.drop (HT.sIx xs.length 0 lo)).take (HT.sIx xs.length xs.length hi - HT.sIx xs.length 0 lo)
theorem cutV_length (xs:List V) (lo hi:Option Int):(cutV xs lo hi).length≤xs.length:=by
 unfold cutV
 rw[List.length_take,List.length_drop]
 omega
/-- t[lo:hi], not the whole of it (the whole would be t itself) -/
def rSlT (K:PySem.W.Frag):V->Option Int->Option Int->Hp->VK->Prop:=fun x lo hi H Q=>∃ a xs,x=.ref a∧SqT K H a xs ∧
 ¬ (HT.sIx xs.length 0 lo=0∧HT.sIx xs.length xs.length hi=xs.length)∧∀ p,H p=none->Q (.ref p) (upd H p (.tup (cutV xs lo hi)))
theorem sl_tup:SlR X (rSlT X.K):=by
 intro pins s σ H x v vl vu lo hi sl Q I rx hs pl pu h
 obtain⟨a,xs,rfl,hx,hw,q⟩:=h
 cases rx
 obtain⟨its,r,ht,hz⟩:=I.tuple hx
 have hlen:its.toArray.size=xs.length:=by rw[List.size_toArray];exact r.length.symm
 refine⟨"tuple",_,PyProof.Rows.slot_tuple_getitem.lookup,ht.typeIs,?_⟩
 refine HT.getItem_tuple_cut ht hs pl pu (by rw[hlen];exact hw) ?_ (by rw[hlen];exact hz)
 rw[hlen]
 refine⟨.ref s.heap.objs.size,_,I.laid (t':=s.toks) (o:=.tup (cutV xs lo hi)) (fun b ob q=>Heap.get?_push_of_some _ q) (Nat.le_refl _) ?_,rfl,q _ (I.hok.fresh (Nat.le_refl _))⟩
 exact⟨Nat.le_trans (cutV_length xs lo hi) hz,_,(r.drop (HT.sIx xs.length 0 lo)).take (HT.sIx xs.length xs.length hi - HT.sIx xs.length 0 lo),TupN.new _ _⟩
def rLtT (K:PySem.W.Frag):R2:=fun x y H Q=>∃ a b ns ms,x=.ref a∧y=.ref b∧SqT K H a (ns.map V.int)∧SqT K H b (ms.map V.int)∧Q (.bl (HT.lexLt ns ms)) H
theorem op_ltT (hu:X.A.units < cLine):OpR X (compareOp .Lt) (rLtT X.K):=by
 intro pins s σ H x y v u Q I rx ry h
 obtain⟨a,b,ns,ms,rfl,rfl,ha,hb,q⟩:=h
 cases rx
 cases ry
 obtain⟨its,r1,p1,_⟩:=I.tuple ha
 obtain⟨its2,r2,p2,_⟩:=I.tuple hb
 have i1:IntsAre its.toArray.toList ns:=intsAre_of r1
 have i2:IntsAre its2.toArray.toList ms:=intsAre_of r2
 exact HT.lt_tupInts p1 p2 i1 i2 hu ⟨.bl (HT.lexLt ns ms),H,I,rfl,q⟩
/-- t + u, t not empty: u empty gives t itself -/
def rCatT (K:PySem.W.Frag):R2:=fun x y H Q=>∃ a b xs ys,x=.ref a∧y=.ref b∧SqT K H a xs∧SqT K H b ys∧xs≠[]∧xs.length + ys.length≤sizeLine ∧
 (ys=[]->Q (.ref a) H)∧(ys≠[]->∀ p,H p=none->Q (.ref p) (upd H p (.tup (xs++ys))))
theorem Vals.nil_iff {xs:List V} {us:List Value} (r:Vals xs us):us=[]↔xs=[]:=by
 cases r with
 | nil=>simp
 | cons _ _=>simp
theorem op_catT:OpR X (binaryOp .Add) (rCatT X.K):=by
 intro pins s σ H x y v u Q I rx ry h
 obtain⟨a,b,xs,ys,rfl,rfl,ha,hb,hx,hz,q1,q2⟩:=h
 cases rx
 cases ry
 obtain⟨its,r1,p1,_⟩:=I.tuple ha
 obtain⟨its2,r2,p2,_⟩:=I.tuple hb
 refine HT.cat_tup p1 p2 (fun z=>hx (r1.nil_iff.mp z)) (fun z=>⟨.ref a,H,I,rfl,q1 (r2.nil_iff.mp z)⟩) (fun z=>?_) (by rw[← r1.length,← r2.length];exact hz)
 refine⟨.ref s.heap.objs.size,_,I.laid (t':=s.toks) (o:=.tup (xs++ys)) (fun b ob q=>Heap.get?_push_of_some _ q) (Nat.le_refl _) ?_,rfl,q2 (fun w=>z (r2.nil_iff.mpr w)) _ (I.hok.fresh (Nat.le_refl _))⟩
 exact⟨by rw[List.length_append];exact hz,_,r1.append r2,TupN.new _ _⟩
end
end L2
namespace L2
open PySem PySem.Spec PyProof.Rows
/-- the place that an index of any sign means -/
def ixN (n:Nat) (i:Int):Option Nat:=if 0≤i then (if i < n then some i.toNat else none) else if -(n:Int)≤i then some (i + n).toNat else none
def atI {α:Type} (xs:List α) (i:Int):Option α:=(ixN xs.length i).bind fun j=>xs[j]?
theorem ixN_seq {n:Nat} {i:Int} {j:Nat} (h:ixN n i=some j):seqIndex? i n=some j∧j < n∧-(n:Int)≤i∧i < n:=by
 unfold ixN at h
 by_cases h0:0≤i
 ·rw[if_pos h0] at h
  by_cases h1:i < n
  ·rw[if_pos h1] at h
   have e:i.toNat=j:=Option.some.inj h
   exact⟨by rw[seqIndex_of h0 h1,e],by omega,by omega,h1⟩
  ·rw[if_neg h1] at h;cases h
 ·rw[if_neg h0] at h
  by_cases h1:-(n:Int)≤i
  ·rw[if_pos h1] at h
   have e:(i + n).toNat=j:=Option.some.inj h
   exact⟨by rw[seqIndex_neg (by omega) h1,e],by omega,h1,by omega⟩
  ·rw[if_neg h1] at h;cases h
theorem atI_get {α:Type} {xs:List α} {i:Int} {v:α} (h:atI xs i=some v):∃ j,seqIndex? i xs.length=some j∧xs[j]?=some v∧j < xs.length∧-(xs.length:Int)≤i∧i < xs.length:=by
 unfold atI at h
 cases e:ixN xs.length i with
 | none=>rw[e] at h;cases h
 | some j =>
  rw[e] at h
  obtain⟨h1,h2,h3,h4⟩:=ixN_seq e
  exact⟨j,h1,h,h2,h3,h4⟩
theorem atI_nat {α:Type} {xs:List α} {j:Nat} {v:α} (h:xs[j]?=some v):atI xs (j:Int)=some v:=by
 have hj:j < xs.length:=(List.getElem?_eq_some_iff.mp h).1
 have e:ixN xs.length (j:Int)=some j:=by
  unfold ixN
  rw[if_pos (by omega),if_pos (by omega)];simp
 unfold atI;rw[e];exact h
/-- what stands as an index of a plain subscript -/
def PlainIx (b:Expr):Prop:=∀ o i,subscripted b false o i=operate [o,i] (getItem o i)
/-- a subscript by values -/
def IxR (X:Cx) (r:R2):Prop :=
 ∀ (value slice:Expr) (pins:List (Addr × Obj)) (s:Shared) (σ:St) (H:Hp) (x y:V) (v u:Value) (Q:VK),Inv X pins σ H s->RelV x v->RelV y u->r x y H Q ->
  subscripted slice false v u=operate [v,u] (getItem v u)->wpAny (model X.prog X.w) X.A (subscriptTail value slice v u) (EP X pins σ Q) X.xe s
/-- a call of a builtin's method by values: the receiver, the arguments -/
def MtR (X:Cx) (id:String) (r:V->List V->Hp->VK->Prop):Prop :=
 ∀ (pins:List (Addr × Obj)) (s:Shared) (σ:St) (H:Hp) (x:V) (xs:List V) (v:Value) (us:List Value) (Q:VK),Inv X pins σ H s->RelV x v->Vals xs us->r x xs H Q ->
  wpAny (model X.prog X.w) X.A (call (.builtin id) (v::us)) (EP X pins σ Q) X.xe s
section
variable {X:Cx} {a b:Expr} {ta tb:TE} {pos:Pos}
/-- a[b] -/
theorem pe_ix {r:R2} (hr:IxR X r) (ha:PE X a ta) (hb:PE X b tb) (hs:PlainIx b):PE X (.Subscript a b pos) (tOp r ta tb):=by
 intro pins s σ H Q I h
 exact Subscript_ (binT ha hb I h fun v u s2 x y H2 I2 rx ry q=>hr a b pins s2 σ H2 x y v u Q I2 rx ry q (hs _ _))
def rIxL (K:PySem.W.Frag):R2:=fun x y H Q=>∃ p xs i v,x=.ref p∧y=.int i∧SqL K H p xs∧atI xs i=some v∧Q v H
def rIxT (K:PySem.W.Frag):R2:=fun x y H Q=>∃ p xs i v,x=.ref p∧y=.int i∧SqT K H p xs∧atI xs i=some v∧Q v H
theorem ix_list:IxR X (rIxL X.K):=by
 intro value slice pins s σ H x y v u Q I rx ry h hs
 obtain⟨p,xs,i,z,rfl,rfl,hq,he,q⟩:=h
 cases rx
 obtain⟨t,rfl⟩:=ry
 obtain⟨its,r,pl,hz⟩:=I.list hq
 obtain⟨j,h1,h2,h3,h4,h5⟩:=atI_get he
 obtain⟨w,ew,rw'⟩:=r.get h2
 have hl:=r.length
 have hn:=line63
 have fin:EP X pins σ Q w s:=⟨z,H,I,rw',q⟩
 by_cases h0:0≤i
 ·have hj:i.toNat=j:=by
   rw[seqIndex_of h0 h5] at h1
   exact Option.some.inj h1
  exact item_listR pl.isList h0 (by omega) (by rw[hj];simpa using ew) fin hs
 ·have hj:(i + (its.toArray.size:Int)).toNat=j:=by
   rw[seqIndex_neg (by omega) h4] at h1
   rw[List.size_toArray,← hl]
   exact Option.some.inj h1
  exact subscriptTail_builtinR (x:=w) pl.isList.typeIs slot_list_getitem.lookup
   (wpAny_getItem_list_neg (Q:=fun r s'=>r=w∧EP X pins σ Q r s') pl.isList (by omega) (by rw[List.size_toArray] <;> omega) (by omega) (by rw[hj];simpa using ew) ⟨rfl,fin⟩) hs
theorem ix_tup:IxR X (rIxT X.K):=by
 intro value slice pins s σ H x y v u Q I rx ry h hs
 obtain⟨p,xs,i,z,rfl,rfl,hq,he,q⟩:=h
 cases rx
 obtain⟨t,rfl⟩:=ry
 obtain⟨its,r,pl,hz⟩:=I.tuple hq
 obtain⟨j,h1,h2,h3,h4,h5⟩:=atI_get he
 obtain⟨w,ew,rw'⟩:=r.get h2
 have hl:=r.length
 have hn:=line63
 have fin:EP X pins σ Q w s:=⟨z,H,I,rw',q⟩
 exact subscriptTail_builtinR (x:=w) pl.typeIs slot_tuple_getitem.lookup
  (getItem_tuple (j:=j) (Q:=fun r s'=>r=w∧EP X pins σ Q r s') pl (by omega) (by omega) (by rw[List.size_toArray,← hl];exact h1) (by simpa using ew) ⟨rfl,fin⟩) hs
/-- the list's object behind a store -/
theorem mapSeq_set (its:List Value) (n j:Nat) (u:Value):Obj.mapSeq (·.setIfInBounds j u) { cls:=.type "list",data:=.seq its.toArray n }={ cls:=.type "list",data:=.seq (its.set j u).toArray n }:=by
 simp [Obj.mapSeq]
theorem Inv.lst {pins:List (Addr × Obj)} {σ:St} {H:Hp} {s:Shared} {p:Addr} {xs:List V} (I:Inv X pins σ H s) (h:H p=some (.lst xs)) :
  ∃ (its:List Value) (n:Nat),Vals xs its∧s.heap.get? p=some { cls:=.type "list",data:=.seq its.toArray n }∧xs.length≤sizeLine:=by
 obtain⟨z,its,n,r,e⟩:=I.hok p _ h
 exact⟨its,n,r,e,z⟩
/-- the list at p is written by an update of its object -/
theorem Inv.lstUpd {pins:List (Addr × Obj)} {σ:St} {H:Hp} {s:Shared} {p:Addr} {xs ys:List V} {its its':List Value} {n n':Nat} {f:Obj->Obj} (I:Inv X pins σ H s) (h:H p=some (.lst xs))
  (ho:s.heap.get? p=some { cls:=.type "list",data:=.seq its.toArray n }) (hf:f { cls:=.type "list",data:=.seq its.toArray n }={ cls:=.type "list",data:=.seq its'.toArray n' }) (r:Vals ys its') (hz:ys.length≤sizeLine) (t:Nat) :
  Inv X pins σ (upd H p (.lst ys)) { s with heap:=s.heap.update p f,toks:=t }:=by
 have e:(s.heap.update p f).get? p=some { cls:=.type "list",data:=.seq its'.toArray n' }:=by
  rw[Heap.get?_update_self f ho (by rw[hf] <;> rfl),hf]
 refine I.write (x:=p) (e:=p) (by rw[h];trivial) (.inl rfl) (fun b u hb q=>(Heap.get?_update_other _ _ (Ne.symm hb)).trans q) ⟨_,e⟩ ?_
 exact⟨hz,its',n',r,e⟩
def rSetL:V->V->V->Hp->(Hp->Prop)->Prop:=fun o i v H Q=>∃ p xs k j,o=.ref p∧i=.int k∧H p=some (.lst xs)∧ixN xs.length k=some j∧Q (upd H p (.lst (xs.set j v)))
theorem set_list:PSet X rSetL:=by
 intro pins s σ H o i v ov iv u Q I ro ri rv h
 obtain⟨p,xs,k,j,rfl,rfl,hp,hj,q⟩:=h
 cases ro
 obtain⟨t,rfl⟩:=ri
 obtain⟨its,n,r,ho,hz⟩:=I.lst hp
 obtain⟨h1,h2,h3,h4⟩:=ixN_seq hj
 have hl:=r.length
 have hn:=line63
 have I':Inv X pins σ (upd H p (.lst (xs.set j v))) { s with heap:=s.heap.update p (Obj.mapSeq (·.setIfInBounds j u)) } :=
  I.lstUpd hp ho (mapSeq_set its n j u) (r.set rv j) (by rw[List.length_set];exact hz) s.toks
 by_cases h0:0≤k
 ·have hk:k.toNat=j:=by
   rw[seqIndex_of h0 h4] at h1
   exact Option.some.inj h1
  exact PySem.W.ki_setAt ho h0 (by omega) (by rw[List.size_toArray,← hl];exact h4) (by rw[hk];exact⟨_,I',q⟩)
 ·have hk:(k + (its.toArray.size:Int)).toNat=j:=by
   rw[seqIndex_neg (by omega) h3] at h1
   rw[List.size_toArray,← hl]
   exact Option.some.inj h1
  exact PySem.W.ki_setBack ho (by omega) (by rw[List.size_toArray,← hl];exact h3) (by omega) (by rw[hk];exact⟨_,I',q⟩)
theorem slice_bounds (lo hi:Option Int) (n:Nat):(sliceBounds lo hi none n).1=((HT.sIx n 0 lo:Nat):Int)∧(sliceBounds lo hi none n).2.1=((HT.sIx n n hi:Nat):Int)∧(sliceBounds lo hi none n).2.2=1:=by
 refine⟨?_,?_,rfl⟩
 ·cases lo with
  | none=>simp [sliceBounds,HT.sIx]
  | some i =>
   simp only [sliceBounds,HT.sIx,Option.getD_none,show (1:Int) > 0 by decide,if_true]
   by_cases h:i < 0
   ·simp only [h,if_true] <;> omega
   ·simp only [h,if_false] <;> omega
 ·cases hi with
  | none=>simp [sliceBounds,HT.sIx]
  | some i =>
   simp only [sliceBounds,HT.sIx,Option.getD_none,show (1:Int) > 0 by decide,if_true]
   by_cases h:i < 0
   ·simp only [h,if_true] <;> omega
   ·simp only [h,if_false] <;> omega
theorem slicePick_cut (its:List Value) (lo hi:Option Int):slicePick its.toArray lo hi none=((its.drop (HT.sIx its.length 0 lo)).take (HT.sIx its.length its.length hi - HT.sIx its.length 0 lo)).toArray:=by
 obtain⟨h1,h2,h3⟩:=slice_bounds lo hi its.toArray.size
 unfold slicePick
 rw[h1,h2,h3]
 simp only [sliceRange_one,pick_run,List.size_toArray] <;> rfl
/-- xs[lo:hi] of a list: a new list -/
def rSlL (K:PySem.W.Frag):V->Option Int->Option Int->Hp->VK->Prop:=fun x lo hi H Q=>∃ a xs,x=.ref a∧SqL K H a xs∧∀ p,H p=none->Q (.ref p) (upd H p (.lst (cutV xs lo hi)))
theorem sl_list:SlR X (rSlL X.K):=by
 intro pins s σ H x v vl vu lo hi sl Q I rx hs pl pu h
 obtain⟨a,xs,rfl,hx,q⟩:=h
 cases rx
 obtain⟨its,r,ht,hz⟩:=I.list hx
 have hlen:=r.length
 refine⟨"list",_,slot_list_getitem.lookup,ht.isList.typeIs,?_⟩
 refine wpAny_getItem_list_slice ht.isList hs pl pu .none (by simp) ?_ (by rw[List.size_toArray] <;> omega)
 rw[slicePick_cut,← hlen]
 refine⟨.ref s.heap.objs.size,_,I.laid (t':=s.toks) (o:=.lst (cutV xs lo hi)) (fun b ob q=>Heap.get?_push_of_some _ q) (Nat.le_refl _) ?_,rfl,q _ (I.hok.fresh (Nat.le_refl _))⟩
 exact⟨Nat.le_trans (cutV_length xs lo hi) hz,_,0,(r.drop (HT.sIx xs.length 0 lo)).take (HT.sIx xs.length xs.length hi - HT.sIx xs.length 0 lo),Heap.get?_push_size _ rfl⟩
def flatV:V->Bool
 | .non=>true
 | .bl _=>true
 | .int _=>true
 | .str _=>true
 | _=>false
/-- == of flat values -/
def eqV:V->V->Bool
 | .non,.non=>true
 | .bl a,.bl b=>a == b
 | .bl a,.int b=>(if a then 1 else 0) == b
 | .int a,.bl b=>a == (if b then 1 else 0)
 | .int a,.int b=>a == b
 | .str a,.str b=>a == b
 | _,_=>false
theorem eqAt_V {A:Around} {s:Shared} {y x:V} {u v:Value} (ry:RelV y u) (rx:RelV x v) (fy:flatV y=true) (fx:flatV x=true):SeqAt.EqAt A s u v (eqV y x):=by
 cases y with
 | non =>
  cases ry
  cases x with
  | non=>cases rx;exact SeqAt.EqAt.same _
  | bl b=>cases rx;exact SeqAt.EqAt.none_bool b
  | int b=>obtain⟨t,rfl⟩:=rx;exact SeqAt.EqAt.none_int b t
  | str b=>obtain⟨t,rfl⟩:=rx;exact SeqAt.EqAt.none_str b t
  | _=>exact absurd (show false=true from fx) Bool.false_ne_true
 | bl a =>
  cases ry
  cases x with
  | non=>cases rx;exact SeqAt.EqAt.bool_none a
  | bl b=>cases rx;exact SeqAt.EqAt.bool_bool a b
  | int b=>obtain⟨t,rfl⟩:=rx;exact SeqAt.EqAt.bool_int a b t
  | str b=>obtain⟨t,rfl⟩:=rx;exact SeqAt.EqAt.bool_str a b t
  | _=>exact absurd (show false=true from fx) Bool.false_ne_true
 | int a =>
  obtain⟨t',rfl⟩:=ry
  cases x with
  | non=>cases rx;exact SeqAt.EqAt.int_none a t'
  | bl b=>cases rx;exact SeqAt.EqAt.int_bool a t' b
  | int b=>obtain⟨t,rfl⟩:=rx;exact SeqAt.EqAt.int_int a t' b t
  | str b=>obtain⟨t,rfl⟩:=rx;exact SeqAt.EqAt.int_str a t' b t
  | _=>exact absurd (show false=true from fx) Bool.false_ne_true
 | str a =>
  obtain⟨t',rfl⟩:=ry
  cases x with
  | non=>cases rx;exact SeqAt.EqAt.str_none a t'
  | bl b=>cases rx;exact SeqAt.EqAt.str_bool a t' b
  | int b=>obtain⟨t,rfl⟩:=rx;exact SeqAt.EqAt.str_int a t' b t
  | str b=>obtain⟨t,rfl⟩:=rx;exact SeqAt.EqAt.str_str a t' b t
  | _=>exact absurd (show false=true from fx) Bool.false_ne_true
 | _=>exact absurd (show false=true from fy) Bool.false_ne_true
/-- the items' answers, read off the values (a value's own answer does not lean on its token) -/
def eqU (x:V) (u:Value):Bool:=match u with
 | .none=>eqV .non x
 | .bool b=>eqV (.bl b) x
 | .int i _=>eqV (.int i) x
 | .str z _=>eqV (.str z) x
 | _=>false
theorem eqU_of {x y:V} {u:Value} (r:RelV y u) (f:flatV y=true):eqU x u=eqV y x:=by
 cases y with
 | non=>cases r;rfl
 | bl b=>cases r;rfl
 | int i=>obtain⟨t,rfl⟩:=r;rfl
 | str z=>obtain⟨t,rfl⟩:=r;rfl
 | _=>exact absurd (show false=true from f) Bool.false_ne_true
theorem any_eqU {x:V}:∀ {xs:List V} {us:List Value},Vals xs us->xs.all flatV=true->us.any (eqU x)=xs.any fun y=>eqV y x
 | _,_,.nil,_=>rfl
 | y::xs,u::us,.cons r t,f=>by
  rw[List.all_cons,Bool.and_eq_true] at f
  rw[List.any_cons,List.any_cons,eqU_of r f.1,any_eqU t f.2]
theorem mem_eqAt {A:Around} {s:Shared} {x:V} {v:Value} (rx:RelV x v) (fx:flatV x=true):∀ {xs:List V} {us:List Value},Vals xs us->xs.all flatV=true->∀ u ∈ us,SeqAt.EqAt A s u v (eqU x u)
 | _,_,.nil,_=>fun u hu=>by cases hu
 | y::xs,u::us,.cons r t,f=>fun u' hu=>by
  rw[List.all_cons,Bool.and_eq_true] at f
  rcases List.mem_cons.mp hu with rfl | hu
  ·rw[eqU_of r f.1];exact eqAt_V r rx f.1 fx
  ·exact mem_eqAt rx fx t f.2 u' hu
def inV (x:V) (xs:List V):Bool:=xs.any fun y=>eqV y x
/-- x in a list or tuple of flat items -/
def rIn (K:PySem.W.Frag) (neg:Bool):R2:=fun x y H Q=>∃ p xs,y=.ref p∧(SqL K H p xs∨SqT K H p xs)∧flatV x=true∧xs.all flatV=true∧Q (.bl (if neg then !inV x xs else inV x xs)) H
theorem op_in_seq:OpR X (compareOp .In) (rIn X.K false):=by
 intro pins s σ H x y v u Q I rx ry h
 obtain⟨p,xs,rfl,hq,fx,fs,q⟩:=h
 cases ry
 rcases hq with hq | hq
 ·obtain⟨its,r,pl,hz⟩:=I.list hq
  refine SeqAt.in_listAt (eqU x) pl.isList (fun w hw=>mem_eqAt rx fx r fs w (by simpa using hw)) ⟨.bl _,H,I,rfl,?_⟩
  rw[show its.toArray.any (eqU x)=its.any (eqU x) by simp,any_eqU r fs]
  exact q
 ·obtain⟨its,r,pl,hz⟩:=I.tuple hq
  refine SeqAt.in_tupleAt (eqU x) pl (fun w hw=>mem_eqAt rx fx r fs w (by simpa using hw)) ⟨.bl _,H,I,rfl,?_⟩
  rw[show its.toArray.any (eqU x)=its.any (eqU x) by simp,any_eqU r fs]
  exact q
theorem op_notIn_seq:OpR X (compareOp .NotIn) (rIn X.K true):=by
 intro pins s σ H x y v u Q I rx ry h
 obtain⟨p,xs,rfl,hq,fx,fs,q⟩:=h
 cases ry
 rcases hq with hq | hq
 ·obtain⟨its,r,pl,hz⟩:=I.list hq
  refine SeqAt.notIn_listAt (eqU x) pl.isList (fun w hw=>mem_eqAt rx fx r fs w (by simpa using hw)) ⟨.bl _,H,I,rfl,?_⟩
  rw[show its.toArray.any (eqU x)=its.any (eqU x) by simp,any_eqU r fs]
  exact q
 ·obtain⟨its,r,pl,hz⟩:=I.tuple hq
  refine SeqAt.notIn_tupleAt (eqU x) pl (fun w hw=>mem_eqAt rx fx r fs w (by simpa using hw)) ⟨.bl _,H,I,rfl,?_⟩
  rw[show its.toArray.any (eqU x)=its.any (eqU x) by simp,any_eqU r fs]
  exact q
theorem call_len_seq:CallR X (.builtin "len") (fun xs H Q=>∃ p ys,xs=[.ref p]∧(SqL X.K H p ys∨SqT X.K H p ys)∧Q (.int ys.length) H):=by
 intro pins s σ H xs us Q I r h
 obtain⟨p,ys,rfl,hq,q⟩:=h
 obtain⟨u,rfl,rx⟩:=vals1 r
 cases rx
 have hn:=line63
 rcases hq with hq | hq
 ·obtain⟨its,r',pl,hz⟩:=I.list hq
  have hlen:=r'.length
  exact Calls.call_len_list pl.isList (by simp only [List.size_toArray] <;> omega) ⟨.int ys.length,H,I.tok _,⟨s.toks + 1,by rw[List.size_toArray,hlen]⟩,q⟩
 ·obtain⟨its,r',pl,hz⟩:=I.tuple hq
  have hlen:=r'.length
  exact len_tuple pl (by simp only [List.size_toArray] <;> omega) ⟨.int ys.length,H,I.tok _,⟨s.toks + 1,by rw[List.size_toArray,hlen]⟩,q⟩
theorem call_tuple_of:CallR X (.type "tuple") (fun xs H Q=>∃ p ys,xs=[.ref p]∧((SqL X.K H p ys∧∀ l,H l=none->Q (.ref l) (upd H l (.tup ys)))∨(SqT X.K H p ys∧Q (.ref p) H))):=by
 intro pins s σ H xs us Q I r h
 obtain⟨p,ys,rfl,h⟩:=h
 obtain⟨u,rfl,rx⟩:=vals1 r
 cases rx
 rcases h with ⟨hq,q⟩ | ⟨hq,q⟩
 ·obtain⟨its,r',pl,hz⟩:=I.list hq
  have hlen:=r'.length
  refine call_tuple_list pl.isList (fun h' kp=>?_) (by simp only [List.size_toArray] <;> omega)
  have I1:Inv X pins σ H { s with heap:=h' }:=I.kept (t':=s.toks) kp
  have I2:Inv X pins σ (upd H h'.objs.size (.tup ys)) { s with heap:=h'.push { cls:=.type "tuple",data:=.seq its.toArray } } :=
   I1.laid (t':=s.toks) (fun b o e=>Heap.get?_push_of_some _ e) (Nat.le_refl _) (show ObjOk X.prog X.w _ _ _ (.tup ys) from ⟨hz,its,r',TupN.new _ _⟩)
  exact⟨.ref h'.objs.size,_,I2,rfl,q _ (I1.hok.fresh (Nat.le_refl _))⟩
 ·obtain⟨its,r',pl,hz⟩:=I.tuple hq
  exact call_tuple_same pl ⟨.ref p,H,I,rfl,q⟩
/-- the value is of that builtin type -/
def tyV (K:PySem.W.Frag) (T:String) (x:V) (H:Hp):Prop:=match x with
 | .str _=>T="str"
 | .int _=>T="int"
 | .ref p => (T = "list" ∧ ∃ xs, SqL K H p xs) ∨ (T = "tuple" ∧ ∃ o, K.lookup p = some o ∧ o.cls = .type "tuple" ∧ o.dict = none) ∨
     (T="dict"∧((∃ kvs,H p=some (.dK kvs))∨∃ kvs,H p=some (.dT kvs)))∨(T="set"∧∃ S n,H p=some (.set S n))
 | _=>False
theorem tyV_is {pins:List (Addr × Obj)} {σ:St} {H:Hp} {s:Shared} {T:String} {x:V} {v:Value} (I:Inv X pins σ H s) (r:RelV x v) (ty:tyV X.K T x H) :
  s.TypeIs v T∧∀ a,v=.ref a->∃ ob,s.heap.get? a=some ob∧ob.dict=none:=by
 cases x with
 | str z =>
  obtain⟨t,rfl⟩:=r
  cases (show T="str" from ty)
  exact⟨typeIs_str s z t,fun _ e=>nomatch e⟩
 | int i =>
  obtain⟨t,rfl⟩:=r
  cases (show T="int" from ty)
  exact⟨typeIs_int s i t,fun _ e=>nomatch e⟩
 | ref p =>
  cases r
  rcases ty with ⟨rfl,xs,hq⟩ | ⟨rfl,o,hk,hc,hd⟩ | ⟨rfl,hk⟩ | ⟨rfl,S,n,hk⟩
  ·obtain⟨its,_,pl,_⟩:=I.list hq
   refine⟨pl.isList.typeIs,fun a e=>?_⟩
   cases e
   obtain⟨o,n,e,c,hd,_⟩:=pl
   exact⟨o,e,hd⟩
  ·refine⟨⟨o,I.kIn p o hk,hc⟩,fun a e=>?_⟩
   cases e
   exact⟨o,I.kIn _ o hk,hd⟩
  ·have z:∃ o,s.heap.get? p=some o∧o.ExactDict:=by
    rcases hk with ⟨kvs,hk⟩ | ⟨kvs,hk⟩
    ·obtain⟨_,_,_,_,o,_,_,e,ex,_⟩:=I.hok p _ hk
     exact⟨o,e,ex⟩
    ·obtain⟨_,_,_,_,o,_,_,e,ex,_⟩:=I.hok p _ hk
     exact⟨o,e,ex⟩
   obtain⟨o,e,ex⟩:=z
   refine⟨⟨o,e,ex.1⟩,fun a e2=>?_⟩
   cases e2
   exact⟨o,e,ex.2.1⟩
  ·obtain⟨o,_,_,_,e,ex,_⟩:=I.hok p _ hk
   refine⟨⟨o,e,ex.1⟩,fun a e2=>?_⟩
   cases e2
   exact⟨o,e,ex.2.1⟩
 | _=>exact False.elim ty
def tBM (K:PySem.W.Frag) (T:String) (r:V->List V->Hp->VK->Prop) (to:TE) (t:TA):TE:=fun σ H Q=>to σ H fun x H1=>tyV K T x H1∧t σ H1 fun xs H2=>r x xs H2 Q
variable {o e:Expr} {es:List Expr} {to:TE} {t:TA} {name:Str} {apos cpos:Pos} {T id:String} {r:V->List V->Hp->VK->Prop}
theorem pe_bm (pa:PlainAttrs T) (slot:Slot T name id) (hty:typeOf (.builtin id)=pure (.type "method_descriptor")) (hm:MtR X id r) (ho:PE X o to) (ha:PA X (e::es) t)
  (hbase:attributeBase o name X.env (eval o X.env)=eval o X.env:=by rfl)
  (hfew:((backTo cpos (starEach (e::es) X.env)).all (fun x=>!x.1) && (backToKw cpos (keywordEach [] X.env)).all (fun x=>x.1.isSome)
   && decide ((e::es).length + ([]:List Keyword).length + (if ([]:List Keyword).isEmpty then 0 else 1) < 30))=true:=by rfl)
  (hline:(apos.endLine == cpos.line)=true:=by rfl) (hs:starEach (e::es) X.env=(false,eval e X.env)::starEach es X.env:=by rfl) (hplain:(backTo cpos (starEach es X.env)).any (·.1)=false:=by rfl) :
  PE X (.Call (.Attribute o name apos) (e::es) [] cpos) (tBM X.K T r to t):=by
 intro pins s σ H Q I h
 refine wpAny_Call_method_late hbase hfew hline rfl (thn (ho pins s σ H _ I h) fun v s1 ⟨x,H1,I1,r1,ty,q1⟩=>?_)
 obtain⟨h1,h2⟩:=tyV_is I1 r1 ty
 refine⟨T,id,pa,slot,hty,h1,h2,?_⟩
 have hA:=ha cpos pins s1 σ H1 _ I1 q1
 rw[hs] at hA ⊢
 refine Calls.callWith_builtin (by show (false || (backTo cpos (starEach es X.env)).any (·.1))=false;rw[hplain] <;> rfl) (Calls.evalArgs_plain ?_)
 exact thn hA fun us s2 ⟨vs,H2,I2,r2,q2⟩=>hm pins s2 σ H2 x vs v us Q I2 r1 r2 q2
end
end L2
namespace L2
open PySem PySem.Spec PyProof.Rows
def MtM (X:Cx) (id:String) (r:V->List V->Hp->VK->Prop):Prop :=
 ∀ (pins:List (Addr × Obj)) (s:Shared) (σ:St) (H:Hp) (x:V) (xs:List V) (v:Value) (us:List Value) (Q:VK),Inv X pins σ H s->RelV x v->Vals xs us->r x xs H Q ->
  wpAny (model X.prog X.w) X.A (call (.builtin id) (v::us)) (EP X pins σ Q) X.xe s
theorem Vals.one:∀ {x:V} {us:List Value},Vals [x] us->∃ u,us=[u]∧RelV x u
 | _,_,.cons r .nil=>⟨_,rfl,r⟩
theorem Vals.two:∀ {x y:V} {us:List Value},Vals [x,y] us->∃ u v,us=[u,v]∧RelV x u∧RelV y v
 | _,_,_,.cons r (.cons q .nil)=>⟨_,_,rfl,r,q⟩
theorem Vals.eraseIdx:∀ {xs:List V} {us:List Value} (i:Nat),Vals xs us->Vals (xs.eraseIdx i) (us.eraseIdx i)
 | _,_,_,.nil=>.nil
 | _,_,0,.cons _ t=>t
 | _,_,i + 1,.cons r t=>.cons r (Vals.eraseIdx i t)
theorem Vals.reverse {xs:List V} {us:List Value} (h:Vals xs us):Vals xs.reverse us.reverse:=by
 induction h with
 | nil=>exact .nil
 | cons r t ih=>rw[List.reverse_cons,List.reverse_cons];exact Vals.append ih (.cons r .nil)
theorem Vals.rep {xs:List V} {us:List Value} (h:Vals xs us):∀ k:Nat,Vals (List.replicate k xs).flatten (List.replicate k us).flatten
 | 0=>.nil
 | k + 1=>by
  rw[List.replicate_succ,List.replicate_succ,List.flatten_cons,List.flatten_cons]
  exact Vals.append h (Vals.rep h k)
theorem len_erase {α:Type}:∀ (l:List α) (i:Nat),(l.eraseIdx i).length≤l.length
 | [],_=>Nat.le_refl _
 | _::_,0=>Nat.le_succ _
 | _::r,i + 1=>Nat.succ_le_succ (len_erase r i)
theorem foldl_rep (its:List Value):∀ (k:Nat) (acc:List Value),
  List.foldl (fun x1 x2=>x1++x2) acc.toArray (List.replicate k its.toArray)=(acc++(List.replicate k its).flatten).toArray
 | 0,acc=>by simp
 | k + 1,acc=>by
  have e:acc.toArray++its.toArray=(acc++its).toArray:=by simp
  have e2:(acc++its)++(List.replicate k its).flatten=acc++(List.replicate (k + 1) its).flatten:=by
   rw[List.replicate_succ,List.flatten_cons,List.append_assoc]
  rw[← e2,← foldl_rep its k (acc++its),← e,List.replicate_succ,List.foldl_cons]
section
variable {X:Cx} {pins:List (Addr × Obj)} {σ:St} {H:Hp} {s:Shared} {l b:Addr} {xs ys zs:List V}
theorem Inv.lset {its its':List Value} {n:Nat} {f:Array Value->Array Value} {t':Nat} (I:Inv X pins σ H s) (hH:H l=some (.lst xs))
  (e:s.heap.get? l=some { cls:=.type "list",data:=.seq its.toArray n }) (hf:f its.toArray=its'.toArray) (hv:Vals ys its') (hz:ys.length≤sizeLine) :
  Inv X pins σ (upd H l (.lst ys)) { s with heap:=s.heap.update l (Obj.mapSeq f),toks:=t' }:=by
 have q:=PySem.IsL.update e f
 rw[hf] at q
 refine I.write (x:=l) (e:=l) (by rw[hH];exact trivial) (.inl rfl) (fun b' u hb hu=>(Heap.get?_update_other s.heap (Obj.mapSeq f) (Ne.symm hb)).trans hu) ⟨_,q⟩ ?_
 exact⟨hz,its',_,hv,q⟩
theorem Inv.lnew {its:List Value} {t':Nat} (I:Inv X pins σ H s) (hv:Vals ys its) (hz:ys.length≤sizeLine) :
  Inv X pins σ (upd H s.heap.objs.size (.lst ys)) { s with heap:=s.heap.push { cls:=.type "list",data:=.seq its.toArray },toks:=t' } :=
 I.laid (fun _ _ q=>Heap.get?_push_of_some _ q) (Nat.le_refl _) ⟨hz,its,0,hv,Heap.get?_push_size _ rfl⟩
theorem Inv.fresh (I:Inv X pins σ H s):H s.heap.objs.size=none:=I.hok.fresh (Nat.le_refl _)
theorem Inv.lstM (I:Inv X pins σ H s) (hH:H l=some (.lst xs)):xs.length≤sizeLine∧∃ (its:List Value) (n:Nat),Vals xs its∧xs.length=its.length∧s.heap.get? l=some { cls:=.type "list",data:=.seq its.toArray n }:=by
 obtain⟨z,its,n,r,e⟩:=I.hok l _ hH
 exact⟨z,its,n,r,r.length,e⟩
theorem notLongL {n:Nat} (h:n≤sizeLine):Builtin.List.listTooLong n=false:=by
 unfold Builtin.List.listTooLong
 exact decide_eq_false (by omega)
end
section
variable {X:Cx}
def rAppend:V->List V->Hp->VK->Prop:=fun x vs H Q=>∃ l xs y,x=.ref l∧vs=[y]∧H l=some (.lst xs)∧xs.length < sizeLine∧Q .non (upd H l (.lst (xs++[y])))
theorem mt_append:MtM X "list.append" rAppend:=by
 intro pins s σ H x vs v us Q I rx rv h
 obtain⟨l,xs,y,rfl,rfl,hH,hz,q⟩:=h
 cases rx
 obtain⟨u,rfl,ru⟩:=rv.one
 obtain⟨z,its,n,r,hl,e⟩:=I.lstM hH
 refine call_meets F.slot_list_append ⟨_,e,rfl⟩ F.entry_list_append (F.args_list_append_2 _ _) (PySem.list_append l its.toArray n u (by rw[List.size_toArray];omega)) ⟨e,?_⟩
 refine⟨.non,_,I.lset (its':=its++[u]) hH e (by simp) (r.append (.cons ru .nil)) ?_,rfl,q⟩
 rw[List.length_append,List.length_singleton]
 omega
def rExtend:V->List V->Hp->VK->Prop:=fun x vs H Q=>∃ l b xs zs,x=.ref l∧vs=[.ref b]∧H l=some (.lst xs)∧H b=some (.lst zs)∧xs.length + zs.length≤sizeLine∧Q .non (upd H l (.lst (xs++zs)))
theorem mt_extend:MtM X "list.extend" rExtend:=by
 intro pins s σ H x vs v us Q I rx rv h
 obtain⟨l,b,xs,zs,rfl,rfl,hH,hB,hz,q⟩:=h
 cases rx
 obtain⟨u,rfl,ru⟩:=rv.one
 cases ru
 obtain⟨z,its,n,r,hl,e⟩:=I.lstM hH
 obtain⟨z2,its2,n2,r2,hl2,e2⟩:=I.lstM hB
 have hsz:its.toArray.size + its2.toArray.size≤sizeLine:=by rw[List.size_toArray,List.size_toArray];omega
 have hlong:¬ (!its.toArray.isEmpty && Builtin.List.listTooLong (its.toArray.size + its2.toArray.size))=true:=by
  rw[notLongL hsz,Bool.and_false]
  exact Bool.false_ne_true
 refine call_meets F.slot_list_extend ⟨_,e,rfl⟩ F.entry_list_extend (F.args_list_extend_2 _ _)
  (AutoSeq1.list_extend_list_list_0 l its.toArray n b its2.toArray n2 hlong (by rw[List.size_toArray];omega) (by omega)) ⟨e,e2,?_⟩
 refine⟨.non,_,I.lset (its':=its++its2) hH e (by simp) (r.append r2) ?_,rfl,q⟩
 rw[List.length_append]
 omega
def rPopAt:V->List V->Hp->VK->Prop:=fun x vs H Q=>∃ l xs i k y,x=.ref l∧vs=[.int i]∧H l=some (.lst xs)∧-(2 ^ 63)≤i∧i < 2 ^ 63∧seqIndex? i xs.length=some k∧xs[k]?=some y∧Q y (upd H l (.lst (xs.eraseIdx k)))
theorem mt_popAt:MtM X "list.pop" rPopAt:=by
 intro pins s σ H x vs v us Q I rx rv h
 obtain⟨l,xs,i,k,y,rfl,rfl,hH,h1,h2,hk,hy,q⟩:=h
 cases rx
 obtain⟨u,rfl,ru⟩:=rv.one
 obtain⟨t,rfl⟩:=ru
 obtain⟨z,its,n,r,hl,e⟩:=I.lstM hH
 obtain⟨w,hw,rw'⟩:=r.get hy
 refine call_meets F.slot_list_pop ⟨_,e,rfl⟩ F.entry_list_pop (F.args_list_pop_2 _ _)
  (MeetsSeq.list_pop_at l its.toArray n i t k w (fitsIndex_both h1 h2) (by rw[List.size_toArray,← hl];exact hk) (by rw[← Array.getElem?_toList];exact hw) (by rw[List.size_toArray];omega)) ⟨e,?_⟩
 refine⟨y,_,I.lset (its':=its.eraseIdx k) hH e ?_ (r.eraseIdx k) ?_,rw',q⟩
 ·show its.toArray.eraseIdxIfInBounds k=(its.eraseIdx k).toArray
  rw[List.eraseIdxIfInBounds_toArray]
 ·have:=len_erase xs k
  omega
/-- a list times an int (a negative one is nothing) -/
def rRep:R2:=fun x y H Q=>∃ l k xs,x=.ref l∧y=.int k∧H l=some (.lst xs)∧-(2 ^ 63)≤k∧k < 2 ^ 63∧xs.length * k.toNat≤sizeLine ∧
 ∀ p,H p=none->Q (.ref p) (upd H p (.lst (List.replicate k.toNat xs).flatten))
theorem len_rep {α:Type} (xs:List α) (k:Nat):(List.replicate k xs).flatten.length=k * xs.length:=by
 induction k with
 | zero=>simp
 | succ k ih=>rw[List.replicate_succ,List.flatten_cons,List.length_append,ih,Nat.succ_mul,Nat.add_comm]
theorem op_rep:OpR X (binaryOp .Mult) rRep:=by
 intro pins s σ H x y v u Q I rx ry h
 obtain⟨l,k,xs,rfl,rfl,hH,h1,h2,hz,q⟩:=h
 cases rx
 obtain⟨t,rfl⟩:=ry
 obtain⟨z,its,n,r,hl,e⟩:=I.lstM hH
 have hlen:its.toArray.size * k.toNat≤sizeLine:=by rw[List.size_toArray,← hl];exact hz
 have hcap:¬ its.toArray.size * k.toNat > (2 ^ 63 - 1) / 8:=by
  have:(sizeLine:Nat)≤(2 ^ 63 - 1) / 8:=by decide
  omega
 have hfit:¬ (!Builtin.List.listFitsIndex k)=true:=by
  rw[fitsIndex_both h1 h2]
  exact Bool.false_ne_true
 have hlong:¬ Builtin.List.listTooLong (its.toArray.size * k.toNat)=true:=by
  rw[notLongL hlen]
  exact Bool.false_ne_true
 have hnew:List.foldl (fun x1 x2=>x1++x2) #[] (List.replicate (if its.toArray.isEmpty=true then 0 else k.toNat) its.toArray)=(List.replicate k.toNat its).flatten.toArray:=by
  have f0:∀ m:Nat,List.foldl (fun x1 x2=>x1++x2) #[] (List.replicate m its.toArray)=(List.replicate m its).flatten.toArray:=fun m=>by
   have:=foldl_rep its m []
   rw[List.nil_append] at this
   exact this
  rw[f0]
  cases its with
  | nil=>simp
  | cons a r'=>rw[if_neg (by simp)]
 refine wpAny_binaryOp_repeat_ref (T:="list") (U:="int") (by decide) ⟨_,e,rfl⟩ (fun s'=>typeIs_int s' k t) noFill_list_mul F.fills_int_mul F.slot_int_rmul repeat_list F.slot_int_index.lookup
  (call_meets F.slot_int_rmul (typeIs_int s k t) F.entry_int_rmul (F.args_int_rmul_2 _ _) (int___rmul___int_list k t l its.toArray n)
   ⟨e,rfl,⟨_,e,rfl⟩,call_meets F.slot_list_mul ⟨_,e,rfl⟩ F.entry_list_mul (F.args_list_mul_2 _ _) (AutoListH.list___mul___list_int_3 l its.toArray n k t hfit hcap hlong) ⟨e,?_⟩⟩)
 rw[hnew]
 exact⟨.ref _,_,I.lnew (t':=s.toks) (r.rep k.toNat) (by rw[len_rep,Nat.mul_comm];exact hz),rfl,q _ I.fresh⟩
end
section
variable {prog:Program} {w:World} {A:Around} {E:Value->Shared->Prop} {s:Shared}
end
section
variable {X:Cx}
end
end L2
namespace Att
open PySem PySem.W PySem.Calls PyProof.Rows
theorem ints_of_wellAll {P:Params} {h:Heap}:∀ (ns:List Int) (vs:List Value),WellAll P h vs (ns.map WData.int)->IntsAre vs ns:=by
 intro ns
 induction ns with
 | nil =>
  intro vs w
  rw[List.map_nil] at w
  cases w
  exact .nil
 | cons n ns ih =>
  intro vs w
  rw[List.map_cons] at w
  cases w with
  | cons a b =>
   cases a
   exact .cons _ _ (ih _ b)
theorem script_of {l:OpenLaw} {n:Nat} (hn:l.most=some n) {P:Params} {h:Heap} {args:List WData} {vals:List Value}
  (hpre:l.row.toRowW.claim.pre args=true) (hwl:WellAll P h vals args) :
  ∃ a vs ns,vals=[Value.ref a]∧args=[WData.list (ns.map WData.int)]∧h.get? a=some { cls:=.type "list",data:=.seq vs.toArray }∧IntsAre vs ns∧ns.length≤n:=by
 have hsh:WShape.hasAll [] args [.list .int]=true:=(pre_splitW hpre).1
 have hc:l.pre.holds [] { args:=args }=true:=(pre_splitW hpre).2
 obtain⟨d,r,rfl,h1,h2⟩:=hasAllW_cons hsh
 obtain rfl:=hasAllW_nil h2
 obtain⟨xs,rfl,h3⟩:=hasW_list h1
 obtain⟨ns,rfl⟩:=items_int h3
 have hlen:ns.length≤n:=by
  unfold OpenLaw.pre at hc
  have h4:(WTm.not (.lt (.lit (.int (n:Int))) (.len (.arg 0)))).holds [] { args:=[.list (ns.map .int)] }=true:=by
   have h4:=(holds_andW hc).1
   rw[hn] at h4
   exact h4
  have h5:=condW_of h4 (w_not (w_lt w_lit (w_len_list (w_arg rfl))))
  rw[List.length_map] at h5
  refine Nat.le_of_not_lt fun q=>?_
  have q':(n:Int) < ((ns.length:Nat):Int):=by omega
  first
   | (rw[decide_eq_true q'] at h5;exact absurd h5 (by decide))
   | (simp at h5;omega)
 cases hwl with
 | cons w1 w2 =>
  cases w2
  cases w1 with
  | list ho hall=>exact⟨_,_,ns,rfl,rfl,ho,ints_of_wellAll ns _ hall,hlen⟩
theorem post_true (l:OpenLaw) (args:List WData):l.row.toRowW.claim.post args (.bool true) args=true :=
 postW_of (r:=l.row.toRowW) (X:=(true == true))
  (show WShape.has [] (.bool true) .bool=true by first | rfl | decide | simp [WShape.has,WShape.arms,WShape.armsAll])
  (show (WTm.eq .res (.lit (.bool true))).value [] { args:=args,res:=some (.bool true),after:=args }=some (.bool (true == true)) from w_eq_bool (w_res rfl) w_lit) rfl
/-- the same from a codeAny of the CALL (for a layer whose function contracts speak of calls) -/
theorem attach_call {l:OpenLaw} {n:Nat} {q:Program} {loose:List Str} {XP:(Str->Option Value)->Heap->Prop} {YP:World->Heap->Prop} {d:DefRec}
  (hn:l.most=some n) (hdf:d.params.defaults=[])
  (call:∀ (w:World) (s₀ s₁:Shared) (mg mb:Str->Option Value) (fa:Addr) (o:Obj) (pm cd doc:Value) (a:Addr) (vs:List Value) (ns:List Int),
   Ground q loose [] XP w s₀ mg mb s₁.heap->YP w s₁.heap ->
   s₁.heap.get? fa=some o->o.data=.func (docDef d.name d.params d.body d.scope pm cd doc)->s₁.heap.CodeRec cd d.name->mg d.name=some (.ref fa) ->
   s₁.heap.get? a=some { cls:=.type "list",data:=.seq vs.toArray }->IntsAre vs ns->ns.length≤n->s₁.gens=#[] ->
   codeAny (model l.prog w) callerA (.call (.ref fa) ⟨[.ref a],[]⟩) (fun r s'=>r=.ok (.ret (.bool true))∧OldK s₁.heap s'.heap∧s'.os=s₁.os∧AllBare s'.gens) s₁) :
  WalkO q loose XP YP l.row.toRowW d [] (fun f vs=>PySem.call f vs):=by
 intro w s₀ s₁ mg mb G Y fa o pm cd doc dV kV ho hd hcd hD hmg hg args vals as hpre hlay hrd hwl hlo
 obtain rfl:dV=.none:=Dflts.none hD hdf
 obtain rfl:kV=.none:=Dflts.noKw hD
 obtain⟨a,vs,ns,rfl,rfl,hobj,hints,hlen⟩:=script_of hn hpre hwl
 refine enter_call (codeAny_mono (call w s₀ s₁ mg mb fa o pm cd doc a vs ns G Y ho (fd_plain hd) hcd hmg hobj hints hlen hg) fun r s' hq=>?_)
 obtain⟨rfl,h2,h3,h4⟩:=hq
 exact⟨.inl ⟨.bool true,.bool true,[],rfl,fun _=>rfl,.bool true,post_true l _,fun _=>⟨List.Pairwise.nil,fun _ hm=>(nomatch hm)⟩⟩,h2,h3,h4⟩
section
variable {prog:Program} {w:World} {A:Around} {E:Value->Shared->Prop} {s:Shared} {K:Frag}
end
end Att
namespace L2
open PySem PySem.Spec PyProof.Rows
theorem vals_ints:∀ {vs:List Value} {ns:List Int},IntsAre vs ns->Vals (ns.map V.int) vs
 | _,_,.nil=>.nil
 | _,_,.cons n t h=>.cons ⟨t,rfl⟩ (vals_ints h)
/-- nothing is tracked but the script, known to the object (or it is an object of the module) -/
def Only (H:Hp):Prop:=∀ b,H b=none∨∃ o xs,H b=some (.frz o (.lst xs))
/-- THE HEAD: the law's promise, at the heap behind the top. F, the promise of the law's def, may use that base is part of the heap (so K.In base, base.Ns mainGlobals mg stand in Mod) -/
theorem law_call {P:Program} {w:World} {K:PySem.W.Frag} {mg mb:Str->Option Value} {CX:CXT} {k:Nat} {fa a:Addr} {fd:FuncData} {x:Str} {sp:Sp} {s₁:Shared} {vs:List Value} {ns:List Int}
  (KX:K.In s₁.heap) (hns:s₁.heap.Ns mainGlobals mg) (hb:s₁.heap.Ns builtinsNs mb) (hbb:∀ x:Str,x≠"__name__"->mb x=bootBuiltins x) (hlim:s₁.heap.NoLimit) (hg:s₁.gens=#[])
  (ha:s₁.heap.get? a=some { cls:=.type "list",data:=.seq vs.toArray }) (hi:IntsAre vs ns) (hl:ns.length≤sizeLine) (hr:Room k callerA)
  (F:∀ base:Heap,K.In base->base.Ns mainGlobals mg->FnOk P w K mg base CX k fa fd [x] sp) (hbind:∀ (s:Shared) (u:Value),BindsTo s fd ⟨[u],[]⟩ [(x,u)])
  (hsp:∀ H:Hp,Only H->SqL K H a (ns.map V.int)->sp [.ref a] H (fun v _=>v=.bl true) fun _ _ _=>False)
  (hCX:∀ H e s',CX [] H s₁ (fun _ _ _=>False) e s'->False) :
  codeAny (model P w) callerA (.call (.ref fa) ⟨[.ref a],[]⟩) (fun r s'=>r=.ok (.ret (.bool true))∧OldK s₁.heap s'.heap∧s'.os=s₁.os∧AllBare s'.gens) s₁:=by
 have rv:=vals_ints hi
 have lenV:=hi.length
  -- from an abstract heap in which nothing but the script may be tracked
 have core : ∀ H : Hp, Only H → SqL K H a (ns.map V.int) → HOk P w H s₁.heap → (∀ b, H b ≠ none → b = a) → (H a ≠ none → K.lookup a = none) →
     codeAny (model P w) callerA (.call (.ref fa) ⟨[.ref a],[]⟩) (fun r s'=>r=.ok (.ret (.bool true))∧OldK s₁.heap s'.heap∧s'.os=s₁.os∧AllBare s'.gens) s₁:=by
  intro H hO hS hok hA hK
  have base_of:∀ {b:Addr} {o:Obj},s₁.heap.get? b=some o->H b=none->(hidT s₁.heap H).get? b=some o:=fun e n=>hidT_get e n
  have noA:∀ {b:Addr} {o:Obj} {es:Array DictEntry} {ep:Nat},s₁.heap.get? b=some o->o.data=.dict es ep->H b=none:=fun {b o es ep} e d=>by
   cases q:H b with
   | none=>rfl
   | some u =>
    have e':b=a:=hA b (by rw[q];simp)
    subst e'
    rw[ha] at e;cases e
    have d':Data.seq vs.toArray _=Data.dict es ep:=d
    cases d'
  have nsK:∀ {b:Addr} {m:Str->Option Value},s₁.heap.Ns b m->(hidT s₁.heap H).Ns b m:=fun {b m} ⟨o,es,ep,e,d,r⟩=>⟨o,es,ep,base_of e (noA e d),d,r⟩
  have hKb:K.In (hidT s₁.heap H):=fun b o e=>base_of (KX b o e) (by
   cases q:H b with
   | none=>rfl
   | some u =>
    have e':b=a:=hA b (by rw[q];simp)
    subst e'
    rw[hK (by rw[q];simp)] at e;cases e)
  have hM:Mod K mg (hidT s₁.heap H):=⟨hKb,nsK hns,⟨mb,nsK hb,hbb⟩,let ⟨mc,h1,h2⟩:=hlim;⟨mc,nsK h1,h2⟩⟩
  have e0:Env0 P w K mg (hidT s₁.heap H) callerA [] s₁ H:=⟨rfl,hM,fun b o e=>of_hidT e,Nat.le_of_eq (hidT_size _ _),trivial,fun b hb=>absurd (show b ∈ ([]:List Addr) from hb) (by simp),hok,.of_eq hg⟩
  refine codeAny_mono ((F _ hKb (nsK hns)).run callerA [] s₁ H ⟨[.ref a],[]⟩ [.ref a] [.ref a] _ _ hr e0 (hbind s₁ (.ref a)) (.cons rfl .nil) (hsp H hO hS)) fun r s' h=>?_
  cases r with
  | error e=>exact (hCX H e s' h).elim
  | ok fl =>
   cases fl with
   | next=>exact False.elim h
   | brk=>exact False.elim h
   | cont=>exact False.elim h
   | ret u =>
    obtain⟨v,H',os,bare,un,hok',r',q⟩:=h
    have q':v=.bl true:=q
    subst q'
    obtain rfl:u=Value.bool true:=r'
    refine⟨rfl,OldK.of_keep fun b o e=>?_,os,bare⟩
    cases q:H b with
    | none=>exact un.keep b o e q (by intro z;exact absurd (show b ∈ ([]:List Addr) from z) (by simp)) (by simp)
    | some u =>
     rcases hO b with z | ⟨ob,xs,z⟩
     ·rw[q] at z;cases z
     ·have z2:=un.frzs b ob _ z
      obtain⟨e1,_⟩:=hok b _ z
      obtain⟨e2,_⟩:=hok' b _ z2
      rw[e] at e1;cases e1
      exact e2
 cases hk:K.lookup a with
 | some o =>
    -- the script is one of the module's own objects
  have e:=KX a o hk
  rw[ha] at e
  cases e
  refine core (fun _=>none) (fun _=>.inl rfl) (.inr ⟨_,vs.toArray,_,hk,rfl,rfl,rfl,by rw[List.size_toArray,lenV];exact hl,by simpa using rv⟩) (fun b u z=>by have z':(none:Option HO)=some u:=z;cases z') (fun b z=>absurd rfl z) fun z=>absurd rfl z
 | none =>
  refine core (fun b=>if b=a then some (.frz { cls:=.type "list",data:=.seq vs.toArray } (.lst (ns.map V.int))) else none) (fun b=>?_) (.inl (.inr ⟨{ cls:=.type "list",data:=.seq vs.toArray },if_pos rfl⟩)) (fun b u z=>?_) (fun b z=>?_) fun _=>hk
  ·by_cases hb:b=a
   ·exact .inr ⟨_,_,if_pos hb⟩
   ·exact .inl (if_neg hb)
  ·by_cases hb:b=a
   ·have z':=(if_pos hb).symm.trans z
    cases z'
    subst hb
    exact⟨ha,by rw[List.length_map];exact hl,vs,_,rv,ha⟩
   ·have z':=(if_neg hb).symm.trans z
    cases z'
  ·by_cases hb:b=a
   ·exact hb
   ·exact absurd (if_neg hb) z
end L2
namespace L2
open PySem PySem.Spec PyProof.Rows
/-- the goal that k_head leaves (case hc), from the law's promise. F gives the function object fd (K's own) once, then the promise over every base -/
theorem walk_of {l:PySem.W.OpenLaw} {n k:Nat} {q:Program} {loose:List Str} {XP:(Str->Option Value)->Heap->Prop} {YP:World->Heap->Prop} {d:DefRec} {K:Params->PySem.W.Frag} {CX:World->CXT} {sp:World->Sp} {x:Str}
  (hn:l.most=some n) (hn2:n≤sizeLine) (hdf:d.params.defaults=[]) (hr:Room k callerA)
  (hY:∀ (w:World) (h:Heap),YP w h->(K w.params).In h)
  (F:∀ (w:World) (mg:Str->Option Value) (fa:Addr) (h:Heap),(K w.params).In h->h.Ns mainGlobals mg->mg d.name=some (.ref fa) ->
   ∃ fd:FuncData,(∀ (s:Shared) (u:Value),BindsTo s fd ⟨[u],[]⟩ [(x,u)]) ∧
    ∀ base:Heap,(K w.params).In base->base.Ns mainGlobals mg->FnOk l.prog w (K w.params) mg base (CX w) k fa fd [x] (sp w))
  (hsp:∀ (w:World) (H:Hp) (a:Addr) (ns:List Int),ns.length≤n->Only H->SqL (K w.params) H a (ns.map V.int)->sp w [.ref a] H (fun v _=>v=.bl true) fun _ _ _=>False)
  (hCX:∀ (w:World) (H:Hp) (s:Shared) (e:Value) (s':Shared),CX w [] H s (fun _ _ _=>False) e s'->False) :
  PySem.W.WalkO q loose XP YP l.row.toRowW d [] (fun f vs=>PySem.call f vs):=by
 refine Att.attach_call hn hdf fun w s₀ s₁ mg mb fa o pm cd doc a vs ns G Y ho hd hcd hmg hobj hints hlen hg=>?_
 have KX:=hY w _ Y
 obtain⟨fd,hb,hF⟩:=F w mg fa _ KX G.T.g hmg
 exact law_call KX G.T.g G.T.b G.T.builtins G.T.nolimit hg hobj hints (Nat.le_trans hlen hn2) hr hF hb (fun H hO hS=>hsp w H a ns hlen hO hS) fun H e s'=>hCX w H s₁ e s'
end L2
namespace L2
open PySem PySem.Spec PyProof.Rows
def defArgs (s:Stmt):Arguments:=match s with
 | .FunctionDef _ a _ _ _ _ _ _ _ _=>a
 | _=>{ posonlyargs:=[],args:=[],vararg:=none,kwonlyargs:=[],kw_defaults:=[],kwarg:=none,defaults:=[] }
def defBody (s:Stmt):List Stmt:=match s with
 | .FunctionDef _ _ b _ _ _ _ _ _ _=>b
 | _=>[]
def defScope (s:Stmt):Scope:=match s with
 | .FunctionDef _ _ _ _ _ _ sc _ _ _=>sc
 | _=>{ kind:=.function,names:=[],isGenerator:=false,isCoroutine:=false }
abbrev CX0:CXT:=fun _ _ _ _ _ _=>False
abbrev E0:XK:=fun _ _ _=>False
theorem pass0 {X:Cx}:Passes CX0 X E0:=fun _ _ _ _ _ _ _ h=>h.elim
structure Fun (K:PySem.W.Frag) (x qual:Str) (st:Stmt) (f:Addr) (fd:FuncData):Prop where
 ex:∃ (oc:Value) (od:Option Addr) (kV doc pm:Value) (an:Option Addr) (cdv ct:Value) (osl:Array (Option Value)),
  fd=PySem.W.fnOf x qual (defArgs st) (defBody st) (defScope st) .none kV doc pm an cdv ct∧K.lookup f=some ⟨oc,od,.func fd,osl⟩∧PySem.W.codeIn K cdv qual=true
 kp:PySem.W.keepIn K (.ref f)=true
section
variable {P:Program} {w:World} {K:PySem.W.Frag} {mg:Str->Option Value} {base:Heap}
/-- THE RULE for a def: its body as a term of rules, and the reading of that term -/
theorem Fun.ok {x qual:Str} {st:Stmt} {f:Addr} {fd:FuncData} {N ps:List Str} {k:Nat} {sp:Sp} (F:Fun K x qual st f fd) (S:FnScope N ps (defScope st)) (len:∀ vs H Q E,sp vs H Q E->vs.length=ps.length)
  (hbody:∀ (cdv:Value) (A:Around) (outer:List Env) (s:Shared) (H:Hp) (vs:List V) (Q:VK) (E:XK),Room k (A.deeper (envOfC qual (defScope st) s.heap.objs.size f cdv))->sp vs H Q E ->
   ∃ t,PSs (cxOf CX0 P w K mg base N qual (defScope st) f cdv A outer s H E).nox (defBody st) t∧t { nx:=fun _ H'=>Q .non H',rt:=Q } (start N vs) H):FnOk P w K mg base CX0 (k + 1) f fd ps sp:=by
 obtain⟨oc,od,kV,doc,pm,an,cdv,ct,osl,rfl,lk,hcd⟩:=F.ex
 refine fn_of lk hcd S len fun A outer s H vs Q E hr hsp=>?_
 obtain⟨t,h,q⟩:=hbody cdv A outer s H vs Q E hr hsp
 exact⟨t,h.nox,q⟩
/-- how its arguments bind (no defaults): h is «fun _ _ _ _ _ _ us hl => match us, hl with | [_, _], _ => rfl», one _ a parameter -/
theorem Fun.binds {x qual:Str} {st:Stmt} {f:Addr} {fd:FuncData} {ps:List Str} (F:Fun K x qual st f fd)
  (h:∀ (kV doc pm:Value) (an:Option Addr) (cdv ct:Value) (us:List Value),us.length=ps.length->bindArgs (PySem.W.fnOf x qual (defArgs st) (defBody st) (defScope st) .none kV doc pm an cdv ct) ⟨us,[]⟩=pure (ps.zip us)):Binds K fd ps []:=by
 obtain⟨oc,od,kV,doc,pm,an,cdv,ct,osl,rfl,lk,hcd⟩:=F.ex
 exact .all (h kV doc pm an cdv ct)
theorem fun_mk {x qual:Str} {st:Stmt} {f:Addr} {oc:Value} {od an:Option Addr} {osl:Array (Option Value)} {kV doc pm cdv ct:Value} (l:K.lookup f=some ⟨oc,od,.func (PySem.W.fnOf x qual (defArgs st) (defBody st) (defScope st) .none kV doc pm an cdv ct),osl⟩)
  (c:PySem.W.codeIn K cdv qual=true) (k:PySem.W.keepIn K (.ref f)=true):Fun K x qual st f (PySem.W.fnOf x qual (defArgs st) (defBody st) (defScope st) .none kV doc pm an cdv ct):=⟨⟨oc,od,kV,doc,pm,an,cdv,ct,osl,rfl,l,c⟩,k⟩
end
section
variable {X:Cx}
theorem pv (i:Nat) {x:Str} {pos:Pos} (hN:X.N[i]?=some x:=by rfl) (hv:Vis X.env.scope x:=by first | exact Or.inl rfl | exact Or.inr (Or.inl rfl) | exact Or.inr (Or.inr rfl)) (hd:(x == ("__debug__":Str))=false:=by decide)
  (hcd:(x == ("__classdict__":Str))=false:=by decide):PE X (.Name x pos) (tVar i):=pe_var hN hv hd hcd
end
theorem iteF {A B:Prop} (h:B):if false=true then A else B:=by
 rw[if_neg Bool.false_ne_true]
 exact h
theorem iteT {A B:Prop} (h:A):if true=true then A else B:=by
 rw[if_pos rfl]
 exact h
theorem ite2 {c A B:Prop} [Decidable c] (h1:c->A) (h2:¬ c->B):if c then A else B:=by
 by_cases h:c
 ·rw[if_pos h]
  exact h1 h
 ·rw[if_neg h]
  exact h2 h
theorem iteNS {c A B:Prop} [Decidable c] (hc:c) (h:B):if (!decide c)=true then A else B:=by
 rw[decide_eq_true hc]
 exact iteF h
/-- all that was tracked is as it was -/
def Same (H H':Hp):Prop:=∀ b o,H b=some o->H' b=some o
theorem Same.refl (H:Hp):Same H H:=fun _ _ h=>h
theorem Same.trans {H H1 H2:Hp} (a:Same H H1) (b:Same H1 H2):Same H H2:=fun c o h=>b c o (a c o h)
theorem Same.free {H H':Hp} (e:Same H H') {l:Addr} (h:H' l=Option.none):H l=Option.none:=by
 cases q:H l with
 | none=>rfl
 | some o =>
  rw[e l o q] at h
  cases h
theorem Same.seq {K:PySem.W.Frag} {H H':Hp} {a:Addr} {xs:List V} (e:Same H H') (h:SqL K H a xs):SqL K H' a xs:=by
 rcases h with (h | ⟨o,h⟩) | h
 ·exact .inl (.inl (e _ _ h))
 ·exact .inl (.inr ⟨o,e _ _ h⟩)
 ·exact .inr h
end L2
set_option maxHeartbeats 4000000
namespace Srt
open PySem PySem.W PyProof.Rows
section
variable {N:Nat} {r:Nat->Int} {cmp:Nat->Nat->(Bool->Shared->Prop)->Shared->Prop} {s:Shared}
def ky (r:Nat->Int) (p:Array Nat) (m:Nat):Int:=r (p.getD m 0)
def Up (r:Nat->Int) (p:Array Nat) (n:Nat):Prop:=∀ i j,i≤j->j < n->ky r p i≤ky r p j
def Dn (r:Nat->Int) (p:Array Nat) (n:Nat):Prop:=∀ i j,i≤j->j < n->ky r p j≤ky r p i
def Ask (N:Nat) (r:Nat->Int) (cmp:Nat->Nat->(Bool->Shared->Prop)->Shared->Prop) (s:Shared):Prop :=
 ∀ i j C,i < N->j < N->C (decide (r i < r j)) s->cmp i j C s
def Gd (N:Nat) (p:Array Nat):Prop:=p.Perm (List.toArray (List.range N))
theorem Gd.sz {p:Array Nat} (g:Gd N p):p.size=N:=by
 have:=g.size_eq
 simpa using this
theorem Gd.lt {p:Array Nat} (g:Gd N p) (h:0 < N) (m:Nat):p.getD m 0 < N:=by
 by_cases hm:m < p.size
 ·have e:p.getD m 0=p[m]:=by simp [Array.getD,hm]
  rw[e]
  have h1:p[m] ∈ p:=Array.getElem_mem hm
  have h2:p[m] ∈ List.toArray (List.range N):=g.mem_iff.mp h1
  simpa using h2
 ·have e:p.getD m 0=0:=by simp [Array.getD,hm]
  omega
theorem ky_of {p q:Array Nat} {i j:Nat} (h:p[i]?=q[j]?):ky r p i=ky r q j:=by
 have e:∀ (a:Array Nat) (k:Nat),a.getD k 0=(a[k]?).getD 0:=fun a k=>by
  by_cases hk:k < a.size <;> simp [Array.getD,hk]
 unfold ky
 rw[e,e,h]
theorem ky_rev {p:Array Nat} {i j:Nat} (hj:j≤p.size) (k:Nat):ky r (kas_rev p i j) k=if i≤k∧k < j then ky r p (i + j - 1 - k) else ky r p k:=by
 have e:=getElem?_mirror_all (i:=i) hj k
 by_cases h:i≤k∧k < j
 ·rw[if_pos h] at e ⊢
  exact ky_of e
 ·rw[if_neg h] at e ⊢
  exact ky_of e
theorem ky_bub {p:Array Nat} {k d:Nat} (hs:k < p.size) (hd:d≤k) (m:Nat) :
  ky r (bubble p k d) m=if m=k - d then ky r p k else if k - d < m∧m≤k then ky r p (m - 1) else ky r p m:=by
 have e:=getElem?_bubble hs d hd m
 by_cases h1:m=k - d
 ·rw[if_pos h1] at e ⊢
  exact ky_of e
 ·rw[if_neg h1] at e ⊢
  by_cases h2:k - d < m∧m≤k
  ·rw[if_pos h2] at e ⊢
   exact ky_of e
  ·rw[if_neg h2] at e ⊢
   exact ky_of e
theorem Gd.rev {p:Array Nat} (g:Gd N p) (i j:Nat):Gd N (kas_rev p i j):=(mirror_perm p i j _).trans g
theorem Gd.bub {p:Array Nat} (g:Gd N p) (i j:Nat):Gd N (bubble p i j):=(bubble_perm p i j).trans g
theorem asc_wp (h:Ask N r cmp s) (hN:0 < N) {p:Array Nat} (g:Gd N p) {Q:Nat->Shared->Prop}:∀ f n,1≤n->Up r p n ->
  (∀ m,n≤m->m≤n + f->Up r p m->(m < n + f->ky r p m < ky r p (m - 1))->Q m s)->(kas_asc p f n).kasWp cmp Q s
 | 0,n,_,hu,q=>q n (Nat.le_refl _) (Nat.le_refl _) hu (fun z=>absurd z (Nat.lt_irrefl _))
 | f + 1,n,h1,hu,q=>by
  refine h _ _ _ (g.lt hN _) (g.lt hN _) ?_
  by_cases c:r (p.getD n 0) < r (p.getD (n - 1) 0)
  ·rw[decide_eq_true c]
   exact q n (Nat.le_refl _) (by omega) hu (fun _=>c)
  ·rw[decide_eq_false c]
   refine asc_wp h hN g f (n + 1) (by omega) (fun i j hij hj=>?_) (fun m a b u d=>q m (by omega) (by omega) u (fun z=>d (by omega)))
   have c':ky r p (n - 1)≤ky r p n:=by unfold ky;omega
   by_cases e:j=n
   ·subst e
    by_cases e2:i=j
    ·subst e2;exact Int.le_refl _
    ·exact Int.le_trans (hu i (j - 1) (by omega) (by omega)) c'
   ·exact hu i j hij (by omega)
theorem ky_rev_eq {p:Array Nat} {i j:Nat} (hj:j≤p.size) (v:Int) (he:∀ k,i≤k->k < j->ky r p k=v) (k:Nat):ky r (kas_rev p i j) k=ky r p k:=by
 rw[ky_rev hj]
 split
 ·rename_i c
  rw[he _ (by omega) (by omega),he k c.1 c.2]
 ·rfl
theorem desc_wp (h:Ask N r cmp s) (hN:0 < N) {Q:Array Nat × Nat × Nat->Shared->Prop}:∀ f p n q,Gd N p->1≤n->n + f≤N->Dn r p n->q + 1≤n->(∀ i,n - (q + 1)≤i->i < n->ky r p i=ky r p (n - 1)) ->
  (∀ p' n' q',Gd N p'->n≤n'->n'≤n + f->Dn r p' n'->q' + 1≤n'->(∀ i,n' - (q' + 1)≤i->i < n'->ky r p' i=ky r p' (n' - 1))->Q (p',n',q') s)->(kas_desc f p n q).kasWp cmp Q s
 | 0,p,n,q,g,_,_,hd,hq,he,z=>z p n q g (Nat.le_refl _) (Nat.le_refl _) hd hq he
 | f + 1,p,n,q,g,h1,hf,hd,hq,he,z=>by
  refine h _ _ _ (g.lt hN _) (g.lt hN _) ?_
  by_cases c:r (p.getD n 0) < r (p.getD (n - 1) 0)
  ·rw[decide_eq_true c]
   have c':ky r p n < ky r p (n - 1):=c
   have dn:∀ {p':Array Nat},(∀ k,ky r p' k=ky r p k)->Dn r p' (n + 1):=fun e i j hij hj=>by
    rw[e,e]
    by_cases ej:j=n
    ·subst ej
     by_cases ei:i=j
     ·subst ei;exact Int.le_refl _
     ·exact Int.le_trans (Int.le_of_lt c') (hd i (j - 1) (by omega) (by omega))
    ·exact hd i j hij (by omega)
   show KasT.kasWp cmp (if q > 0 then kas_desc f (kas_rev p (n - (q + 1)) n) (n + 1) 0 else kas_desc f p (n + 1) 0) Q s
   by_cases hq0:q > 0
   ·rw[if_pos hq0]
    have e:=ky_rev_eq (r:=r) (p:=p) (i:=n - (q + 1)) (j:=n) (by rw[g.sz];omega) (ky r p (n - 1)) he
    exact desc_wp h hN f _ (n + 1) 0 (g.rev _ _) (by omega) (by omega) (dn e) (by omega) (fun i a b=>by congr 1;omega)
     (fun p' n' q' g' a b d e1 e2=>z p' n' q' g' (by omega) (by omega) d e1 e2)
   ·rw[if_neg hq0]
    exact desc_wp h hN f _ (n + 1) 0 g (by omega) (by omega) (dn fun _=>rfl) (by omega) (fun i a b=>by congr 1;omega)
     (fun p' n' q' g' a b d e1 e2=>z p' n' q' g' (by omega) (by omega) d e1 e2)
  ·rw[decide_eq_false c]
   refine h _ _ _ (g.lt hN _) (g.lt hN _) ?_
   by_cases d:r (p.getD (n - 1) 0) < r (p.getD n 0)
   ·rw[decide_eq_true d]
    exact z p n q g (Nat.le_refl _) (by omega) hd hq he
   ·rw[decide_eq_false d]
    have e:ky r p n=ky r p (n - 1):=by unfold ky;omega
    refine desc_wp h hN f p (n + 1) (q + 1) g (by omega) (by omega) (fun i j hij hj=>?_) (by omega) (fun i a b=>?_)
     (fun p' n' q' g' a b d e1 e2=>z p' n' q' g' (by omega) (by omega) d e1 e2)
    ·by_cases ej:j=n
     ·subst ej
      by_cases ei:i=j
      ·subst ei;exact Int.le_refl _
      ·rw[e];exact hd i (j - 1) (by omega) (by omega)
     ·exact hd i j hij (by omega)
    ·rw[show n + 1 - 1=n by omega]
     by_cases ei:i=n
     ·rw[ei]
     ·rw[e];exact he i (by omega) (by omega)
theorem tail3_wp (h:Ask N r cmp s) (hN:0 < N) {Q:Nat × Array Nat->Shared->Prop} {p:Array Nat} {n:Nat} (g:Gd N p) (h1:1≤n) (hn:n≤N) (hd:Dn r p n)
  (z:∀ m p',Gd N p'->1≤m->m≤N->Up r p' m->Q (m,p') s):(kas_tail3 n N p).kasWp cmp Q s:=by
 unfold kas_tail3
 rw[KasT.kasWp_bind]
 refine asc_wp h hN (g.rev 0 n) _ n h1 (fun i j hij hj=>?_) (fun m a b u _=>z m _ (g.rev 0 n) (by omega) (by omega) u)
 rw[ky_rev (by rw[g.sz];omega),ky_rev (by rw[g.sz];omega),if_pos (by omega),if_pos (by omega)]
 exact hd _ _ (by omega) (by omega)
theorem descPart_wp (h:Ask N r cmp s) (hN:0 < N) {Q:Nat × Array Nat->Shared->Prop} {p:Array Nat} {n:Nat} (g:Gd N p) (h1:1≤n) (hn:n + 1≤N) (hd:Dn r p (n + 1))
  (z:∀ m p',Gd N p'->1≤m->m≤N->Up r p' m->Q (m,p') s):(kas_descPart n N p).kasWp cmp Q s:=by
 unfold kas_descPart
 rw[KasT.kasWp_bind]
 refine desc_wp h hN _ p (n + 1) 0 g (by omega) (by omega) hd (by omega) (fun i a b=>by congr 1;omega) (fun p' n' q' g' a b d e1 e2=>?_)
 show KasT.kasWp cmp (if q' > 0 then kas_tail3 n' N (kas_rev p' (n' - (q' + 1)) n') else kas_tail3 n' N p') Q s
 by_cases hq:q' > 0
 ·rw[if_pos hq]
  have e:=ky_rev_eq (r:=r) (p:=p') (i:=n' - (q' + 1)) (j:=n') (by rw[g'.sz];omega) (ky r p' (n' - 1)) e2
  exact tail3_wp h hN (g'.rev _ _) (by omega) (by omega) (fun i j hij hj=>by rw[e,e];exact d i j hij hj) z
 ·rw[if_neg hq]
  exact tail3_wp h hN g' (by omega) (by omega) d z
theorem count_wp (h:Ask N r cmp s) (hN:0 < N) {Q:Nat × Array Nat->Shared->Prop} {p:Array Nat} (g:Gd N p)
  (z:∀ m p',Gd N p'->1≤m->m≤N->Up r p' m->Q (m,p') s):(kas_count N p).kasWp cmp Q s:=by
 unfold kas_count
 rw[KasT.kasWp_bind]
 refine asc_wp h hN g _ 1 (Nat.le_refl _) (fun i j hij hj=>?_) (fun m a b u d=>?_)
 ·have:i=j:=by omega
  subst this;exact Int.le_refl _
 show KasT.kasWp cmp (if (m == N)=true then .ret (m,p) else if m > 1 then .ask (p.getD 0 0) (p.getD (m - 1) 0) fun c=>if c=true then .ret (m,p) else kas_descPart m N (kas_rev p 0 m) else kas_descPart m N p) Q s
 by_cases hm:m=N
 ·rw[if_pos (by simpa using hm)]
  exact z m p g a (by omega) u
 ·rw[if_neg (by simpa using hm)]
  have d':=d (by omega)
  by_cases h1:m > 1
  ·rw[if_pos h1]
   refine h _ _ _ (g.lt hN _) (g.lt hN _) ?_
   by_cases c:r (p.getD 0 0) < r (p.getD (m - 1) 0)
   ·rw[decide_eq_true c]
    exact z m p g a (by omega) u
   ·rw[decide_eq_false c]
    have c':ky r p (m - 1)≤ky r p 0:=by unfold ky;omega
    have eq:∀ k,0≤k->k < m->ky r p k=ky r p 0:=fun k _ hk=>by
     have a1:=u 0 k (by omega) hk
     have a2:=u k (m - 1) (by omega) (by omega)
     omega
    have e:=ky_rev_eq (r:=r) (p:=p) (i:=0) (j:=m) (by rw[g.sz];omega) (ky r p 0) eq
    refine descPart_wp h hN (g.rev 0 m) (by omega) (by omega) (fun i j hij hj=>?_) z
    rw[e,e]
    by_cases ej:j=m
    ·subst ej
     by_cases ei:i=j
     ·subst ei;exact Int.le_refl _
     ·rw[eq i (by omega) (by omega)]
      have:=eq (j - 1) (by omega) (by omega)
      omega
    ·rw[eq i (by omega) (by omega),eq j (by omega) (by omega)]
     exact Int.le_refl _
  ·rw[if_neg h1]
   have e1:m=1:=by omega
   subst e1
   refine descPart_wp h hN g (by omega) (by omega) (fun i j hij hj=>?_) z
   by_cases ej:j=1
   ·subst ej
    by_cases ei:i=1
    ·subst ei;exact Int.le_refl _
    ·have:i=0:=by omega
     subst this
     exact Int.le_of_lt d'
   ·have:i=j:=by omega
    subst this;exact Int.le_refl _
theorem place_wp (h:Ask N r cmp s) (hN:0 < N) {Q:Nat->Shared->Prop} {p:Array Nat} {k:Nat} (g:Gd N p) (hu:Up r p k):∀ f l rr,l≤rr->rr≤k->rr - l≤f->(∀ i,i < l->ky r p i≤ky r p k)->(∀ i,rr≤i->i < k->ky r p k < ky r p i) ->
  (∀ l',l'≤k->(∀ i,i < l'->ky r p i≤ky r p k)->(∀ i,l'≤i->i < k->ky r p k < ky r p i)->Q l' s)->(kas_place p k f l rr).kasWp cmp Q s
 | 0,l,rr,h1,h2,h3,a,b,z=>z l (by omega) a (fun i x y=>b i (by omega) y)
 | f + 1,l,rr,h1,h2,h3,a,b,z=>by
  unfold kas_place
  by_cases hl:l ≥ rr
  ·rw[if_pos hl]
   exact z l (by omega) a (fun i x y=>b i (by omega) y)
  ·rw[if_neg hl]
   refine h _ _ _ (g.lt hN _) (g.lt hN _) ?_
   by_cases c:r (p.getD k 0) < r (p.getD ((l + rr) / 2) 0)
   ·rw[decide_eq_true c]
    have c':ky r p k < ky r p ((l + rr) / 2):=c
    exact place_wp h hN g hu f l ((l + rr) / 2) (by omega) (by omega) (by omega) a (fun i x y=>Int.lt_of_lt_of_le c' (hu _ _ x y)) z
   ·rw[decide_eq_false c]
    have c':ky r p ((l + rr) / 2)≤ky r p k:=by unfold ky;omega
    exact place_wp h hN g hu f ((l + rr) / 2 + 1) rr (by omega) (by omega) (by omega) (fun i x=>Int.le_trans (hu i ((l + rr) / 2) (by omega) (by omega)) c') b z
theorem bin_wp (h:Ask N r cmp s) (hN:0 < N) {Q:Array Nat->Shared->Prop}:∀ f p k,Gd N p->k + f≤N->Up r p k->(∀ p',Gd N p'->Up r p' (k + f)->Q p' s)->(kas_bin f p k).kasWp cmp Q s
 | 0,p,k,g,_,hu,z=>z p g hu
 | f + 1,p,k,g,hk,hu,z=>by
  unfold kas_bin
  rw[KasT.kasWp_bind]
  refine place_wp h hN g hu k 0 k (by omega) (Nat.le_refl _) (by omega) (fun i x=>absurd x (Nat.not_lt_zero _)) (fun i x y=>absurd (Nat.lt_of_le_of_lt x y) (Nat.lt_irrefl _)) (fun l hl a b=>?_)
  have e:=fun m=>ky_bub (r:=r) (p:=p) (k:=k) (d:=k - l) (by rw[g.sz];omega) (by omega) m
  refine bin_wp h hN f _ (k + 1) (g.bub _ _) (by omega) (fun i j hij hj=>?_) (fun p' g' u'=>z p' g' (by rw[show k + (f + 1)=k + 1 + f by omega];exact u'))
  rw[e,e]
  have ekl:k - (k - l)=l:=by omega
  rw[ekl]
  by_cases i1:i=l
  ·rw[if_pos i1]
   by_cases j1:j=l
   ·rw[if_pos j1];exact Int.le_refl _
   ·rw[if_neg j1,if_pos (by omega)]
    exact Int.le_of_lt (b _ (by omega) (by omega))
  ·rw[if_neg i1]
   by_cases i2:l < i∧i≤k
   ·rw[if_pos i2,if_neg (by omega),if_pos (by omega)]
    exact hu _ _ (by omega) (by omega)
   ·rw[if_neg i2]
    by_cases j1:j=l
    ·rw[if_pos j1];exact a _ (by omega)
    ·rw[if_neg j1]
     by_cases j2:l < j∧j≤k
     ·rw[if_pos j2];exact hu _ _ (by omega) (by omega)
     ·rw[if_neg j2];exact hu _ _ hij (by omega)
/-- the sort's tree, asked by ranks, ends at an order of the places by which the ranks rise -/
theorem sort_wp (h:Ask N r cmp s) (hN:0 < N) {Q:Array Nat->Shared->Prop} (z:∀ p,Gd N p->Up r p N->Q p s):(kas_sort N).kasWp cmp Q s:=by
 unfold kas_sort
 rw[KasT.kasWp_bind]
 refine count_wp h hN (Array.Perm.refl _) (fun m p g h1 hm u=>?_)
 show KasT.kasWp cmp (if m < N then kas_bin (N - max m 1) p (max m 1) else .ret p) Q s
 by_cases c:m < N
 ·rw[if_pos c,Nat.max_eq_left h1]
  exact bin_wp h hN _ p m g (by omega) u (fun p' g' u'=>z p' g' (by rw[show m + (N - m)=N by omega] at u';exact u'))
 ·rw[if_neg c]
  have:m=N:=by omega
  subst this
  exact z p g u
end
end Srt
namespace Srt
open PySem PySem.W PyProof.Rows
section
variable {n:Nat} {lt:Nat->Nat->Bool}
def rank (n:Nat) (lt:Nat->Nat->Bool) (i:Nat):Int:=(((List.range n).countP fun k=>lt k i:Nat):Int)
theorem countP_lt {α:Type} {p q:α->Bool}:∀ {l:List α} {x:α},(∀ y ∈ l,p y=true->q y=true)->x ∈ l->p x=false->q x=true->l.countP p < l.countP q
 | [],_,_,hx,_,_=>by cases hx
 | a::r,x,h,hx,hp,hq=>by
  have hr:∀ y ∈ r,p y=true->q y=true:=fun y hy=>h y (List.mem_cons_of_mem _ hy)
  have mono:r.countP p≤r.countP q:=List.countP_mono_left hr
  rw[List.countP_cons,List.countP_cons]
  rcases List.mem_cons.mp hx with e | hx
  ·subst e
   simp only [hp,hq,Bool.false_eq_true,if_false,if_true]
   omega
  ·have ih:=countP_lt hr hx hp hq
   cases hpa:p a with
   | false=>simp only [Bool.false_eq_true,if_false];split <;> omega
   | true =>
    have:=h a List.mem_cons_self hpa
    simp only [this,if_true]
    omega
theorem rank_lt (hi:∀ i,lt i i=false) (ht:∀ i j k,i < n->j < n->k < n->lt i j=true->lt j k=true->lt i k=true) (hn:∀ i j k,i < n->j < n->k < n->lt i k=true->lt i j=true∨lt j k=true)
  {i j:Nat} (h1:i < n) (h2:j < n):decide (rank n lt i < rank n lt j)=lt i j:=by
 unfold rank
 cases e:lt i j with
 | true =>
  refine decide_eq_true ?_
  have:=countP_lt (p:=fun k=>lt k i) (q:=fun k=>lt k j) (l:=List.range n) (x:=i) (fun k hk q=>ht k i j (List.mem_range.mp hk) h1 h2 q e) (List.mem_range.mpr h1) (hi i) e
  omega
 | false =>
  refine decide_eq_false ?_
  have:(List.range n).countP (fun k=>lt k j)≤(List.range n).countP (fun k=>lt k i):=List.countP_mono_left fun k hk q=>by
   rcases hn k i j (List.mem_range.mp hk) h1 h2 q with z | z
   ·exact z
   ·rw[e] at z;cases z
  omega
end
section
variable {prog:Program} {w:World} {A:Around} {E:Value->Shared->Prop} {s:Shared}
abbrev Stay (a:Addr) (h h':Heap):Prop:=∀ b o,b≠a->h.get? b=some o->h'.get? b=some o
def outOf (vs:List Value) (p:Array Nat):List Value:=p.toList.map fun i=>vs.getD i Value.none
theorem out_range (vs:List Value):outOf vs (List.toArray (List.range vs.length))=vs:=by
 unfold outOf
 refine List.ext_getElem (by simp) fun i h1 h2=>?_
 simp
 rw[List.getElem?_eq_getElem h2]
 rfl
theorem gd_len {vs:List Value} {p:Array Nat} (g:Gd vs.length p):(outOf vs p).length=vs.length:=by
 unfold outOf
 rw[List.length_map,Array.length_toList,g.sz]
/-- list.sort of a list whose items are told apart by ranks; nothing is written by a comparison -/
theorem lsort {a:Addr} {vs:List Value} {n:Nat} {P:PySem.Fin->Shared->Prop} {r:Nat->Int} {κ:SortKind} (ho:s.heap.get? a=some (seqObj "list" vs.toArray n)) (h64:vs.length < 64)
  (hk:2≤vs.length->∀ (s':Shared) (Q:SortKind->Shared->Prop),Stay a s.heap s'.heap->Q κ s'->wpAny (model prog w) A (keyKind' vs.toArray) Q (fun _ _=>False) s')
  (hc:∀ (s':Shared) (i j:Nat) (C:Bool->Shared->Prop),Stay a s.heap s'.heap->i < vs.length->j < vs.length->C (decide (r i < r j)) s'->kas_ask prog w A κ vs i j C s')
  (h:∀ (p:Array Nat) (h':Heap) (c:Nat),Gd vs.length p->Up r p vs.length->Stay a s.heap h'->h'.get? a=some (seqObj "list" (outOf vs p).toArray c)->P (.done (.ret .none)) { s with heap:=h' }) :
  wpAny (model prog w) A (Builtin.«list.sort» ⟨[.ref a],[]⟩) P E s:=by
 rw[list_sort_plain]
 have ha:a < s.heap.objs.size:=Heap.lt_size ho
 have line:(64:Nat)≤sizeLine:=by rw[sizeLine_eq];decide
 refine wpAny_bind (listItems_at ho rfl (wpAny_bind (listUpdate_at ho rfl ?_ (by rw[List.size_toArray];omega) (Nat.zero_le _))))
 have e1:=get?_update_seq ho fun _=>(#[]:Array Value)
 generalize (if ((fun _=>(#[]:Array Value)) vs.toArray).size == vs.toArray.size then n else n + 1)=n1 at e1
 have k1:Stay a s.heap (s.heap.update a (Obj.mapSeq fun _=>(#[]:Array Value))):=fun b o hb q=>(Heap.get?_update_other s.heap _ (Ne.symm hb)).trans q
 refine wpAny_bind (seqEpoch_at e1 rfl (wpAny_bind (wpAny_newTuple ?_ (by show vs.length≤_;omega))))
 refine wpAny_bind (wpAny_newList ?_ (Nat.zero_le _))
 refine wpAny_holding ?_
 show wpAny (model prog w) A _ P E { s with heap:=(((s.heap.update a (Obj.mapSeq fun _=>(#[]:Array Value))).push (seqObj "tuple" vs.toArray 0)).push (seqObj "list" #[] 0):Heap) }
 generalize hg:((s.heap.update a (Obj.mapSeq fun _=>(#[]:Array Value))).push (seqObj "tuple" vs.toArray 0)).push (seqObj "list" #[] 0)=g
 have e2:g.get? a=some (seqObj "list" #[] n1):=by rw[← hg];exact Heap.get?_push_of_some _ (Heap.get?_push_of_some _ e1)
 have k2:Stay a s.heap g:=fun b o hb q=>by rw[← hg];exact Heap.get?_push_of_some _ (Heap.get?_push_of_some _ (k1 b o hb q))
 have fin:∀ (p:Array Nat),Gd vs.length p->Up r p vs.length->P (.done (.ret .none)) { s with heap:=g.update a (Obj.mapSeq fun _=>(outOf vs p).toArray) }:=fun p g1 u1 =>
  h p _ _ g1 u1 (fun b o hb q=>(Heap.get?_update_other g _ (Ne.symm hb)).trans (k2 b o hb q)) (get?_update_seq e2 fun _=>(outOf vs p).toArray)
 by_cases h2:vs.length < 2
 ·have h2':vs.toArray.size < 2:=by rw[List.size_toArray];exact h2
  simp only [if_pos h2']
  refine wpAny_bind (wpAny_pure ?_)
  rw[StateT.run_pure]
  refine wpAny_bind (wpAny_pure ?_)
  have eo:((arrOf (SortSt.mk' general' (vs.toArray.zip vs.toArray) #[] 7 none)).map (·.2))=vs.toArray:=by
   apply Array.toList_inj.mp
   show ((vs.toArray.zip vs.toArray).map (·.2)).toList=_
   rw[Array.toList_map]
   simp only [Array.toList_zip,List.toList_toArray]
   exact List.map_snd_zip (Nat.le_refl _)
  dsimp only
  refine wpAny_bind (seqEpoch_at e2 rfl ?_)
  rw[eo]
  refine wpAny_bind (listUpdate_at e2 rfl ?_ (Nat.zero_le _) (by rw[List.size_toArray];omega))
  simp only [bne_self_eq_false,Bool.false_eq_true,if_false]
  have f:=fin (List.toArray (List.range vs.length)) (Array.Perm.refl _) (fun i j hij hj=>by
   have:i=j:=by omega
   subst this;exact Int.le_refl _)
  rw[out_range] at f
  exact wpAny_pure f
 ·have h2':¬ vs.toArray.size < 2:=by rw[List.size_toArray];exact h2
  simp only [if_neg h2']
  refine wpAny_bind (wpAny_mono (hk (by omega) { s with heap:=g } (fun κ' s'=>κ'=κ∧s'={ s with heap:=g }) k2 ⟨rfl,rfl⟩) (fun κ' s' hq=>?_) fun _ _ x=>x.elim)
  obtain⟨rfl,rfl⟩:=hq
  refine wpAny_bind (wpAny_mono (kat_run (ks:=vs) (Q:=fun st' s'=>∃ p:Array Nat,arrOf st'=p.map (kas_item (vs.toArray.zip vs.toArray))∧failedOf st'=none∧s'={ s with heap:=g }∧Gd vs.length p∧Up r p vs.length)
   (G:=fun p s'=>s'={ s with heap:=g }∧Gd vs.length p∧Up r p vs.length) rfl (by omega) h64 (fun p st' s' _ b2 b3 b4=>⟨p,b2,b3,b4.1,b4.2.1,b4.2.2⟩)
   (sort_wp (r:=r) (fun i j C hi hj q=>hc _ i j C k2 hi hj q) (by omega) fun p g1 u1=>⟨rfl,g1,u1⟩)) ?_ fun _ _ e=>e)
  rintro ⟨⟨⟩,st'⟩ s' ⟨p,har,hf,rfl,g1,u1⟩
  have hout:=kat_snds (ks:=vs) (vs:=vs) rfl har
  have ol:(outOf vs p).length=vs.length:=gd_len g1
  dsimp only
  rw[hout]
  refine wpAny_bind (seqEpoch_at e2 rfl ?_)
  refine wpAny_bind (listUpdate_at e2 rfl ?_ (Nat.zero_le _) (by show (outOf vs p).toArray.size≤_;rw[List.size_toArray];omega))
  rw[hf]
  simp only [bne_self_eq_false,Bool.false_eq_true,if_false]
  exact wpAny_pure (fin p g1 u1)
/-- sorted(l) -/
theorem sorted_by {l:Addr} {vs:List Value} {Q:Value->Shared->Prop} {r:Nat->Int} {κ:SortKind} (hl:s.heap.IsList l vs.toArray) (h64:vs.length < 64)
  (hk:2≤vs.length->∀ (A':Around) (s':Shared) (Q:SortKind->Shared->Prop),(∀ b o,s.heap.get? b=some o->s'.heap.get? b=some o)->Q κ s'->wpAny (model prog w) A' (keyKind' vs.toArray) Q (fun _ _=>False) s')
  (hc:∀ (A':Around) (s':Shared) (i j:Nat) (C:Bool->Shared->Prop),(∀ b o,s.heap.get? b=some o->s'.heap.get? b=some o)->i < vs.length->j < vs.length->C (decide (r i < r j)) s'->kas_ask prog w A' κ vs i j C s')
  (h:∀ (p:Array Nat) (h':Heap) (c:Nat),Gd vs.length p->Up r p vs.length->(∀ b o,s.heap.get? b=some o->h'.get? b=some o)->h'.get? (s.heap.objs.size + 1)=some (seqObj "list" (outOf vs p).toArray c)->Q (.ref (s.heap.objs.size + 1)) { s with heap:=h' }) :
  wpAny (model prog w) A (call (.builtin "sorted") [.ref l]) Q E s:=by
 have line:(64:Nat)≤sizeLine:=by rw[sizeLine_eq];decide
 refine Calls.call_function_entry kind_sorted plain_sorted entry_sorted (args_sorted1 _) ?_
 unfold Builtin.«sorted»
 refine wpAny_bind (m:=checkCount "sorted" 1 1 _) (wpAny_pure (wpAny_bind (collect_list hl (wpAny_bind (wpAny_newList ?_ (by omega))) (by omega))))
 generalize hg:(s.heap.push (seqObj "list" #[] 0)).update s.heap.objs.size (Obj.mapSeq (·++vs.toArray))=g
 have sz:g.objs.size=s.heap.objs.size + 1:=by rw[← hg,Heap.size_update,size_push']
 have k1:∀ b o,s.heap.get? b=some o->g.get? b=some o:=fun b o q=>by
  rw[← hg]
  exact (Heap.get?_update_other _ _ (Ne.symm (Nat.ne_of_lt (Heap.lt_size q)))).trans (Heap.get?_push_of_some _ q)
 have hoL:(g.push { cls:=.type "list",data:=.seq vs.toArray }).get? (s.heap.objs.size + 1)=some (seqObj "list" vs.toArray 0):=by rw[← sz];exact Heap.get?_push_size _ rfl
 have k2:∀ b o,s.heap.get? b=some o->(g.push { cls:=.type "list",data:=.seq vs.toArray }).get? b=some o:=fun b o q=>Heap.get?_push_of_some _ (k1 b o q)
 have ne:∀ b o,s.heap.get? b=some o->b≠s.heap.objs.size + 1:=fun b o q=>Nat.ne_of_lt (Nat.lt_succ_of_lt (Heap.lt_size q))
 show wpAny _ _ _ _ _ { s with heap:=g.push { cls:=.type "list",data:=.seq vs.toArray } }
 rw[sz]
 refine wpAny_bind (wpAny_holding (wpAny_call_entry slot_list_sort ⟨_,hoL,rfl⟩ entry_list_sort ?_ (args_list_sort _)))
 refine lsort (s:={ s with heap:=g.push { cls:=.type "list",data:=.seq vs.toArray } }) (r:=r) (κ:=κ) hoL h64 (fun h2 s' Q' st q=>hk h2 _ s' Q' (fun b o e=>st b o (ne b o e) (k2 b o e)) q)
  (fun s' i j C st hi hj q=>hc _ s' i j C (fun b o e=>st b o (ne b o e) (k2 b o e)) hi hj q) fun p h' c g1 u1 st e=>⟨_,rfl,?_⟩
 exact wpAny_pure ⟨_,rfl,h p h' c g1 u1 (fun b o e=>st b o (ne b o e) (k2 b o e)) e⟩
def lexI:List Int->List Int->Bool
 | [],[]=>false
 | [],_::_=>true
 | _::_,[]=>false
 | x::xs,y::ys=>if x=y then lexI xs ys else decide (x < y)
theorem lexI_irr:∀ xs,lexI xs xs=false
 | []=>rfl
 | x::xs=>by show (if x=x then lexI xs xs else _)=false;rw[if_pos rfl];exact lexI_irr xs
theorem lexI_trans:∀ xs ys zs,lexI xs ys=true->lexI ys zs=true->lexI xs zs=true
 | [],[],_,h,_=>by cases h
 | [],_::_,[],_,h=>by cases h
 | [],_::_,_::_,_,_=>rfl
 | _::_,[],_,h,_=>by cases h
 | _::_,_::_,[],_,h=>by cases h
 | x::xs,y::ys,z::zs,h1,h2=>by
  simp only [lexI] at h1 h2 ⊢
  by_cases e1:x=y
  ·subst e1
   rw[if_pos rfl] at h1
   by_cases e2:x=z
   ·rw[if_pos e2] at h2 ⊢;exact lexI_trans xs ys zs h1 h2
   ·rw[if_neg e2] at h2 ⊢;exact h2
  ·rw[if_neg e1] at h1
   have l1:x < y:=of_decide_eq_true h1
   by_cases e2:y=z
   ·subst e2
    rw[if_neg e1];exact h1
   ·rw[if_neg e2] at h2
    have l2:y < z:=of_decide_eq_true h2
    rw[if_neg (by omega)]
    exact decide_eq_true (by omega)
theorem lexI_neg:∀ xs ys zs,lexI xs zs=true->lexI xs ys=true∨lexI ys zs=true
 | [],[],_,h=>.inr h
 | [],_::_,_,_=>.inl rfl
 | _::_,_,[],h=>by cases h
 | _::_,[],_::_,_=>.inr rfl
 | x::xs,y::ys,z::zs,h=>by
  simp only [lexI] at h ⊢
  by_cases e:x=z
  ·subst e
   rw[if_pos rfl] at h
   by_cases e1:x=y
   ·subst e1
    rw[if_pos rfl,if_pos rfl];exact lexI_neg xs ys zs h
   ·rw[if_neg e1,if_neg (Ne.symm e1)]
    by_cases l:x < y
    ·exact .inl (decide_eq_true l)
    ·exact .inr (decide_eq_true (by omega))
  ·rw[if_neg e] at h
   have l:x < z:=of_decide_eq_true h
   by_cases e1:x=y
   ·subst e1
    rw[if_neg e];exact .inr h
   ·by_cases e2:y=z
    ·subst e2
     rw[if_neg e1];exact .inl h
    ·rw[if_neg e1,if_neg e2]
     by_cases l1:x < y
     ·exact .inl (decide_eq_true l1)
     ·exact .inr (decide_eq_true (by omega))
/-- the values of a list that are tuples of ints -/
def TupI (h:Heap) (v:Value) (k:List Int):Prop:=∃ a o its n,v=.ref a∧h.get? a=some o∧o.cls=.type "tuple"∧o.data=.seq its n∧IntsAre its.toList k
theorem TupI.to {h h':Heap} {v:Value} {k:List Int} (t:TupI h v k) (e:∀ b o,h.get? b=some o->h'.get? b=some o):TupI h' v k :=
 let ⟨a,o,its,n,q1,q2,q3⟩:=t
 ⟨a,o,its,n,q1,e _ _ q2,q3⟩
theorem katI {C:Bool->Shared->Prop}:∀ {xs ys:List Value} {k k':List Int} (i:Nat),IntsAre xs k->IntsAre ys k'->C (lexI k k') s->KatLex prog w A true (decide (k.length < k'.length)) C (xs.zip ys) i s
 | _,_,_,_,i,.nil,.nil,h=>h
 | _,_,_,_,i,.nil,.cons c u h',h=>by
  rw[List.zip_nil_left]
  refine kat_nil ?_
  rw[decide_eq_true (by simp)]
  exact h
 | _,_,_,_,i,.cons a t h',.nil,h=>by
  rw[List.zip_nil_right]
  refine kat_nil ?_
  rw[decide_eq_false (by simp)]
  exact h
 | _,_,_,_,i,.cons a t (vs:=xs) (ns:=k) h1,.cons c u (vs:=ys) (ns:=k') h2,h=>by
  rw[List.zip_cons_cons]
  refine kat_cons (wpAny_eqBool_int ?_)
  have ef:decide ((a::k).length < (c::k').length)=decide (k.length < k'.length):=by simp
  have hh:C (if a=c then lexI k k' else decide (a < c)) s:=h
  rw[ef]
  by_cases e:a=c
  ·rw[if_pos e] at hh
   rw[show (a == c)=true by simpa using e]
   exact kat_yes (katI (i + 1) h1 h2 hh)
  ·rw[if_neg e] at hh
   rw[show (a == c)=false by simpa using e]
   refine kat_no ?_
   cases hi:(true && i == 0) with
   | true=>exact oneLt_int hh
   | false=>exact kat_one _ _ (lt_int hh)
theorem tup_ask {vs:List Value} {ks:List (List Int)} (hk:Paired (TupI s.heap) vs ks) {i j:Nat} {C:Bool->Shared->Prop} (hi:i < vs.length) (hj:j < vs.length) (h:C (lexI (ks.getD i []) (ks.getD j [])) s):kas_ask prog w A (tuples' true) vs i j C s:=by
 have at_:∀ {vs:List Value} {ks:List (List Int)} (i:Nat),Paired (TupI s.heap) vs ks->i < vs.length->TupI s.heap (vs.getD i Value.none) (ks.getD i []):=by
  intro vs ks i p
  induction p generalizing i with
  | nil=>intro h;exact absurd h (by simp)
  | cons r t ih =>
   intro h
   cases i with
   | zero=>exact r
   | succ i=>exact ih i (by simpa using h)
 obtain⟨a,o,its,n,e1,q1,q2,q3,q4⟩:=at_ i hk hi
 obtain⟨a',o',its',n',e1',q1',q2',q3',q4'⟩:=at_ j hk hj
 unfold kas_ask
 rw[e1,e1']
 refine kat_lt q1 q3 q1' q3' ?_
 have l1:its.size=(ks.getD i []).length:=by have:=q4.length;simpa using this
 have l2:its'.size=(ks.getD j []).length:=by have:=q4'.length;simpa using this
 rw[l1,l2]
 exact katI 0 q4 q4' h
theorem tup_kind {vs:List Value} {ks:List (List Int)} (hk:Paired (TupI s.heap) vs ks) (hne:∀ k ∈ ks,k≠[]) (h2:2≤vs.length) {Q:SortKind->Shared->Prop} (h:Q (tuples' true) s):wpAny (model prog w) A (keyKind' vs.toArray) Q E s:=by
 have mk:∀ {vs:List Value} {ks:List (List Int)},Paired (TupI s.heap) vs ks->(∀ k ∈ ks,k≠[])->∃ fs:List Value,KatTups s.heap vs fs∧fs.length=vs.length∧∀ f ∈ fs,∃ n t,f=.int n t:=by
  intro vs ks p
  induction p with
  | nil=>exact fun _=>⟨[],.nil,rfl,fun f hf=>nomatch hf⟩
  | cons r t ih =>
   intro hn
   obtain⟨fs,g1,g2,g3⟩:=ih fun k hk=>hn k (List.mem_cons_of_mem _ hk)
   obtain⟨a,o,its,n,e1,q1,q2,q3,q4⟩:=r
   have hne:=hn _ List.mem_cons_self
   subst e1
   cases hz:its.toList with
   | nil=>rw[hz] at q4;cases q4;exact absurd rfl hne
   | cons v r =>
    rw[hz] at q4
    obtain⟨m,tk,ev⟩:=q4.all v List.mem_cons_self
    refine⟨v::fs,.cons q1 q2 q3 ?_ g1,by simp [g2],fun f hf=>?_⟩
    ·rw[← Array.getElem?_toList,hz];rfl
    ·rcases List.mem_cons.mp hf with e | hf
     ·exact⟨m,tk,e.trans ev⟩
     ·exact g3 f hf
 obtain⟨fs,g1,g2,g3⟩:=mk hk hne
 refine kat_kind (T:=.type "int") g1 (by omega) (fun v hv=>?_) (by decide +kernel) h
 obtain⟨m,tk,rfl⟩:=g3 v hv
 exact Looks.of_pure rfl
theorem int_ask {vs:List Value} {ns:List Int} (hk:IntsAre vs ns) {i j:Nat} {C:Bool->Shared->Prop} (hi:i < vs.length) (hj:j < vs.length) (h:C (decide (ns.getD i 0 < ns.getD j 0)) s):kas_ask prog w A oneType' vs i j C s:=by
 have at_:∀ {vs:List Value} {ns:List Int} (i:Nat),IntsAre vs ns->i < vs.length->∃ t,vs.getD i Value.none=.int (ns.getD i 0) t:=by
  intro vs ns i p
  induction p generalizing i with
  | nil=>intro h;exact absurd h (by simp)
  | cons n t r ih =>
   intro h
   cases i with
   | zero=>exact⟨t,rfl⟩
   | succ i=>exact ih i (by simpa using h)
 obtain⟨t,e1⟩:=at_ i hk hi
 obtain⟨u,e2⟩:=at_ j hk hj
 unfold kas_ask
 rw[e1,e2]
 exact kat_lt_int h
theorem int_kind {vs:List Value} {ns:List Int} (hk:IntsAre vs ns) (h2:2≤vs.length) {Q:SortKind->Shared->Prop} (h:Q oneType' s):wpAny (model prog w) A (keyKind' vs.toArray) Q E s:=by
 refine kas_kind (T:=.type "int") h2 (fun v hv=>?_) (by decide +kernel) (by decide +kernel) h
 obtain⟨m,tk,rfl⟩:=hk.all v hv
 exact Looks.of_pure rfl
end
end Srt
namespace Z3
open PySem
section
variable {prog:Program} {w:World} {A:Around} {E:Value->Shared->Prop} {s:Shared}
/-- a sequence (t: a tuple, else a list) and an iterator over it -/
def SqAt (t:Bool) (h:Heap) (l:Addr) (xs:Array Value):Prop:=if t=true then h.IsTuple l xs else h.IsList l xs
def ItAt (t:Bool) (h:Heap) (it l:Addr) (i:Nat):Prop:=if t=true then h.IsTupleIter it l i else h.IsListIter it l i
def itObj (t:Bool) (l:Addr):Obj:=if t=true then { cls:=.type "tuple_iterator",data:=.fields #[.ref l,.int 0 0] } else { cls:=.type "list_iterator",data:=.fields #[.ref l,.int 0 0] }
theorem SqAt.to {t:Bool} {h h':Heap} {l:Addr} {xs:Array Value} (x:SqAt t h l xs) (e:∀ o,h.get? l=some o->h'.get? l=some o):SqAt t h' l xs:=by
 cases t with
 | true=>exact Heap.IsTuple.at (show h.IsTuple l xs from x) e
 | false=>exact Heap.IsList.at (show h.IsList l xs from x) e
theorem ItAt.to {t:Bool} {h h':Heap} {it l:Addr} {i:Nat} (x:ItAt t h it l i) (e:∀ o,h.get? it=some o->h'.get? it=some o):ItAt t h' it l i:=by
 cases t with
 | true=>exact Heap.IsTupleIter.at (show h.IsTupleIter it l i from x) e
 | false=>exact Heap.IsListIter.at (show h.IsListIter it l i from x) e
theorem ItAt.obj {t:Bool} {h:Heap} {it l:Addr} {i:Nat} (x:ItAt t h it l i):∃ o n,h.get? it=some o∧o.cls=.type n∧o.data=.fields #[.ref l,.int i 0]:=by
 cases t with
 | true=>obtain⟨o,a,b,c⟩:=(show h.IsTupleIter it l i from x);exact⟨o,_,a,b,c⟩
 | false=>obtain⟨o,a,b,c⟩:=(show h.IsListIter it l i from x);exact⟨o,_,a,b,c⟩
theorem ItAt.new {t:Bool} {h:Heap} {l:Addr}:ItAt t (h.push (itObj t l)) h.objs.size l 0:=by
 cases t with
 | true=>exact⟨_,Heap.get?_push_size _ rfl,rfl,rfl⟩
 | false=>exact⟨_,Heap.get?_push_size _ rfl,rfl,rfl⟩
theorem iter_at {t:Bool} {l:Addr} {xs:Array Value} {Q:Value->Shared->Prop} (hl:SqAt t s.heap l xs) (h:Q (.ref s.heap.objs.size) { s with heap:=s.heap.push (itObj t l) }):wpAny (model prog w) A (pyIter (.ref l)) Q E s:=by
 cases t with
 | true=>exact wpAny_pyIter_tuple hl h
 | false=>exact wpAny_pyIter_list hl h
theorem draw_tup {it l:Addr} {i:Nat} {xs:Array Value} {x:Value} {Q:Value->Shared->Prop} (hi:s.heap.IsTupleIter it l i) (hl:s.heap.IsTuple l xs) (hx:xs[i]?=some x)
  (h:∀ h',h'.IsTupleIter it l (i + 1)->Heap.SameBut it s.heap h'->Q x { s with heap:=h' }):wpAny (model prog w) A (Builtin.SmallTypes.nextOf (.ref it)) Q E s:=by
 obtain⟨o1,q1,q2,q3⟩:=id hi
 obtain⟨o2,q4,_,n2,q5⟩:=hl
 unfold Builtin.SmallTypes.nextOf
 refine wpAny_bind (wpAny_callSpecial?_slot (name:=Str.ofString "__next__") hi.typeIs F.slot_tuple_iterator_next (wpAny_call_entry F.slot_tuple_iterator_next hi.typeIs F.entry_tuple_iterator_next ?_ (F.args_tuple_iterator_next_1 _)))
 show wpAny _ _ (field (.ref it) 0 >>= _) _ _ s
 refine wpAny_bind (wpAny_field q1 q3 (x:=.ref l) rfl ?_)
 show wpAny _ _ (if (Value.ref l == Value.none)=true then _ else _) _ _ s
 rw[if_neg (show ¬ ((Value.ref l == Value.none)=true) from Bool.false_ne_true)]
 show wpAny _ _ (field (.ref it) 1 >>= _) _ _ s
 refine wpAny_bind (wpAny_field q1 q3 (x:=.int i 0) rfl ?_)
 show wpAny _ _ (seqItems? (.ref l) >>= _) _ _ s
 refine wpAny_bind (wpAny_seqItems q4 q5 ?_)
 simp only [Int.toNat_natCast,hx]
 refine wpAny_bind (wpAny_setField q1 q3 (by simp) (wpAny_pure ⟨x,rfl,wpAny_pure (h _ ?_ (Heap.SameBut.update ..))⟩))
 exact⟨_,Heap.get?_update_self _ q1 (Obj.isFreed_of_fields (Obj.data_mapFields q3 _)),(Obj.cls_mapFields ..).trans q2,by rw[Obj.data_mapFields q3];simp [rawInt]⟩
theorem stop_tup {it l:Addr} {i:Nat} {xs:Array Value} {Q:Value->Shared->Prop} (hh:A.handled=none) (hi:s.heap.IsTupleIter it l i) (hl:s.heap.IsTuple l xs) (hx:xs[i]?=none)
  (h:∀ h' e,Heap.ExtBut it s.heap h'->(∃ o,h'.get? e=some o∧o.cls=.type "StopIteration")->E (.ref e) { s with heap:=h' }):wpAny (model prog w) A (Builtin.SmallTypes.nextOf (.ref it)) Q E s:=by
 obtain⟨o1,q1,q2,q3⟩:=id hi
 obtain⟨o2,q4,_,n2,q5⟩:=hl
 unfold Builtin.SmallTypes.nextOf
 refine wpAny_bind (wpAny_callSpecial?_slot (name:=Str.ofString "__next__") hi.typeIs F.slot_tuple_iterator_next (wpAny_call_entry F.slot_tuple_iterator_next hi.typeIs F.entry_tuple_iterator_next ?_ (F.args_tuple_iterator_next_1 _)))
 show wpAny _ _ (field (.ref it) 0 >>= _) _ _ s
 refine wpAny_bind (wpAny_field q1 q3 (x:=.ref l) rfl ?_)
 show wpAny _ _ (if (Value.ref l == Value.none)=true then _ else _) _ _ s
 rw[if_neg (show ¬ ((Value.ref l == Value.none)=true) from Bool.false_ne_true)]
 show wpAny _ _ (field (.ref it) 1 >>= _) _ _ s
 refine wpAny_bind (wpAny_field q1 q3 (x:=.int i 0) rfl ?_)
 show wpAny _ _ (seqItems? (.ref l) >>= _) _ _ s
 refine wpAny_bind (wpAny_seqItems q4 q5 ?_)
 simp only [Int.toNat_natCast,hx]
 refine wpAny_bind (wpAny_rule (wpAny_bind (wpAny_setField q1 q3 (by simp) ?_)))
 show wpAny _ _ (newExc (.type "StopIteration") [] >>= _) _ _ { s with heap:=_ }
 refine wpAny_bind (by
  simp only [newExc,newTuple]
  refine wpAny_bind (wpAny_newObj_type ?_ (by size_fits))
  refine wpAny_bind (m:=firstArgMember _ _) (wpAny_of_eq (a:=Value.none) (by first | rfl | (simp only [firstArgMember];rfl)) ?_)
  refine wpAny_newObj_type ?_ (by size_fits)
  simp only [raiseNew]
  refine wpAny_bind (wpAny_handled ?_)
  first | rw[show A.in1.handled=none from hh] | rw[hh]
  exact wpAny_bind (wpAny_pure (wpAny_throw (h _ _ (((Heap.SameBut.update ..).extBut.push _).push _) ⟨_,Heap.get?_push_size _ rfl,rfl⟩))))
theorem draw_at {t:Bool} {it l:Addr} {i:Nat} {xs:Array Value} {x:Value} {Q:Value->Shared->Prop} (hi:ItAt t s.heap it l i) (hl:SqAt t s.heap l xs) (hx:xs[i]?=some x)
  (h:∀ h',ItAt t h' it l (i + 1)->Heap.SameBut it s.heap h'->Q x { s with heap:=h' }):wpAny (model prog w) A (Builtin.SmallTypes.nextOf (.ref it)) Q E s:=by
 cases t with
 | true=>exact draw_tup hi hl hx h
 | false=>exact wpAny_nextOf_list_item hi hl hx h
theorem stop_at {t:Bool} {it l:Addr} {i:Nat} {xs:Array Value} {Q:Value->Shared->Prop} (hh:A.handled=none) (hi:ItAt t s.heap it l i) (hl:SqAt t s.heap l xs) (hx:xs[i]?=none)
  (h:∀ h' e,Heap.ExtBut it s.heap h'->(∃ o,h'.get? e=some o∧o.cls=.type "StopIteration")->E (.ref e) { s with heap:=h' }):wpAny (model prog w) A (Builtin.SmallTypes.nextOf (.ref it)) Q E s:=by
 cases t with
 | true=>exact stop_tup hh hi hl hx h
 | false=>exact wpAny_nextOf_list_end hh hi hl hx h
/-- a zip of two sequences: all its objects at their places -/
structure Zd (t1 t2:Bool) (h:Heap) (z TI TO i1 i2 l1 l2:Addr) (f0:Value) (k:Nat):Prop where
 z:IsZip h z TI TO f0
 ti:IsPair h TI (.ref i1) (.ref i2)
 to:∃ a b,IsPair h TO a b
 a1:ItAt t1 h i1 l1 k
 a2:ItAt t2 h i2 l2 k
/-- its five own objects differ; those it walks are others -/
structure Ap (z TI TO i1 i2:Addr):Prop where
 n1:TI≠z
 n2:TO≠z
 n3:i1≠z
 n4:i2≠z
 n5:TI≠TO
 n6:TI≠i1
 n7:TI≠i2
 n8:TO≠i1
 n9:TO≠i2
 n10:i1≠i2
def Out (z TI TO i1 i2 l:Addr):Prop:=l≠z∧l≠TI∧l≠TO∧l≠i1∧l≠i2
theorem zip_more {t1 t2:Bool} {z TI TO i1 i2 l1 l2:Addr} {k:Nat} {xs ys:Array Value} {x y:Value} {Q:Value->Shared->Prop} (D:Ap z TI TO i1 i2) (o1:Out z TI TO i1 i2 l1) (o2:Out z TI TO i1 i2 l2)
  (Z:Zd t1 t2 s.heap z TI TO i1 i2 l1 l2 .none k) (hl1:SqAt t1 s.heap l1 xs) (hl2:SqAt t2 s.heap l2 ys) (hx:xs[k]?=some x) (hy:ys[k]?=some y)
  (hQ:∀ h',Zd t1 t2 h' z TI TO i1 i2 l1 l2 (rawInt s.heap.objs.size) (k + 1)->IsPair h' s.heap.objs.size x y->h'.objs.size=s.heap.objs.size + 1 ->
   (∀ c o,c≠z->c≠TO->c≠i1->c≠i2->s.heap.get? c=some o->h'.get? c=some o)->Q (.ref s.heap.objs.size) { s with heap:=h' }) :
  wpAny (model prog w) A (Builtin.«zip.__next__» ⟨[.ref z],[]⟩) (fun fin s'=>∃ v,fin=.done (.ret v)∧Q v s') E s:=by
 obtain⟨hz,hti,⟨a,b,hto⟩,h1,h2⟩:=Z
 show wpAny _ _ (field (.ref z) 2 >>= _) _ _ s
 refine wpAny_bind (wpAny_field hz rfl (x:=.bool false) rfl ?_)
 show wpAny _ _ (field (.ref z) 3 >>= _) _ _ s
 refine wpAny_bind (wpAny_field hz rfl (x:=.ref TI) rfl ?_)
 refine wpAny_bind (wpAny_seqItems hti rfl ?_)
 show wpAny _ _ (Builtin.SmallTypes.ownedTupleIsFree (.ref z) >>= _) _ _ s
 refine wpAny_bind ?_
 unfold Builtin.SmallTypes.ownedTupleIsFree
 refine wpAny_bind (wpAny_field hz rfl (x:=.none) rfl (wpAny_pure ?_))
 simp only [if_true]
 refine wpAny_bind (wpAny_rule ?_)
 refine wpAny_bind (wpAny_field hz rfl (x:=.ref TO) rfl ?_)
 refine wpAny_bind (wpAny_setField_rec hz (by simp) fun g1 z1 e1=>?_)
 replace z1:IsZip g1 z TI TO .ellipsis:=z1
 refine wpAny_bind ?_
 simp only [List.zipIdx_cons,List.zipIdx_nil,List.forIn_cons,List.forIn_nil]
 refine wpAny_bind (wpAny_bind (wpAny_onRaise ?_))
 show wpAny _ _ (Builtin.SmallTypes.nextOf (.ref i1) >>= _) _ _ { s with heap:=g1 }
 refine wpAny_bind (draw_at (h1.to fun o e=>e1.extBut _ _ D.n3 e) (hl1.to fun o e=>e1.extBut _ _ o1.1 e) hx fun g2 a2 e2=>wpAny_pure ?_)
 have b2:IsPair g2 TO a b:=e2.extBut _ _ D.n8 (e1.extBut _ _ D.n2 hto)
 refine wpAny_bind (wpAny_seqItems b2 rfl ?_)
 refine wpAny_bind (wpAny_updateSeq_pair b2 fun g3 b3 e3=>?_)
 replace b3:IsPair g3 TO x b:=b3
 refine wpAny_bind (wpAny_letGo (wpAny_pure ?_))
 refine wpAny_bind (wpAny_bind (wpAny_onRaise ?_))
 show wpAny _ _ (Builtin.SmallTypes.nextOf (.ref i2) >>= _) _ _ { s with heap:=g3 }
 refine wpAny_bind (draw_at (h2.to fun o e=>e3.extBut _ _ D.n9.symm (e2.extBut _ _ D.n10.symm (e1.extBut _ _ D.n4 e))) (hl2.to fun o e=>e3.extBut _ _ o2.2.2.1 (e2.extBut _ _ o2.2.2.2.1 (e1.extBut _ _ o2.1 e))) hy fun g4 a4 e4=>wpAny_pure ?_)
 have b4:IsPair g4 TO x b:=e4.extBut _ _ D.n9 b3
 refine wpAny_bind (wpAny_seqItems b4 rfl ?_)
 refine wpAny_bind (wpAny_updateSeq_pair b4 fun g5 b5 e5=>?_)
 replace b5:IsPair g5 TO x y:=b5
 refine wpAny_bind (wpAny_letGo (wpAny_pure (wpAny_pure ?_)))
 refine wpAny_bind (wpAny_seqItems b5 rfl ?_)
 refine wpAny_bind (wpAny_newTuple ?_)
 have sz:g5.objs.size=s.heap.objs.size:=by rw[e5.1,e4.1,e3.1,e2.1,e1.1]
 have z5:IsZip g5 z TI TO .ellipsis:=e5.extBut _ _ D.n2.symm (e4.extBut _ _ D.n4.symm (e3.extBut _ _ D.n2.symm (e2.extBut _ _ D.n3.symm z1)))
 have k5:∀ c o,c≠z->c≠TO->c≠i1->c≠i2->s.heap.get? c=some o->g5.get? c=some o:=fun c o c1 c2 c3 c4 e =>
  e5.extBut _ _ c2 (e4.extBut _ _ c4 (e3.extBut _ _ c2 (e2.extBut _ _ c3 (e1.extBut _ _ c1 e))))
 have a15:ItAt t1 g5 i1 l1 (k + 1):=a2.to fun o e=>e5.extBut _ _ D.n8.symm (e4.extBut _ _ D.n10 (e3.extBut _ _ D.n8.symm e))
 have a25:ItAt t2 g5 i2 l2 (k + 1):=a4.to fun o e=>e5.extBut _ _ D.n9.symm e
 have zlt:z < g5.objs.size:=Heap.lt_size z5
 show wpAny _ _ (Builtin.SmallTypes.ownedTupleHandOut (.ref z) (.ref g5.objs.size) >>= _) _ _ { s with heap:=_ }
 refine wpAny_bind ?_
 unfold Builtin.SmallTypes.ownedTupleHandOut
 have z6:IsZip (g5.push { cls:=.type "tuple",data:=.seq #[x,y] }) z TI TO .ellipsis:=Heap.get?_push_of_some _ z5
 refine wpAny_bind (wpAny_setField_rec z6 (by simp) fun g7 z7 e7=>?_)
 replace z7:IsZip g7 z TI TO (rawInt g5.objs.size):=z7
 refine wpAny_setField_rec z7 (by simp) fun g8 z8 e8=>?_
 replace z8:IsZip g8 z TI TO (rawInt g5.objs.size):=z8
 have up:∀ c o,c≠z->g5.get? c=some o->g8.get? c=some o:=fun c o c1 e=>e8.extBut _ _ c1 (e7.extBut _ _ c1 (Heap.get?_push_of_some _ e))
 have t8:IsPair g8 g5.objs.size x y:=e8.extBut _ _ (Nat.ne_of_gt zlt) (e7.extBut _ _ (Nat.ne_of_gt zlt) (Heap.get?_push_size _ rfl))
 have sz8:g8.objs.size=g5.objs.size + 1:=by rw[e8.1,e7.1,Heap.size_push]
 rw[sz] at z8 t8 sz8
 refine wpAny_pure ⟨_,rfl,?_⟩
 show Q (.ref g5.objs.size) { s with heap:=g8 }
 rw[sz]
 exact hQ g8 ⟨z8,up _ _ D.n1 (k5 _ _ D.n1 D.n5 D.n6 D.n7 hti),⟨x,y,up _ _ D.n2 b5⟩,a15.to fun o e=>up _ o D.n3 e,a25.to fun o e=>up _ o D.n4 e⟩ t8 sz8 fun c o c1 c2 c3 c4 e=>up c o c1 (k5 c o c1 c2 c3 c4 e)
theorem zip_stop {t1 t2:Bool} {z TI TO i1 i2 l1 l2:Addr} {k:Nat} {xs ys:Array Value} {Q:Fin->Shared->Prop} (hh:A.handled=none) (D:Ap z TI TO i1 i2) (o1:Out z TI TO i1 i2 l1) (o2:Out z TI TO i1 i2 l2)
  (Z:Zd t1 t2 s.heap z TI TO i1 i2 l1 l2 .none k) (hl1:SqAt t1 s.heap l1 xs) (hl2:SqAt t2 s.heap l2 ys) (hend:xs[k]?=none∨ys[k]?=none)
  (hE:∀ h' e,(∀ c o,c≠z->c≠TO->c≠i1->c≠i2->s.heap.get? c=some o->h'.get? c=some o)->(∃ o,h'.get? e=some o∧o.cls=.type "StopIteration")->E (.ref e) { s with heap:=h' }) :
  wpAny (model prog w) A (Builtin.«zip.__next__» ⟨[.ref z],[]⟩) Q E s:=by
 obtain⟨hz,hti,⟨a,b,hto⟩,h1,h2⟩:=Z
 show wpAny _ _ (field (.ref z) 2 >>= _) _ _ s
 refine wpAny_bind (wpAny_field hz rfl (x:=.bool false) rfl ?_)
 show wpAny _ _ (field (.ref z) 3 >>= _) _ _ s
 refine wpAny_bind (wpAny_field hz rfl (x:=.ref TI) rfl ?_)
 refine wpAny_bind (wpAny_seqItems hti rfl ?_)
 show wpAny _ _ (Builtin.SmallTypes.ownedTupleIsFree (.ref z) >>= _) _ _ s
 refine wpAny_bind ?_
 unfold Builtin.SmallTypes.ownedTupleIsFree
 refine wpAny_bind (wpAny_field hz rfl (x:=.none) rfl (wpAny_pure ?_))
 simp only [if_true]
 refine wpAny_bind (wpAny_rule ?_)
 refine wpAny_bind (wpAny_field hz rfl (x:=.ref TO) rfl ?_)
 refine wpAny_bind (wpAny_setField_rec hz (by simp) fun g1 z1 e1=>?_)
 replace z1:IsZip g1 z TI TO .ellipsis:=z1
 refine wpAny_bind ?_
 simp only [List.zipIdx_cons,List.zipIdx_nil,List.forIn_cons,List.forIn_nil]
 refine wpAny_bind (wpAny_bind (wpAny_onRaise ?_))
 show wpAny _ _ (Builtin.SmallTypes.nextOf (.ref i1) >>= _) _ _ { s with heap:=g1 }
 cases hx:xs[k]? with
 | none =>
  refine wpAny_bind (stop_at hh (h1.to fun o e=>e1.extBut _ _ D.n3 e) (hl1.to fun o e=>e1.extBut _ _ o1.1 e) hx fun g2 e e2 he=>?_)
  obtain⟨oe,p1,p2⟩:=he
  have z2:IsZip g2 z TI TO .ellipsis:=e2 _ _ D.n3.symm z1
  have ez:e≠z:=fun q=>by subst q;rw[z2] at p1;cases p1;simp at p2
  exact wpAny_setField_rec z2 (by simp) fun g3 _ e3=>hE g3 e (fun c o c1 _ c3 _ q=>e3.extBut _ _ c1 (e2 _ _ c3 (e1.extBut _ _ c1 q))) ⟨oe,e3.extBut _ _ ez p1,p2⟩
 | some x =>
  have hy:ys[k]?=none:=by
   rcases hend with q | q
   ·rw[hx] at q;cases q
   ·exact q
  refine wpAny_bind (draw_at (h1.to fun o e=>e1.extBut _ _ D.n3 e) (hl1.to fun o e=>e1.extBut _ _ o1.1 e) hx fun g2 a2 e2=>wpAny_pure ?_)
  have b2:IsPair g2 TO a b:=e2.extBut _ _ D.n8 (e1.extBut _ _ D.n2 hto)
  refine wpAny_bind (wpAny_seqItems b2 rfl ?_)
  refine wpAny_bind (wpAny_updateSeq_pair b2 fun g3 b3 e3=>?_)
  refine wpAny_bind (wpAny_letGo (wpAny_pure ?_))
  refine wpAny_bind (wpAny_bind (wpAny_onRaise ?_))
  show wpAny _ _ (Builtin.SmallTypes.nextOf (.ref i2) >>= _) _ _ { s with heap:=g3 }
  refine wpAny_bind (stop_at hh (h2.to fun o e=>e3.extBut _ _ D.n9.symm (e2.extBut _ _ D.n10.symm (e1.extBut _ _ D.n4 e))) (hl2.to fun o e=>e3.extBut _ _ o2.2.2.1 (e2.extBut _ _ o2.2.2.2.1 (e1.extBut _ _ o2.1 e))) hy fun g4 e e4 he=>?_)
  obtain⟨oe,p1,p2⟩:=he
  have z4:IsZip g4 z TI TO .ellipsis:=e4 _ _ D.n4.symm (e3.extBut _ _ D.n2.symm (e2.extBut _ _ D.n3.symm z1))
  have ez:e≠z:=fun q=>by subst q;rw[z4] at p1;cases p1;simp at p2
  exact wpAny_setField_rec z4 (by simp) fun g5 _ e5=>hE g5 e (fun c o c1 c2 c3 c4 q=>e5.extBut _ _ c1 (e4 _ _ c4 (e3.extBut _ _ c2 (e2.extBut _ _ c3 (e1.extBut _ _ c1 q))))) ⟨oe,e5.extBut _ _ ez p1,p2⟩
theorem next_more {t1 t2:Bool} {z TI TO i1 i2 l1 l2:Addr} {k:Nat} {xs ys:Array Value} {x y:Value} {Q:Option Value->Shared->Prop} (D:Ap z TI TO i1 i2) (o1:Out z TI TO i1 i2 l1) (o2:Out z TI TO i1 i2 l2)
  (Z:Zd t1 t2 s.heap z TI TO i1 i2 l1 l2 .none k) (hl1:SqAt t1 s.heap l1 xs) (hl2:SqAt t2 s.heap l2 ys) (hx:xs[k]?=some x) (hy:ys[k]?=some y)
  (hQ:∀ h',Zd t1 t2 h' z TI TO i1 i2 l1 l2 (rawInt s.heap.objs.size) (k + 1)->IsPair h' s.heap.objs.size x y->h'.objs.size=s.heap.objs.size + 1 ->
   (∀ c o,c≠z->c≠TO->c≠i1->c≠i2->s.heap.get? c=some o->h'.get? c=some o)->Q (some (.ref s.heap.objs.size)) { s with heap:=h' }) :
  wpAny (model prog w) A (pyNext (.ref z)) Q E s:=by
 have hT:s.TypeIs (.ref z) "zip":=⟨_,Z.z,rfl⟩
 unfold pyNext
 exact wpAny_bind (wpAny_attempt (wpAny_callSpecial?_slot (name := Str.ofString "__next__") hT F.slot_zip_next (wpAny_call_entry F.slot_zip_next hT F.entry_zip_next
     (zip_more D o1 o2 Z hl1 hl2 hx hy fun h' b1 b2 b3 b4=>wpAny_pure (hQ h' b1 b2 b3 b4)) (F.args_zip_next_1 _))))
theorem next_stop {t1 t2:Bool} {z TI TO i1 i2 l1 l2:Addr} {k:Nat} {xs ys:Array Value} {Q:Option Value->Shared->Prop} (hh:A.handled=none) (D:Ap z TI TO i1 i2) (o1:Out z TI TO i1 i2 l1) (o2:Out z TI TO i1 i2 l2)
  (Z:Zd t1 t2 s.heap z TI TO i1 i2 l1 l2 .none k) (hl1:SqAt t1 s.heap l1 xs) (hl2:SqAt t2 s.heap l2 ys) (hend:xs[k]?=none∨ys[k]?=none)
  (hQ:∀ h',(∀ c o,c≠z->c≠TO->c≠i1->c≠i2->s.heap.get? c=some o->h'.get? c=some o)->Q none { s with heap:=h' }):wpAny (model prog w) A (pyNext (.ref z)) Q E s:=by
 have hT:s.TypeIs (.ref z) "zip":=⟨_,Z.z,rfl⟩
 unfold pyNext
 refine wpAny_bind (wpAny_attempt (wpAny_callSpecial?_slot (name := Str.ofString "__next__") hT F.slot_zip_next (wpAny_call_entry F.slot_zip_next hT F.entry_zip_next
     (zip_stop hh D o1 o2 Z hl1 hl2 hend fun h' e hk he=>?_) (F.args_zip_next_1 _))))
 obtain⟨o,p1,p2⟩:=he
 exact wpAny_bind (wpAny_isInstance (T:="StopIteration") (b:=true) ⟨o,p1,p2⟩ isSubtype_stop (wpAny_pure (hQ _ hk)))
abbrev zh1 (h:Heap) (t1:Bool) (l1:Addr):Heap:=h.push (itObj t1 l1)
abbrev zh2 (h:Heap) (t1 t2:Bool) (l1 l2:Addr):Heap:=(zh1 h t1 l1).push (itObj t2 l2)
abbrev zh3 (h:Heap) (t1 t2:Bool) (l1 l2:Addr):Heap:=(zh2 h t1 t2 l1 l2).push { cls:=.type "tuple",data:=.seq #[.ref h.objs.size,.ref (zh1 h t1 l1).objs.size] }
abbrev zh4 (h:Heap) (t1 t2:Bool) (l1 l2:Addr):Heap:=(zh3 h t1 t2 l1 l2).push { cls:=.type "tuple",data:=.seq #[.none,.none] }
abbrev zh5 (h:Heap) (t1 t2:Bool) (l1 l2:Addr):Heap:=(zh4 h t1 t2 l1 l2).push { cls:=.type "zip",data:=.fields #[.none,.bool false,.bool false,.ref (zh2 h t1 t2 l1 l2).objs.size,.ref (zh3 h t1 t2 l1 l2).objs.size] }
theorem zip_new (t1 t2:Bool) (l1 l2:Addr) (xs ys:Array Value) :
  Meets (Builtin.«zip.__new__» ⟨[.type "zip",.ref l1,.ref l2],[]⟩) (fun _ R s=>SqAt t1 s.heap l1 xs∧SqAt t2 s.heap l2 ys∧R (.ok (.ret (.ref (zh4 s.heap t1 t2 l1 l2).objs.size))) { s with heap:=zh5 s.heap t1 t2 l1 l2 }) :=
 .of_wp fun prog w A R s h=>by
  obtain⟨hp,g,d,tk,os⟩:=s;obtain⟨hl1,hl2,h⟩:=h
  have hsub:=sub_zip
  have b1:SqAt t1 (Shared.heap ⟨hp,g,d,tk,os⟩) l1 xs:=hl1
  have b2:SqAt t2 (Shared.heap ⟨hp.push (itObj t1 l1),g,d,tk,os⟩) l2 ys:=SqAt.to hl2 fun o e=>Heap.get?_push_of_some _ e
  wp_walk using iter_at b1,iter_at b2
  exact⟨_,rfl,h⟩
theorem call_zip {t1 t2:Bool} {l1 l2:Addr} {xs ys:Array Value} {Q:Value->Shared->Prop} (hl1:SqAt t1 s.heap l1 xs) (hl2:SqAt t2 s.heap l2 ys)
  (h:∀ h',Zd t1 t2 h' (s.heap.objs.size + 4) (s.heap.objs.size + 2) (s.heap.objs.size + 3) s.heap.objs.size (s.heap.objs.size + 1) l1 l2 .none 0->h'.objs.size=s.heap.objs.size + 5 ->
   (∀ c o,s.heap.get? c=some o->h'.get? c=some o)->Q (.ref (s.heap.objs.size + 4)) { s with heap:=h' }) :
  wpAny (model prog w) A (call (.type "zip") [.ref l1,.ref l2]) Q E s:=by
 refine callType_new F.called_zip (by decide) (F.typeCall_zip_2 _ _) (F.newCall_zip_2 _ _) (fun obj=>F.args_object_init_3 obj _ _) F.entry_zip_new (zip_new t1 t2 l1 l2 xs ys) ⟨hl1,hl2,?_⟩
 have z1:(zh1 s.heap t1 l1).objs.size=s.heap.objs.size + 1:=Heap.size_push ..
 have z2:(zh2 s.heap t1 t2 l1 l2).objs.size=s.heap.objs.size + 2:=by rw[Heap.size_push,z1]
 have z3:(zh3 s.heap t1 t2 l1 l2).objs.size=s.heap.objs.size + 3:=by rw[Heap.size_push,z2]
 have z4:(zh4 s.heap t1 t2 l1 l2).objs.size=s.heap.objs.size + 4:=by rw[Heap.size_push,z3]
 have z5:(zh5 s.heap t1 t2 l1 l2).objs.size=s.heap.objs.size + 5:=by rw[Heap.size_push,z4]
 have g5:(zh5 s.heap t1 t2 l1 l2).get? (zh4 s.heap t1 t2 l1 l2).objs.size=some _:=Heap.get?_push_size _ rfl
 have g4:(zh5 s.heap t1 t2 l1 l2).get? (zh3 s.heap t1 t2 l1 l2).objs.size=some _:=Heap.get?_push_of_some _ (Heap.get?_push_size _ rfl)
 have g3:(zh5 s.heap t1 t2 l1 l2).get? (zh2 s.heap t1 t2 l1 l2).objs.size=some _:=Heap.get?_push_of_some _ (Heap.get?_push_of_some _ (Heap.get?_push_size _ rfl))
 have g2:ItAt t2 (zh5 s.heap t1 t2 l1 l2) (zh1 s.heap t1 l1).objs.size l2 0:=(ItAt.new (t:=t2) (h:=zh1 s.heap t1 l1) (l:=l2)).to fun o e=>Heap.get?_push_of_some _ (Heap.get?_push_of_some _ (Heap.get?_push_of_some _ e))
 have g1:ItAt t1 (zh5 s.heap t1 t2 l1 l2) s.heap.objs.size l1 0:=(ItAt.new (t:=t1) (h:=s.heap) (l:=l1)).to fun o e=>Heap.get?_push_of_some _ (Heap.get?_push_of_some _ (Heap.get?_push_of_some _ (Heap.get?_push_of_some _ e)))
 show _∧_
 rw[z2,z3,z4] at g5
 rw[z1,z2] at g3
 rw[z3] at g4
 rw[z1] at g2
 rw[z4]
 exact⟨⟨_,g5,rfl⟩,h _ ⟨g5,g3,⟨_,_,g4⟩,g1,g2⟩ z5 fun c o q=>Heap.get?_push_of_some _ (Heap.get?_push_of_some _ (Heap.get?_push_of_some _ (Heap.get?_push_of_some _ (Heap.get?_push_of_some _ q))))⟩
theorem ap_new (n:Nat):Ap (n + 4) (n + 2) (n + 3) n (n + 1):=by
 constructor <;> (show (_:Nat)≠(_:Nat)) <;> omega
theorem out_new {n l:Nat} (h:l < n):Out (n + 4) (n + 2) (n + 3) n (n + 1) l:=by
 refine⟨?_,?_,?_,?_,?_⟩ <;> (show (_:Nat)≠(_:Nat)) <;> omega
end
end Z3
namespace U3
open PySem PyProof.Rows
section
variable {prog:Program} {w:World} {A:Around} {E:Value->Shared->Prop} {s:Shared}
theorem draw_lst {it l:Addr} {xs:Array Value} (hne:l≠it):∀ (n i:Nat) (s:Shared) (Q:List Value->Shared->Prop),s.heap.IsListIter it l i->s.heap.IsList l xs->i + n≤xs.size ->
  (∀ h',h'.IsListIter it l (i + n)->Heap.SameBut it s.heap h'->Q ((xs.toList.drop i).take n) { s with heap:=h' })->wpAny (model prog w) A (draw (.ref it) n) Q E s
 | 0,i,s,Q,hi,_,_,h=>by
  show wpAny _ _ (pure []) Q E s
  exact wpAny_pure (by simpa using h s.heap hi (Heap.SameBut.refl ..))
 | n + 1,i,s,Q,hi,hl,hle,h=>by
  have lt:i < xs.size:=by omega
  show wpAny _ _ (pyNext (.ref it) >>= _) Q E s
  refine wpAny_bind (wpAny_pyNext_list_item hi hl (x:=xs[i]) (by simp [lt]) fun g1 i1 e1=>?_)
  refine wpAny_bind (wpAny_holding (draw_lst hne n (i + 1) _ _ i1 (hl.extBut e1.extBut hne) (by omega) fun g2 i2 e2=>wpAny_pure ?_))
  have hd:xs.toList.drop i=xs[i]::xs.toList.drop (i + 1):=by simp [List.drop_eq_getElem_cons,lt]
  have q:=h g2 (by rw[show i + (n + 1)=i + 1 + n by omega];exact i2) (e1.trans e2)
  rw[hd,List.take_succ_cons] at q
  exact q
theorem unpack_lst {l:Addr} {xs:Array Value} {targets:List (Bool × (Value->Sem Unit))} {Q:Unit->Shared->Prop} (hh:A.handled=none) (hl:s.heap.IsList l xs)
  (hn:targets.length=xs.size) (hs:targets.findIdx? (·.1)=none)
  (h:∀ h',Heap.ExtBut s.heap.objs.size s.heap h'->wpAny (model prog w) A (assignInOrder (targets.map (·.2)) xs.toList) Q E { s with heap:=h' }) :
  wpAny (model prog w) A (unpack (.ref l) targets) Q E s:=by
 have ne:l≠s.heap.objs.size:=by obtain⟨o,ho,_⟩:=hl;exact Nat.ne_of_lt (Heap.lt_size ho)
 unfold unpack
 rw[hn,hs]
 refine wpAny_bind (wpAny_holding ?_)
 unfold unpackItems
 refine wpAny_bind ?_
 unfold notIterableAtAll
 refine wpAny_bind (wpAny_specialOf hl.typeIs slot_list_iter.lookup ?_)
 refine wpAny_pure ?_
 simp only [Bool.false_eq_true,if_false]
 refine wpAny_bind (wpAny_holding (wpAny_pyIter_list hl ?_))
 refine wpAny_bind (wpAny_holding (draw_lst ne xs.size 0 _ _ ⟨_,Heap.get?_push_size _ rfl,rfl,rfl⟩ (hl.push _) (by omega) fun g1 i1 e1=>?_))
 have all:List.take xs.size (List.drop 0 xs.toList)=xs.toList:=by
  rw[List.drop_zero];exact List.take_of_length_le (by simp)
 rw[all,if_neg (by simp)]
 have l1:g1.IsList l xs:=(hl.push _).extBut e1.extBut ne
 refine wpAny_bind (wpAny_holding (wpAny_pyNext_list_end hh i1 l1 (by simp) fun g2 e2=>?_))
 simp only [Option.isSome_none,Bool.false_eq_true,if_false]
 exact wpAny_pure (h g2 fun b o hb e=>e2 b o hb (e1.extBut b o hb (Heap.get?_push_of_some _ e)))
theorem assign_tuple_lst {env:Env} {elts:List Expr} {x1} {pos:Pos} {l:Addr} {xs:Array Value} {Q:Unit->Shared->Prop} (hh:A.handled=none) (hl:s.heap.IsList l xs)
  (hn:(assignEach elts env).length=xs.size) (hs:(assignEach elts env).findIdx? (·.1)=none)
  (h:∀ h',Heap.ExtBut s.heap.objs.size s.heap h'->wpAny (model prog w) A (assignInOrder ((assignEach elts env).map (·.2)) xs.toList) Q E { s with heap:=h' }) :
  wpAny (model prog w) A (assign (.Tuple elts x1 pos) env (.ref l)) Q E s:=by
 rw[assign_Tuple]
 exact wpAny_bind (wpAny_standAt (unpack_lst hh hl hn hs h))
end
end U3
namespace L3
open PySem PySem.Spec PyProof.Rows L2
abbrev Fls:Value->Shared->Prop:=fun _ _=>False
abbrev testsOf (ifs:List Expr) (env:Env):Sem Bool :=
 forIn ifs true fun c r=>if r=true then do let ok ← isTrue c env (eval c env);pure (ForInStep.yield ok) else pure (ForInStep.yield r)
section
variable {prog:Program} {w:World} {A:Around} {R:Result->Shared->Prop} {s:Shared}
/-- a list comprehension of one clause, turn by turn; nothing raises in it -/
theorem comp_turns {elt tg iter:Expr} {ifs:List Expr} {scope:Scope} {pos:Pos} {it acc:Value} {env:Env} (W:Nat->Shared->Prop)
  (step:∀ n s,W n s->wpAny (model prog w) A (pyNext it) (fun r s1=>(r=none∧R (.ok .next) s1)∨∃ v,r=some v ∧
   wpAny (model prog w) A (letOwnedTupleGo tg it v) (fun _ s2=>wpAny (model prog w) A (assign tg env v) (fun _ s3 =>
    wpAny (model prog w) A (testsOf ifs env) (fun ok s4=>if ok=true then wpAny (model prog w) A (eval elt env) (fun x s5 =>
     wpAny (model prog w) A (call (.builtin "list.append") [acc,x]) (fun _ s6=>∃ m,m < n∧W m s6) Fls s5) Fls s4 else ∃ m,m < n∧W m s4) Fls s3) Fls s2) Fls s1) Fls s)
  (n:Nat) (h:W n s):codeAny (model prog w) A (.compLoop (.ListComp elt [⟨tg,iter,ifs,0⟩] scope pos) 0 it acc env) R s:=by
 refine codeAny_loop rfl W (fun k s1 hk=>?_) n h
 show wpAny _ A ((compTurn (.ListComp elt [⟨tg,iter,ifs,0⟩] scope pos) 0 it acc env).onRaise (fun x=>do noteFrame x env;theTreesLotGoes x)) _ _ s1
 refine wpAny_noted ?_
 rw[compTurn_list]
 refine wpAny_bind (wpAny_standAt (wpAny_bind (wpAny_mono (step k s1 hk) (fun r s2 h2=>?_) fun _ _ z=>z.elim)))
 rcases h2 with ⟨rfl,h2⟩ | ⟨v,rfl,h2⟩
 ·exact wpAny_pure h2
 ·refine wpAny_bind (wpAny_mono h2 (fun _ s3 h3=>?_) fun _ _ z=>z.elim)
  refine wpAny_bind (wpAny_mono h3 (fun _ s4 h4=>?_) fun _ _ z=>z.elim)
  refine wpAny_bind (wpAny_mono h4 (fun ok s5 h5=>?_) fun _ _ z=>z.elim)
  cases ok with
  | false=>exact wpAny_pure ⟨rfl,h5⟩
  | true =>
   refine wpAny_bind (wpAny_bind (wpAny_mono h5 (fun x s6 h6=>?_) fun _ _ z=>z.elim))
   refine wpAny_bind (wpAny_mono h6 (fun _ s7 h7=>?_) fun _ _ z=>z.elim)
   exact wpAny_pure (wpAny_pure ⟨rfl,h7⟩)
end
def clOf (cells:List (Str × Addr)):List (Str × NameKind)->List (Str × Addr)->List (Str × Addr)
 | [],cs=>cs
 | (n,k)::r,cs=>clOf cells r (if k=.free then (n,(cells.lookup n).getD 0)::cs else cs)
theorem clOf_mem {cells:List (Str × Addr)}:∀ {names:List (Str × NameKind)} {cs:List (Str × Addr)} {p:Str × Addr},p ∈ clOf cells names cs->p ∈ cs∨((p.1,NameKind.free) ∈ names∧p.2=(cells.lookup p.1).getD 0)
 | [],_,_,h=>.inl h
 | (n,k)::r,cs,p,h=>by
  rcases clOf_mem (names:=r) h with q | ⟨q1,q2⟩
  ·by_cases hk:k=.free
   ·rw[if_pos hk] at q
    rcases List.mem_cons.mp q with e | q
    ·subst e;subst hk;exact .inr ⟨List.mem_cons_self,rfl⟩
    ·exact .inl q
   ·rw[if_neg hk] at q;exact .inl q
  ·exact .inr ⟨List.mem_cons_of_mem _ q1,q2⟩
theorem clOf_has {cells:List (Str × Addr)}:∀ {names:List (Str × NameKind)} {cs:List (Str × Addr)} {x:Str},((x,NameKind.free) ∈ names∨∃ c,(x,c) ∈ cs)->∃ c,(x,c) ∈ clOf cells names cs
 | [],_,_,h=>h.elim (fun z=>nomatch z) id
 | (n,k)::r,cs,x,h=>by
  refine clOf_has (names:=r) ?_
  rcases h with h | ⟨c,h⟩
  ·rcases List.mem_cons.mp h with e | h
   ·cases e
    exact .inr ⟨_,by rw[if_pos rfl];exact List.mem_cons_self⟩
   ·exact .inl h
  ·refine .inr ⟨c,?_⟩
   split
   ·exact List.mem_cons_of_mem _ h
   ·exact h
theorem closure_go {env:Env}:∀ (names:List (Str × NameKind)) (cs:List (Str × Addr)),(∀ y ∈ names,y.2=.free->∃ c,env.cells.lookup y.1=some c) ->
  (forIn names cs fun x r=>(match x with | (n,k)=>if (k == NameKind.free)=true then do let c ← cellOf env n;pure (ForInStep.yield ((n,c)::r)) else pure (ForInStep.yield r):Sem (ForInStep (List (Str × Addr)))))=pure (clOf env.cells names cs)
 | [],cs,_=>rfl
 | (n,k)::r,cs,h=>by
  rw[List.forIn_cons]
  by_cases hk:k=.free
  ·subst hk
   obtain⟨c,hc⟩:=h (n,.free) List.mem_cons_self rfl
   have e1:cellOf env n=pure c:=by unfold cellOf;rw[hc]
   have e2:clOf env.cells ((n,NameKind.free)::r) cs=clOf env.cells r ((n,c)::cs):=by
    show clOf env.cells r (if NameKind.free=NameKind.free then (n,(env.cells.lookup n).getD 0)::cs else cs)=_
    rw[if_pos rfl,hc]
    rfl
   rw[e2,← closure_go r ((n,c)::cs) fun y hy=>h y (List.mem_cons_of_mem _ hy)]
   simp only [beq_self_eq_true,if_true,e1,pure_bind]
  ·have e2:clOf env.cells ((n,k)::r) cs=clOf env.cells r cs:=by
    show clOf env.cells r (if k=NameKind.free then _ else cs)=_
    rw[if_neg hk]
   have hb:(k == NameKind.free)=false:=by simpa using hk
   rw[e2,← closure_go r cs fun y hy=>h y (List.mem_cons_of_mem _ hy)]
   simp only [hb,Bool.false_eq_true,if_false,pure_bind]
theorem closure_is {scope:Scope} {env:Env} (h:∀ y ∈ scope.names,y.2=.free->∃ c,env.cells.lookup y.1=some c):closureFor scope env=pure (clOf env.cells scope.names []):=by
 have q:=closure_go (env:=env) scope.names [] h
 unfold closureFor
 refine Eq.trans ?_ q
 first | rfl | simp
theorem look_relabel_free {env:Env}:∀ {names:List (Str × NameKind)} {x:Str},names.lookup x=some .free ->
  (names.map fun (n,k)=>if (k == NameKind.free && env.scope.kind == .function && env.kindOf n == some .cell) then (n,NameKind.cell) else (n,k)).lookup x=some .cell ∨
  (names.map fun (n,k)=>if (k == NameKind.free && env.scope.kind == .function && env.kindOf n == some .cell) then (n,NameKind.cell) else (n,k)).lookup x=some .free
 | [],_,h=>by simp at h
 | (n,k)::r,x,h=>by
  have ih:=@look_relabel_free env r x
  rw[List.map_cons]
  by_cases hx:(x == n)=true
  ·rw[List.lookup_cons,hx] at h
   have h':k=.free:=by simpa using h
   subst h'
   dsimp only
   split
   ·left;rw[List.lookup_cons,hx]
   ·right;rw[List.lookup_cons,hx]
  ·have hx':(x == n)=false:=by simpa using hx
   rw[List.lookup_cons,hx'] at h
   dsimp only
   split
   ·rw[List.lookup_cons,hx'];exact ih h
   ·rw[List.lookup_cons,hx'];exact ih h
theorem of_relabel {env:Env}:∀ {names:List (Str × NameKind)} {x:Str},(∀ y ∈ names,y.2≠.cell) ->
  ((names.map fun (n,k)=>if (k == NameKind.free && env.scope.kind == .function && env.kindOf n == some .cell) then (n,NameKind.cell) else (n,k)).lookup x=some .cell ∨
  (names.map fun (n,k)=>if (k == NameKind.free && env.scope.kind == .function && env.kindOf n == some .cell) then (n,NameKind.cell) else (n,k)).lookup x=some .free)->(x,NameKind.free) ∈ names
 | [],_,_,h=>by simp at h
 | (n,k)::r,x,hc,h=>by
  rw[List.map_cons] at h
  by_cases hx:(x == n)=true
  ·have e:x=n:=by simpa using hx
   subst e
   dsimp only at h
   by_cases hk:(k == NameKind.free && env.scope.kind == .function && env.kindOf x == some .cell)=true
   ·rw[if_pos hk] at h
    have:k=.free:=by
     simp only [Bool.and_eq_true] at hk
     simpa using hk.1.1
    subst this
    exact List.mem_cons_self
   ·rw[if_neg hk,List.lookup_cons,hx] at h
    rcases h with h | h
    ·exact absurd (by simpa using h) (hc (x,k) List.mem_cons_self)
    ·have:k=.free:=by simpa using h
     subst this
     exact List.mem_cons_self
  ·have hx':(x == n)=false:=by simpa using hx
   refine List.mem_cons_of_mem _ (of_relabel (env:=env) (fun y hy=>hc y (List.mem_cons_of_mem _ hy)) ?_)
   dsimp only at h
   split at h
   ·rw[List.lookup_cons,hx'] at h;exact h
   ·rw[List.lookup_cons,hx'] at h;exact h
/-- what is looked at of the two scopes: closed, for decide -/
def compOk (N:List Str) (sc0 scope:Scope) (fr:List Str) (js:List Nat):Bool :=
 decide (scope.kind=.function) && (scope.names.all fun y=>decide (y.2≠.cell) && (decide (y.2≠.free) || decide (sc0.names.lookup y.1=some .cell) || decide (sc0.names.lookup y.1=some .free)) &&
  (decide (y.2≠.local) || decide (scope.names.lookup y.1=some .local))) && decide (fr.length=js.length) &&
 ((fr.zip js).all fun p=>decide (N[p.2]?=some p.1) && decide (scope.names.lookup p.1=some .free) && (decide (sc0.names.lookup p.1=some .cell) || decide (sc0.names.lookup p.1=some .free)))
/-- the context of the block -/
def cxComp (X:Cx) (own fr:List Str) (scope:Scope) (fp:List Addr) (pins:List (Addr × Obj)) (s3:Shared) (H3:Hp):Cx :=
 { X with N:=own++fr,s₀:=s3,H₀:=H3,env:=compEnvC scope (clOf X.env.cells scope.names []) s3.heap.objs.size X.env,outer:=X.stack,stack:=X.stack,ex:=fp,fn:=fun _=>false,pn:=X.pn++pins,xe:=Fls }
/-- the tests of a clause -/
def PTs (X:Cx) (ifs:List Expr) (t:TT):Prop :=
 ∀ (pins:List (Addr × Obj)) (s:Shared) (σ:L2.St) (H:Hp) (Q:Bool->Hp->Prop),Inv X pins σ H s->t σ H Q->wpAny (model X.prog X.w) X.A (testsOf ifs X.env) (TP X pins σ Q) X.xe s
def tTrue:TT:=fun _ H Q=>Q true H
theorem pts_nil {X:Cx}:PTs X [] tTrue:=fun _ _ _ H _ I h=>wpAny_tests_nil ⟨H,I,h⟩
theorem pts_one {X:Cx} {c:Expr} {t:TT} (h:PT X c t):PTs X [c] t:=fun pins s σ H Q I q=>wpAny_tests_one (h pins s σ H Q I q)
def start3 (own:List Str) (js:List Nat) (σ:L2.St):L2.St:=List.replicate own.length none++js.map fun j=>(σ[j]?).join
/-- the reading: W is the word, by the turn, a measure, what is laid by so far, the names, the heap; D the new list -/
def CompGo (own:List Str) (js:List Nat) (g:TG) (tt:TT) (te:TE) (σ:L2.St) (Q:VK) (J:It) (H1:Hp):Prop:=∀ D,H1 D=none->∃ W:Nat->Nat->List V->L2.St->Hp->Prop,
 (∃ m,W 0 m [] (start3 own js σ) (upd H1 D (.lst [])))∧∀ i m ys σ' H',W i m ys σ' H'->H' D=some (.lst ys) ->
  (J.stop i H'∧Q (.ref D) H')∨(J.go i H'∧∀ x H2,J.yld i H' x H2->g x σ' H2 fun σ3 H3=>tt σ3 H3 fun b H4 =>
   if b=true then te σ3 H4 fun v H5=>H5 D=some (.lst ys)∧ys.length < sizeLine∧∃ m',m' < m∧W (i + 1) m' (ys++[v]) σ3 (upd H5 D (.lst (ys++[v])))
   else H4 D=some (.lst ys)∧∃ m',m' < m∧W (i + 1) m' ys σ3 H4)
def tComp (own:List Str) (js:List Nat) (wi:TI) (g:TG) (tt:TT) (te:TE):TE:=fun σ H Q=>wi σ H fun J H1=>CompGo own js g tt te σ Q J H1
section
variable {X:Cx} {elt tg iter:Expr} {ifs:List Expr} {scope sc0:Scope} {pos:Pos} {own fr N:List Str} {js:List Nat} {wi:TI} {g:TG} {tt:TT} {te:TE}
theorem join_some {σ:L2.St} {js:List Nat} {k:Nat} {v:V} (e:(js.map fun j=>(σ[j]?).join)[k]?=some (some v)):∃ j,js[k]?=some j∧σ[j]?=some (some v):=by
 rw[List.getElem?_map] at e
 cases hj:js[k]? with
 | none=>rw[hj] at e;cases e
 | some j =>
  rw[hj] at e
  refine⟨j,rfl,?_⟩
  have e':(σ[j]?).join=some v:=by simpa using e
  cases hs:σ[j]? with
  | none=>rw[hs] at e';cases e'
  | some o=>rw[hs] at e';exact congrArg some e'
theorem inv_comp {pins:List (Addr × Obj)} {σ:L2.St} {H3:Hp} {s3:Shared} {fp:List Addr} {h4:Heap} {t4:Nat} {m4:Str->Option Value}
  (hN:X.N=N) (hsc:X.env.scope=sc0) (hok:compOk N sc0 scope fr js=true) (I:Inv X pins σ H3 s3) (hf:∀ b ∈ fp,FpOk X pins H3 b) (hlt:∀ b ∈ fp,b < s3.heap.objs.size)
  (k:∀ b o,s3.heap.get? b=some o->h4.get? b=some o) (hns:h4.Ns s3.heap.objs.size m4):Inv (cxComp X own fr scope fp pins s3 H3) [] (start3 own js σ) H3 { s3 with heap:=h4,toks:=t4 }:=by
 subst hN hsc
 unfold compOk at hok
 simp only [Bool.and_eq_true,decide_eq_true_eq,List.all_eq_true] at hok
 obtain⟨⟨⟨hk,hall⟩,hlen⟩,hfr⟩:=hok
 have hfree:∀ y ∈ scope.names,y.2=.free->∃ c,X.env.cells.lookup y.1=some c:=fun y hy e=>by
  have q:=(hall y hy).1.2
  simp only [Bool.or_eq_true,decide_eq_true_eq] at q
  rcases q with (q | q) | q
  ·exact absurd e q
  ·exact I.ok.has y.1 (.inl q)
  ·exact I.ok.has y.1 (.inr q)
 have hcl:∀ x c,(clOf X.env.cells scope.names []).lookup x=some c->X.env.cells.lookup x=some c:=fun x c e=>by
  rcases clOf_mem (PySem.mem_of_lookup e) with z | ⟨z1,z2⟩
  ·exact absurd z (by simp)
  ·obtain⟨c',hc'⟩:=hfree _ z1 rfl
   have hc'':X.env.cells.lookup x=some c':=hc'
   have z2':c=(X.env.cells.lookup x).getD 0:=z2
   rw[hc''] at z2' ⊢
   simp at z2'
   rw[z2']
 have hasC:∀ x,(x,NameKind.free) ∈ scope.names->∃ c,(clOf X.env.cells scope.names []).lookup x=some c:=fun x hx=>by
  obtain⟨c,hc⟩:=clOf_has (cells:=X.env.cells) (cs:=[]) (.inl hx)
  cases q:(clOf X.env.cells scope.names []).lookup x with
  | some c'=>exact⟨c',rfl⟩
  | none =>
   have:∀ (l:List (Str × Addr)),(x,c) ∈ l->l.lookup x≠none:=fun l=>by
    induction l with
    | nil=>intro z;cases z
    | cons p r ih =>
     intro z
     obtain⟨p1,p2⟩:=p
     rw[List.lookup_cons]
     rcases List.mem_cons.mp z with z | z
     ·cases z
      simp
     ·split
      ·simp
      ·exact ih z
   exact absurd q (this _ hc)
 have hcell:∀ y ∈ scope.names,y.2≠.cell:=fun y hy=>(hall y hy).1.1
 have sz:X.base.objs.size≤s3.heap.objs.size:=Nat.le_trans I.ok.bsz I.sz
 refine⟨⟨I.ok.mod,hk,I.ok.glob,I.ok.blt,Nat.le_refl _,fun x y c e1 e2=>I.ok.inj x y c (hcl x c e1) (hcl y c e2),fun x hx=>hasC x (of_relabel hcell hx),fun x c z=>absurd z (by simp [cxComp]),
  I.ok.hd,I.ok.frames,.inl rfl,fun b hb=>⟨Nat.ne_of_lt (hlt b hb),fun x c e=>(hf b hb).2.2.2.2.1 x c (hcl x c e)⟩,I.bs,sz,fun b o e hb=>?_,fun b hb z=>?_,I.stack,I.stkFree⟩,
  rfl,I.bare,Un.kept k,⟨m4,hns,fun i x v e1 e2 e3=>?_⟩,fun x c e=>?_,I.hok.fresh (Nat.le_refl _),fun x c e=>I.freeC x c (hcl x c e),fun p hp=>?_,I.hok.kept k,?_⟩
 ·obtain⟨_,_,_,f3,_⟩:=hf b hb
  rcases f3 with f3 | f3
  ·exact I.ok.noex b o e f3
  ·exact absurd (Nat.lt_of_lt_of_le (Heap.lt_size e) (Nat.le_trans I.ok.bsz f3)) (Nat.lt_irrefl _)
 ·obtain⟨_,f1,f2,_⟩:=hf b hb
  rcases List.mem_cons.mp (I.stkSub b z) with z | z
  ·exact f1 z
  ·exact f2 z
 ·have e2':(List.replicate own.length (none:Option V)++js.map fun j=>(σ[j]?).join)[i]?=some (some v):=e2
  have e1':(own++fr)[i]?=some x:=e1
  by_cases hi:i < own.length
  ·rw[List.getElem?_append_left (by simpa using hi),List.getElem?_replicate,if_pos hi] at e2'
   cases e2'
  ·rw[List.getElem?_append_right (by simpa using hi),List.length_replicate] at e2'
   rw[List.getElem?_append_right (by omega)] at e1'
   obtain⟨j,hj,hv⟩:=join_some e2'
   have hz:(fr.zip js)[i - own.length]?=some (x,j):=by
    rw[List.getElem?_zip_eq_some]
    exact⟨e1',hj⟩
   have q:=hfr _ (List.mem_of_getElem? hz)
   obtain⟨⟨q1,q2⟩,q3⟩:=q
   have q3'':X.env.scope.names.lookup x=some .cell∨X.env.scope.names.lookup x=some .free:=by simpa using q3
   have q3':X.env.kindOf x=some .cell∨X.env.kindOf x=some .free:=q3''
   obtain⟨m,hn,hl⟩:=I.loc
   obtain⟨u,r,l⟩:=hl j x v q1 hv (q3'.elim (fun z=>.inr (.inl z)) fun z=>.inr (.inr z))
   refine⟨u,r,.inr ⟨look_relabel_free q2,?_⟩⟩
   rcases l with ⟨z,_⟩ | ⟨_,c,hc,hcellv⟩
   ·rcases q3' with w | w <;> (rw[z] at w;cases w)
   ·obtain⟨c',hc'⟩:=hasC x (PySem.mem_of_lookup q2)
    have e:=hcl x c' hc'
    rw[hc] at e
    cases e
    obtain⟨o,ho,hd⟩:=hcellv
    exact⟨c,hc',o,k c o ho,hd⟩
 ·obtain⟨v,o,ho,hd⟩:=I.cell x c (hcl x c e)
  exact⟨v,o,k c o ho,hd⟩
 ·have hp':p ∈ X.pn++pins:=by
   have:p ∈ (X.pn++pins)++([]:List (Addr × Obj)):=hp
   simpa using this
  obtain⟨a,b,c,d,f⟩:=I.pin p hp'
  refine⟨k _ _ a,b,Nat.ne_of_lt (Heap.lt_size a),fun z=>?_,f⟩
  rcases List.mem_cons.mp (I.stkSub p.1 z) with z | z
  ·exact c z
  ·exact d z
 ·show (List.replicate own.length (none:Option V)++js.map fun j=>(σ[j]?).join).length=(own++fr).length
  simp [hlen]
theorem comp_core {pins:List (Addr × Obj)} {s:Shared} {σ:L2.St} {H:Hp} {Q:VK} {use:Option (Value->Sem Unit)} {Qo:Value->Shared->Prop} {cpos:Pos}
  (hc:X.calm=true) (hi:PI X tg iter wi) (hg:∀ fp pins s3 H3,PG (cxComp X own fr scope fp pins s3 H3) tg g) (ht:∀ fp pins s3 H3,PTs (cxComp X own fr scope fp pins s3 H3) ifs tt)
  (he:∀ fp pins s3 H3,PE (cxComp X own fr scope fp pins s3 H3) elt te) (hok:compOk N sc0 scope fr js=true) (hN:X.N=N) (hsc:X.env.scope=sc0)
  (hs:∀ x,foldedSetIterable iter X.env x=pure x) (I:Inv X pins σ H s) (h:tComp own js wi g tt te σ H Q)
  (fin:∀ (C D:Addr) (s6:Shared) (H6:Hp) (m6:Str->Option Value),Inv X pins σ H6 s6->FpOk X pins H6 C->s6.heap.Ns C m6->Q (.ref D) H6->compPost (model X.prog X.w) X.A X.xe use Qo (.ref D) C (.ok .next) s6) :
  wpAny (model X.prog X.w) X.A (comprehension (.ListComp elt [⟨tg,iter,ifs,0⟩] scope pos) scope X.env cpos (newList []) false (eval iter X.env) use) Qo X.xe s:=by
 have hok':=hok
 unfold compOk at hok'
 simp only [Bool.and_eq_true,decide_eq_true_eq,List.all_eq_true] at hok'
 obtain⟨⟨⟨hk,hall⟩,hlen⟩,hfr⟩:=hok'
 have hcell:∀ y ∈ scope.names,y.2≠.cell:=fun y hy=>(hall y hy).1.1
 have hloc:∀ y ∈ scope.names,y.2=.local->scope.names.lookup y.1=some .local:=fun y hy e=>by
  have q:=(hall y hy).2
  simp only [Bool.or_eq_true,decide_eq_true_eq] at q
  rcases q with q | q
  ·exact absurd e q
  ·exact q
 have hfree:∀ y ∈ scope.names,y.2=.free->∃ c,X.env.cells.lookup y.1=some c:=fun y hy e=>by
  have q:=(hall y hy).1.2
  simp only [Bool.or_eq_true,decide_eq_true_eq] at q
  rw[← hsc] at q
  rcases q with (q | q) | q
  ·exact absurd e q
  ·exact I.ok.has y.1 (.inl q)
  ·exact I.ok.has y.1 (.inr q)
 refine wpAny_comprehension_free (use:=use) rfl hs (closure_is hfree) hk hloc (thn (hi pins s σ H _ I h) fun v s1 h1=>thn h1 fun itv s2 h2=>?_)
 obtain⟨it,fp,tn,J,H2,e,I2,T,st2,f2,rd⟩:=h2
 subst e
 have hD2:H2 s2.heap.objs.size=none:=I2.fresh
 obtain⟨W,⟨m0,w0⟩,turn⟩:=rd s2.heap.objs.size hD2
  -- the new list
 refine wpAny_newList ?_ (Nat.zero_le _)
 have I3:Inv X pins σ (upd H2 s2.heap.objs.size (.lst [])) { s2 with heap:=s2.heap.push { cls:=.type "list",data:=.seq ([]:List Value).toArray } }:=I2.lnew (t':=s2.toks) .nil (Nat.zero_le _)
 generalize hs3:({ s2 with heap:=s2.heap.push { cls:=.type "list",data:=.seq ([]:List Value).toArray } }:Shared)=s3 at I3
 generalize hD:s2.heap.objs.size=D at *
 have fpl:∀ b ∈ fp,b < D:=fun b hb=>by
  obtain⟨o,ho,_⟩:=T.obj _ _ st2 b hb
  rw[← hD];exact Heap.lt_size ho
 have k23:∀ b o,s2.heap.get? b=some o->s3.heap.get? b=some o:=fun b o e=>by rw[← hs3];exact Heap.get?_push_of_some _ e
 have hD3:s3.heap.objs.size=D + 1:=by rw[← hs3,← hD];exact Heap.size_push ..
 have f3:∀ b ∈ fp,FpOk X pins (upd H2 D (.lst [])) b:=fun b hb=>by
  obtain⟨f0,f⟩:=f2 b hb
  exact⟨by rw[upd_ne (Nat.ne_of_lt (fpl b hb))];exact f0,f⟩
 refine wpAny_newFunctionEnv hcell (by intro y hy;simp at hy) (fun h4 hns4 hsb4=>?_) hk
 have k34:∀ b o,s3.heap.get? b=some o->h4.get? b=some o:=fun b o e=>hsb4.extBut b o (Nat.ne_of_lt (Heap.lt_size e)) (Heap.get?_push_of_some _ e)
 have I4:=inv_comp (own:=own) (t4:=s3.toks + ([]:List (Str × Value)).length) hN hsc hok I3 f3 (fun b hb=>Nat.lt_of_lt_of_le (fpl b hb) (by rw[hD3];exact Nat.le_succ _)) k34 hns4
 have tn4:tn 0 h4:=T.keep 0 s2.heap h4 st2 fun b hb o e=>k34 b o (k23 b o e)
 have I4o:=I4.ok
 have fpS:∀ {H'':Hp},(∀ b ∈ fp,H'' b=none)->∀ b ∈ fp,FpOk (cxComp X own fr scope fp pins s3 (upd H2 D (.lst []))) [] H'' b:=fun hn b hb =>
  ⟨hn b hb,(I4o.exf b hb).1,I4o.exfs b hb,.inl hb,(I4o.exf b hb).2,fun p hp=>(f2 b hb).2.2.2.2.2 p (by
   have:p ∈ (X.pn++pins)++([]:List (Addr × Obj)):=hp
   simpa using this)⟩
 have loop : codeAny (model X.prog X.w) X.A (.compLoop (.ListComp elt [⟨tg, iter, ifs, 0⟩] scope pos) 0 (.ref it) (.ref D) (compEnvC scope (clOf X.env.cells scope.names []) s3.heap.objs.size X.env))
     (compPost (model X.prog X.w) X.A X.xe use Qo (.ref D) s3.heap.objs.size) { s3 with heap:=h4,toks:=s3.toks + ([]:List (Str × Value)).length }:=by
  refine comp_turns (fun n s'=>∃ i ys σ' H',Inv (cxComp X own fr scope fp pins s3 (upd H2 D (.lst []))) [] σ' H' s'∧tn i s'.heap∧(∀ b ∈ fp,H' b=none)∧H' D=some (.lst ys)∧W i n ys σ' H')
   ?step m0 ⟨0,[],_,_,I4,tn4,fun b hb=>(f3 b hb).1,upd_same,w0⟩
  rintro n s5 ⟨i,ys,σ5,H5,I5,tn5,fr5,d5,w5⟩
  rcases turn i n ys σ5 H5 w5 d5 with ⟨stop,q⟩ | ⟨go,stp⟩
  ·refine thn (T.done (cxComp X own fr scope fp pins s3 (upd H2 D (.lst []))) rfl rfl rfl hc i [] s5 σ5 H5 Fls I5 (fpS fr5) tn5 stop) fun r s6 ⟨hr,I6⟩=>.inl ⟨hr,?_⟩
   obtain⟨m6,hn6,_⟩:=id I6.loc
   have u1:Un (frs X.stack) fp H2 H5 s2.heap s6.heap:=(Un.laid k23 (Nat.le_of_eq hD) hD2).trans I6.base
   have fC:H5 s3.heap.objs.size=none:=I6.free
   have IX:Inv X pins σ H5 s6:=I2.call' (s':=s6) (ch:=fp) (by
    have:=I6.os
    rw[← hs3] at this
    exact this) u1 I6.hok I6.bare fun b hb=>by
     obtain⟨_,g1,_,g3,g4,g5⟩:=f2 b hb
     exact⟨g3,g1,g4,g5⟩
   exact fin s3.heap.objs.size D s6 H5 m6 IX (I2.fpOk (by rw[hD3,hD];exact Nat.le_succ _) fC) hn6 q
  ·refine thn (T.item (cxComp X own fr scope fp pins s3 (upd H2 D (.lst []))) rfl rfl rfl hc i [] s5 σ5 H5 Fls I5 (fpS fr5) tn5 go) fun r s6 ⟨u,hr,h6⟩=>.inr ⟨u,hr,thn h6 fun _ s7 ⟨x,H7,I7,r7,y7,tn7,fr7⟩=>?_⟩
   have I7':=I7.pinned (fpS fr7) (T.obj _ _ tn7)
   refine thn (hg fp pins s3 (upd H2 D (.lst [])) _ s7 σ5 H7 x u _ I7' r7 (stp x H7 y7)) fun _ s8 ⟨σ8,H8,I8,q8⟩=>?_
   refine thn (ht fp pins s3 (upd H2 D (.lst [])) _ s8 σ8 H8 _ I8 q8) fun ok s9 ⟨H9,I9,q9⟩=>?_
   have back:∀ {σ':L2.St} {H':Hp} {s':Shared},Inv (cxComp X own fr scope fp pins s3 (upd H2 D (.lst []))) ([]++pinsAt fp s7.heap) σ' H' s'->tn (i + 1) s'.heap∧∀ b ∈ fp,H' b=none:=fun {σ' H' s'} J=>by
    refine⟨T.keep _ _ _ tn7 fun b hb o e=>(J.pin (b,o) (List.mem_append_right _ (List.mem_append_right _ (mem_pinsAt hb e)))).1,fun b hb=>?_⟩
    obtain⟨o,e,_⟩:=T.obj _ _ tn7 b hb
    exact (J.pin (b,o) (List.mem_append_right _ (List.mem_append_right _ (mem_pinsAt hb e)))).2.1
   cases ok with
   | false =>
    rw[if_neg Bool.false_ne_true] at q9
    obtain⟨d9,m',hm,w9⟩:=q9
    rw[if_neg Bool.false_ne_true]
    exact⟨m',hm,i + 1,ys,σ8,H9,I9.unpinned,(back I9).1,(back I9).2,d9,w9⟩
   | true =>
    rw[if_pos rfl] at q9 ⊢
    refine thn (he fp pins s3 (upd H2 D (.lst [])) _ s9 σ8 H9 _ I9 q9) fun xv s10 ⟨v,H10,I10,r10,d10,len,m',hm,w10⟩=>?_
    refine thn (mt_append (X:=cxComp X own fr scope fp pins s3 (upd H2 D (.lst []))) _ s10 σ8 H10 (.ref D) [v] (.ref D) [xv] (fun _ H'=>H'=upd H10 D (.lst (ys++[v]))) I10 rfl (.cons r10 .nil) ⟨D,ys,v,rfl,rfl,d10,len,rfl⟩) fun _ s11 ⟨_,H11,I11,_,e11⟩=>?_
    subst e11
    exact⟨m',hm,i + 1,ys++[v],σ8,_,I11.unpinned,(back I11).1,(back I11).2,upd_same,w10⟩
 exact codeAny_compStart_list loop (T.self X.A 0 _ _ _ tn4 loop)
theorem pe_comp (hc:X.calm=true) (hi:PI X tg iter wi) (hg:∀ fp pins s3 H3,PG (cxComp X own fr scope fp pins s3 H3) tg g) (ht:∀ fp pins s3 H3,PTs (cxComp X own fr scope fp pins s3 H3) ifs tt)
  (he:∀ fp pins s3 H3,PE (cxComp X own fr scope fp pins s3 H3) elt te) (hok:compOk N sc0 scope fr js=true:=by decide +kernel) (hN:X.N=N:=by rfl) (hsc:X.env.scope=sc0:=by rfl)
  (hs:∀ x,foldedSetIterable iter X.env x=pure x:=by intro _;rfl):PE X (.ListComp elt [⟨tg,iter,ifs,0⟩] scope pos) (tComp own js wi g tt te):=by
 intro pins s σ H Q I h
 rw[eval_ListComp]
 refine comp_core hc hi hg ht he hok hN hsc hs I h fun C D s6 H6 m6 I6 f6 n6 q6=>⟨m6,n6,fun h7 sb=>⟨.ref D,H6,?_,rfl,q6⟩⟩
 obtain⟨f0,f1,_,f3,f4,f5⟩:=f6
 exact I6.turned (it:=C) (t':=s6.toks) (fun b o hb e=>sb.extBut b o hb e) f0 f1 f3 f4 f5
/-- name = [..], where the machine stores ahead of letting the block's names go -/
theorem ps_setcomp {i:Nat} {y:Str} {py spos:Pos} (hc:X.calm=true) (hi:PI X tg iter wi) (hg:∀ fp pins s3 H3,PG (cxComp X own fr scope fp pins s3 H3) tg g) (ht:∀ fp pins s3 H3,PTs (cxComp X own fr scope fp pins s3 H3) ifs tt)
  (he:∀ fp pins s3 H3,PE (cxComp X own fr scope fp pins s3 H3) elt te) (hNd:X.N.Nodup) (hy:X.N[i]?=some y) (hx:Loc X.env.scope y) (hok:compOk N sc0 scope fr js=true:=by decide +kernel) (hN:X.N=N:=by rfl) (hsc:X.env.scope=sc0:=by rfl)
  (hsw:swapsWith (.ListComp elt [⟨tg,iter,ifs,0⟩] scope pos) (some (.Name y py)) spos.line X.env=pure true:=by rfl) (hf:X.fn y=true∨X.env.scope.names.lookup y=some .local:=by first | exact .inl rfl | exact .inr rfl | assumption)
  (hs:∀ x,foldedSetIterable iter X.env x=pure x:=by intro _;rfl):PS X (.Assign [.Name y py] (.ListComp elt [⟨tg,iter,ifs,0⟩] scope pos) spos) (tAsg (tComp own js wi g tt te) (gName i)):=by
 intro pins s σ H D I h
 rw[exec_Assign_Name_used _ _ _ _ hsw]
 refine wpAny_bind (wpAny_standAt (wpAny_bind ?_))
 show wpAny _ _ (do let _ ← comprehension (.ListComp elt [⟨tg,iter,ifs,0⟩] scope pos) scope X.env _ (newList []) false (eval iter X.env) (some (assign (.Name y py) X.env))) _ _ s
 refine wpAny_bind (wpAny_mono (comp_core (use:=some (assign (.Name y py) X.env)) (Qo:=fun _ s'=>SP X pins D .next s') hc hi hg ht he hok hN hsc hs I h fun C L s6 H6 m6 I6 f6 n6 q6=>?_) (fun _ s' q=>wpAny_pure (wpAny_pure q)) fun _ _ z=>z)
 obtain⟨f0,f1,f2,f3,f4,f5⟩:=f6
 show wpAny _ _ (assign (.Name y py) X.env (.ref L)) _ _ s6
 refine wpAny_assign_Name (store_ok2 I6 hNd hy hx (v:=.ref L) rfl (fun s7 I7 ⟨a,sb,ha⟩=>?_) hf)
 have ne:C≠a:=by
  rcases ha with e | e
  ·rw[e];exact f1
  ·exact fun z=>f4 y a e z.symm
 refine⟨m6,n6.sameBut sb ne,fun h8 sb8=>⟨σ.set i (some (.ref L)),H6,?_,q6⟩⟩
 exact I7.turned (it:=C) (t':=s7.toks) (fun b o hb e=>sb8.extBut b o hb e) f0 f1 f3 f4 f5
end
end L3
namespace L3
open PySem PySem.Spec PyProof.Rows L2
section
variable {X:Cx} {pins:List (Addr × Obj)} {σ:L2.St} {H H':Hp} {s:Shared} {h':Heap} {ch:List Addr} {t':Nat}
/-- several own records have turned, the abstract heap has grown -/
theorem turnsTo (I:Inv X pins σ H s) (hf:∀ b ∈ ch,FpOk X pins H b) (k:∀ b o,b ∉ ch->s.heap.get? b=some o->h'.get? b=some o) (hH:∀ b u,H b=some u->H' b=some u)
  (hfree:∀ b o,s.heap.get? b=some o->H b=none->H' b=none) (hok:HOk X.prog X.w H' h'):Inv X pins σ H' { s with heap:=h',toks:=t' }:=by
 refine I.step (g':=s.gens) (d':=s.drawn) (ch:=ch) (fun b hb=>?_) (fun b o _ _ hc e _=>k b o hc e) (fun b o _ _ hc e _=>⟨o.slots,k b o hc e⟩) (fun b o _ e n=>hfree b o e n) (fun b o hc e=>⟨o,k b o hc e⟩)
  (fun b xs e=>hH _ _ e) (fun b o u e=>hH _ _ e) (fun b ps e=>⟨#[],by rw[hH _ _ e];simp⟩) (fun m hm=>?_) hok I.bare
 ·obtain⟨_,f1,_,f3,f4,f5⟩:=hf b hb
  exact⟨f3,f1,f4,f5⟩
 ·obtain⟨o,es,ep,ho,r⟩:=hm
  exact⟨o,es,ep,k _ o (fun z=>(hf _ z).2.1 rfl) ho,r⟩
theorem turns (I:Inv X pins σ H s) (hf:∀ b ∈ ch,FpOk X pins H b) (k:∀ b o,b ∉ ch->s.heap.get? b=some o->h'.get? b=some o):Inv X pins σ H { s with heap:=h',toks:=t' }:=by
 refine turnsTo I hf k (fun _ _ e=>e) (fun _ _ _ n=>n) fun b u e=>?_
 refine (I.hok b u e).stay (fun c v hc q=>k c v (fun z=>?_) q) (fun _ q=>q) fun _ _ q=>q
 have n:=(hf c z).1
 rcases hc with rfl | hc
 ·rw[n] at e;cases e
 ·rw[n] at hc;cases hc
theorem turnsTup {xs:List V} {its:List Value} {T:Addr} (I:Inv X pins σ H s) (hf:∀ b ∈ ch,FpOk X pins H b) (k:∀ b o,b ∉ ch->s.heap.get? b=some o->h'.get? b=some o) (hT:s.heap.objs.size≤T)
  (hz:xs.length≤sizeLine) (hv:Vals xs its) (ht:TupN h' T its.toArray):Inv X pins σ (upd H T (.tup xs)) { s with heap:=h',toks:=t' }:=by
 have fr:H T=none:=I.hok.fresh hT
 have ne:∀ b u,H b=some u->b≠T:=fun b u e=>ne_of_none e fr
 refine turnsTo I hf k (fun b u e=>by rw[upd_ne (ne b u e)];exact e) (fun b o e n=>by rw[upd_ne (Nat.ne_of_lt (Nat.lt_of_lt_of_le (Heap.lt_size e) hT))];exact n) fun b u e=>?_
 by_cases hb:b=T
 ·subst hb
  rw[upd_same] at e
  cases e
  exact⟨hz,its,hv,ht⟩
 ·rw[upd_ne hb] at e
  refine (I.hok b u e).stay (fun c v hc q=>k c v (fun z=>?_) q) (fun c q=>by rw[upd_ne (ne c _ q)];exact q) fun c ys q=>by rw[upd_ne (ne c _ q)];exact q
  have n:=(hf c z).1
  rcases hc with rfl | hc
  ·rw[n] at e;cases e
  ·rw[n] at hc;cases hc
end
def SqX (t:Bool) (K:PySem.W.Frag) (H:Hp) (a:Addr) (xs:List V):Prop:=if t=true then SqT K H a xs else SqL K H a xs
section
variable {X:Cx} {pins:List (Addr × Obj)} {σ:L2.St} {H:Hp} {s:Shared} {a:Addr} {xs ys:List V} {t:Bool}
theorem seqX (I:Inv X pins σ H s) (h:SqX t X.K H a xs):∃ its:List Value,Vals xs its∧Z3.SqAt t s.heap a its.toArray∧xs.length≤sizeLine:=by
 cases t with
 | true=>obtain⟨its,r,p,z⟩:=I.tuple (show SqT X.K H a xs from h);exact⟨its,r,p,z⟩
 | false=>obtain⟨its,r,p,z⟩:=I.list (show SqL X.K H a xs from h);exact⟨its,r,p.isList,z⟩
theorem seqX_inj (I:Inv X pins σ H s) (h:SqX t X.K H a xs) (h':SqX t X.K H a ys):xs=ys:=by
 cases t with
 | true=>exact I.tuple_inj h h'
 | false=>exact I.list_inj h h'
end
def Itz (t1 t2:Bool) (K:PySem.W.Frag) (l1 l2:Addr):It :=
 ⟨fun i H=>∃ xs ys x y,SqX t1 K H l1 xs∧SqX t2 K H l2 ys∧xs[i]?=some x∧ys[i]?=some y,
  fun i H v H'=>∃ T x y,H T=none∧v=.ref T∧H'=upd H T (.tup [x,y])∧(∀ xs,SqX t1 K H l1 xs->xs[i]?=some x)∧(∀ ys,SqX t2 K H l2 ys->ys[i]?=some y),
  fun i H=>∃ xs ys,SqX t1 K H l1 xs∧SqX t2 K H l2 ys∧(xs.length≤i∨ys.length≤i)⟩
theorem turn_zip {P:Program} {w:World} {K:PySem.W.Frag} {elts:List Expr} {kk:Nat} {pos:Pos} {t1 t2:Bool} {z TI TO i1 i2 l1 l2:Addr} (D:Z3.Ap z TI TO i1 i2) (o1:Z3.Out z TI TO i1 i2 l1) (o2:Z3.Out z TI TO i1 i2 l2) :
  Turn P w K (.Tuple elts kk pos) (Itz t1 t2 K l1 l2) [z,TI,TO,i1,i2] z (fun i h=>Z3.Zd t1 t2 h z TI TO i1 i2 l1 l2 .none i) where
 mem:=by simp
 obj:=fun i h st b hb=>by
  obtain⟨q1,q2,⟨_,_,q3⟩,q4,q5⟩:=st
  obtain⟨o4,n4,e4,_,d4⟩:=q4.obj
  obtain⟨o5,n5,e5,_,d5⟩:=q5.obj
  simp only [List.mem_cons,List.not_mem_nil,or_false] at hb
  rcases hb with rfl | rfl | rfl | rfl | rfl
  ·exact⟨_,q1,fun v q=>by cases q⟩
  ·exact⟨_,q2,fun v q=>by cases q⟩
  ·exact⟨_,q3,fun v q=>by cases q⟩
  ·exact⟨_,e4,fun v q=>by rw[d4] at q;cases q⟩
  ·exact⟨_,e5,fun v q=>by rw[d5] at q;cases q⟩
 keep:=fun i h h' st k=>by
  obtain⟨q1,q2,⟨a,b,q3⟩,q4,q5⟩:=st
  exact⟨k z (by simp) _ q1,k TI (by simp) _ q2,⟨a,b,k TO (by simp) _ q3⟩,q4.to fun o e=>k i1 (by simp) o e,q5.to fun o e=>k i2 (by simp) o e⟩
 item:=by
  intro X hP hw hK hc i pins s σ H E I hf st hg
  subst hP hw hK
  obtain⟨xs,ys,x,y,q1,q2,hx,hy⟩:=hg
  obtain⟨its1,r1,p1,z1⟩:=seqX I q1
  obtain⟨its2,r2,p2,z2⟩:=seqX I q2
  obtain⟨u1,hu1,ru1⟩:=r1.get hx
  obtain⟨u2,hu2,ru2⟩:=r2.get hy
  have hf4:∀ b ∈ [z,TO,i1,i2],FpOk X pins H b:=fun b hb=>hf b (by
   simp only [List.mem_cons,List.not_mem_nil,or_false] at hb ⊢
   rcases hb with rfl | rfl | rfl | rfl <;> simp)
  refine Z3.next_more D o1 o2 st p1 p2 (x:=u1) (y:=u2) (by simpa using hu1) (by simpa using hu2) fun h' zd tp sz kp=>?_
  have I1 : Inv X pins σ (upd H s.heap.objs.size (.tup [x, y])) { s with heap := h', toks := s.toks } := turnsTup (ch := [z, TO, i1, i2]) (its := [u1, u2]) I hf4 (fun b o hb e => by
      simp only [List.mem_cons,List.not_mem_nil,or_false,not_or] at hb
      exact kp b o hb.1 hb.2.1 hb.2.2.1 hb.2.2.2 e) (Nat.le_refl _) (by show 2≤sizeLine;rw[sizeLine_eq];decide) (.cons ru1 (.cons ru2 .nil)) ⟨_,tp,rfl,⟨_,rfl⟩,rfl⟩
  have fr:H s.heap.objs.size=none:=I.fresh
  have zne:∀ b ∈ [z,TI,TO,i1,i2],b≠s.heap.objs.size:=fun b hb e=>by
   have key:∃ o,s.heap.get? b=some o:=by
    obtain⟨q1,q2,⟨_,_,q3⟩,q4,q5⟩:=st
    obtain⟨o4,n4,e4,_,d4⟩:=q4.obj
    obtain⟨o5,n5,e5,_,d5⟩:=q5.obj
    simp only [List.mem_cons,List.not_mem_nil,or_false] at hb
    rcases hb with rfl | rfl | rfl | rfl | rfl
    ·exact⟨_,q1⟩
    ·exact⟨_,q2⟩
    ·exact⟨_,q3⟩
    ·exact⟨_,e4⟩
    ·exact⟨_,e5⟩
   obtain⟨o,ho⟩:=key
   exact absurd (Heap.lt_size ho) (by rw[e];exact Nat.lt_irrefl _)
  refine⟨_,rfl,wpAny_letOwnedTupleGo_zip zd.z fun h2 zd2 sb=>?_⟩
  obtain⟨f0,f1,f2,f3,f4,f5⟩:=hf z (by simp)
  have I2:Inv X pins σ (upd H s.heap.objs.size (.tup [x,y])) { s with heap:=h2,toks:=s.toks }:=Inv.turned (s:={ s with heap:=h',toks:=s.toks }) (it:=z) (t':=s.toks) I1 (fun b o hb e=>sb.extBut b o hb e) (by rw[upd_ne (zne z (by simp))];exact f0) f1 f3 f4 f5
  refine⟨.ref s.heap.objs.size,_,I2,rfl,⟨_,x,y,fr,rfl,rfl,fun zs hz=>by rw[seqX_inj I hz q1];exact hx,fun zs hz=>by rw[seqX_inj I hz q2];exact hy⟩,?_,fun b hb=>by rw[upd_ne (zne b hb)];exact (hf b hb).1⟩
  obtain⟨_,w2,⟨a3,b3,w3⟩,w4,w5⟩:=zd
  exact⟨zd2,sb.extBut _ _ D.n1 w2,⟨a3,b3,sb.extBut _ _ D.n2 w3⟩,w4.to fun o e=>sb.extBut _ _ D.n3 e,w5.to fun o e=>sb.extBut _ _ D.n4 e⟩
 done:=by
  intro X hP hw hK hc i pins s σ H E I hf st hg
  subst hP hw hK
  obtain⟨xs,ys,q1,q2,hx⟩:=hg
  obtain⟨its1,r1,p1,z1⟩:=seqX I q1
  obtain⟨its2,r2,p2,z2⟩:=seqX I q2
  have l1:=r1.length
  have l2:=r2.length
  have hf4:∀ b ∈ [z,TO,i1,i2],FpOk X pins H b:=fun b hb=>hf b (by
   simp only [List.mem_cons,List.not_mem_nil,or_false] at hb ⊢
   rcases hb with rfl | rfl | rfl | rfl <;> simp)
  refine Z3.next_stop (I.ok.hd hc) D o1 o2 st p1 p2 (hx.elim (fun q=>.inl (by simp;omega)) fun q=>.inr (by simp;omega)) fun h' kp=>⟨rfl,?_⟩
  exact turns (ch:=[z,TO,i1,i2]) (t':=s.toks) I hf4 fun b o hb e=>by
   simp only [List.mem_cons,List.not_mem_nil,or_false,not_or] at hb
   exact kp b o hb.1 hb.2.1 hb.2.2.1 hb.2.2.2 e
 self:=fun _ _ _ _ _ st h=>wpAny_pyIter_zip st.z h
def iZip (t1 t2:Bool) (K:PySem.W.Frag) (ta:TA):TI:=fun σ H R=>ta σ H fun vs H1=>∃ l1 l2,vs=[.ref l1,.ref l2]∧(∃ xs,SqX t1 K H1 l1 xs)∧(∃ ys,SqX t2 K H1 l2 ys)∧R (Itz t1 t2 K l1 l2) H1
theorem pi_zip {X:Cx} {elts:List Expr} {kk:Nat} {pos':Pos} (t1 t2:Bool) {a b:Expr} {ta:TA} {p pos:Pos} (hg:Gl X "zip") (hm:X.mg "zip"=none) (ha:PA X [a,b] ta)
  (hs:starEach [a,b] X.env=[(false,eval a X.env),(false,eval b X.env)]:=by rfl) (hs2:starEach [b] X.env=[(false,eval b X.env)]:=by rfl) :
  PI X (.Tuple elts kk pos') (.Call (.Name "zip" p) [a,b] [] pos) (iZip t1 t2 X.K ta):=by
 intro pins s σ H R I h
 refine Call_ (ld_blt I hg hm boot_zip (PyProof.Rows.callWith_type1 (thn (ha pos pins s σ H _ I h) fun us s1 ⟨vs,H1,I1,r1,q1⟩=>?_) (by rw[hs,hs2]) (by rw[hs2];rfl)))
 obtain⟨l1,l2,e,⟨xs,qx⟩,⟨ys,qy⟩,q⟩:=q1
 subst e
 cases r1 with
 | cons r rr =>
  cases rr with
  | cons r' rr =>
   cases rr
   cases r
   cases r'
   obtain⟨its1,r1,p1,z1⟩:=seqX I1 qx
   obtain⟨its2,r2,p2,z2⟩:=seqX I1 qy
   have lt:∀ {t:Bool} {l:Addr} {xs:Array Value},Z3.SqAt t s1.heap l xs->l < s1.heap.objs.size:=fun {t l xs} q=>by
    cases t with
    | true=>obtain⟨o,e,_⟩:=(show s1.heap.IsTuple l xs from q);exact Heap.lt_size e
    | false=>obtain⟨o,e,_⟩:=(show s1.heap.IsList l xs from q);exact Heap.lt_size e
   refine Z3.call_zip p1 p2 fun h' zd sz kp=>wpAny_pyIter_zip zd.z ?_
   have I2:Inv X pins σ H1 { s1 with heap:=h',toks:=s1.toks }:=I1.kept (t':=s1.toks) kp
   refine⟨s1.heap.objs.size + 4,[s1.heap.objs.size + 4,s1.heap.objs.size + 2,s1.heap.objs.size + 3,s1.heap.objs.size,s1.heap.objs.size + 1],_,_,H1,rfl,I2,turn_zip (Z3.ap_new _) (Z3.out_new (lt p1)) (Z3.out_new (lt p2)),zd,fun b hb=>?_,q⟩
   have hb':s1.heap.objs.size≤b:=by
    simp only [List.mem_cons,List.not_mem_nil,or_false] at hb
    rcases hb with rfl | rfl | rfl | rfl | rfl
    ·exact Nat.le_add_right _ _
    ·exact Nat.le_add_right _ _
    ·exact Nat.le_add_right _ _
    ·exact Nat.le_refl _
    ·exact Nat.le_add_right _ _
   exact I1.fpOk hb' (I1.hok.fresh hb')
section
variable {X:Cx} {pos:Pos}
def gLst (K:PySem.W.Frag) (n:Nat) (t:TGs):TG:=fun v σ H Q=>∃ a xs,v=.ref a∧SqL K H a xs∧xs.length=n∧t xs σ H Q
theorem pg_lst {es:List Expr} {k:Nat} {t:TGs} {n:Nat} (hc:X.calm=true) (h:PGs X es t) (hn:(assignEach es X.env).length=n:=by rfl) (hst:(assignEach es X.env).findIdx? (·.1)=none:=by rfl):PG X (.Tuple es k pos) (gLst X.K n t):=by
 intro pins s σ H v u Q I r hw
 obtain⟨a,xs,e1,hq,hl,hw⟩:=hw
 subst e1
 cases r
 obtain⟨its,rv,ht,hz⟩:=I.list hq
 refine U3.assign_tuple_lst (I.ok.hd hc) ht.isList (by simp [hn,← hl,rv.length]) hst fun h' hx=>?_
 have I1:Inv X pins σ H { s with heap:=h' }:=I.kept (t':=s.toks) fun b o e=>hx b o (Nat.ne_of_lt (Heap.lt_size e)) e
 exact h pins _ σ H xs _ Q I1 (by simpa using rv) hw
theorem truth_bl {prog:Program} {w:World} {A:Around} {bs:List Bool} {its:List Value} (r:Vals (bs.map V.bl) its):TruthOf prog w A (fun i v=>its.toArray[i]?=some v) (fun i=>bs.getD i true):=by
 intro i v s Q E hP hq
 have hP':its[i]?=some v:=by simpa using hP
 have hl:=r.length
 have hi:i < its.length:=(List.getElem?_eq_some_iff.mp hP').1
 have hb:i < bs.length:=by rw[List.length_map] at hl;omega
 obtain⟨u,hu,ru⟩:=r.get (i:=i) (x:=V.bl bs[i]) (by rw[List.getElem?_map,List.getElem?_eq_getElem hb];rfl)
 rw[hP'] at hu
 cases hu
 have e:v=Value.bool bs[i]:=ru
 subst e
 have e2:bs.getD i true=bs[i]:=by simp [List.getD,hb]
 have hq':Q (bs.getD i true) s:=hq
 rw[e2] at hq'
 exact wpAny_truthy_bool hq'
theorem all_range (bs:List Bool):((List.range bs.length).all fun i=>bs.getD i true)=bs.all id:=by
 rw[Bool.eq_iff_iff,List.all_eq_true,List.all_eq_true]
 constructor
 ·intro h b hb
  obtain⟨i,hi,e⟩:=List.getElem_of_mem hb
  have:=h i (List.mem_range.mpr hi)
  rw[← e]
  simpa [List.getD,hi] using this
 ·intro h i hi
  have hi':=List.mem_range.mp hi
  have:=h bs[i] (List.getElem_mem hi')
  simpa [List.getD,hi'] using this
theorem call_all (hh:X.calm=true):CallR X (.builtin "all") (fun xs H Q=>∃ (p:Addr) (bs:List Bool),xs=[.ref p]∧SqL X.K H p (bs.map V.bl)∧Q (.bl (bs.all id)) H):=by
 intro pins s σ H xs us Q I r h
 obtain⟨p,bs,rfl,hq,q⟩:=h
 obtain⟨u,rfl,rx⟩:=vals1 r
 cases rx
 obtain⟨its,rv,pl,hz⟩:=I.list hq
 have hl:=rv.length
 have lt:p≠s.heap.objs.size:=by obtain⟨o,e,_⟩:=pl.isList;exact Nat.ne_of_lt (Heap.lt_size e)
 refine call_all_walk (wpAny_pyIter_list pl.isList ?_)
 have W:=Walks.list (prog:=X.prog) (w:=X.w) (A:=X.A.in1) (show X.A.in1.handled=none from I.ok.hd hh) s.heap.objs.size p lt its.toArray
 refine⟨s.heap.objs.size,_,_,_,_,_,_,rfl,W,⟨⟨_,Heap.get?_push_size _ rfl,rfl,rfl⟩,pl.isList.push _⟩,truth_bl rv,fun h' tk hk=>?_⟩
 refine⟨.bl (bs.all id),H,I.kept (t':=tk) fun b o e=>hk b o (fun z=>?_) (Heap.get?_push_of_some _ e),?_,q⟩
 ·have:b=s.heap.objs.size:=by simpa using z
  exact absurd (Heap.lt_size e) (by rw[this];exact Nat.lt_irrefl _)
 ·show Value.bool _=Value.bool _
  have e1:its.toArray.size=bs.length:=by rw[List.size_toArray,← hl,List.length_map]
  rw[e1,all_range]
theorem call_isi {n:String}:CallR X (.builtin "isinstance") (fun xs H Q=>∃ x t b,xs=[x,.ty n]∧TyOf X.K H x t∧PySem.W.kitOne X.K t (.type n)=some b∧Q (.bl b) H):=by
 intro pins s σ H xs us Q I r h
 obtain⟨x,t,b,rfl,ty,e,q⟩:=h
 obtain⟨u,c,rfl,ru,rc⟩:=r.two
 cases rc
 exact isinst_ok I ru ty e fun tk=>⟨.bl b,H,I.tok tk,rfl,q⟩
variable {a b c d:Expr} {ta tb tc td:TE}
end
end L3
namespace L3
open PySem PySem.Spec PyProof.Rows L2
mutual
def Is (K:PySem.W.Frag) (H:Hp):PyData->V->Prop
 | .none,v=>v=.non
 | .bool b,v=>v=.bl b
 | .int i,v=>v=.int i
 | .str x,v=>v=.str x
 | .tuple ds,v=>∃ p vs,v=.ref p∧H p=some (.tup vs)∧IsAll K H ds vs
 | .list ds,v=>∃ p vs,v=.ref p∧H p=some (.lst vs)∧IsAll K H ds vs
 | .dict kvs,v=>kvs=[]∧∃ p,v=.ref p∧H p=some (.dK [])
def IsAll (K:PySem.W.Frag) (H:Hp):List PyData->List V->Prop
 | [],vs=>vs=[]
 | d::ds,vs=>∃ v r,vs=v::r∧Is K H d v∧IsAll K H ds r
end
section
variable {K:PySem.W.Frag} {H H':Hp}
mutual
theorem Is.same (e:Same H H'):∀ (d:PyData) {v:V},Is K H d v->Is K H' d v
 | .none,_,h=>h
 | .bool _,_,h=>h
 | .int _,_,h=>h
 | .str _,_,h=>h
 | .tuple ds,_,h=>let ⟨p,vs,q1,q2,q3⟩:=h;⟨p,vs,q1,e _ _ q2,IsAll.same e ds q3⟩
 | .list ds,_,h=>let ⟨p,vs,q1,q2,q3⟩:=h;⟨p,vs,q1,e _ _ q2,IsAll.same e ds q3⟩
 | .dict kvs,_,h=>let ⟨q0,p,q1,q2⟩:=h;⟨q0,p,q1,e _ _ q2⟩
theorem IsAll.same (e:Same H H'):∀ (ds:List PyData) {vs:List V},IsAll K H ds vs->IsAll K H' ds vs
 | [],_,h=>h
 | d::ds,_,h=>let ⟨v,r,q1,q2,q3⟩:=h;⟨v,r,q1,Is.same e d q2,IsAll.same e ds q3⟩
end
theorem IsAll.length:∀ {ds:List PyData} {vs:List V},IsAll K H ds vs->vs.length=ds.length
 | [],_,h=>by rw[show _=[] from h];rfl
 | d::ds,_,⟨v,r,q1,q2,q3⟩=>by rw[q1,List.length_cons,List.length_cons,IsAll.length q3]
theorem IsAll.of:∀ {ds:List PyData} {vs:List V},vs.length=ds.length->(∀ (i:Nat) (d:PyData) (v:V),ds[i]?=some d->vs[i]?=some v->Is K H d v)->IsAll K H ds vs
 | [],[],_,_=>rfl
 | [],_::_,h,_=>by simp at h
 | _::_,[],h,_=>by simp at h
 | d::ds,v::vs,h,q=>⟨v,vs,rfl,q 0 d v rfl rfl,IsAll.of (by simpa using h) fun i d' v' h1 h2=>q (i + 1) d' v' (by simpa using h1) (by simpa using h2)⟩
theorem IsAll.ints (ns:List Int):IsAll K H (ns.map .int) (ns.map V.int):=by
 refine IsAll.of (by simp) fun i d v h1 h2=>?_
 rw[List.getElem?_map] at h1 h2
 cases e:ns[i]? with
 | none=>rw[e] at h1;cases h1
 | some n=>rw[e] at h1 h2;cases h1;cases h2;exact rfl
theorem IsAll.of_ints:∀ {ns:List Int} {vs:List V},IsAll K H (ns.map .int) vs->vs=ns.map V.int
 | [],_,h=>h
 | n::ns,_,⟨v,r,q1,q2,q3⟩=>by
  have e:v=.int n:=q2
  rw[q1,e,IsAll.of_ints q3];rfl
end
section
variable {X:Cx} {pins:List (Addr × Obj)} {σ:L2.St} {H:Hp} {s:Shared}
mutual
theorem reads_of (I:Inv X pins σ H s):∀ (d:PyData) {v:V} {u:Value},Is X.K H d v->RelV v u->∃ as,Reads s.heap u d as
 | .none,_,_,h,r=>by
  have e:_=V.non:=h
  subst e;cases r;exact⟨_,.none⟩
 | .bool b,_,_,h,r=>by
  have e:_=V.bl b:=h
  subst e;cases r;exact⟨_,.bool b⟩
 | .int i,_,_,h,r=>by
  have e:_=V.int i:=h
  subst e;obtain⟨t,rfl⟩:=r;exact⟨_,.int i t⟩
 | .str x,_,_,h,r=>by
  have e:_=V.str x:=h
  subst e;obtain⟨t,rfl⟩:=r;exact⟨_,.str x t⟩
 | .tuple ds,_,_,h,r=>by
  obtain⟨p,vs,rfl,q2,q3⟩:=(show ∃ p vs,_=V.ref p∧H p=some (.tup vs)∧IsAll X.K H ds vs from h)
  cases r
  obtain⟨its,rv,⟨o,e1,e2,n,e3⟩,_⟩:=I.tuple (SqT.of q2)
  obtain⟨as,ra⟩:=readsAll_of I ds q3 rv
  exact⟨_,.tuple e1 e2 e3 (by simpa using ra)⟩
 | .list ds,_,_,h,r=>by
  obtain⟨p,vs,rfl,q2,q3⟩:=(show ∃ p vs,_=V.ref p∧H p=some (.lst vs)∧IsAll X.K H ds vs from h)
  cases r
  obtain⟨its,rv,⟨o,n,e1,e2,_,e3⟩,_⟩:=I.list (SqL.of q2)
  obtain⟨as,ra⟩:=readsAll_of I ds q3 rv
  exact⟨_,.list e1 e2 e3 (by simpa using ra)⟩
 | .dict kvs,_,_,h,r=>by
  obtain⟨e0,p,rfl,q2⟩:=(show kvs=[]∧∃ p,_=V.ref p∧H p=some (.dK []) from h)
  subst e0
  cases r
  obtain⟨_,_,vs,kv,o,es,ep,g1,g2,g3,_,g4,_⟩:=(show ObjOk X.prog X.w H s.heap p (.dK []) from I.hok p _ q2)
  cases kv
  have e1:es.toList=[]:=by cases h:es.toList with
   | nil=>rfl
   | cons x r=>rw[h] at g4;cases g4
  exact⟨_,.dict g1 g2.1 g3 (by rw[e1];exact .nil) (by rw[e1];exact .nil)⟩
theorem readsAll_of (I:Inv X pins σ H s):∀ (ds:List PyData) {vs:List V} {us:List Value},IsAll X.K H ds vs->Vals vs us->∃ as,ReadsAll s.heap us ds as
 | [],_,_,h,r=>by
  have e:_=[]:=h
  subst e;cases r;exact⟨_,.nil⟩
 | d::ds,_,_,h,r=>by
  obtain⟨v,vr,rfl,q2,q3⟩:=(show ∃ v r,_=v::r∧Is X.K H d v∧IsAll X.K H ds r from h)
  cases r with
  | cons r1 r2 =>
   obtain⟨as,a1⟩:=reads_of I d q2 r1
   obtain⟨bs,a2⟩:=readsAll_of I ds q3 r2
   exact⟨_,.cons a1 a2⟩
end
/-- == and != of data -/
theorem op_eqD:OpR X (compareOp .Eq) (fun x y H Q=>∃ da db,Is X.K H da x∧Is X.K H db y∧da.canLay0=true∧db.canLay0=true∧X.A.units + min da.depth db.depth < cLine∧Q (.bl (PyData.eqv da db)) H):=by
 intro pins s σ H x y v u Q I rx ry h
 obtain⟨da,db,h1,h2,c1,c2,hu,q⟩:=h
 obtain⟨as,ra⟩:=reads_of I da h1 rx
 obtain⟨bs,rb⟩:=reads_of I db h2 ry
 exact SeqAt.compareEq_reads ra rb c1 c2 hu (fin_bl I q rfl)
theorem op_neD:OpR X (compareOp .NotEq) (fun x y H Q=>∃ da db,Is X.K H da x∧Is X.K H db y∧da.canLay0=true∧db.canLay0=true∧X.A.units + min da.depth db.depth < cLine∧Q (.bl (!PyData.eqv da db)) H):=by
 intro pins s σ H x y v u Q I rx ry h
 obtain⟨da,db,h1,h2,c1,c2,hu,q⟩:=h
 obtain⟨as,ra⟩:=reads_of I da h1 rx
 obtain⟨bs,rb⟩:=reads_of I db h2 ry
 exact SeqAt.compareNe_reads ra rb c1 c2 hu (fin_bl I q rfl)
theorem getD_rel {ys:List V} {its:List Value} (r:Vals ys its) {i:Nat} (hi:i < ys.length):RelV (ys.getD i .non) (its.getD i .none):=by
 have hl:=r.length
 obtain⟨u,hu,ru⟩:=r.get (i:=i) (x:=ys[i]) (List.getElem?_eq_getElem hi)
 have e1:ys.getD i .non=ys[i]:=by simp [List.getD,hi]
 have e2:its.getD i .none=u:=by simp [List.getD,hu]
 rw[e1,e2];exact ru
theorem vals_out {ys:List V} {its:List Value} (r:Vals ys its):∀ (l:List Nat),(∀ i ∈ l,i < ys.length)->Vals (l.map fun i=>ys.getD i .non) (l.map fun i=>its.getD i Value.none)
 | [],_=>.nil
 | i::l,h=>.cons (getD_rel r (h i List.mem_cons_self)) (vals_out r l fun j hj=>h j (List.mem_cons_of_mem _ hj))
theorem gd_mem {n:Nat} {p:Array Nat} (g:Srt.Gd n p):∀ i ∈ p.toList,i < n:=fun i hi=>by
 have:=g.mem_iff.mp (Array.mem_toList_iff.mp hi)
 simpa using this
theorem gd_perm {α:Type} {n:Nat} {p:Array Nat} (g:Srt.Gd n p) (f:Nat->α):(p.toList.map f).Perm ((List.range n).map f):=by
 have h:=Array.perm_iff_toList_perm.mp g
 exact (by simpa using h:p.toList.Perm (List.range n)).map f
theorem up_pair {n:Nat} {p:Array Nat} {r:Nat->Int} {R:Nat->Nat->Prop} (g:Srt.Gd n p) (u:Srt.Up r p n) (h:∀ i j,i < n->j < n->r i≤r j->R i j):p.toList.Pairwise R:=by
 rw[List.pairwise_iff_getElem]
 intro i j hi hj hij
 have sz:=g.sz
 have hi':i < p.size:=by simpa using hi
 have hj':j < p.size:=by simpa using hj
 have q:=u i j (Nat.le_of_lt hij) (by omega)
 have e:∀ k (hk:k < p.size),p.getD k 0=p[k]:=fun k hk=>by simp [Array.getD,hk]
 unfold Srt.ky at q
 rw[e i hi',e j hj'] at q
 have m:∀ k (hk:k < p.size),p[k] < n:=fun k hk=>gd_mem g _ (by simp)
 have:=h p[i] p[j] (m i hi') (m j hj') q
 simpa using this
theorem range_getD {α:Type} (l:List α) (d:α):(List.range l.length).map (fun i=>l.getD i d)=l:=by
 refine List.ext_getElem (by simp) fun i h1 h2=>?_
 simp [List.getD,h2]
theorem call_sortedI:CallR X (.builtin "sorted") (fun xs H Q=>∃ p ns,xs=[.ref p]∧SqL X.K H p (ns.map V.int)∧ns.length < 64∧∀ ms:List Int,ms.Perm ns->ms.Pairwise (·≤·)->∀ l,H l=none->Q (.ref l) (upd H l (.lst (ms.map V.int)))):=by
 intro pins s σ H xs us Q I r h
 obtain⟨p,ns,rfl,hq,h64,q⟩:=h
 obtain⟨u,rfl,rx⟩:=vals1 r
 cases rx
 obtain⟨its,rv,pl,hz⟩:=I.list hq
 have hl:=rv.length
 rw[List.length_map] at hl
 have hI:IntsAre its ns:=intsAre_of rv
 have line:(64:Nat)≤sizeLine:=by rw[sizeLine_eq];decide
 refine Srt.sorted_by (r:=fun i=>ns.getD i 0) (κ:=oneType') pl.isList (by omega) (fun h2 A' s' Q' _ q'=>Srt.int_kind hI h2 q') (fun A' s' i j C _ hi hj q'=>Srt.int_ask hI hi hj q') fun pp h' c g u kp e=>?_
 have g':Srt.Gd ns.length pp:=by rw[hl];exact g
 have u':Srt.Up (fun i=>ns.getD i 0) pp ns.length:=by rw[hl];exact u
 have pm:(pp.toList.map fun i=>ns.getD i 0).Perm ns:=by
  have:=gd_perm g' fun i=>ns.getD i 0
  rw[range_getD] at this
  exact this
 have pw:(pp.toList.map fun i=>ns.getD i 0).Pairwise (·≤·):=by
  rw[List.pairwise_map]
  exact up_pair g' u' fun i j _ _ z=>z
 have fr:H (s.heap.objs.size + 1)=none:=I.hok.fresh (Nat.le_succ _)
 have ev:((pp.toList.map fun i=>ns.getD i 0).map V.int)=pp.toList.map fun i=>(ns.map V.int).getD i .non:=by
  rw[List.map_map]
  refine List.map_congr_left fun i hi=>?_
  have:=gd_mem g' i hi
  simp [List.getD,this]
 refine⟨.ref (s.heap.objs.size + 1),_,I.laid (a:=s.heap.objs.size + 1) (o:=.lst ((pp.toList.map fun i=>ns.getD i 0).map V.int)) (t':=s.toks) kp (Nat.le_succ _) ⟨?_,Srt.outOf its pp,c,?_,e⟩,rfl,q _ pm pw _ fr⟩
 ·have:=pm.length_eq
  rw[List.length_map,this];omega
 ·rw[ev]
  exact vals_out rv pp.toList fun i hi=>by rw[List.length_map];exact gd_mem g' i hi
theorem call_sortedT:CallR X (.builtin "sorted") (fun xs H Q=>∃ p ys ks,xs=[.ref p]∧SqL X.K H p ys∧ys.length < 64∧Paired (fun (y:V) (k:List Int)=>∃ a,y=.ref a∧SqT X.K H a (k.map V.int)) ys ks∧(∀ k ∈ ks,k≠[]) ∧
  ∀ qs:List (V × List Int),qs.Perm (ys.zip ks)->qs.Pairwise (fun a b=>Srt.lexI b.2 a.2=false)->∀ l,H l=none->Q (.ref l) (upd H l (.lst (qs.map (·.1))))):=by
 intro pins s σ H xs us Q I r h
 obtain⟨p,ys,ks,rfl,hq,h64,hp,hne,q⟩:=h
 obtain⟨u,rfl,rx⟩:=vals1 r
 cases rx
 obtain⟨its,rv,pl,hz⟩:=I.list hq
 have hl:=rv.length
 have hlk:ys.length=ks.length:=Paired.length hp
 have line:(64:Nat)≤sizeLine:=by rw[sizeLine_eq];decide
 have hT:∀ {ys:List V} {ks:List (List Int)} {its:List Value},Paired (fun (y:V) (k:List Int)=>∃ a,y=.ref a∧SqT X.K H a (k.map V.int)) ys ks->Vals ys its->Paired (Srt.TupI s.heap) its ks:=by
  intro ys ks its hp
  induction hp generalizing its with
  | nil=>intro rv;cases rv;exact .nil
  | cons r t ih =>
   intro rv
   cases rv with
   | cons r1 r2 =>
    refine .cons ?_ (ih r2)
    obtain⟨a,rfl,qa⟩:=r
    cases r1
    obtain⟨its',rv',⟨o,e1,e2,n,e3⟩,_⟩:=I.tuple qa
    exact⟨a,o,its'.toArray,n,rfl,e1,e2,e3,by simpa using intsAre_of rv'⟩
 have tp:=hT hp rv
 have mono:∀ {h':Heap},(∀ b o,s.heap.get? b=some o->h'.get? b=some o)->Paired (Srt.TupI h') its ks:=fun k=>Paired.mapP tp fun v k' z=>z.to k
 refine Srt.sorted_by (r:=Srt.rank its.length fun i j=>Srt.lexI (ks.getD i []) (ks.getD j [])) (κ:=tuples' true) pl.isList (by omega) (fun h2 A' s' Q' k q'=>Srt.tup_kind (mono k) hne h2 q')
  (fun A' s' i j C k hi hj q'=>Srt.tup_ask (mono k) hi hj (by rw[Srt.rank_lt (lt:=fun i j=>Srt.lexI (ks.getD i []) (ks.getD j [])) (fun i=>Srt.lexI_irr _) (fun _ _ _ _ _ _=>Srt.lexI_trans _ _ _) (fun _ _ _ _ _ _=>Srt.lexI_neg _ _ _) hi hj] at q';exact q')) fun pp h' c g u kp e=>?_
 have fr:H (s.heap.objs.size + 1)=none:=I.hok.fresh (Nat.le_succ _)
 have pm:(pp.toList.map fun i=>(ys.getD i .non,ks.getD i [])).Perm (ys.zip ks):=by
  have h1:=gd_perm g fun i=>(ys.getD i V.non,ks.getD i [])
  have e1:(List.range its.length).map (fun i=>(ys.getD i V.non,ks.getD i []))=ys.zip ks:=by
   refine List.ext_getElem (by simp;omega) fun i h1 h2=>?_
   have hi:i < its.length:=by simpa using h1
   have a1:i < ys.length:=by omega
   have a2:i < ks.length:=by omega
   simp [List.getD,a1,a2]
  rw[e1] at h1
  exact h1
 have pw:(pp.toList.map fun i=>(ys.getD i V.non,ks.getD i [])).Pairwise (fun a b=>Srt.lexI b.2 a.2=false):=by
  rw[List.pairwise_map]
  refine up_pair g u fun i j hi hj z=>?_
  have w:=Srt.rank_lt (n:=its.length) (lt:=fun i j=>Srt.lexI (ks.getD i []) (ks.getD j [])) (fun i=>Srt.lexI_irr _) (fun _ _ _ _ _ _=>Srt.lexI_trans _ _ _) (fun _ _ _ _ _ _=>Srt.lexI_neg _ _ _) hj hi
  rw[decide_eq_false (by omega)] at w
  exact w.symm
 have ev:(pp.toList.map fun i=>(ys.getD i V.non,ks.getD i [])).map (·.1)=pp.toList.map fun i=>ys.getD i V.non:=by
  rw[List.map_map];rfl
 refine⟨.ref (s.heap.objs.size + 1),_,I.laid (a:=s.heap.objs.size + 1) (o:=.lst ((pp.toList.map fun i=>(ys.getD i V.non,ks.getD i [])).map (·.1))) (t':=s.toks) kp (Nat.le_succ _) ⟨?_,Srt.outOf its pp,c,?_,e⟩,rfl,q _ pm pw _ fr⟩
 ·have:=pm.length_eq
  rw[List.length_map,this,List.length_zip];omega
 ·rw[ev]
  exact vals_out rv pp.toList fun i hi=>by have:=gd_mem g i hi;omega
end
end L3
namespace L3
open PySem PySem.Spec PyProof.Rows L2
def Ok (P:Program) (w:World) (K:PySem.W.Frag) (mg:Str->Option Value) (base:Heap) (k:Nat) (x:Str) (ps:List Str) (sp:Sp):Prop :=
 ∃ (f:Addr) (fd:FuncData),FnOk P w K mg base CX0 k f fd ps sp∧Binds K fd ps []∧PySem.W.keepIn K (.ref f)=true∧mg x=some (.ref f)
def DefOk (K:PySem.W.Frag) (mg:Str->Option Value) (x:Str) (st:Stmt) (ps:List Str):Prop :=
 ∃ (f:Addr) (fd:FuncData),Fun K x x st f fd∧Binds K fd ps []∧mg x=some (.ref f)
section
variable {P:Program} {w:World} {K:PySem.W.Frag} {mg:Str->Option Value} {base:Heap} {x:Str} {ps N:List Str} {sp sp':Sp} {k:Nat} {st:Stmt}
theorem Ok.mono {j:Nat} (O:Ok P w K mg base j x ps sp) (h:j≤k):Ok P w K mg base k x ps sp:=let ⟨f,fd,F,r⟩:=O;⟨f,fd,F.mono h,r⟩
theorem mk_ok (D:DefOk K mg x st ps) (S:FnScope N ps (defScope st)) (len:∀ vs H Q E,sp vs H Q E->vs.length=ps.length)
  (hbody:∀ (f:Addr) (cdv:Value) (A:Around) (outer:List Env) (s:Shared) (H:Hp) (vs:List V) (Q:VK) (E:XK),Room k (A.deeper (envOfC x (defScope st) s.heap.objs.size f cdv))->sp vs H Q E ->
   ∃ t,PSs (cxOf CX0 P w K mg base N x (defScope st) f cdv A outer s H E).nox (defBody st) t∧t { nx:=fun _ H'=>Q .non H',rt:=Q } (start N vs) H):Ok P w K mg base (k + 1) x ps sp:=by
 obtain⟨f,fd,F,b,m⟩:=D
 exact⟨f,fd,F.ok S len (fun cdv A outer s H vs Q E hr h=>hbody f cdv A outer s H vs Q E hr h),b,F.kp,m⟩
theorem pe_callD {X:Cx} {p pos:Pos} {e:Expr} {es:List Expr} {t:TA} (O:Ok X.prog X.w X.K X.mg X.base k x ps sp) (hr:Room k X.A) (hg:Gl X x) (ha:PA X (e::es) t)
  (hdb:(x == ("__debug__":Str))=false:=by decide) (he:starEach (e::es) X.env=(false,eval e X.env)::starEach es X.env:=by rfl) (hpl:(backTo pos (starEach es X.env)).any (·.1)=false:=by rfl) :
  PE X (.Call (.Name x p) (e::es) [] pos) (tCall sp [] E0 t):=by
 obtain⟨f,fd,F,b,kp,m⟩:=O
 exact pe_call F hr hg m kp b .nil pass0 ha hdb he hpl
end
/-- the built-ins' names are not taken -/
structure Bi (mg:Str->Option Value):Prop where
 z_len:mg "len"=none
 z_range:mg "range"=none
 z_zip:mg "zip"=none
 z_all:mg "all"=none
 z_sorted:mg "sorted"=none
 z_isinstance:mg "isinstance"=none
 z_min:mg "min"=none
 z_max:mg "max"=none
 z_tuple:mg "tuple"=none
 z_list:mg "list"=none
 z_int:mg "int"=none
 z_bool:mg "bool"=none
 z_str:mg "str"=none
 z_enumerate:mg "enumerate"=none
 z_sum:mg "sum"=none
 z_abs:mg "abs"=none
 z_set:mg "set"=none
 z_reversed:mg "reversed"=none
 z_any:mg "any"=none
 z_repr:mg "repr"=none
 z_dict:mg "dict"=none
def But (p:Addr) (H H':Hp):Prop:=∀ b o,b≠p->H b=some o->H' b=some o
section
variable {K:PySem.W.Frag} {H H1 H2:Hp} {p a:Addr} {o:HO} {xs ys:List V}
theorem But.refl:But p H H:=fun _ _ _ h=>h
theorem But.trans (a:But p H H1) (b:But p H1 H2):But p H H2:=fun c o n h=>b c o n (a c o n h)
theorem But.upd:But p H (upd H p o):=fun b u n h=>by rw[upd_ne n];exact h
theorem Same.but (h:Same H H1):But p H H1:=fun b o _ q=>h b o q
theorem But.new (h:H a=none):But p H (L2.upd H a o):=fun b u _ q=>by rw[upd_ne (ne_of_none q h)];exact q
theorem same_new (h:H a=none):Same H (upd H a o):=fun b u q=>by rw[upd_ne (ne_of_none q h)];exact q
end
mutual
def tupD:PyData->Bool
 | .none | .bool _ | .int _ | .str _=>true
 | .tuple ds=>tupAll ds
 | .list _ | .dict _=>false
def tupAll:List PyData->Bool
 | []=>true
 | d::ds=>tupD d && tupAll ds
end
mutual
theorem Is.but {K:PySem.W.Frag} {H H':Hp} {p:Addr} {xs:List V} (e:But p H H') (hp:H p=some (.lst xs)):∀ (d:PyData) {v:V},tupD d=true->Is K H d v->Is K H' d v
 | .none,_,_,h=>h
 | .bool _,_,_,h=>h
 | .int _,_,_,h=>h
 | .str _,_,_,h=>h
 | .tuple ds,_,t,h=>let ⟨q,vs,q1,q2,q3⟩:=h;⟨q,vs,q1,e _ _ (fun z=>by subst z;rw[hp] at q2;cases q2) q2,IsAll.but e hp ds t q3⟩
 | .list ds,_,t,h=>by cases t
 | .dict _,_,t,h=>by cases t
theorem IsAll.but {K:PySem.W.Frag} {H H':Hp} {p:Addr} {xs:List V} (e:But p H H') (hp:H p=some (.lst xs)):∀ (ds:List PyData) {vs:List V},tupAll ds=true->IsAll K H ds vs->IsAll K H' ds vs
 | [],_,_,h=>h
 | d::ds,_,t,h=>by
  have t':(tupD d && tupAll ds)=true:=t
  rw[Bool.and_eq_true] at t'
  obtain⟨v,r,q1,q2,q3⟩:=h
  exact⟨v,r,q1,Is.but e hp d t'.1 q2,IsAll.but e hp ds t'.2 q3⟩
end
/-- a pot: its two numbers -/
def Pot (H:Hp) (p:Addr):Prop:=∃ a b:Int,H p=some (.lst [.int a,.int b])∧0≤a∧0≤b∧b < 2147483647
theorem Pot.lst {H:Hp} {p:Addr} (h:Pot H p):∃ xs,H p=some (.lst xs):=let ⟨a,b,e,_⟩:=h;⟨_,e⟩
def spPot (K:PySem.W.Frag):Sp:=fun vs H Q _=>∃ a k,∃ ns:List Int,vs=[.ref a,.int k]∧SqL K H a (ns.map V.int)∧0≤k∧k≤100∧∀ l H',Same H H'->H l=none->Pot H' l->Q (.ref l) H'
def spTake:Sp:=fun vs H Q _=>∃ p m,vs=[.ref p,.int m]∧Pot H p∧0 < m∧m < 1073741824∧∀ r H',0≤r->r < m->But p H H'->Pot H' p->Q (.int r) H'
def spLength:Sp:=fun vs H Q _=>∃ p y,vs=[.ref p,.int y]∧Pot H p∧0≤y∧y < 5∧∀ r H',1≤r->r≤10 ^ 18->But p H H'->Pot H' p->Q (.int r) H'
def spTied:Sp:=fun vs H Q _=>∃ p n y a b,vs=[.ref p,.int n,.int y,.int a,.int b]∧Pot H p∧∀ k H',But p H H'->Pot H' p->Q (.bl k) H'
def spOrder:Sp:=fun vs H Q _=>∃ p m,vs=[.ref p,.int m]∧Pot H p∧0≤m∧m≤1000∧∀ l H' (ms:List Int),But p H H'->Pot H' p->H l=none->l≠p->H' l=some (.lst (ms.map V.int))->ms.Perm ((List.range m.toNat).map fun i:Nat=>(i:Int))->Q (.ref l) H'
abbrev Tie:=Int × Int × Int
def tieI (t:Tie):List Int:=[t.1,t.2.1,t.2.2]
def tieD (t:Tie):PyData:=.tuple ((tieI t).map .int)
def webD (n:Int) (ties:List Tie):PyData:=.tuple [.int n,.tuple (ties.map tieD)]
/-- less by its ends -/
def endLt (s t:Tie):Prop:=s.1 < t.1∨(s.1=t.1∧s.2.1 < t.2.1)
structure WebOk (n:Int) (ties:List Tie):Prop where
 n1:1≤n
 n24:n≤24
 rise:ties.Pairwise endLt
 few:ties.length≤60
 tie:∀ t ∈ ties,0≤t.1∧t.1 < t.2.1∧t.2.1 < n∧1≤t.2.2∧t.2.2≤10 ^ 18
def spWeb (K:PySem.W.Frag):Sp:=fun vs H Q _=>∃ p m,vs=[.ref p,.int m]∧Pot H p∧1≤m∧m≤24∧∀ v H' n ties,But p H H'->Pot H' p->WebOk n ties->n≤m->Is K H' (webD n ties) v->Q v H'
end L3
namespace L3
structure Grown (n:Nat) (ms:List Int) (b a:Nat) (ties:List Tie):Prop where
 few:ties.length≤60
 ok:∀ t ∈ ties,0≤t.1∧t.1 < t.2.1∧t.2.1 < (n:Int)∧1≤t.2.2∧t.2.2≤10 ^ 18
 of:∀ t ∈ ties,∃ a' b':Nat,a' < b'∧b' < n∧(b' < b∨(b'=b∧a' < a))∧((t.1=ms.getD a' 0∧t.2.1=ms.getD b' 0)∨(t.1=ms.getD b' 0∧t.2.1=ms.getD a' 0))
 nd:ties.Pairwise fun s t=>¬ (s.1=t.1∧s.2.1=t.2.1)
theorem Grown.start {n:Nat} {ms:List Int}:Grown n ms 0 0 []:=⟨Nat.zero_le _,(fun t h=>by cases h),(fun t h=>by cases h),List.Pairwise.nil⟩
theorem Grown.down {n:Nat} {ms:List Int} {b:Nat} {ties:List Tie} (g:Grown n ms b b ties):Grown n ms (b + 1) 0 ties :=
 ⟨g.few,g.ok,fun t h=>by
  obtain⟨a',b',h1,h2,h3,h4⟩:=g.of t h
  exact⟨a',b',h1,h2,.inl (by omega),h4⟩,g.nd⟩
theorem Grown.skip {n:Nat} {ms:List Int} {b a:Nat} {ties:List Tie} (g:Grown n ms b a ties):Grown n ms b (a + 1) ties :=
 ⟨g.few,g.ok,fun t h=>by
  obtain⟨a',b',h1,h2,h3,h4⟩:=g.of t h
  exact⟨a',b',h1,h2,by omega,h4⟩,g.nd⟩
structure Perm0 (n:Nat) (ms:List Int):Prop where
 len:ms.length=n
 lo:∀ i,i < n->0≤ms.getD i 0∧ms.getD i 0 < (n:Int)
 inj:∀ i j,i < n->j < n->ms.getD i 0=ms.getD j 0->i=j
theorem Perm0.of {n:Nat} {ms:List Int} (h:ms.Perm ((List.range n).map fun i:Nat=>(i:Int))):Perm0 n ms:=by
 have hl:ms.length=n:=by simpa using h.length_eq
 have nd:ms.Nodup:=(h.nodup_iff).mpr (by
  rw[List.Nodup,List.pairwise_map]
  exact (List.nodup_range (n:=n)).imp fun h z=>h (by omega))
 refine⟨hl,fun i hi=>?_,fun i j hi hj e=>?_⟩
 ·have e:ms.getD i 0=ms[i]:=by simp [List.getD,show i < ms.length by omega]
  have m:ms[i]'(by omega) ∈ (List.range n).map fun i:Nat=>(i:Int):=h.mem_iff.mp (List.getElem_mem _)
  rw[e]
  obtain⟨k,hk,ek⟩:=List.mem_map.mp m
  have:=List.mem_range.mp hk
  omega
 ·have e1:ms.getD i 0=ms[i]:=by simp [List.getD,show i < ms.length by omega]
  have e2:ms.getD j 0=ms[j]:=by simp [List.getD,show j < ms.length by omega]
  rw[e1,e2] at e
  exact (List.getElem_inj nd).mp e
theorem Grown.add {n:Nat} {ms:List Int} {b a:Nat} {ties:List Tie} {x y l:Int} (g:Grown n ms b a ties) (pm:Perm0 n ms) (ha:a < b) (hb:b < n) (hf:ties.length < 60) (hl:1≤l) (hl2:l≤10 ^ 18)
  (hxy:(x=ms.getD a 0∧y=ms.getD b 0)∨(x=ms.getD b 0∧y=ms.getD a 0)) (hle:x≤y):Grown n ms b (a + 1) (ties++[(x,y,l)]):=by
 have han:=Nat.lt_trans ha hb
 have la:=pm.lo a han
 have lb:=pm.lo b hb
 have ne:ms.getD a 0≠ms.getD b 0:=fun e=>Nat.ne_of_lt ha (pm.inj a b han hb e)
 refine⟨by rw[List.length_append,List.length_singleton];exact hf,fun t ht=>?_,fun t ht=>?_,?_⟩
 ·rcases List.mem_append.mp ht with h | h
  ·exact g.ok t h
  ·have e:t=(x,y,l):=List.mem_singleton.mp h
   subst e
   refine⟨?_,?_,?_,hl,hl2⟩
   ·show 0≤x
    rcases hxy with ⟨q1,q2⟩ | ⟨q1,q2⟩
    ·rw[q1];exact la.1
    ·rw[q1];exact lb.1
   ·show x < y
    refine Int.lt_iff_le_and_ne.mpr ⟨hle,fun z=>?_⟩
    rcases hxy with ⟨q1,q2⟩ | ⟨q1,q2⟩
    ·exact ne (q1.symm.trans (z.trans q2))
    ·exact ne (q2.symm.trans (z.symm.trans q1))
   ·show y < (n:Int)
    rcases hxy with ⟨q1,q2⟩ | ⟨q1,q2⟩
    ·rw[q2];exact lb.2
    ·rw[q2];exact la.2
 ·rcases List.mem_append.mp ht with h | h
  ·obtain⟨a',b',h1,h2,h3,h4⟩:=g.of t h
   exact⟨a',b',h1,h2,h3.imp id fun z=>⟨z.1,Nat.lt_succ_of_lt z.2⟩,h4⟩
  ·have e:t=(x,y,l):=List.mem_singleton.mp h
   subst e
   exact⟨a,b,ha,hb,.inr ⟨rfl,Nat.lt_succ_self _⟩,hxy⟩
 ·rw[List.pairwise_append]
  refine⟨g.nd,List.pairwise_singleton _ _,fun t ht u hu=>?_⟩
  have e:u=(x,y,l):=List.mem_singleton.mp hu
  subst e
  rintro ⟨e1,e2⟩
  obtain⟨a',b',h1,h2,h3,h4⟩:=g.of t ht
  have e1':t.1=x:=e1
  have e2':t.2.1=y:=e2
  have h1n:=Nat.lt_trans h1 h2
  have fin:a'=a->b'=b->False:=fun ea eb=>h3.elim (fun z=>Nat.ne_of_lt z eb) fun z=>Nat.ne_of_lt z.2 ea
  have fin2:a'=b->b'=a->False:=fun ea eb=>Nat.lt_asymm ha (by rw[← ea,← eb];exact h1)
  rcases h4 with ⟨p1,p2⟩ | ⟨p1,p2⟩ <;> rcases hxy with ⟨q1,q2⟩ | ⟨q1,q2⟩
  ·exact fin (pm.inj a' a h1n han (p1.symm.trans (e1'.trans q1))) (pm.inj b' b h2 hb (p2.symm.trans (e2'.trans q2)))
  ·exact fin2 (pm.inj a' b h1n hb (p1.symm.trans (e1'.trans q1))) (pm.inj b' a h2 han (p2.symm.trans (e2'.trans q2)))
  ·exact fin2 (pm.inj a' b h1n hb (p2.symm.trans (e2'.trans q2))) (pm.inj b' a h2 han (p1.symm.trans (e1'.trans q1)))
  ·exact fin (pm.inj a' a h1n han (p2.symm.trans (e2'.trans q2))) (pm.inj b' b h2 hb (p1.symm.trans (e1'.trans q1)))
theorem rise_of {ts:List Tie} (h:ts.Pairwise fun a b=>Srt.lexI (tieI b) (tieI a)=false) (nd:ts.Pairwise fun s t=>¬ (s.1=t.1∧s.2.1=t.2.1)):ts.Pairwise endLt:=by
 refine (h.and nd).imp fun {a b} hab=>?_
 obtain⟨h1,h2⟩:=hab
 obtain⟨a1,a2,a3⟩:=a
 obtain⟨b1,b2,b3⟩:=b
 simp only [tieI,Srt.lexI] at h1
 show a1 < b1∨(a1=b1∧a2 < b2)
 have h2':¬ (a1=b1∧a2=b2):=h2
 by_cases e1:b1=a1
 ·rw[if_pos e1] at h1
  by_cases e2:b2=a2
  ·exact absurd ⟨e1.symm,e2.symm⟩ h2'
  ·rw[if_neg e2] at h1
   have:=of_decide_eq_false h1
   exact .inr ⟨e1.symm,by omega⟩
 ·rw[if_neg e1] at h1
  have:=of_decide_eq_false h1
  exact .inl (by omega)
end L3
namespace L3
open PySem PySem.Spec PyProof.Rows L2
section
variable {X:Cx} {pos:Pos}
theorem op_mulB:OpR X (binaryOp .Mult) (rI (fun i j=>IntMulOk i j) fun i j=>.int (i * j)):=opI fun _ _ _ _ _ _ _ hc q=>mul_int q hc
theorem mulB:IntMulOk ((10:Int) ^ (60:Int).toNat) ((10:Int) ^ (60:Int).toNat):=IntMulOk.of_bits (by decide +kernel) (by decide +kernel)
theorem mulB2:IntMulOk ((10:Int) ^ (60:Int).toNat * (10:Int) ^ (60:Int).toNat) ((10:Int) ^ (60:Int).toNat):=IntMulOk.of_bits (by decide +kernel) (by decide +kernel)
theorem posB:(0:Int) < (10:Int) ^ (60:Int).toNat * (10:Int) ^ (60:Int).toNat * (10:Int) ^ (60:Int).toNat:=by decide +kernel
/-- range(n) as a value -/
theorem call_range:CallR X (.type "range") (fun xs H Q=>∃ j:Int,xs=[.int j]∧∀ p,H p=none->Q (.ref p) (upd H p (.rng 0 j))):=by
 intro pins s σ H xs us Q I r h
 obtain⟨j,rfl,q⟩:=h
 obtain⟨u,rfl,t,rfl⟩:=vals1 r
 refine call_range_1 ⟨.ref s.heap.objs.size,_,I.laid (a:=s.heap.objs.size) (o:=.rng 0 j) (fun b o e=>Heap.get?_push_of_some _ e) (Nat.le_refl _) ⟨_,_,_,Heap.get?_push_size _ rfl⟩,rfl,q _ I.fresh⟩
/-- list(range(n)) -/
theorem call_list_rng (hh:X.calm=true):CallR X (.type "list") (fun xs H Q=>∃ (p:Addr) (j:Int),xs=[.ref p]∧H p=some (.rng 0 j)∧0≤j∧j≤1000∧∀ l,H l=none->Q (.ref l) (upd H l (.lst ((List.range j.toNat).map fun i:Nat=>V.int (i:Int))))):=by
 intro pins s σ H xs us Q I r h
 obtain⟨p,j,rfl,hp,hj0,hj,q⟩:=h
 obtain⟨u,rfl,rx⟩:=vals1 r
 cases rx
 obtain⟨t,u,v,e⟩:=(show ObjOk X.prog X.w H s.heap p (.rng 0 j) from I.hok p _ hp)
 refine call_list_range (n:=j.toNat) (I.ok.hd hh) (show IsRange s.heap p 0 j 1 t u v from e) (small_one (by omega) (by omega) (by omega) (by omega)) (by rw[rangeSize_one];split <;> omega) (by omega) fun h' tk acc c hk hS hacc=>?_
 refine⟨.ref s.heap.objs.size,_,I.laid (a:=s.heap.objs.size) (o:=.lst ((List.range j.toNat).map fun i:Nat=>V.int (i:Int))) (t':=tk) hk (Nat.le_refl _) ⟨?_,acc.toList,c,?_,by simpa using hS⟩,rfl,q _ I.fresh⟩
 ·rw[List.length_map,List.length_range,sizeLine_eq];omega
 ·have go:∀ (n:Nat) (l:List Value),l.length=n->(∀ (k:Nat) (v:Value),l[k]?=some v->∃ t,v=Value.int (0 + (k:Int) * 1) t)->Vals ((List.range n).map fun i:Nat=>V.int (i:Int)) l:=by
   intro n l hl hv
   have gen:∀ (l:List Value) (o:Nat),(∀ (k:Nat) (v:Value),l[k]?=some v->∃ t,v=Value.int ((o + k:Nat):Int) t)->Vals ((List.range' o l.length).map fun i:Nat=>V.int (i:Int)) l:=by
    intro l
    induction l with
    | nil=>intro o _;exact .nil
    | cons x r ih =>
     intro o h
     rw[List.length_cons,List.range'_succ,List.map_cons]
     obtain⟨t,ht⟩:=h 0 x rfl
     refine .cons ⟨t,by simpa using ht⟩ (ih (o + 1) fun k v hk=>?_)
     obtain⟨t,ht⟩:=h (k + 1) v (by simpa using hk)
     exact⟨t,by rw[ht];congr 1;omega⟩
   have:=gen l 0 fun k v hk=>by
    obtain⟨t,ht⟩:=hv k v hk
    exact⟨t,by rw[ht];congr 1;omega⟩
   rw[hl] at this
   rw[List.range_eq_range']
   exact this
  refine go _ _ (by simpa using hacc.1) fun k v hk=>hacc.2 k v (by simpa using hk)
end
theorem erase_perm {α:Type}:∀ (l:List α) (k:Nat) (h:k < l.length),(l[k]::l.eraseIdx k).Perm l
 | [],k,h=>absurd h (Nat.not_lt_zero _)
 | a::l,0,_=>List.Perm.refl _
 | a::l,k + 1,h=>by
  have h':k < l.length:=by simpa using h
  show (l[k]::a::l.eraseIdx k).Perm (a::l)
  exact (List.Perm.swap a l[k] _).trans ((erase_perm l k h').cons a)
theorem map_erase {α β:Type} (f:α->β):∀ (l:List α) (k:Nat),(l.eraseIdx k).map f=(l.map f).eraseIdx k
 | [],_=>rfl
 | _::_,0=>rfl
 | a::l,k + 1=>by
  show f a::(l.eraseIdx k).map f=f a::(l.map f).eraseIdx k
  rw[map_erase f l k]
end L3
namespace L3
open PySem PySem.Spec PyProof.Rows L2
/-- a list's values are tuples of the ties -/
def TieL (H:Hp) (ys:List V) (ts:List Tie):Prop:=Paired (fun (y:V) (t:Tie)=>∃ a,y=.ref a∧H a=some (.tup ((tieI t).map V.int))) ys ts
theorem TieL.keep {H H':Hp} {ys:List V} {ts:List Tie} (h:TieL H ys ts) (k:∀ a xs,H a=some (.tup xs)->H' a=some (.tup xs)):TieL H' ys ts :=
 Paired.mapP h fun y t ⟨a,e1,e2⟩=>⟨a,e1,k _ _ e2⟩
theorem TieL.snoc {H:Hp} {ys:List V} {ts:List Tie} {a:Addr} {t:Tie} (h:TieL H ys ts) (e:H a=some (.tup ((tieI t).map V.int))):TieL H (ys++[.ref a]) (ts++[t]):=Paired.snoc h ⟨a,rfl,e⟩
theorem paired_map {α β γ:Type} {F:β->γ->Prop} (f:α->β) (g:α->γ):∀ {l:List α},(∀ x ∈ l,F (f x) (g x))->Paired F (l.map f) (l.map g)
 | [],_=>.nil
 | x::l,h=>.cons (h x List.mem_cons_self) (paired_map f g fun y hy=>h y (List.mem_cons_of_mem _ hy))
theorem paired_zip {α β γ:Type} {F:α->β->Prop} {f:β->γ}:∀ {l:List α} {r:List β},Paired F l r->∀ q ∈ l.zip (r.map f),∃ b,q.2=f b∧F q.1 b
 | _,_,.nil,q,h=>by cases h
 | _,_,.cons (a:=a) (b:=b) x t,q,h=>by
  rw[List.map_cons,List.zip_cons_cons] at h
  rcases List.mem_cons.mp h with e | h
  ·subst e;exact⟨b,rfl,x⟩
  ·exact paired_zip t q h
theorem paired_keys {F:V->Tie->Prop} {G:V->List Int->Prop} (h:∀ y t,F y t->G y (tieI t)):∀ {ys:List V} {ts:List Tie},Paired F ys ts->Paired G ys (ts.map tieI)
 | _,_,.nil=>.nil
 | _,_,.cons x t=>.cons (h _ _ x) (paired_keys h t)
def tieOf:List Int->Tie
 | [a,b,c]=>(a,b,c)
 | _=>(0,0,0)
theorem tieOf_I (t:Tie):tieOf (tieI t)=t:=rfl
theorem tie_out {H:Hp} {ys:List V} {ts:List Tie} (h:TieL H ys ts) {qs:List (V × List Int)} (p:qs.Perm (ys.zip (ts.map tieI))) (w:qs.Pairwise fun a b=>Srt.lexI b.2 a.2=false) :
  ∃ ts':List Tie,ts'.Perm ts∧TieL H (qs.map (·.1)) ts'∧ts'.Pairwise fun a b=>Srt.lexI (tieI b) (tieI a)=false:=by
 have mem:∀ q ∈ qs,∃ t,q.2=tieI t∧∃ a,q.1=.ref a∧H a=some (.tup ((tieI t).map V.int)):=fun q hq=>paired_zip h q (p.mem_iff.mp hq)
 have back:∀ q ∈ qs,tieI (tieOf q.2)=q.2:=fun q hq=>by
  obtain⟨t,e,_⟩:=mem q hq
  rw[e];rfl
 refine⟨qs.map fun q=>tieOf q.2,?_,paired_map _ _ fun q hq=>?_,?_⟩
 ·have e1:(qs.map fun q=>tieOf q.2).Perm ((ys.zip (ts.map tieI)).map fun q=>tieOf q.2):=p.map _
  have e2:(ys.zip (ts.map tieI)).map (fun q=>tieOf q.2)=ts:=by
   have l:ys.length=(ts.map tieI).length:=by rw[List.length_map];exact Paired.length h
   have:(ys.zip (ts.map tieI)).map (fun q=>tieOf q.2)=((ys.zip (ts.map tieI)).map (·.2)).map tieOf:=by rw[List.map_map];rfl
   rw[this,List.map_snd_zip (Nat.le_of_eq l.symm),List.map_map]
   exact (List.map_congr_left fun t _=>tieOf_I t).trans (List.map_id _)
  rw[e2] at e1
  exact e1
 ·obtain⟨t,e,a,ea,eh⟩:=mem q hq
  refine⟨a,ea,?_⟩
  rw[back q hq,e];exact eh
 ·rw[List.pairwise_map]
  refine w.imp_of_mem fun {a b} ha hb z=>?_
  rw[back a ha,back b hb];exact z
theorem TieL.is {K:PySem.W.Frag} {H:Hp}:∀ {ys:List V} {ts:List Tie},TieL H ys ts->IsAll K H (ts.map tieD) ys
 | _,_,.nil=>rfl
 | _,_,.cons (a:=y) (b:=t) ⟨a,e1,e2⟩ r=>⟨_,_,rfl,⟨a,_,e1,e2,IsAll.ints _⟩,TieL.is r⟩
theorem two_sorted {x y:Int} {ms:List Int} (p:ms.Perm [x,y]) (w:ms.Pairwise (·≤·)):∃ a b,ms=[a,b]∧a≤b∧((a=x∧b=y)∨(a=y∧b=x)):=by
 have hl:=p.length_eq
 match ms,hl,p,w with
 | [a,b],_,p,w =>
  refine⟨a,b,rfl,by simpa using w,?_⟩
  have ha:a ∈ [x,y]:=p.mem_iff.mp (by simp)
  rcases List.mem_cons.mp ha with e | e
  ·subst e
   have:=(List.perm_cons a).mp p
   have e2:b=y:=by simpa using List.perm_singleton.mp this
   exact .inl ⟨rfl,e2⟩
  ·have e':a=y:=by simpa using e
   subst e'
   have p2:[a,b].Perm [a,x]:=p.trans (List.Perm.swap a x [])
   have:=(List.perm_cons a).mp p2
   have e2:b=x:=by simpa using List.perm_singleton.mp this
   exact .inr ⟨rfl,e2⟩
end L3
namespace L3
open PySem PySem.Spec PyProof.Rows L2
def TupKeep (H H':Hp):Prop:=∀ a xs,H a=some (.tup xs)->H' a=some (.tup xs)
section
variable {J:It} {g:TG} {te:TE} {own:List Str} {js:List Nat} {σ:L2.St} {H1:Hp} {Q:VK}
/-- no test, nothing that stands is changed: item i is worth R i -/
theorem comp_map (n:Nat) (Sg:L2.St->Prop) (R:Nat->V->Hp->Prop) (hn:n≤1000) (h0:Sg (start3 own js σ)) (mono:∀ i v H H',TupKeep H H'->R i v H->R i v H')
  (go:∀ i H',i < n->Same H1 H'->J.go i H') (stop:∀ H',Same H1 H'->J.stop n H')
  (step:∀ i x σ' H' H2,i < n->Same H1 H'->J.yld i H' x H2->Sg σ'->∀ C:L2.St->V->Hp->Prop,(∀ σ3 v H5,Sg σ3->Same H' H5->R i v H5->C σ3 v H5)->g x σ' H2 fun σ3 H3=>te σ3 H3 fun v H5=>C σ3 v H5)
  (fin:∀ D ys H',H1 D=none->Same H1 H'->H' D=some (.lst ys)->ys.length=n->(∀ i v,ys[i]?=some v->R i v H')->Q (.ref D) H'):CompGo own js g tTrue te σ Q J H1:=by
 intro D hD
 refine⟨fun i m ys σ' H'=>m=n - i∧i≤n∧Sg σ'∧Same H1 H'∧ys.length=i∧∀ j v,ys[j]?=some v->R j v H',⟨n,rfl,Nat.zero_le _,h0,same_new hD,rfl,fun j v e=>by simp at e⟩,?_⟩
 rintro i m ys σ' H' ⟨rfl,hi,sg,sm,hl,hr⟩ hd
 by_cases hlt:i < n
 ·refine .inr ⟨go i H' hlt sm,fun x H2 hy=>?_⟩
  refine step i x σ' H' H2 hlt sm hy sg (fun σ3 v H5=>H5 D=some (.lst ys)∧ys.length < sizeLine∧∃ m',m' < n - i∧(m'=n - (i + 1)∧i + 1≤n∧Sg σ3∧Same H1 (upd H5 D (.lst (ys++[v])))∧(ys++[v]).length=i + 1∧∀ j u,(ys++[v])[j]?=some u->R j u (upd H5 D (.lst (ys++[v]))))) fun σ3 v H5 sg3 s5 r5=>?_
  have hd5:=s5 _ _ hd
  refine⟨hd5,Nat.lt_of_le_of_lt (by omega:ys.length≤1000) (by decide),n - (i + 1),by omega,rfl,hlt,sg3,fun b o e=>?_,by rw[List.length_append,List.length_singleton,hl],fun j u e=>?_⟩
  ·rw[upd_ne (ne_of_none e hD)];exact s5 _ _ (sm _ _ e)
  ·have tk5:TupKeep H5 (upd H5 D (.lst (ys++[v]))):=fun a xs e=>by rw[upd_ne (fun z=>by rw[z,hd5] at e;cases e)];exact e
   by_cases hj:j < ys.length
   ·rw[List.getElem?_append_left hj] at e
    exact mono _ _ _ _ tk5 (mono _ _ _ _ (fun a xs z=>s5 _ _ z) (hr j u e))
   ·rw[List.getElem?_append_right (by omega)] at e
    have ej:j=ys.length:=by
     have:=(List.getElem?_eq_some_iff.mp e).1
     simp at this;omega
    subst ej
    have eu:v=u:=by simpa using e
    subst eu
    rw[hl]
    exact mono _ _ _ _ tk5 r5
 ·have e:i=n:=by omega
  subst e
  exact .inl ⟨stop H' sm,fin D ys H' hD sm hd hl hr⟩
theorem comp_tup {K:PySem.W.Frag} {a:Addr} {xs:List V} (hx:H1 a=some (.tup xs)) (Sg:L2.St->Prop) (R:Nat->V->Hp->Prop) (hn:xs.length≤1000) (h0:Sg (start3 own js σ)) (mono:∀ i v H H',TupKeep H H'->R i v H->R i v H')
  (step:∀ i x σ' H',xs[i]?=some x->Same H1 H'->Sg σ'->∀ C:L2.St->V->Hp->Prop,(∀ σ3 v H5,Sg σ3->Same H' H5->R i v H5->C σ3 v H5)->g x σ' H' fun σ3 H3=>te σ3 H3 fun v H5=>C σ3 v H5)
  (fin:∀ D ys H',H1 D=none->Same H1 H'->H' D=some (.lst ys)->ys.length=xs.length->(∀ i v,ys[i]?=some v->R i v H')->Q (.ref D) H'):CompGo own js g tTrue te σ Q (Itt K a) H1:=by
 refine comp_map xs.length Sg R hn h0 mono (fun i H' hi s=>⟨xs,xs[i],SqT.of (s _ _ hx),by simp [hi]⟩) (fun H' s=>⟨xs,SqT.of (s _ _ hx),Nat.le_refl _⟩) (fun i x σ' H' H2 hi s hy sg C hC=>?_) fin
 obtain⟨rfl,hy⟩:=hy
 exact step i x σ' _ (hy xs (SqT.of (s _ _ hx))) s sg C hC
theorem comp_lst {K:PySem.W.Frag} {a:Addr} {xs:List V} (hx:H1 a=some (.lst xs)) (Sg:L2.St->Prop) (R:Nat->V->Hp->Prop) (hn:xs.length≤1000) (h0:Sg (start3 own js σ)) (mono:∀ i v H H',TupKeep H H'->R i v H->R i v H')
  (step:∀ i x σ' H',xs[i]?=some x->Same H1 H'->Sg σ'->∀ C:L2.St->V->Hp->Prop,(∀ σ3 v H5,Sg σ3->Same H' H5->R i v H5->C σ3 v H5)->g x σ' H' fun σ3 H3=>te σ3 H3 fun v H5=>C σ3 v H5)
  (fin:∀ D ys H',H1 D=none->Same H1 H'->H' D=some (.lst ys)->ys.length=xs.length->(∀ i v,ys[i]?=some v->R i v H')->Q (.ref D) H'):CompGo own js g tTrue te σ Q (Itl K a) H1:=by
 refine comp_map xs.length Sg R hn h0 mono (fun i H' hi s=>⟨xs,xs[i],SqL.of (s _ _ hx),by simp [hi]⟩) (fun H' s=>⟨xs,SqL.of (s _ _ hx),Nat.le_refl _⟩) (fun i x σ' H' H2 hi s hy sg C hC=>?_) fin
 obtain⟨rfl,hy⟩:=hy
 exact step i x σ' _ (hy xs (SqL.of (s _ _ hx))) s sg C hC
theorem SqX.of {t:Bool} {K:PySem.W.Frag} {H:Hp} {a:Addr} {xs:List V} (h:H a=some (if t=true then .tup xs else .lst xs)):SqX t K H a xs:=by
 cases t with
 | true=>exact SqT.of h
 | false=>exact SqL.of h
theorem comp_zip {t1 t2:Bool} {K:PySem.W.Frag} {a b:Addr} {xs zs:List V} (hx:H1 a=some (if t1=true then .tup xs else .lst xs)) (hz:H1 b=some (if t2=true then .tup zs else .lst zs)) (Sg:L2.St->Prop) (R:Nat->V->Hp->Prop) (hn:xs.length≤1000)
  (h0:Sg (start3 own js σ)) (mono:∀ i v H H',TupKeep H H'->R i v H->R i v H')
  (step:∀ i x z T σ' H',xs[i]?=some x->zs[i]?=some z->Same H1 H'->H' T=none->Sg σ'->∀ C:L2.St->V->Hp->Prop,(∀ σ3 v H5,Sg σ3->Same H' H5->R i v H5->C σ3 v H5)->g (.ref T) σ' (upd H' T (.tup [x,z])) fun σ3 H3=>te σ3 H3 fun v H5=>C σ3 v H5)
  (fin:∀ D ys H',H1 D=none->Same H1 H'->H' D=some (.lst ys)->ys.length=min xs.length zs.length->(∀ i v,ys[i]?=some v->R i v H')->Q (.ref D) H'):CompGo own js g tTrue te σ Q (Itz t1 t2 K a b) H1:=by
 have s1:∀ H',Same H1 H'->SqX t1 K H' a xs:=fun H' s=>SqX.of (s _ _ hx)
 have s2:∀ H',Same H1 H'->SqX t2 K H' b zs:=fun H' s=>SqX.of (s _ _ hz)
 refine comp_map (min xs.length zs.length) Sg R (by omega) h0 mono (fun i H' hi s=>⟨xs,zs,xs[i]'(by omega),zs[i]'(by omega),s1 H' s,s2 H' s,by simp [show i < xs.length by omega],by simp [show i < zs.length by omega]⟩)
  (fun H' s=>⟨xs,zs,s1 H' s,s2 H' s,by omega⟩) (fun i x σ' H' H2 hi s hy sg C hC=>?_) fin
 obtain⟨T,x1,z1,hT,rfl,rfl,e1,e2⟩:=hy
 exact step i x1 z1 T σ' H' (e1 _ (s1 H' s)) (e2 _ (s2 H' s)) s hT sg C hC
end
theorem bools_of {f:Nat->Bool} {n:Nat} {ys:List V} (hl:ys.length=n) (h:∀ (i:Nat) (v:V),ys[i]?=some v->v=V.bl (f i)):ys=((List.range n).map f).map V.bl:=by
 refine List.ext_getElem? fun i=>?_
 by_cases hi:i < n
 ·obtain⟨v,hv⟩:∃ v,ys[i]?=some v:=⟨ys[i],List.getElem?_eq_getElem (by omega)⟩
  rw[hv,h i v hv]
  simp [hi]
 ·rw[List.getElem?_eq_none (by omega),List.getElem?_eq_none (by simp;omega)]
def tyD:PyData->String
 | .none=>"NoneType"
 | .bool _=>"bool"
 | .int _=>"int"
 | .str _=>"str"
 | .tuple _=>"tuple"
 | .list _=>"list"
 | .dict _=>"dict"
theorem ty_of {K:PySem.W.Frag} {H:Hp}:∀ {d:PyData} {v:V},Is K H d v->TyOf K H v (.type (tyD d))
 | .none,_,h=>by rw[show _=V.non from h];exact .non
 | .bool b,_,h=>by rw[show _=V.bl b from h];exact .bl b
 | .int i,_,h=>by rw[show _=V.int i from h];exact .int i
 | .str x,_,h=>by rw[show _=V.str x from h];exact .str x
 | .tuple _,_,⟨p,vs,e,h,_⟩=>by rw[e];exact .tup h
 | .list _,_,⟨p,vs,e,h,_⟩=>by rw[e];exact .lst h
 | .dict _,_,⟨_,p,e,h⟩=>by rw[e];exact .dK h
def wholeB:PyData->Bool
 | .int _=>true
 | _=>false
def tieB (n:Int):PyData->Bool
 | .tuple [.int a,.int b,.int l]=>decide (0≤a) && decide (a < b) && decide (b < n) && decide (1≤l) && decide (l≤10 ^ 18)
 | _=>false
/-- how many things a tuple or a list has, at most -/
def few:PyData->Prop
 | .tuple ds=>ds.length≤1000
 | .list ds=>ds.length≤1000
 | _=>True
def spD1 (K:PySem.W.Frag) (pre:PyData->Prop) (f:PyData->Bool):Sp:=fun vs H Q _=>∃ d v,vs=[v]∧Is K H d v∧pre d∧∀ H',Same H H'->Q (.bl (f d)) H'
end L3
namespace L3
open PySem PySem.Spec PyProof.Rows L2
section
variable {g:TG} {te:TE} {own:List Str} {js:List Nat} {σ:L2.St} {H1:Hp} {Q:VK}
end
def e2 (e:Int × Int):List Int:=[e.1,e.2]
def risingB (es:List (Int × Int)):Bool:=((List.range (min es.length (es.drop 1).length)).map fun i=>HT.lexLt (e2 (es.getD i (0,0))) (e2 ((es.drop 1).getD i (0,0)))).all id
def TwoL (H:Hp) (ys:List V) (es:List (Int × Int)):Prop:=Paired (fun (y:V) (e:Int × Int)=>∃ a,y=.ref a∧H a=some (.tup [.int e.1,.int e.2])) ys es
section
variable {g:TG} {te:TE} {own:List Str} {js:List Nat} {σ:L2.St} {H1:Hp} {Q:VK}
end
section
variable {X:Cx} {own fr:List Str} {scope:Scope} {fp:List Addr} {pins:List (Addr × Obj)} {s3:Shared} {H3:Hp} {pos:Pos}
theorem pg_tupC {es:List Expr} {k:Nat} {t:TGs} {n:Nat} (hc:X.calm=true) (h:PGs (cxComp X own fr scope fp pins s3 H3) es t)
  (hn:(assignEach es (cxComp X own fr scope fp pins s3 H3).env).length=n:=by rfl) (hst:(assignEach es (cxComp X own fr scope fp pins s3 H3).env).findIdx? (·.1)=none:=by rfl):PG (cxComp X own fr scope fp pins s3 H3) (.Tuple es k pos) (gTup X.K n t) :=
 pg_tup (X:=cxComp X own fr scope fp pins s3 H3) hc h hn hst
theorem ix_listC:IxR (cxComp X own fr scope fp pins s3 H3) (rIxL X.K):=ix_list (X:=cxComp X own fr scope fp pins s3 H3)
theorem ix_tupC:IxR (cxComp X own fr scope fp pins s3 H3) (rIxT X.K):=ix_tup (X:=cxComp X own fr scope fp pins s3 H3)
theorem op_in_seqC:OpR (cxComp X own fr scope fp pins s3 H3) (compareOp .In) (rIn X.K false):=op_in_seq (X:=cxComp X own fr scope fp pins s3 H3)
theorem op_notIn_seqC:OpR (cxComp X own fr scope fp pins s3 H3) (compareOp .NotIn) (rIn X.K true):=op_notIn_seq (X:=cxComp X own fr scope fp pins s3 H3)
end
end L3
namespace L3
open PySem PySem.Spec PyProof.Rows L2
def KeepOk (m:Nat) (ks:List Nat):Prop:=ks.Pairwise (· < ·)∧∀ k ∈ ks,k < m
def keepI (ks:List Nat):List Int:=ks.map fun k:Nat=>(k:Int)
def keepD (ks:List Nat):PyData:=.tuple ((keepI ks).map .int)
theorem KeepOk.len {m:Nat} {ks:List Nat} (h:KeepOk m ks):ks.length≤m:=by
 have go:∀ (ks:List Nat) (lo m:Nat),ks.Pairwise (· < ·)->(∀ k ∈ ks,lo≤k∧k < m)->ks.length + lo≤max m lo:=by
  intro ks
  induction ks with
  | nil=>intro lo m _ _;simp;omega
  | cons k r ih =>
   intro lo m hp hb
   have h1:=hb k List.mem_cons_self
   have:=ih (k + 1) m (List.pairwise_cons.mp hp).2 fun j hj=>⟨(List.pairwise_cons.mp hp).1 j hj,(hb j (List.mem_cons_of_mem _ hj)).2⟩
   rw[List.length_cons]
   omega
 have:=go ks 0 m h.1 fun k hk=>⟨Nat.zero_le _,h.2 k hk⟩
 omega
def spKeep (K:PySem.W.Frag):Sp:=fun vs H Q _=>∃ (p:Addr) (n:Int) (ts:List Tie) (v:V),vs=[.ref p,v]∧Pot H p∧Is K H (webD n ts) v∧ts.length≤60∧∀ v' H' ks,But p H H'->Pot H' p->KeepOk ts.length ks->Is K H' (keepD ks) v'->Q v' H'
theorem web_parts {K:PySem.W.Frag} {H:Hp} {n:Int} {ts:List Tie} {v:V} (h:Is K H (webD n ts) v):∃ (p g:Addr) (ws:List V),v=.ref p∧H p=some (.tup [.int n,.ref g])∧H g=some (.tup ws)∧IsAll K H (ts.map tieD) ws∧ws.length=ts.length:=by
 obtain⟨p,vs,rfl,hp,v1,r1,rfl,e1,v2,r2,rfl,⟨g,ws,rfl,hg,hall⟩,e3⟩:=h
 have e1':v1=.int n:=e1
 have e3':r2=[]:=e3
 subst e1' e3'
 exact⟨p,g,ws,rfl,hp,hg,hall,by have:=hall.length;rw[List.length_map] at this;exact this⟩
end L3
namespace Z3
open PySem
section
variable {prog:Program} {w:World} {A:Around} {E:Value->Shared->Prop} {s:Shared}
theorem enum_new (t:Bool) (l:Addr) (xs:Array Value) :
  Meets (Builtin.«enumerate.__new__» ⟨[.type "enumerate",.ref l],[]⟩) (fun _ R s=>SqAt t s.heap l xs ∧
   R (.ok (.ret (.ref (s.heap.push (itObj t l)).objs.size))) { s with heap:=(s.heap.push (itObj t l)).push { cls:=.type "enumerate",data:=.fields #[.none,.bool false,.ref s.heap.objs.size,rawInt 0,.none,.none] } }) :=
 .of_wp fun prog w A R s h=>by
  obtain⟨hp,g,d,tk,os⟩:=s;obtain⟨hl,h⟩:=h
  have hsub:=sub_enumerate
  have b1:SqAt t (Shared.heap ⟨hp,g,d,tk,os⟩) l xs:=hl
  obtain⟨o,ho⟩:∃ o,hp.get? l=some o:=by
   cases t with
   | true=>obtain⟨o,q,_⟩:=(show hp.IsTuple l xs from hl);exact⟨o,q⟩
   | false=>obtain⟨o,q,_⟩:=(show hp.IsList l xs from hl);exact⟨o,q⟩
  wp_walk using AutoSeq1.wpAny_loadPart' ho
  refine wpAny_stack_any fun st=>?_
  refine wpAny_pure ?_
  split
  ·rename_i c _ _ _ _ _
   rcases (c == Value.type "enumerate") with _ | _
   ·wp_walk using AutoSeq1.wpAny_loadPart' ho,iter_at b1
    exact⟨_,rfl,h⟩
   ·wp_walk using AutoSeq1.wpAny_loadPart' ho,iter_at b1
    exact⟨_,rfl,h⟩
  ·wp_walk using AutoSeq1.wpAny_loadPart' ho,iter_at b1
   exact⟨_,rfl,h⟩
theorem call_enum {t:Bool} {l:Addr} {xs:Array Value} {Q:Value->Shared->Prop} (hl:SqAt t s.heap l xs)
  (h:∀ h',IsEnum h' (s.heap.objs.size + 1) s.heap.objs.size ((0:Nat):Int) .none->ItAt t h' s.heap.objs.size l 0->h'.objs.size=s.heap.objs.size + 2->(∀ b o,s.heap.get? b=some o->h'.get? b=some o)->Q (.ref (s.heap.objs.size + 1)) { s with heap:=h' }) :
  wpAny (model prog w) A (call (.type "enumerate") [.ref l]) Q E s:=by
 refine callType_new F.called_enumerate (by decide) (F.typeCall_enumerate_1 _) (F.newCall_enumerate_1 _) (fun obj=>F.args_object_init_2 obj _) F.entry_enumerate_new (enum_new t l xs) ⟨hl,?_⟩
 have z1:(s.heap.push (itObj t l)).objs.size=s.heap.objs.size + 1:=Heap.size_push ..
 have g1:ItAt t ((s.heap.push (itObj t l)).push { cls:=.type "enumerate",data:=.fields #[.none,.bool false,.ref s.heap.objs.size,rawInt 0,.none,.none] }) s.heap.objs.size l 0:=(ItAt.new (t:=t) (h:=s.heap) (l:=l)).to fun o e=>Heap.get?_push_of_some _ e
 have g2:((s.heap.push (itObj t l)).push { cls:=.type "enumerate",data:=.fields #[.none,.bool false,.ref s.heap.objs.size,rawInt 0,.none,.none] }).get? (s.heap.push (itObj t l)).objs.size=some _:=Heap.get?_push_size _ rfl
 show _∧_
 rw[z1] at g2 ⊢
 exact⟨⟨_,g2,rfl⟩,h _ g2 g1 (by rw[Heap.size_push,z1]) fun b o q=>Heap.get?_push_of_some _ (Heap.get?_push_of_some _ q)⟩
theorem enum_more {t:Bool} {e it l:Addr} {i:Nat} {xs:Array Value} {x old:Value} {Q:Value->Shared->Prop} (he:IsEnum s.heap e it i old) (hi:ItAt t s.heap it l i) (hl:SqAt t s.heap l xs) (hx:xs[i]?=some x) (ne:e≠it)
  (hQ:∀ h',IsEnumOut h' e it ((i:Int) + 1) x s.heap.objs.size->ItAt t h' it l (i + 1)->h'.get? s.heap.objs.size=some { cls:=.type "tuple",data:=.seq #[.int i s.toks,x] }->h'.objs.size=s.heap.objs.size + 1 ->
   (∀ b o,b≠e->b≠it->s.heap.get? b=some o->h'.get? b=some o)->Q (.ref s.heap.objs.size) { s with heap:=h',toks:=s.toks + 1 }) :
  wpAny (model prog w) A (Builtin.«enumerate.__next__» ⟨[.ref e],[]⟩) (fun fin s'=>∃ v,fin=.done (.ret v)∧Q v s') E s:=by
 obtain⟨hp,g,d,tk,os⟩:=s
 show wpAny _ _ (field (.ref e) 2 >>= _) _ _ _
 refine wpAny_bind (wpAny_field he rfl (x:=.ref it) rfl (wpAny_bind (draw_at hi hl hx fun k1 i1 s1=>?_)))
 replace s1:Heap.SameBut it hp k1:=s1
 have q1:IsEnum k1 e it i old:=(s1.2 e ne).trans he
 show wpAny _ _ (field (.ref e) 3 >>= _) _ _ ⟨k1,g,d,tk,os⟩
 refine wpAny_bind (wpAny_field q1 rfl (x:=rawInt i) rfl ?_)
 show wpAny _ _ (field (.ref e) 4 >>= _) _ _ ⟨k1,g,d,tk,os⟩
 refine wpAny_bind (wpAny_field q1 rfl (x:=.none) rfl ?_)
 show wpAny _ _ (mkInt i >>= _) _ _ ⟨k1,g,d,tk,os⟩
 refine wpAny_bind (wpAny_mkInt ?_)
 show wpAny _ _ (setField (.ref e) 3 (rawInt ((i:Int) + 1)) >>= _) _ _ ⟨k1,g,d,tk + 1,os⟩
 refine wpAny_bind (wpAny_setField_rec q1 (by simp) fun k2 q2 s2=>?_)
 replace s2:Heap.SameBut e k1 k2:=s2
 replace q2:IsEnum k2 e it ((i:Int) + 1) old:=q2
 show wpAny _ _ (setField (.ref e) 4 .none >>= _) _ _ ⟨k2,g,d,tk + 1,os⟩
 refine wpAny_bind (wpAny_setField_rec q2 (by simp) fun k3 q3 s3=>?_)
 replace s3:Heap.SameBut e k2 k3:=s3
 replace q3:IsEnum k3 e it ((i:Int) + 1) old:=q3
 show wpAny _ _ (newTuple [.int i tk,x] >>= _) _ _ ⟨k3,g,d,tk + 1,os⟩
 refine wpAny_bind (wpAny_newTuple ?_)
 have q4:IsEnum (k3.push { cls:=.type "tuple",data:=.seq #[.int i tk,x] }) e it ((i:Int) + 1) old:=Heap.get?_push_of_some _ q3
 generalize hk4:k3.push { cls:=.type "tuple",data:=.seq #[.int i tk,x] }=k4 at q4
 have sz:k3.objs.size=hp.objs.size:=by rw[s3.1,s2.1,s1.1]
 have lt:e < hp.objs.size:=Heap.lt_size he
 have t4:k4.get? hp.objs.size=some { cls:=.type "tuple",data:=.seq #[.int i tk,x] }:=by rw[← hk4,← sz];exact Heap.get?_push_size _ rfl
 have z4:k4.objs.size=hp.objs.size + 1:=by rw[← hk4,Heap.size_push,sz]
 have up4:∀ b o,b≠e->b≠it->hp.get? b=some o->k4.get? b=some o:=fun b o n1 n2 q=>by
  rw[← hk4];exact Heap.get?_push_of_some _ (s3.extBut b o n1 (s2.extBut b o n1 (s1.extBut b o n2 q)))
 have i4:ItAt t k4 it l (i + 1):=i1.to fun o q=>by
  rw[← hk4];exact Heap.get?_push_of_some _ (s3.extBut _ _ ne.symm (s2.extBut _ _ ne.symm q))
 show wpAny _ _ (Builtin.SmallTypes.ownedTupleIsFree (.ref e) >>= _) _ _ ⟨k4,g,d,tk + 1,os⟩
 rw[sz]
 clear hk4 q3 s3 q2 s2 q1 s1 i1 sz k3 k2 k1
 refine wpAny_bind ?_
 unfold Builtin.SmallTypes.ownedTupleIsFree
 refine wpAny_bind (wpAny_field q4 rfl (x:=.none) rfl (wpAny_pure ?_))
 simp only [if_true]
 refine wpAny_bind (wpAny_rule (wpAny_bind (wpAny_field q4 rfl (x:=old) rfl (wpAny_bind (wpAny_setField_rec q4 (by simp) fun k5 q5 s5=>?_)))))
 replace s5:Heap.SameBut e k4 k5:=s5
 replace q5:IsEnum k5 e it ((i:Int) + 1) x:=q5
 show wpAny _ _ (Builtin.SmallTypes.ownedTupleHandOut (.ref e) (.ref hp.objs.size) >>= _) _ _ ⟨k5,g,d,tk + 1,os⟩
 refine wpAny_bind ?_
 unfold Builtin.SmallTypes.ownedTupleHandOut
 refine wpAny_bind (wpAny_setField_rec q5 (by simp) fun k6 q6 s6=>?_)
 replace s6:Heap.SameBut e k5 k6:=s6
 replace q6:IsEnumOut k6 e it ((i:Int) + 1) x hp.objs.size:=q6
 refine wpAny_setField_rec q6 (by simp) fun k7 q7 s7=>?_
 replace s7:Heap.SameBut e k6 k7:=s7
 replace q7:IsEnumOut k7 e it ((i:Int) + 1) x hp.objs.size:=q7
 have up:∀ b o,b≠e->k4.get? b=some o->k7.get? b=some o:=fun b o n q=>s7.extBut b o n (s6.extBut b o n (s5.extBut b o n q))
 exact wpAny_bind (wpAny_letGo (wpAny_pure ⟨_,rfl,hQ k7 q7 (i4.to fun o q=>up _ o ne.symm q) (up _ _ (Nat.ne_of_gt lt) t4) (by rw[s7.1,s6.1,s5.1,z4]) fun b o n1 n2 q=>up b o n1 (up4 b o n1 n2 q)⟩))
theorem enum_next_more {t:Bool} {e it l:Addr} {i:Nat} {xs:Array Value} {x old:Value} {Q:Option Value->Shared->Prop} (he:IsEnum s.heap e it i old) (hi:ItAt t s.heap it l i) (hl:SqAt t s.heap l xs) (hx:xs[i]?=some x) (ne:e≠it)
  (hQ:∀ h',IsEnumOut h' e it ((i:Int) + 1) x s.heap.objs.size->ItAt t h' it l (i + 1)->h'.get? s.heap.objs.size=some { cls:=.type "tuple",data:=.seq #[.int i s.toks,x] }->h'.objs.size=s.heap.objs.size + 1 ->
   (∀ b o,b≠e->b≠it->s.heap.get? b=some o->h'.get? b=some o)->Q (some (.ref s.heap.objs.size)) { s with heap:=h',toks:=s.toks + 1 }) :
  wpAny (model prog w) A (pyNext (.ref e)) Q E s:=by
 have ty:s.TypeIs (.ref e) "enumerate":=⟨_,he,rfl⟩
 unfold pyNext
 exact wpAny_bind (wpAny_attempt (wpAny_callSpecial?_slot (name := Str.ofString "__next__") ty F.slot_enumerate_next (wpAny_call_entry F.slot_enumerate_next ty F.entry_enumerate_next
     (enum_more he hi hl hx ne fun h' a b c d k=>wpAny_pure (hQ h' a b c d k)) (F.args_enumerate_next_1 _))))
theorem enum_next_stop {t:Bool} {e it l:Addr} {i:Nat} {xs:Array Value} {old:Value} {Q:Option Value->Shared->Prop} (hh:A.handled=none) (he:IsEnum s.heap e it i old) (hi:ItAt t s.heap it l i) (hl:SqAt t s.heap l xs) (hx:xs[i]?=none)
  (hQ:∀ h',Heap.ExtBut it s.heap h'->Q none { s with heap:=h' }):wpAny (model prog w) A (pyNext (.ref e)) Q E s:=by
 have ty:s.TypeIs (.ref e) "enumerate":=⟨_,he,rfl⟩
 unfold pyNext
 refine wpAny_bind (wpAny_attempt (wpAny_callSpecial?_slot (name:=Str.ofString "__next__") ty F.slot_enumerate_next (wpAny_call_entry F.slot_enumerate_next ty F.entry_enumerate_next ?_ (F.args_enumerate_next_1 _))))
 show wpAny _ _ (field (.ref e) 2 >>= _) _ _ _
 refine wpAny_bind (wpAny_field he rfl (x:=.ref it) rfl (wpAny_bind (stop_at hh hi hl hx fun h' x k ⟨o,p1,p2⟩=>?_)))
 exact wpAny_bind (wpAny_isInstance (T:="StopIteration") (b:=true) ⟨o,p1,p2⟩ isSubtype_stop (wpAny_pure (hQ _ k)))
end
end Z3
namespace L3
open PySem PySem.Spec PyProof.Rows L2
def Itn (t:Bool) (K:PySem.W.Frag) (l:Addr):It :=
 ⟨fun i H=>∃ xs x,SqX t K H l xs∧xs[i]?=some x,
  fun i H v H'=>∃ T x,H T=none∧v=.ref T∧H'=upd H T (.tup [.int (i:Nat),x])∧(∀ xs,SqX t K H l xs->xs[i]?=some x),
  fun i H=>∃ xs,SqX t K H l xs∧xs.length≤i⟩
theorem turn_enum {P:Program} {w:World} {K:PySem.W.Frag} {elts:List Expr} {kk:Nat} {pos:Pos} {t:Bool} {e it l:Addr} (n1:e≠it) (n2:l≠e) (n3:l≠it) :
  Turn P w K (.Tuple elts kk pos) (Itn t K l) [e,it] e (fun i h=>(∃ old,IsEnum h e it (i:Int) old)∧Z3.ItAt t h it l i) where
 mem:=by simp
 obj:=fun i h st b hb=>by
  obtain⟨⟨old,q1⟩,q2⟩:=st
  obtain⟨o2,m2,e2,_,d2⟩:=q2.obj
  simp only [List.mem_cons,List.not_mem_nil,or_false] at hb
  rcases hb with rfl | rfl
  ·exact⟨_,q1,fun v q=>by cases q⟩
  ·exact⟨_,e2,fun v q=>by rw[d2] at q;cases q⟩
 keep:=fun i h h' st k=>by
  obtain⟨⟨old,q1⟩,q2⟩:=st
  exact⟨⟨old,k e (by simp) _ q1⟩,q2.to fun o z=>k it (by simp) o z⟩
 item:=by
  intro X hP hw hK hc i pins s σ H E I hf st hg
  subst hP hw hK
  obtain⟨xs,x,q1,hx⟩:=hg
  obtain⟨⟨old,en⟩,ia⟩:=st
  obtain⟨its1,r1,p1,z1⟩:=seqX I q1
  obtain⟨u1,hu1,ru1⟩:=r1.get hx
  refine Z3.enum_next_more en ia p1 (x:=u1) (by simpa using hu1) n1 fun h' eo ia' tp sz kp=>?_
  have I1 : Inv X pins σ (upd H s.heap.objs.size (.tup [.int (i : Nat), x])) { s with heap := h', toks := s.toks + 1 } := turnsTup (ch := [e, it]) (its := [.int i s.toks, u1]) I hf (fun b o hb z => by
      simp only [List.mem_cons,List.not_mem_nil,or_false,not_or] at hb
      exact kp b o hb.1 hb.2 z) (Nat.le_refl _) (by show 2≤sizeLine;rw[sizeLine_eq];decide) (.cons ⟨_,rfl⟩ (.cons ru1 .nil)) ⟨_,tp,rfl,⟨_,rfl⟩,rfl⟩
  have fr:H s.heap.objs.size=none:=I.fresh
  have elt:e < s.heap.objs.size:=Heap.lt_size en
  have ilt:it < s.heap.objs.size:=by obtain⟨o2,m2,e2,_⟩:=ia.obj;exact Heap.lt_size e2
  have zne:∀ b ∈ [e,it],b≠s.heap.objs.size:=fun b hb=>by
   simp only [List.mem_cons,List.not_mem_nil,or_false] at hb
   rcases hb with rfl | rfl
   ·exact Nat.ne_of_lt elt
   ·exact Nat.ne_of_lt ilt
  refine⟨_,rfl,wpAny_letOwnedTupleGo_enum eo fun h2 en2 sb=>?_⟩
  obtain⟨f0,f1,f2,f3,f4,f5⟩:=hf e (by simp)
  have I2:Inv X pins σ (upd H s.heap.objs.size (.tup [.int (i:Nat),x])) { s with heap:=h2,toks:=s.toks + 1 }:=Inv.turned (s:={ s with heap:=h',toks:=s.toks + 1 }) (it:=e) (t':=s.toks + 1) I1 (fun b o hb z=>sb.extBut b o hb z) (by rw[upd_ne (zne e (by simp))];exact f0) f1 f3 f4 f5
  refine⟨.ref s.heap.objs.size,_,I2,rfl,⟨_,x,fr,rfl,rfl,fun zs hz=>by rw[seqX_inj I hz q1];exact hx⟩,?_,fun b hb=>by rw[upd_ne (zne b hb)];exact (hf b hb).1⟩
  exact⟨⟨_,by simpa using en2⟩,ia'.to fun o z=>sb.extBut _ _ n1.symm z⟩
 done:=by
  intro X hP hw hK hc i pins s σ H E I hf st hg
  subst hP hw hK
  obtain⟨xs,q1,hx⟩:=hg
  obtain⟨⟨old,en⟩,ia⟩:=st
  obtain⟨its1,r1,p1,z1⟩:=seqX I q1
  have l1:=r1.length
  refine Z3.enum_next_stop (I.ok.hd hc) en ia p1 (by simp;omega) fun h' kp=>⟨rfl,?_⟩
  exact turns (ch:=[e,it]) (t':=s.toks) I hf fun b o hb z=>by
   simp only [List.mem_cons,List.not_mem_nil,or_false,not_or] at hb
   exact kp b o hb.2 z
 self:=fun _ _ _ _ _ st h=>by
  obtain⟨⟨old,en⟩,_⟩:=st
  exact wpAny_pyIter_enum en h
def iEnum (t:Bool) (K:PySem.W.Frag) (ta:TA):TI:=fun σ H R=>ta σ H fun vs H1=>∃ l,vs=[.ref l]∧(∃ xs,SqX t K H1 l xs)∧R (Itn t K l) H1
theorem pi_enum {X:Cx} {elts:List Expr} {kk:Nat} {pos':Pos} (t:Bool) {a:Expr} {ta:TA} {p pos:Pos} (hg:Gl X "enumerate") (hm:X.mg "enumerate"=none) (ha:PA X [a] ta)
  (hs:starEach [a] X.env=[(false,eval a X.env)]:=by rfl) (hs2:starEach [] X.env=[]:=by rfl) :
  PI X (.Tuple elts kk pos') (.Call (.Name "enumerate" p) [a] [] pos) (iEnum t X.K ta):=by
 intro pins s σ H R I h
 refine Call_ (ld_blt I hg hm boot_enumerate (PyProof.Rows.callWith_type1 (thn (ha pos pins s σ H _ I h) fun us s1 ⟨vs,H1,I1,r1,q1⟩=>?_) (by rw[hs,hs2]) (by rw[hs2];rfl)))
 obtain⟨l,e,⟨xs,qx⟩,q⟩:=q1
 subst e
 obtain⟨u,rfl,rx⟩:=vals1 r1
 cases rx
 obtain⟨its1,r1,p1,z1⟩:=seqX I1 qx
 have lt:l < s1.heap.objs.size:=by
  cases t with
  | true=>obtain⟨o,e,_⟩:=(show s1.heap.IsTuple l _ from p1);exact Heap.lt_size e
  | false=>obtain⟨o,e,_⟩:=(show s1.heap.IsList l _ from p1);exact Heap.lt_size e
 refine Z3.call_enum p1 fun h' en ia sz kp=>wpAny_pyIter_enum en ?_
 have I2:Inv X pins σ H1 { s1 with heap:=h',toks:=s1.toks }:=I1.kept (t':=s1.toks) kp
 refine⟨s1.heap.objs.size + 1,[s1.heap.objs.size + 1,s1.heap.objs.size],_,_,H1,rfl,I2,turn_enum (Nat.succ_ne_self _) (Nat.ne_of_lt (Nat.lt_succ_of_lt lt)) (Nat.ne_of_lt lt),⟨⟨_,en⟩,ia⟩,fun b hb=>?_,q⟩
 have hb':s1.heap.objs.size≤b:=by
  simp only [List.mem_cons,List.not_mem_nil,or_false] at hb
  rcases hb with rfl | rfl
  ·exact Nat.le_succ _
  ·exact Nat.le_refl _
 exact I1.fpOk hb' (I1.hok.fresh hb')
end L3
namespace HT
open PySem PyProof.Rows
section
variable {prog:Program} {w:World} {A:Around} {E:Value->Shared->Prop} {s:Shared}
theorem whole_exact {t:Addr} {items:Array Value} {Q:Bool->Shared->Prop} (ht:IsTup s.heap t items) (h:Q true s):wpAny (model prog w) A (Builtin.Tuple.tupleIsExact (.ref t)) Q E s:=by
 unfold Builtin.Tuple.tupleIsExact
 exact wpAny_bind (wpAny_typeOf ht.typeIs (wpAny_pure h))
/-- t[lo:hi] that is all of t: t itself -/
theorem getItem_tuple_whole {t sl:Addr} {items:Array Value} {vl vu:Value} {lo hi:Option Int} {Q:Value->Shared->Prop} (ht:IsTup s.heap t items) (hs:s.heap.IsSliceOf sl vl vu .none) (pl:IsPart vl lo) (pu:IsPart vu hi)
  (hw:sIx items.size 0 lo=0∧sIx items.size items.size hi=items.size) (h:Q (.ref t) s):wpAny (model prog w) A (getItem (.ref t) (.ref sl)) Q E s:=by
 obtain⟨os,hos,hcs,hds⟩:=id hs
 have ty:s.TypeIs (.ref sl) "slice":=⟨os,hos,hcs⟩
 unfold getItem
 try with_reducible refine wpAny_holding ?_
 first | refine wpAny_bind (wpAny_pure ?_) | skip
 refine wpAny_bind (wpAny_sequenceKey ht.typeIs (by decide) (wpAny_bind (wpAny_callSpecial?_slot (name:=Str.ofString "__getitem__") ht.typeIs PyProof.Rows.slot_tuple_getitem
  (wpAny_call_entry PyProof.Rows.slot_tuple_getitem ht.typeIs entry_tuple_getitem ?_ (args_tuple_getitem _ _)))))
 show wpAny _ _ (Builtin.Tuple.tupleItemsOf (.ref t) >>= _) _ _ s
 refine wpAny_bind (tupleItemsOf_ ht (wpAny_bind (wpAny_typeOf ty ?_)))
 rw[if_pos (by decide)]
 refine wpAny_bind (sliceApplied_gen hs pl pu ?_)
 have yes:(((sIx items.size 0 lo:Nat):Int) == 0 && (1:Int) == 1 && (sIx items.size items.size hi - sIx items.size 0 lo) == items.size)=true:=by
  rw[hw.1,hw.2];simp
 show wpAny _ _ (if (((sIx items.size 0 lo:Nat):Int) == 0 && (1:Int) == 1 && (sIx items.size items.size hi - sIx items.size 0 lo) == items.size)=true then _ else _) _ _ s
 rw[if_pos yes]
 refine wpAny_bind (whole_exact ht ?_)
 rw[if_pos rfl]
 exact wpAny_bind (wpAny_rule (wpAny_bind (wpAny_pure (wpAny_pure ⟨_,rfl,wpAny_pure h⟩))))
/-- t[::-1] -/
theorem pick_back (xs:List Value):((List.range xs.length).filterMap fun (m:Nat)=>xs.toArray[((xs.length:Int) - 1 + (m:Int) * (-1)).toNat]?)=xs.reverse:=by
 refine List.ext_getElem? fun i=>?_
 have key:∀ (n:Nat),n≤xs.length->((List.range n).filterMap fun (m:Nat)=>xs.toArray[((xs.length:Int) - 1 + (m:Int) * (-1)).toNat]?)=xs.reverse.take n:=by
  intro n
  induction n with
  | zero=>intro _;simp
  | succ n ih =>
   intro hn
   rw[List.range_succ,List.filterMap_append,ih (by omega),List.take_add_one]
   congr 1
   have e:((xs.length:Int) - 1 + (n:Int) * (-1)).toNat=xs.length - 1 - n:=by omega
   have e2:xs.reverse[n]?=xs[xs.length - 1 - n]?:=List.getElem?_reverse (by omega)
   have h1:xs.length - 1 - n < xs.length:=by omega
   rw[List.filterMap_cons,e,e2]
   simp [h1]
 rw[key _ (Nat.le_refl _),List.take_of_length_le (by simp)]
theorem slice_back {sl:Addr} {t:Tok} {n:Nat} {Q:Int × Int × Nat->Shared->Prop} (hs:s.heap.IsSliceOf sl .none .none (.int (-1) t)) (h:Q ((n:Int) - 1,-1,n) s) :
  wpAny (model prog w) A (Builtin.Slice.sliceApplied (.ref sl) (pure (n:Int))) Q E s:=by
 obtain⟨os,hos,hcs,hds⟩:=id hs
 unfold Builtin.Slice.sliceApplied Builtin.Slice.sliceFields
 refine wpAny_bind (wpAny_bind (wpAny_field hos hds (x:=.none) rfl (wpAny_bind (wpAny_field hos hds (x:=.none) rfl (wpAny_bind (wpAny_field hos hds (x:=.int (-1) t) rfl (wpAny_pure ?_)))))))
 refine wpAny_bind (slicePart_int ?_)
 show wpAny _ _ (if ((-1:Int) == 0)=true then _ else _) _ _ s
 rw[if_neg (by decide)]
 refine wpAny_bind (slicePart_none (wpAny_bind (slicePart_none (wpAny_bind (wpAny_pure ?_)))))
 have e:Builtin.Slice.slicePlaces ((n:Int) - 1) (-1) (-1)=n:=by
  unfold Builtin.Slice.slicePlaces
  rw[if_neg (by decide)]
  split
  ·have:((n:Int) - 1 - -1 - 1) / (- -1) + 1=(n:Int):=by
    rw[show (- -1:Int)=1 by decide,Int.ediv_one];omega
   rw[this];exact Int.toNat_natCast n
  ·have:n=0:=by omega
   subst this;rfl
 show wpAny _ _ (pure ((n:Int) - 1,(-1:Int),Builtin.Slice.slicePlaces ((n:Int) - 1) (-1) (-1))) _ _ s
 rw[e]
 exact wpAny_pure h
theorem getItem_tuple_back {t sl:Addr} {its:List Value} {u:Tok} {Q:Value->Shared->Prop} (ht:IsTup s.heap t its.toArray) (hs:s.heap.IsSliceOf sl .none .none (.int (-1) u))
  (h:Q (.ref s.heap.objs.size) { s with heap:=s.heap.push { cls:=.type "tuple",data:=.seq its.reverse.toArray } }) (hsz:its.length≤sizeLine):wpAny (model prog w) A (getItem (.ref t) (.ref sl)) Q E s:=by
 have fit:sizeOk (.seq its.reverse.toArray):=by
  show its.reverse.toArray.size≤sizeLine
  rw[List.size_toArray,List.length_reverse];exact hsz
 obtain⟨os,hos,hcs,hds⟩:=id hs
 have ty:s.TypeIs (.ref sl) "slice":=⟨os,hos,hcs⟩
 unfold getItem
 try with_reducible refine wpAny_holding ?_
 first | refine wpAny_bind (wpAny_pure ?_) | skip
 refine wpAny_bind (wpAny_sequenceKey ht.typeIs (by decide) (wpAny_bind (wpAny_callSpecial?_slot (name:=Str.ofString "__getitem__") ht.typeIs PyProof.Rows.slot_tuple_getitem
  (wpAny_call_entry PyProof.Rows.slot_tuple_getitem ht.typeIs entry_tuple_getitem ?_ (args_tuple_getitem _ _)))))
 show wpAny _ _ (Builtin.Tuple.tupleItemsOf (.ref t) >>= _) _ _ s
 refine wpAny_bind (tupleItemsOf_ ht (wpAny_bind (wpAny_typeOf ty ?_)))
 rw[if_pos (by decide)]
 have en:its.toArray.size=its.length:=List.size_toArray
 rw[en]
 refine wpAny_bind (slice_back hs ?_)
 show wpAny _ _ (if (((its.length:Int) - 1) == 0 && (-1:Int) == 1 && its.length == its.length)=true then _ else _) _ _ s
 rw[if_neg (by simp),pick_back]
 first
  | exact wpAny_bind (m:=Builtin.Tuple.tupleExact _) (wpAny_newObj_type (wpAny_pure ⟨_,rfl,wpAny_pure h⟩) fit)
  | exact wpAny_bind (m:=Builtin.Tuple.tupleExact _) (wpAny_newObj_type (wpAny_bind (wpAny_pure (wpAny_pure ⟨_,rfl,wpAny_pure h⟩))) fit)
  | exact wpAny_bind (wpAny_bind (m:=Builtin.Tuple.tupleExact _) (wpAny_newObj_type (wpAny_pure (wpAny_pure ⟨_,rfl,wpAny_pure h⟩)) fit))
  | exact wpAny_bind (wpAny_bind (m:=Builtin.Tuple.tupleExact _) (wpAny_newObj_type (wpAny_pure ⟨_,rfl,wpAny_pure h⟩) fit))
/-- () + u -/
theorem cat_nil {t b:Addr} {ws:List Value} {Q:Value->Shared->Prop} (ht:IsTup s.heap t ([]:List Value).toArray) (hb:IsTup s.heap b ws.toArray) (h:Q (.ref b) s):wpAny (model prog w) A (binaryOp .Add (.ref t) (.ref b)) Q E s:=by
 obtain⟨⟨cls,dd,data,sl⟩,ho,hc,n,hd⟩:=id ht
 obtain⟨⟨cls2,dd2,data2,sl2⟩,ho2,hc2,n2,hd2⟩:=id hb
 simp only at hc hd hc2 hd2
 subst hc hd hc2 hd2
 exact concat_meets ⟨_,ho,rfl⟩ ⟨_,ho2,rfl⟩ noFill_tuple_add seq_tuple_add PySem.F.slot_tuple_add PySem.F.entry_tuple_add (PySem.F.args_tuple_add_2 _ _) (tuple_addW0 t b _ ws.toArray n n2 dd dd2 sl sl2 rfl) ⟨ho,ho2,h⟩
end
end HT
namespace L3
open PySem PySem.Spec PyProof.Rows L2
section
variable {X:Cx} {pins:List (Addr × Obj)} {σ:L2.St} {H:Hp} {s:Shared} {e:Expr} {te:TE} {pos p2:Pos}
theorem cutV_all {xs:List V} {lo hi:Option Int} (h:HT.sIx xs.length 0 lo=0∧HT.sIx xs.length xs.length hi=xs.length):cutV xs lo hi=xs:=by
 unfold cutV
 rw[h.1,h.2]
 simp
/-- t[lo:hi], part or whole -/
def rSlA:V->Option Int->Option Int->Hp->VK->Prop:=fun x lo hi H Q=>∃ a xs,x=.ref a∧H a=some (.tup xs)∧∀ p H',Same H H'->H' p=some (.tup (cutV xs lo hi))->Q (.ref p) H'
theorem sl_tupA:SlR X rSlA:=by
 intro pins s σ H x v vl vu lo hi sl Q I rx hs pl pu h
 obtain⟨a,xs,rfl,hx,q⟩:=h
 by_cases c:HT.sIx xs.length 0 lo=0∧HT.sIx xs.length xs.length hi=xs.length
 ·cases rx
  obtain⟨its,r,ht,hz⟩:=I.tuple (SqT.of hx)
  have hlen:its.toArray.size=xs.length:=by rw[List.size_toArray];exact r.length.symm
  refine⟨"tuple",_,PyProof.Rows.slot_tuple_getitem.lookup,ht.typeIs,HT.getItem_tuple_whole ht hs pl pu (by rw[hlen];exact c) ⟨.ref a,H,I,rfl,q _ _ (Same.refl H) (by rw[cutV_all c];exact hx)⟩⟩
 ·exact sl_tup (X:=X) pins s σ H (.ref a) v vl vu lo hi sl Q I rx hs pl pu ⟨a,xs,rfl,SqT.of hx,c,fun p hp=>q p _ (same_new hp) upd_same⟩
/-- t + u -/
def rCatA:R2:=fun x y H Q=>∃ a b xs ys,x=.ref a∧y=.ref b∧H a=some (.tup xs)∧H b=some (.tup ys)∧xs.length + ys.length≤sizeLine∧∀ p H',Same H H'->H' p=some (.tup (xs++ys))->Q (.ref p) H'
theorem op_catA:OpR X (binaryOp .Add) rCatA:=by
 intro pins s σ H x y v u Q I rx ry h
 obtain⟨a,b,xs,ys,rfl,rfl,ha,hb,hz,q⟩:=h
 by_cases c:xs=[]
 ·subst c
  cases rx
  cases ry
  obtain⟨its,r1,p1,_⟩:=I.tuple (SqT.of ha)
  obtain⟨its2,r2,p2,_⟩:=I.tuple (SqT.of hb)
  cases r1
  exact HT.cat_nil p1 p2 ⟨.ref b,H,I,rfl,q _ _ (Same.refl H) hb⟩
 ·refine op_catT (X:=X) pins s σ H _ _ v u Q I rx ry ⟨a,b,xs,ys,rfl,rfl,SqT.of ha,SqT.of hb,c,hz,fun e=>q _ _ (Same.refl H) (by rw[e,List.append_nil];exact ha),fun _ p hp=>q p _ (same_new hp) upd_same⟩
end
end L3
namespace L3
open PySem PySem.Spec PyProof.Rows L2
theorem iteB2 {b:Bool} {A B:Prop} (h1:b=true->B) (h2:b=false->A):if (!b)=true then A else B:=by
 cases b with
 | true=>exact h1 rfl
 | false=>exact h2 rfl
def numB (m:Nat):PyData->Bool
 | .int i=>decide (0≤i) && decide (i < (m:Int))
 | _=>false
def intOf:PyData->Int
 | .int i=>i
 | _=>0
def risI (ns:List Int):Bool:=((List.range (min ns.length (ns.drop 1).length)).map fun i=>decide (ns.getD i 0 < (ns.drop 1).getD i 0)).all id
def keepB (m:Nat):PyData->Bool
 | .tuple ds=>ds.all (numB m) && risI (ds.map intOf)
 | _=>false
structure Pre (m:Nat) (ds:List PyData) (i:Nat) (a:Int):Prop where
 num:∀ d ∈ ds.take i,numB m d=true
 up:((ds.take i).map intOf).Pairwise (· < ·)
 top:∀ x ∈ (ds.take i).map intOf,x≤a
 at_:a=-1∨a ∈ (ds.take i).map intOf
theorem take_next {α:Type} {ds:List α} {i:Nat} {d:α} (e:ds[i]?=some d):ds.take (i + 1)=ds.take i++[d]:=by
 rw[List.take_add_one,e];rfl
def flatD:V->Bool
 | .non | .bl _ | .int _ | .str _=>true
 | _=>false
theorem atI_in {α:Type} {xs:List α} {r:Int} (h0:0≤r) (h1:r < (xs.length:Int)):∃ x,x ∈ xs∧atI xs r=some x:=by
 have hk:r.toNat < xs.length:=by omega
 refine⟨xs[r.toNat],List.getElem_mem hk,?_⟩
 have z:=atI_nat (List.getElem?_eq_getElem hk)
 have e:((r.toNat:Nat):Int)=r:=by omega
 rw[e] at z;exact z
theorem Pot.same {H H':Hp} {p:Addr} (h:Pot H p) (s:Same H H'):Pot H' p:=let ⟨a,b,e,z⟩:=h;⟨a,b,s _ _ e,z⟩
theorem tup_ints:∀ ns:List Int,tupAll (ns.map .int)=true
 | []=>rfl
 | n::ns=>by show (tupD (.int n) && tupAll (ns.map .int))=true;rw[tup_ints ns];rfl
theorem tup_ties:∀ ts:List Tie,tupAll (ts.map tieD)=true
 | []=>rfl
 | t::r=>by show (tupD (tieD t) && tupAll (r.map tieD))=true;rw[tup_ties r];rfl
theorem tup_web (n:Int) (ts:List Tie):tupD (webD n ts)=true:=by
 show (true && (tupAll (ts.map tieD) && true))=true
 rw[tup_ties ts];rfl
theorem tup_keep (ks:List Nat):tupD (keepD ks)=true:=tup_ints _
end L3
namespace L3
end L3
namespace L3
open PySem PySem.Spec PyProof.Rows L2
/-- what follows, where it ends and the state get names: the goals behind stay small -/
theorem lS {a b:TS} {D:Ends} {σ:L2.St} {H:Hp} (h:let B:=b;let E:=D;let S:=σ;tSeq a B E S H):tSeq a b D σ H:=h
end L3
namespace HT
open PySem PyProof.Rows
section
open PySem.SeqAt
open PySem.AutoSeq1 (wpAny_loadPart')
open PySem.MeetsSeq PySem.MeetsSeq2 PySem.MeetsSeq3
end
section
variable {prog:Program} {w:World} {A:Around} {E:Value->Shared->Prop} {s:Shared}
end
end HT
namespace L3
open PySem PySem.Spec PyProof.Rows L2
section
variable {X:Cx}
end
end L3
namespace L3
open PySem PySem.Spec PyProof.Rows L2
/-- tuples and lists of at most a thousand things, so deep -/
def wide:Nat->PyData->Prop
 | 0,_=>True
 | k + 1,.tuple ds=>ds.length≤1000∧∀ d ∈ ds,wide k d
 | k + 1,.list ds=>ds.length≤1000∧∀ d ∈ ds,wide k d
 | _ + 1,_=>True
def endsD:PyData->Int × Int
 | .tuple [.int a,.int b,.int _]=>(a,b)
 | _=>(0,0)
def tiesB (n:Int):PyData->Bool
 | .tuple ds=>decide (ds.length≤60) && ds.all (tieB n) && risingB (ds.map endsD)
 | _=>false
/-- good values: flat, or tuples and lists of such, or {} -/
def Gd (H:Hp):Nat->V->Prop
 | 0,v=>flatD v=true
 | k + 1,v=>flatD v=true∨(∃ p vs,v=.ref p∧(H p=some (.tup vs)∨H p=some (.lst vs))∧vs.length≤1000∧∀ u ∈ vs,Gd H k u)∨(∃ p,v=.ref p∧H p=some (.dK []))
def lt2 (e f:Int × Int):Prop:=e.1 < f.1∨(e.1=f.1∧e.2 < f.2)
theorem lexLt_e2 (e f:Int × Int):HT.lexLt (e2 e) (e2 f)=true↔lt2 e f:=by
 show (if e.1=f.1 then (if e.2=f.2 then false else decide (e.2 < f.2)) else decide (e.1 < f.1))=true↔_
 unfold lt2
 by_cases h:e.1=f.1
 ·rw[if_pos h]
  by_cases h2:e.2=f.2
  ·rw[if_pos h2];simp;omega
  ·rw[if_neg h2,decide_eq_true_eq];omega
 ·rw[if_neg h,decide_eq_true_eq];omega
structure PreT (n:Int) (ds:List PyData) (i:Nat) (a:Int × Int):Prop where
 tie:∀ d ∈ ds.take i,tieB n d=true
 up:((ds.take i).map endsD).Pairwise lt2
 top:∀ x ∈ (ds.take i).map endsD,x=a∨lt2 x a
 at_:a=(-1,-1)∨a ∈ (ds.take i).map endsD
end L3
namespace L3
open PySem PySem.Spec PyProof.Rows L2
section
variable {X:Cx} {es:List Expr} {t:TA} {pos:Pos}
def tTupG (t:TA):TE:=fun σ H Q=>t σ H fun xs H1=>xs.length≤1000∧∀ p H',Same H1 H'->H1 p=none->H' p=some (.tup xs)->Q (.ref p) H'
def tLstG (t:TA):TE:=fun σ H Q=>t σ H fun xs H1=>xs.length≤1000∧∀ p H',Same H1 H'->H1 p=none->H' p=some (.lst xs)->Q (.ref p) H'
theorem pe_tupG {x1} (h:PA X es t):PE X (.Tuple es x1 pos) (tTupG t):=by
 intro pins s σ H Q I hq
 refine wpAny_Tuple_spliced (thn (h pos pins s σ H _ I hq) fun us s1 ⟨xs,J,I1,r,z,q⟩=>?_)
 have z':xs.length≤sizeLine:=Nat.le_trans z (by decide)
 have fr:J s1.heap.objs.size=none:=I1.hok.fresh (Nat.le_refl _)
 refine⟨by rw[← r.length];exact z',.ref s1.heap.objs.size,upd J s1.heap.objs.size (.tup xs),I1.laid (t':=s1.toks) (fun b u e=>Heap.get?_push_of_some _ e) (Nat.le_refl _) ⟨z',us,r,⟨_,Heap.get?_push_size _ rfl,rfl,⟨_,rfl⟩,rfl⟩⟩,rfl,q _ _ (same_new fr) fr upd_same⟩
theorem pe_lstG (h:PA X es t):PE X (.List es pos) (tLstG t):=by
 intro pins s σ H Q I hq
 refine wpAny_List_spliced (thn (h pos pins s σ H _ I hq) fun us s1 ⟨xs,J,I1,r,z,q⟩=>?_)
 have z':xs.length≤sizeLine:=Nat.le_trans z (by decide)
 have fr:J s1.heap.objs.size=none:=I1.hok.fresh (Nat.le_refl _)
 refine⟨by rw[← r.length];exact z',.ref s1.heap.objs.size,upd J s1.heap.objs.size (.lst xs),I1.laid (t':=s1.toks) (fun b u e=>Heap.get?_push_of_some _ e) (Nat.le_refl _) ⟨z',us,0,r,Heap.get?_push_size _ rfl⟩,rfl,q _ _ (same_new fr) fr upd_same⟩
/-- l.extend(m), l.append(x) -/
def rExtendG:V->List V->Hp->VK->Prop:=fun x vs H Q=>∃ l b xs zs,x=.ref l∧vs=[.ref b]∧H l=some (.lst xs)∧H b=some (.lst zs)∧xs.length + zs.length≤1000∧∀ H',But l H H'->H' l=some (.lst (xs++zs))->Q .non H'
theorem mt_extendG:MtM X "list.extend" rExtendG:=by
 intro pins s σ H x vs v us Q I rx rv h
 obtain⟨l,b,xs,zs,rfl,rfl,hH,hB,hz,q⟩:=h
 exact mt_extend (X:=X) pins s σ H _ _ v us Q I rx rv ⟨l,b,xs,zs,rfl,rfl,hH,hB,Nat.le_trans hz (by decide),q _ But.upd upd_same⟩
def rAppendG:V->List V->Hp->VK->Prop:=fun x vs H Q=>∃ l xs y,x=.ref l∧vs=[y]∧H l=some (.lst xs)∧xs.length < 1000∧∀ H',But l H H'->H' l=some (.lst (xs++[y]))->Q .non H'
theorem mt_appendG:MtM X "list.append" rAppendG:=by
 intro pins s σ H x vs v us Q I rx rv h
 obtain⟨l,xs,y,rfl,rfl,hH,hz,q⟩:=h
 exact mt_append (X:=X) pins s σ H _ _ v us Q I rx rv ⟨l,xs,y,rfl,rfl,hH,Nat.lt_of_lt_of_le hz (by decide),q _ But.upd upd_same⟩
end
def Sm (H:Hp) (t:Addr):Prop:=∃ vs:List V,(H t=some (.tup vs)∨H t=some (.lst vs))∧vs.length≤1000∧vs.all flatD=true
def GdF (H:Hp) (xs:List V):Prop:=∀ u ∈ xs,∃ t,u=.ref t∧Sm H t
def GdL (l:Addr) (H:Hp) (xs:List V):Prop:=∀ u ∈ xs,∃ t,u=.ref t∧t≠l∧Sm H t
theorem cat_lst {prog:Program} {w:World} {A:Around} {E:Value->Shared->Prop} {s:Shared} {l b:Addr} {vs ws:List Value} {Q:Value->Shared->Prop} (hl:s.heap.IsList l vs.toArray) (hb:s.heap.IsList b ws.toArray)
  (h:Q (.ref s.heap.objs.size) { s with heap:=s.heap.push { cls:=.type "list",data:=.seq (vs++ws).toArray } }) (hz:vs.length + ws.length≤sizeLine):wpAny (model prog w) A (binaryOp .Add (.ref l) (.ref b)) Q E s:=by
 obtain⟨⟨c1,d1,t1,s1⟩,g1,h1,n1,e1⟩:=id hl
 obtain⟨⟨c2,d2,t2,s2⟩,g2,h2,n2,e2⟩:=id hb
 simp only at h1 e1 h2 e2
 subst h1 e1 h2 e2
 have e:vs.toArray++ws.toArray=(vs++ws).toArray:=by simp
 refine concat_meets ⟨_,g1,rfl⟩ ⟨_,g2,rfl⟩ noFill_list_add seq_list_add PySem.F.slot_list_add PySem.F.entry_list_add (PySem.F.args_list_add_2 _ _) (list_addW l b vs.toArray ws.toArray n1 n2 d1 d2 s1 s2 (by rw[List.size_toArray,List.size_toArray];exact hz)) ⟨g1,g2,?_⟩
 rw[e]
 exact h
/-- l + m -/
def rCatL:R2:=fun x y H Q=>∃ a b xs ys,x=.ref a∧y=.ref b∧H a=some (.lst xs)∧H b=some (.lst ys)∧xs.length + ys.length≤1000∧∀ p H',Same H H'->H p=none->H' p=some (.lst (xs++ys))->Q (.ref p) H'
theorem op_catL {X:Cx}:OpR X (binaryOp .Add) rCatL:=by
 intro pins s σ H x y v u Q I rx ry h
 obtain⟨a,b,xs,ys,rfl,rfl,ha,hb,hz,q⟩:=h
 cases rx
 cases ry
 obtain⟨its,r1,p1,_⟩:=I.list (SqL.of ha)
 obtain⟨jts,r2,p2,_⟩:=I.list (SqL.of hb)
 have hz':xs.length + ys.length≤sizeLine:=Nat.le_trans hz (by decide)
 have fr:H s.heap.objs.size=none:=I.hok.fresh (Nat.le_refl _)
 refine cat_lst p1.isList p2.isList ⟨.ref s.heap.objs.size,_,I.laid (t':=s.toks) (o:=.lst (xs++ys)) (fun b ob q=>Heap.get?_push_of_some _ q) (Nat.le_refl _) ⟨by rw[List.length_append];exact hz',_,0,r1.append r2,Heap.get?_push_size _ rfl⟩,rfl,q _ _ (same_new fr) fr upd_same⟩ (by rw[← r1.length,← r2.length];exact hz')
section
variable {g:TG} {te:TE} {own:List Str} {js:List Nat} {σ:L2.St} {H1:Hp} {Q:VK}
end
theorem call_tupleG {X:Cx}:CallR X (.type "tuple") (fun xs H Q=>∃ p ys,xs=[.ref p]∧H p=some (.lst ys)∧∀ l H',Same H H'->H l=none->H' l=some (.tup ys)->Q (.ref l) H'):=by
 intro pins s σ H xs us Q I r h
 obtain⟨p,ys,rfl,hp,q⟩:=h
 exact call_tuple_of (X:=X) pins s σ H _ us Q I r ⟨p,ys,rfl,.inl ⟨SqL.of hp,fun l hl=>q l _ (same_new hl) hl upd_same⟩⟩
/-- rows of three whole numbers, sorted: the same rows -/
def Row3 (H:Hp) (v:V):Prop:=∃ (t:Addr) (x y z:Int),v=.ref t∧H t=some (.tup [.int x,.int y,.int z])
structure BE (X:Cx) (e:Expr) (t:TE):Prop where
 h:PE X e t
structure BA (X:Cx) (es:List Expr) (t:TA):Prop where
 h:PA X es t
structure BS (X:Cx) (st:Stmt) (t:TS):Prop where
 h:PS X st t
structure BSs (X:Cx) (ss:List Stmt) (t:TS):Prop where
 h:PSs X ss t
section
variable {X:Cx}
theorem bss_cons {st:Stmt} {rest:List Stmt} {t u:TS} (a:BS X st t) (b:BSs X rest u):BSs X (st::rest) (tSeq t u):=⟨pss_cons a.h b.h⟩
theorem bss_one {st:Stmt} {t:TS} (a:BS X st t):BSs X [st] t:=⟨pss_one a.h⟩
theorem bs_set {pos:Pos} {i:Nat} {x:Str} {e:Expr} {te:TE} {pos':Pos} (hN:X.N.Nodup) (hi:X.N[i]?=some x) (hx:L2.Loc X.env.scope x) (he:BE X e te) (hs:swapsWith e (some (.Name x pos')) pos.line X.env=pure false:=by rfl)
  (hf:X.fn x=true∨X.env.scope.names.lookup x=some .local:=by first | exact .inl rfl | exact .inr rfl | assumption):BS X (.Assign [.Name x pos'] e pos) (tAsg te (gName i)):=⟨ps_set hN hi hx he.h hs hf⟩
theorem be_lstG {es:List Expr} {t:TA} {pos:Pos} (a:BA X es t):BE X (.List es pos) (tLstG t):=⟨pe_lstG a.h⟩
theorem ba_nil:BA X [] tNil:=⟨pa_nil⟩
theorem be_op {a b:Expr} {ta tb:TE} {pos:Pos} {op:Operator} {r:R2} (ho:OpR X (binaryOp op) r) (ha:BE X a ta) (hb:BE X b tb):BE X (.BinOp a op b pos) (tOp r ta tb):=⟨pe_op ho ha.h hb.h⟩
end
end L3
namespace L3
open PySem PySem.Spec PyProof.Rows L2
section
variable {X:Cx}
theorem ba_consB {l r:Expr} {op:Operator} {p:Pos} {es:List Expr} {te:TE} {t:TA} (a:BE X (.BinOp l op r p) te) (b:BA X es t):BA X (.BinOp l op r p::es) (tCons te t):=⟨pa_cons a.h b.h (by rfl)⟩
theorem ba_consN {x:Str} {p:Pos} {es:List Expr} {te:TE} {t:TA} (a:BE X (.Name x p) te) (b:BA X es t):BA X (.Name x p::es) (tCons te t):=⟨pa_cons a.h b.h (by rfl)⟩
theorem ba_consK {f:Expr} {as:List Expr} {kw:List Keyword} {p:Pos} {es:List Expr} {te:TE} {t:TA} (a:BE X (.Call f as kw p) te) (b:BA X es t):BA X (.Call f as kw p::es) (tCons te t):=⟨pa_cons a.h b.h (by rfl)⟩
theorem ba_consS {l r:Expr} {p:Pos} {es:List Expr} {te:TE} {t:TA} (a:BE X (.Subscript l r p) te) (b:BA X es t):BA X (.Subscript l r p::es) (tCons te t):=⟨pa_cons a.h b.h (by rfl)⟩
theorem bs_if {c:Expr} {a b:List Stmt} {tc:TT} {t u:TS} {pos:Pos} (hc:PT X c tc) (ha:BSs X a t) (hb:BSs X b u):BS X (.If c a b pos) (tIfS tc t u):=⟨ps_if hc ha.h hb.h⟩
theorem bss_nil:BSs X [] tNext:=⟨pss_nil⟩
theorem bs_ret {e:Expr} {te:TE} {pos:Pos} (he:BE X e te):BS X (.Return (some e) pos) (tRet te):=⟨ps_ret he.h⟩
theorem be_ix {a b:Expr} {ta tb:TE} {pos:Pos} {r:R2} (hr:IxR X r) (ha:BE X a ta) (hb:BE X b tb) (hs:PlainIx b):BE X (.Subscript a b pos) (tOp r ta tb):=⟨pe_ix hr ha.h hb.h hs⟩
theorem bs_forB {tg iter:Expr} {body:List Stmt} {wi:TI} {g:TG} {tb:TS} {pos:Pos} (hp:PassesOwn (model X.prog X.w) X.A X.env X.xe) (hc:X.calm=true) (hi:PI X tg iter wi) (hg:PG X tg g) (hb:BSs X body tb)
  (hs:∀ x,foldedSetIterable iter X.env x=pure x:=by intro _;rfl):BS X (.For tg iter body [] pos) (tFor wi g tb):=⟨ps_for hp hc hi hg hb.h hs⟩
end
end L3
namespace Far
/-- walks along arcs, with their lengths -/
inductive Walk (A:List (Nat × Nat × Int)) (s:Nat):Nat->Int->Prop
 | nil:Walk A s s 0
 | snoc {u v:Nat} {l x:Int}:Walk A s u x->(u,v,l) ∈ A->Walk A s v (x + l)
variable {A:List (Nat × Nat × Int)} {s:Nat}
def Pos (A:List (Nat × Nat × Int)):Prop:=∀ u v l,(u,v,l) ∈ A->1≤l
theorem Walk.nonneg (P:Pos A) {v:Nat} {x:Int} (h:Walk A s v x):0≤x:=by
 induction h with
 | nil=>exact Int.le_refl 0
 | snoc _ m ih=>have:=P _ _ _ m;omega
def Dst (A:List (Nat × Nat × Int)) (s v:Nat) (o:Option Int):Prop:=(∀ y,o=some y->Walk A s v y)∧∀ L,Walk A s v L->∃ y,o=some y∧y≤L
theorem least {P:Nat->Prop}:∀ n,P n->∃ m,P m∧∀ k,P k->m≤k:=by
 intro n
 induction n using Nat.strongRecOn with
 | ind n ih =>
  intro h
  by_cases c:∃ k,k < n∧P k
  ·obtain⟨k,hk,pk⟩:=c;exact ih k hk pk
  ·exact⟨n,h,fun k pk=>by
    by_cases z:k < n
    ·exact absurd ⟨k,z,pk⟩ c
    ·omega⟩
def Sym (A:List (Nat × Nat × Int)):Prop:=∀ u v l,(u,v,l) ∈ A->(v,u,l) ∈ A
def lt2 (e f:Int × Int):Prop:=e.1 < f.1∨(e.1=f.1∧e.2 < f.2)
def get {α:Type} (cs:List (Option α)) (v:Nat):Option α:=cs.getD v none
theorem get_set {α:Type} {cs:List (Option α)} {v i:Nat} {x:Option α} (h:v < cs.length):get (cs.set v x) i=if i=v then x else get cs i:=by
 unfold get
 rw[List.getD_eq_getElem?_getD,List.getElem?_set,List.getD_eq_getElem?_getD]
 by_cases c:v=i
 ·subst c;simp [h]
 ·simp [c,Ne.symm c]
def ct {α:Type}:List (Option α)->Nat
 | []=>0
 | none::r=>ct r
 | some _::r=>ct r + 1
theorem ct_le {α:Type}:∀ cs:List (Option α),ct cs≤cs.length
 | []=>Nat.le_refl 0
 | none::r=>Nat.le_succ_of_le (ct_le r)
 | some _::r=>Nat.succ_le_succ (ct_le r)
theorem ct_set {α:Type} {c:α}:∀ {cs:List (Option α)} {v:Nat},v < cs.length->ct (cs.set v (some c))=ct cs + (if (get cs v).isSome then 0 else 1)
 | none::r,0,_=>rfl
 | some _::r,0,_=>rfl
 | none::r,v + 1,h=>ct_set (cs:=r) (v:=v) (by simpa using h)
 | some _::r,v + 1,h=>by
  have:=ct_set (c:=c) (cs:=r) (v:=v) (by simpa using h)
  show ct (r.set v (some c)) + 1=ct r + 1 + _
  rw[this]
  show _=ct r + 1 + (if (get r v).isSome then 0 else 1)
  omega
theorem ct_pos {α:Type}:∀ {cs:List (Option α)} {v:Nat} {c:α},get cs v=some c->1≤ct cs
 | [],v,c,h=>by cases h
 | some _::r,_,_,_=>Nat.succ_le_succ (Nat.zero_le _)
 | none::r,0,c,h=>by cases h
 | none::r,v + 1,c,h=>ct_pos (cs:=r) (v:=v) (c:=c) h
/-- the weight of costs, which falls -/
def WM:Int:=2 ^ 130
def mW:Option (Int × Int)->Nat
 | none=>(2 ^ 250)
 | some c=>(c.1 * WM + c.2).toNat
def mu:List (Option (Int × Int))->Nat
 | []=>0
 | c::r=>mW c + mu r
theorem mu_set {x:Option (Int × Int)}:∀ {cs:List (Option (Int × Int))} {v:Nat},v < cs.length->mW x < mW (get cs v)->mu (cs.set v x) < mu cs
 | c::r,0,_,h=>Nat.add_lt_add_right (k:=mu r) h
 | c::r,v + 1,hl,h=>Nat.add_lt_add_left (k:=mW c) (mu_set (cs:=r) (v:=v) (by simpa using hl) h)
structure Good (A:List (Nat × Nat × Int)) (n s:Nat) (cs:List (Option (Int × Int))):Prop where
 len:cs.length=n
 walk:∀ v c,get cs v=some c->Walk A s v c.1
 w0:∀ v c,get cs v=some c->0≤c.2∧c.2≤c.1 * 2 ^ 60
 top:∀ v c,get cs v=some c->c.1≤((ct cs:Nat) - 1:Int) * 10 ^ 18
 start:∃ c,get cs s=some c∧c.1≤0
theorem Good.step {n u v:Nat} {l w:Int} {cs:List (Option (Int × Int))} {c:Int × Int} (P:Pos A) (n24:n≤24) (g:Good A n s cs) (arc:(u,v,l) ∈ A) (l1:l≤10 ^ 18) (w0:0≤w) (w1:w≤2 ^ 60) (hv:v < n) (hu:get cs u=some c)
  (h:get cs v=none∨∃ c',get cs v=some c'∧lt2 (c.1 + l,c.2 + w) c'):Good A n s (cs.set v (some (c.1 + l,c.2 + w)))∧mu (cs.set v (some (c.1 + l,c.2 + w))) < mu cs:=by
 have hv':v < cs.length:=by rw[g.len];exact hv
 have l0:=P _ _ _ arc
 have wk:=Walk.snoc (g.walk _ _ hu) arc
 have c0:=(g.walk _ _ hu).nonneg P
 obtain⟨cw0,cw1⟩:=g.w0 _ _ hu
 have ct24:ct cs≤24:=by have:=ct_le cs;rw[g.len] at this;omega
 have ctp:=ct_pos hu
 have es:=ct_set (c:=(c.1 + l,c.2 + w)) hv'
 have topc:=g.top _ _ hu
 have wbound:c.2 + w≤(c.1 + l) * 2 ^ 60:=by rw[Int.add_mul];omega
 have big:c.1 + l≤((ct (cs.set v (some (c.1 + l,c.2 + w))):Nat) - 1:Int) * 10 ^ 18:=by
  rw[es]
  rcases h with h | ⟨c',h,hlt⟩
  ·rw[h]
   show _≤(((ct cs + 1:Nat):Int) - 1) * 10 ^ 18
   omega
  ·rw[h]
   show _≤(((ct cs + 0:Nat):Int) - 1) * 10 ^ 18
   have:=g.top _ _ h
   unfold lt2 at hlt
   simp only at hlt
   omega
 have ctm:ct cs≤ct (cs.set v (some (c.1 + l,c.2 + w))):=by rw[es];exact Nat.le_add_right _ _
 refine⟨⟨by rw[List.length_set];exact g.len,fun v' d e=>?_,fun v' d e=>?_,fun v' d e=>?_,?_⟩,?_⟩
 ·rw[get_set hv'] at e
  split at e
  ·rename_i z;subst z;cases e;exact wk
  ·exact g.walk _ _ e
 ·rw[get_set hv'] at e
  split at e
  ·cases e;exact⟨by show 0≤c.2 + w;omega,wbound⟩
  ·exact g.w0 _ _ e
 ·rw[get_set hv'] at e
  split at e
  ·cases e;exact big
  ·have:=g.top _ _ e
   omega
 ·obtain⟨d,hd,hd0⟩:=g.start
  rw[get_set hv']
  split
  ·rename_i z;subst z
   refine⟨_,rfl,?_⟩
   rcases h with h | ⟨c',h,hlt⟩
   ·rw[h] at hd;cases hd
   ·rw[h] at hd;cases hd
    unfold lt2 at hlt
    simp only at hlt
    show c.1 + l≤0
    omega
  ·exact⟨d,hd,hd0⟩
 ·refine mu_set hv' ?_
  have ctb:ct (cs.set v (some (c.1 + l,c.2 + w)))≤24:=by have:=ct_le (cs.set v (some (c.1 + l,c.2 + w)));rw[List.length_set,g.len] at this;omega
  have x23:c.1 + l≤23 * 10 ^ 18:=by omega
  have y23:c.2 + w≤23 * 10 ^ 18 * 2 ^ 60:=by omega
  have WMe:WM=1361129467683753853853498429727072845824:=by decide
  rcases h with h | ⟨c',h,hlt⟩
  ·rw[h]
   show ((c.1 + l) * WM + (c.2 + w)).toNat < 2 ^ 250
   have:(c.1 + l) * WM + (c.2 + w) < 2 ^ 250:=by rw[WMe];omega
   omega
  ·rw[h]
   obtain⟨d0,d1⟩:=g.w0 _ _ h
   have t0:=(g.walk _ _ h).nonneg P
   have tt:=g.top _ _ h
   show ((c.1 + l) * WM + (c.2 + w)).toNat < (c'.1 * WM + c'.2).toNat
   unfold lt2 at hlt
   simp only at hlt
   have:(c.1 + l) * WM + (c.2 + w) < c'.1 * WM + c'.2:=by
    rw[WMe]
    rcases hlt with z | ⟨z,z'⟩
    ·omega
    ·rw[z];omega
   have p0:0≤(c.1 + l) * WM + (c.2 + w):=by rw[WMe];omega
   omega
/-- stable along arcs -/
def Stab (A:List (Nat × Nat × Int)) (cs:List (Option (Int × Int))):Prop:=∀ u v l c,(u,v,l) ∈ A->get cs u=some c->∃ c',get cs v=some c'∧c'.1≤c.1 + l
theorem Good.dst {n:Nat} {cs:List (Option (Int × Int))} (g:Good A n s cs) (st:Stab A cs) (v:Nat):Dst A s v ((get cs v).map (·.1)):=by
 refine⟨fun y e=>?_,fun L hL=>?_⟩
 ·cases h:get cs v with
  | none=>rw[h] at e;cases e
  | some c=>rw[h] at e;cases e;exact g.walk _ _ h
 ·have:∃ c,get cs v=some c∧c.1≤L:=by
   induction hL with
   | nil=>exact g.start
   | snoc _ m ih =>
    obtain⟨c,hc,hle⟩:=ih
    obtain⟨c',hc',hle'⟩:=st _ _ _ _ m hc
    exact⟨c',hc',by omega⟩
  obtain⟨c,hc,hle⟩:=this
  exact⟨c.1,by rw[hc];rfl,hle⟩
structure Snd (A:List (Nat × Nat × Int)) (n s:Nat) (D:List (Option Int)):Prop where
 len:D.length=n
 walk:∀ v x,get D v=some x->Walk A s v x
 start:∃ x,get D s=some x∧x≤0
structure Rnd (A:List (Nat × Nat × Int)) (n s:Nat) (δ:Nat->Option Int) (D0:List (Option Int)) (B:(Nat × Nat × Int)->Prop) (D:List (Option Int)):Prop where
 snd:Snd A n s D
 keep:∀ v,get D0 v=δ v->get D v=δ v
 arc:∀ u v l x,B (u,v,l)->get D0 u=δ u->δ u=some x->∃ y,get D v=some y∧y≤x + l
section
variable {n:Nat} {δ:Nat->Option Int} {D0 D:List (Option Int)} {B:(Nat × Nat × Int)->Prop} {u v:Nat} {l:Int}
def plus (B:(Nat × Nat × Int)->Prop) (a:Nat × Nat × Int):(Nat × Nat × Int)->Prop:=fun b=>B b∨b=a
end
theorem countP_lt {α:Type} {p q:α->Bool}:∀ {xs:List α},(∀ x ∈ xs,p x=true->q x=true)->(∃ x ∈ xs,q x=true∧p x=false)->xs.countP p < xs.countP q
 | [],_,⟨x,h,_⟩=>by cases h
 | a::r,h,⟨x,hx,e1,e2⟩=>by
  rw[List.countP_cons,List.countP_cons]
  have le:r.countP p≤r.countP q:=List.countP_mono_left fun x hx=>h x (List.mem_cons_of_mem _ hx)
  rcases List.mem_cons.mp hx with rfl | hx
  ·rw[e1,e2];simp;omega
  ·have:=countP_lt (xs:=r) (fun x hx=>h x (List.mem_cons_of_mem _ hx)) ⟨x,hx,e1,e2⟩
   have:=h a List.mem_cons_self
   cases e:p a <;> cases e':q a <;> simp_all <;> omega
def cnt (n:Nat) (δ:Nat->Option Int) (D:List (Option Int)):Nat:=(List.range n).countP fun v=>decide (get D v=δ v)
def Done (n:Nat) (δ:Nat->Option Int) (D:List (Option Int)) (k:Nat):Prop:=(∀ v,v < n->get D v=δ v)∨k + 1≤cnt n δ D
def PSt (c0:List (Option (Int × Int))) (B:(Nat × Nat × Int)->Prop) (cs:List (Option (Int × Int))) (ag:Bool):Prop :=
 (ag=false∧cs=c0∧∀ u v l c,B (u,v,l)->get c0 u=some c->∃ c',get c0 v=some c'∧c'.1≤c.1 + l)∨(ag=true∧mu cs < mu c0)
section
variable {c0 cs:List (Option (Int × Int))} {B B':(Nat × Nat × Int)->Prop} {ag:Bool} {u v:Nat} {l w:Int}
theorem PSt.less (h:PSt c0 B cs ag) (k:∀ a,B' a->B a):PSt c0 B' cs ag:=h.elim (fun ⟨a,b,c⟩=>.inl ⟨a,b,fun u v l c' z=>c u v l c' (k _ z)⟩) .inr
theorem PSt.no (h:PSt c0 B cs ag) (hu:get cs u=none):PSt c0 (plus B (u,v,l)) cs ag:=by
 rcases h with ⟨a,b,c⟩ | h
 ·refine .inl ⟨a,b,fun u' v' l' c' z e=>?_⟩
  rcases z with z | z
  ·exact c _ _ _ _ z e
  ·cases z;rw[← b,hu] at e;cases e
 ·exact .inr h
theorem PSt.old (h:PSt c0 B cs ag) {c d:Int × Int} (hu:get cs u=some c) (hv:get cs v=some d) (hn:¬ lt2 (c.1 + l,c.2 + w) d):PSt c0 (plus B (u,v,l)) cs ag:=by
 rcases h with ⟨a,b,z⟩ | h
 ·refine .inl ⟨a,b,fun u' v' l' c' y e=>?_⟩
  rcases y with y | y
  ·exact z _ _ _ _ y e
  ·cases y
   subst b
   rw[hu] at e;cases e
   refine⟨d,hv,?_⟩
   unfold lt2 at hn
   simp only at hn
   omega
 ·exact .inr h
theorem PSt.put (h:PSt c0 B cs ag) {cs':List (Option (Int × Int))} (hm:mu cs' < mu cs):PSt c0 (plus B (u,v,l)) cs' true:=by
 rcases h with ⟨a,b,c⟩ | h
 ·exact .inr ⟨rfl,by rw[← b];exact hm⟩
 ·exact .inr ⟨rfl,Nat.lt_trans hm h.2⟩
end
theorem get_rep {α:Type} (n v:Nat):get (List.replicate n (none:Option α)) v=none:=by
 unfold get
 rw[List.getD_eq_getElem?_getD,List.getElem?_replicate]
 split <;> rfl
theorem ct_rep {α:Type}:∀ n:Nat,ct (List.replicate n (none:Option α))=0
 | 0=>rfl
 | n + 1=>ct_rep n
theorem Good.first {n:Nat} (hs:s < n):Good A n s ((List.replicate n none).set s (some (0,0))):=by
 have hl:s < (List.replicate n (none:Option (Int × Int))).length:=by rw[List.length_replicate];exact hs
 have cases':∀ v c,get ((List.replicate n (none:Option (Int × Int))).set s (some (0,0))) v=some c->v=s∧c=(0,0):=fun v c e=>by
  rw[get_set hl,get_rep] at e
  split at e
  ·rename_i z;cases e;exact⟨z,rfl⟩
  ·cases e
 refine⟨by rw[List.length_set,List.length_replicate],fun v c e=>?_,fun v c e=>?_,fun v c e=>?_,⟨(0,0),?_,Int.le_refl _⟩⟩
 ·obtain⟨rfl,rfl⟩:=cases' _ _ e;exact .nil
 ·obtain⟨rfl,rfl⟩:=cases' _ _ e;exact⟨Int.le_refl _,by decide⟩
 ·obtain⟨rfl,rfl⟩:=cases' _ _ e
  rw[ct_set hl,ct_rep,get_rep];decide
 ·rw[get_set hl,if_pos rfl]
end Far
namespace L3
open PySem PySem.Spec PyProof.Rows L2
def tieAt (ts:List Tie) (k:Nat):Tie:=ts.getD k (0,0,0)
def arcs2 (t:Tie):List (Nat × Nat × Int):=[(t.1.toNat,t.2.1.toNat,t.2.2),(t.2.1.toNat,t.1.toNat,t.2.2)]
def arcs (ts:List Tie) (ks:List Nat):List (Nat × Nat × Int):=ks.flatMap fun k=>arcs2 (tieAt ts k)
theorem arcs_mem {ts:List Tie} {ks:List Nat} {a:Nat × Nat × Int}:a ∈ arcs ts ks↔∃ k,k ∈ ks∧a ∈ arcs2 (tieAt ts k):=by
 unfold arcs;rw[List.mem_flatMap]
theorem arcs2_mem {t:Tie} {a:Nat × Nat × Int}:a ∈ arcs2 t↔a=(t.1.toNat,t.2.1.toNat,t.2.2)∨a=(t.2.1.toNat,t.1.toNat,t.2.2):=by
 unfold arcs2;simp
theorem tieAt_in {ts:List Tie} {k:Nat} (h:k < ts.length):ts[k]?=some (tieAt ts k)∧tieAt ts k ∈ ts:=by
 have e:ts[k]?=some (tieAt ts k):=by unfold tieAt;rw[List.getD_eq_getElem?_getD,List.getElem?_eq_getElem h];rfl
 exact⟨e,List.mem_of_getElem? e⟩
theorem ends_eq {a b c d:Int} (h1:0≤a) (h2:a < b) (h3:0≤c) (h4:c < d) (h:a.toNat=c.toNat∧b.toNat=d.toNat∨a.toNat=d.toNat∧b.toNat=c.toNat):a=c∧b=d:=by omega
theorem endLt_ne {s t:Tie} (h:endLt s t) (e1:s.1=t.1) (e2:s.2.1=t.2.1):False:=by
 rcases h with h | h
 ·exact Int.lt_irrefl _ (e1 ▸ h)
 ·exact Int.lt_irrefl _ (e2 ▸ h.2)
/-- two ties with the same ends are one -/
theorem tie_ends {n:Int} {ts:List Tie} (ok:WebOk n ts) {k k':Nat} (hk:k < ts.length) (hk':k' < ts.length) (e1:(tieAt ts k).1=(tieAt ts k').1) (e2:(tieAt ts k).2.1=(tieAt ts k').2.1):k=k':=by
 have pw:∀ i j (hi:i < ts.length) (hj:j < ts.length),i < j->endLt (tieAt ts i) (tieAt ts j):=fun i j hi hj z=>by
  have q:=List.pairwise_iff_getElem.mp ok.rise i j hi hj z
  have g:∀ {i:Nat} (hi:i < ts.length),ts[i]=tieAt ts i:=fun {i} hi=>Option.some.inj ((List.getElem?_eq_getElem hi).symm.trans (tieAt_in hi).1)
  rwa [g hi,g hj] at q
 rcases Nat.lt_trichotomy k k' with z | z | z
 ·exact (endLt_ne (pw k k' hk hk' z) e1 e2).elim
 ·exact z
 ·exact (endLt_ne (pw k' k hk' hk z) e1.symm e2.symm).elim
section
variable {n:Int} {ts:List Tie} {ks:List Nat}
theorem arcs_pos (ok:WebOk n ts) (ko:KeepOk ts.length ks):Far.Pos (arcs ts ks):=fun u v l h=>by
 obtain⟨k,hk,h⟩:=arcs_mem.mp h
 have:=ok.tie _ (tieAt_in (ko.2 k hk)).2
 rcases arcs2_mem.mp h with h | h <;> cases h <;> omega
theorem arcs_in (ok:WebOk n ts) (ko:KeepOk ts.length ks):∀ u v l,(u,v,l) ∈ arcs ts ks->u < n.toNat∧v < n.toNat:=fun u v l h=>by
 obtain⟨k,hk,h⟩:=arcs_mem.mp h
 have:=ok.tie _ (tieAt_in (ko.2 k hk)).2
 rcases arcs2_mem.mp h with h | h <;> cases h <;> omega
theorem arcs_take {i k:Nat} (h:ks[i]?=some k) {a:Nat × Nat × Int} (m:a ∈ arcs ts (ks.take (i + 1))):a ∈ arcs ts (ks.take i)∨a ∈ arcs2 (tieAt ts k):=by
 obtain⟨j,hj,m⟩:=arcs_mem.mp m
 rw[take_next h] at hj
 rcases List.mem_append.mp hj with hj | hj
 ·exact .inl (arcs_mem.mpr ⟨j,hj,m⟩)
 ·rw[List.mem_singleton.mp hj] at m;exact .inr m
end
def CV (H:Hp) (v:V):Option (Int × Int)->Prop
 | none=>v=.non
 | some e=>∃ t,v=.ref t∧H t=some (.tup [.int e.1,.int e.2])
theorem CV.keep {H H':Hp} (k:TupKeep H H') {v:V}:∀ {o:Option (Int × Int)},CV H v o->CV H' v o
 | none,h=>h
 | some e,⟨t,h1,h2⟩=>⟨t,h1,k _ _ h2⟩
def CostL (H:Hp) (vs:List V) (cs:List (Option (Int × Int))):Prop:=vs.length=cs.length∧∀ i v,vs[i]?=some v->CV H v (Far.get cs i)
section
variable {H H' J J':Hp} {vs cvs avs ws:List V} {cs:List (Option (Int × Int))} {lw lc la t:Addr} {n k:Nat} {x y:Int}
theorem CostL.keep (h:CostL H vs cs) (k:TupKeep H H'):CostL H' vs cs:=⟨h.1,fun i v e=>(h.2 i v e).keep k⟩
theorem CostL.set {v:V} {c:Int × Int} (h:CostL H vs cs) (hk:k < vs.length) (hv:CV H v (some c)):CostL H (vs.set k v) (cs.set k (some c)):=by
 refine⟨by rw[List.length_set,List.length_set];exact h.1,fun i u e=>?_⟩
 rw[Far.get_set (by rw[← h.1];exact hk)]
 rw[List.getElem?_set] at e
 by_cases z:k=i
 ·subst z;rw[if_pos rfl,if_pos hk] at e;cases e;rw[if_pos rfl];exact hv
 ·rw[if_neg z] at e;rw[if_neg (Ne.symm z)];exact h.2 i u e
theorem CostL.first (n:Nat):CostL H (List.replicate n .non) (List.replicate n none):=by
 refine⟨by rw[List.length_replicate,List.length_replicate],fun i v e=>?_⟩
 rw[Far.get_rep]
 rw[List.getElem?_replicate] at e
 split at e
 ·cases e;rfl
 ·cases e
theorem tk_upd {p:Addr} {xs:List V} {o:HO} (h:J p=some (.lst xs)):TupKeep J (upd J p o):=fun a ys e=>by
 rw[upd_ne (fun z=>by rw[z,h] at e;cases e)];exact e
theorem tk_same (s:Same J J'):TupKeep J J':=fun a xs e=>s _ _ e
/-- the lists of a search: weights, costs, places ahead -/
structure RH (H J:Hp) (lw lc la:Addr) (ws:List V) (n:Nat) (cs:List (Option (Int × Int))):Prop where
 same:Same H J
 fc:H lc=none
 fa:H la=none
 nwc:lw≠lc
 nwa:lw≠la
 nca:lc≠la
 wl:J lw=some (.lst ws)
 co:∃ cvs,J lc=some (.lst cvs)∧CostL J cvs cs
 ah:∃ avs,J la=some (.lst avs)∧avs.length=n
theorem RH.step (h:RH H J lw lc la ws n cs) (s:Same J J'):RH H J' lw lc la ws n cs :=
 ⟨h.same.trans s,h.fc,h.fa,h.nwc,h.nwa,h.nca,s _ _ h.wl,let ⟨c,e,z⟩:=h.co;⟨c,s _ _ e,z.keep (tk_same s)⟩,let ⟨c,e,z⟩:=h.ah;⟨c,s _ _ e,z⟩⟩
theorem RH.put (h:RH H J lw lc la ws n cs) (hc:J lc=some (.lst cvs)) (hk:k < cvs.length) (ht:J t=some (.tup [.int x,.int y])):RH H (upd J lc (.lst (cvs.set k (.ref t)))) lw lc la ws n (cs.set k (some (x,y))):=by
 obtain⟨c,e,z⟩:=h.co
 rw[hc] at e;cases e
 obtain⟨av,ea,la'⟩:=h.ah
 refine⟨fun b o eb=>?_,h.fc,h.fa,h.nwc,h.nwa,h.nca,?_,⟨_,upd_same,CostL.set (z.keep (tk_upd hc)) hk ⟨t,rfl,tk_upd hc _ _ ht⟩⟩,⟨av,?_,la'⟩⟩
 ·rw[upd_ne (ne_of_none eb h.fc)];exact h.same _ _ eb
 ·rw[upd_ne h.nwc];exact h.wl
 ·rw[upd_ne h.nca.symm];exact ea
theorem RH.mark {v:V} (h:RH H J lw lc la ws n cs) (ha:J la=some (.lst avs)):RH H (upd J la (.lst (avs.set k v))) lw lc la ws n cs:=by
 obtain⟨c,e,z⟩:=h.co
 obtain⟨av,ea,la'⟩:=h.ah
 rw[ha] at ea;cases ea
 refine⟨fun b o eb=>?_,h.fc,h.fa,h.nwc,h.nwa,h.nca,?_,⟨c,?_,z.keep (tk_upd ha)⟩,⟨_,upd_same,by rw[List.length_set];exact la'⟩⟩
 ·rw[upd_ne (ne_of_none eb h.fa)];exact h.same _ _ eb
 ·rw[upd_ne h.nwa];exact h.wl
 ·rw[upd_ne h.nca];exact e
end
theorem rep_one {α:Type} (x:α):∀ k:Nat,(List.replicate k [x]).flatten=List.replicate k x
 | 0=>rfl
 | k + 1=>by rw[List.replicate_succ,List.flatten_cons,rep_one x k];rfl
def ov:Option Int->V
 | none=>.non
 | some x=>.int x
theorem ov_at {D:List (Option Int)} {i:Nat} (h:i < D.length):(D.map ov)[i]?=some (ov (Far.get D i)):=by
 rw[List.getElem?_map,List.getElem?_eq_getElem h]
 unfold Far.get
 rw[List.getD_eq_getElem?_getD,List.getElem?_eq_getElem h];rfl
theorem atI_toNat {α:Type} {xs:List α} {i:Int} {x:α} (h0:0≤i) (h:xs[i.toNat]?=some x):atI xs i=some x:=by
 have hl:=(List.getElem?_eq_some_iff.mp h).1
 unfold atI ixN
 rw[if_pos h0,if_pos (by omega)]
 exact h
theorem ixN_nat {n:Nat} {i:Int} (h0:0≤i) (h:i < n):ixN n i=some i.toNat:=by
 unfold ixN;rw[if_pos h0,if_pos h]
/-- [x] * n -/
def rRep1:R2:=fun x y H Q=>∃ l k z,x=.ref l∧y=.int k∧H l=some (.lst [z])∧0≤k∧k≤1000∧∀ p H',Same H H'->H p=none->H' p=some (.lst (List.replicate k.toNat z))->Q (.ref p) H'
theorem op_rep1 {X:Cx}:OpR X (binaryOp .Mult) rRep1:=by
 intro pins s σ H x y v u Q I rx ry h
 obtain⟨l,k,z,rfl,rfl,hH,h1,h2,q⟩:=h
 refine op_rep (X:=X) pins s σ H _ _ v u Q I rx ry ⟨l,k,_,rfl,rfl,hH,by omega,by omega,?_,fun p hp=>q p _ (same_new hp) hp (by rw[upd_same,rep_one])⟩
 exact Nat.le_trans (by show 1 * k.toNat≤1000;omega) (by decide:1000≤sizeLine)
theorem tie_val {K:PySem.W.Frag} {H:Hp}:∀ {ts:List Tie} {ws:List V} {k:Nat},IsAll K H (ts.map tieD) ws->k < ts.length->∃ a,ws[k]?=some (.ref a)∧H a=some (.tup [.int (tieAt ts k).1,.int (tieAt ts k).2.1,.int (tieAt ts k).2.2])
 | t::r,ws,0,h,_=>by
  obtain⟨v,vs,rfl,h1,_⟩:=h
  obtain⟨a,xs,rfl,ha,hx⟩:=h1
  have e:xs=(tieI t).map V.int:=IsAll.of_ints (ns:=tieI t) hx
  subst e
  exact⟨a,rfl,ha⟩
 | t::r,ws,k + 1,h,hk=>by
  obtain⟨v,vs,rfl,_,h2⟩:=h
  obtain⟨a,e,ha⟩:=tie_val (ts:=r) (ws:=vs) (k:=k) h2 (by simpa using hk)
  exact⟨a,e,ha⟩
theorem keep_parts {K:PySem.W.Frag} {H:Hp} {ks:List Nat} {v:V} (h:Is K H (keepD ks) v):∃ p,v=.ref p∧H p=some (.tup ((keepI ks).map V.int)):=by
 obtain⟨p,vs,rfl,hp,hx⟩:=h
 have e:=IsAll.of_ints hx
 subst e
 exact⟨p,rfl,hp⟩
theorem keep_at {ks:List Nat} {i:Nat} {x:V} (h:((keepI ks).map V.int)[i]?=some x):∃ k,ks[i]?=some k∧x=.int (k:Int):=by
 unfold keepI at h
 rw[List.map_map,List.getElem?_map] at h
 cases e:ks[i]? with
 | none=>rw[e] at h;cases h
 | some k=>rw[e] at h;cases h;exact⟨k,rfl,rfl⟩
theorem cost_at {H:Hp} {vs:List V} {cs:List (Option (Int × Int))} {i:Int} (h:CostL H vs cs) (h0:0≤i) (hi:i.toNat < cs.length):∃ v,atI vs i=some v∧CV H v (Far.get cs i.toNat):=by
 have hl:i.toNat < vs.length:=by rw[h.1];exact hi
 have e:vs[i.toNat]?=some vs[i.toNat]:=List.getElem?_eq_getElem hl
 exact⟨_,atI_toNat h0 e,h.2 _ _ e⟩
def pows (m:Nat):List V:=(List.range m).map fun i=>V.int (2 ^ i)
theorem pows_at {m i:Nat} (h:i < m):(pows m)[i]?=some (.int (2 ^ i)):=by unfold pows;rw[List.getElem?_map,List.getElem?_range h];rfl
theorem pows_succ (m:Nat):pows (m + 1)=pows m++[.int (2 ^ m)]:=by unfold pows;rw[List.range_succ,List.map_append];rfl
theorem pow_le {i:Nat} (h:i < 60):(0:Int)≤2 ^ i∧(2:Int) ^ i≤2 ^ 60:=by
 have e:((2 ^ i:Nat):Int)=(2:Int) ^ i:=by norm_cast
 have:2 ^ i≤2 ^ 60:=Nat.pow_le_pow_right (by decide) (by omega)
 constructor
 ·rw[← e];exact Int.natCast_nonneg _
 ·rw[← e];exact_mod_cast this
def spWeights (K:PySem.W.Frag):Sp:=fun vs H Q _=>∃ n ts v,vs=[v]∧Is K H (webD n ts) v∧ts.length≤60∧∀ l H',Same H H'->H l=none->H' l=some (.lst (pows ts.length))->Q (.ref l) H'
def spCost (K:PySem.W.Frag):Sp:=fun vs H Q _=>∃ c x y l w,vs=[.ref c,.int l,.int w]∧H c=some (.tup [.int x,.int y])∧∀ t H',Same H H'->H' t=some (.tup [.int (x + l),.int (y + w)])->Q (.ref t) H'
/-- a web, a keep of it, a place -/
def WK (K:PySem.W.Frag) (H:Hp) (n:Int) (ts:List Tie) (ks:List Nat) (wv kv:V):Prop:=Is K H (webD n ts) wv∧WebOk n ts∧Is K H (keepD ks) kv∧KeepOk ts.length ks
theorem WK.same {K:PySem.W.Frag} {H H':Hp} {n:Int} {ts:List Tie} {ks:List Nat} {wv kv:V} (h:WK K H n ts ks wv kv) (s:Same H H'):WK K H' n ts ks wv kv:=⟨Is.same s _ h.1,h.2.1,Is.same s _ h.2.2.1,h.2.2.2⟩
def spReached (K:PySem.W.Frag):Sp:=fun vs H Q _=>∃ n ts ks wv kv r,vs=[wv,kv,.int r]∧WK K H n ts ks wv kv∧0≤r∧r < n ∧
 ∀ p lc la cvs avs cs H',Same H H'->H' p=some (.tup [.ref lc,.ref la])->H' lc=some (.lst cvs)->H' la=some (.lst avs)->CostL H' cvs cs->Far.Good (arcs ts ks) n.toNat r.toNat cs->Far.Stab (arcs ts ks) cs->Q (.ref p) H'
def spFars (K:PySem.W.Frag):Sp:=fun vs H Q _=>∃ n ts ks wv kv r,vs=[wv,kv,.int r]∧WK K H n ts ks wv kv∧0≤r∧r < n ∧
 ∀ l D H',Same H H'->H l=none->H' l=some (.lst (D.map ov))->D.length=n.toNat->(∀ v,v < n.toNat->Far.Dst (arcs ts ks) r.toNat v (Far.get D v))->Q (.ref l) H'
def spFar (K:PySem.W.Frag):Sp:=fun vs H Q _=>∃ n ts ks wv kv a b,vs=[wv,kv,.int a,.int b]∧WK K H n ts ks wv kv∧0≤a∧a < n∧0≤b∧b < n ∧
 ∀ o H',Same H H'->Far.Dst (arcs ts ks) a.toNat b.toNat o->Q (ov o) H'
end L3
namespace HT
open PySem PyProof.Rows
open Sem (wp)
section
variable {prog:Program} {w:World} {A:Around} {E:Value->Shared->Prop} {s:Shared}
end
end HT
namespace L3
open PySem PySem.Spec PyProof.Rows L2
def IntT (H:Hp) (p:Addr) (hs:List Int):Prop:=H p=some (.tup (hs.map V.int))∧hs.length≤1000
def AllI (xs:List V):Prop:=∃ ns:List Int,xs=ns.map V.int
theorem lay_ints:∀ hs:List Int,PyData.canLayAll0 (hs.map .int)=true
 | []=>rfl
 | t::r=>by
  show (PyData.canLay0 (.int t) && PyData.canLayAll0 (r.map .int))=true
  rw[lay_ints r]
  rfl
theorem deep_ints:∀ hs:List Int,PyData.depthAll (hs.map .int)≤1
 | []=>Nat.zero_le _
 | t::r=>by
  show max (PyData.depth (.int t)) (PyData.depthAll (r.map .int))≤1
  have h1:=deep_ints r
  have h2:PyData.depth (.int t)≤1:=Nat.le_trans (Nat.le_of_eq (by rfl:PyData.depth (.int t)=0)) (by decide)
  omega
section
variable {g:TG} {te:TE} {own:List Str} {js:List Nat} {σ:L2.St} {H1:Hp} {Q:VK}
end
end L3
namespace L3
open PySem PySem.Spec PyProof.Rows L2
section
variable {J:It} {g:TG} {tt:TT} {te:TE} {own:List Str} {js:List Nat} {σ:L2.St} {H1:Hp} {Q:VK}
/-- a test, nothing that stands is changed: item i gives sel i, or nothing -/
theorem comp_sel (n:Nat) (Sg:L2.St->Prop) (sel:Nat->Option V) (hn:n≤1000) (h0:Sg (start3 own js σ))
  (go:∀ i H',i < n->Same H1 H'->J.go i H') (stop:∀ H',Same H1 H'->J.stop n H')
  (step:∀ i x σ' H' H2,i < n->Same H1 H'->J.yld i H' x H2->Sg σ'->∀ (C:L2.St->V->Hp->Prop) (L:L2.St->Hp->Prop),(∀ σ3 v H5,Sg σ3->Same H' H5->sel i=some v->C σ3 v H5)->(∀ σ3 H5,Sg σ3->Same H' H5->sel i=none->L σ3 H5) ->
   g x σ' H2 fun σ3 H3=>tt σ3 H3 fun b H4=>if b=true then te σ3 H4 fun v H5=>C σ3 v H5 else L σ3 H4)
  (fin:∀ D H',H1 D=none->Same H1 H'->H' D=some (.lst ((List.range n).filterMap sel))->Q (.ref D) H'):CompGo own js g tt te σ Q J H1:=by
 intro D hD
 refine⟨fun i m ys σ' H'=>m=n - i∧i≤n∧Sg σ'∧Same H1 H'∧ys=(List.range i).filterMap sel,⟨n,rfl,Nat.zero_le _,h0,same_new hD,rfl⟩,?_⟩
 rintro i m ys σ' H' ⟨rfl,hi,sg,sm,rfl⟩ hd
 have len:((List.range i).filterMap sel).length≤i:=by have:=List.length_filterMap_le sel (List.range i);rw[List.length_range] at this;exact this
 by_cases hlt:i < n
 ·refine .inr ⟨go i H' hlt sm,fun x H2 hy=>?_⟩
  refine step i x σ' H' H2 hlt sm hy sg
   (fun σ3 v H5=>H5 D=some (.lst ((List.range i).filterMap sel))∧((List.range i).filterMap sel).length < sizeLine∧∃ m',m' < n - i∧(m'=n - (i + 1)∧i + 1≤n∧Sg σ3∧Same H1 (upd H5 D (.lst ((List.range i).filterMap sel++[v])))∧(List.range i).filterMap sel++[v]=(List.range (i + 1)).filterMap sel))
   (fun σ3 H5=>H5 D=some (.lst ((List.range i).filterMap sel))∧∃ m',m' < n - i∧(m'=n - (i + 1)∧i + 1≤n∧Sg σ3∧Same H1 H5∧(List.range i).filterMap sel=(List.range (i + 1)).filterMap sel)) (fun σ3 v H5 sg3 s5 e=>?_) (fun σ3 H5 sg3 s5 e=>?_)
  ·refine⟨s5 _ _ hd,Nat.lt_of_le_of_lt (by omega:((List.range i).filterMap sel).length≤1000) (by decide),n - (i + 1),by omega,rfl,hlt,sg3,fun b o z=>?_,?_⟩
   ·rw[upd_ne (ne_of_none z hD)];exact s5 _ _ (sm _ _ z)
   ·rw[List.range_succ,List.filterMap_append];simp [e]
  ·refine⟨s5 _ _ hd,n - (i + 1),by omega,rfl,hlt,sg3,sm.trans s5,?_⟩
   rw[List.range_succ,List.filterMap_append];simp [e]
 ·have e:i=n:=by omega
  subst e
  exact .inl ⟨stop H' sm,fin D H' hD sm hd⟩
theorem comp_selR {lo:Int} {n:Nat} (Sg:L2.St->Prop) (sel:Nat->Option V) (hn:n≤1000) (h0:Sg (start3 own js σ))
  (step:∀ i σ' H',i < n->Same H1 H'->Sg σ'->∀ (C:L2.St->V->Hp->Prop) (L:L2.St->Hp->Prop),(∀ σ3 v H5,Sg σ3->Same H' H5->sel i=some v->C σ3 v H5)->(∀ σ3 H5,Sg σ3->Same H' H5->sel i=none->L σ3 H5) ->
   g (.int (lo + i)) σ' H' fun σ3 H3=>tt σ3 H3 fun b H4=>if b=true then te σ3 H4 fun v H5=>C σ3 v H5 else L σ3 H4)
  (fin:∀ D H',H1 D=none->Same H1 H'->H' D=some (.lst ((List.range n).filterMap sel))->Q (.ref D) H'):CompGo own js g tt te σ Q (Itr lo n) H1:=by
 refine comp_sel n Sg sel hn h0 (fun i H' hi s=>hi) (fun H' s=>Nat.le_refl _) (fun i x σ' H' H2 hi s hy sg C L hC hL=>?_) fin
 obtain⟨rfl,rfl⟩:=hy
 exact step i σ' _ hi s sg C L hC hL
theorem comp_selE {t:Bool} {K:PySem.W.Frag} {a:Addr} {xs:List V} (hx:H1 a=some (if t=true then .tup xs else .lst xs)) (Sg:L2.St->Prop) (sel:Nat->Option V) (hn:xs.length≤1000) (h0:Sg (start3 own js σ))
  (step:∀ i x T σ' H',xs[i]?=some x->Same H1 H'->H' T=none->Sg σ'->∀ (C:L2.St->V->Hp->Prop) (L:L2.St->Hp->Prop),(∀ σ3 v H5,Sg σ3->Same H' H5->sel i=some v->C σ3 v H5)->(∀ σ3 H5,Sg σ3->Same H' H5->sel i=none->L σ3 H5) ->
   g (.ref T) σ' (upd H' T (.tup [.int (i:Nat),x])) fun σ3 H3=>tt σ3 H3 fun b H4=>if b=true then te σ3 H4 fun v H5=>C σ3 v H5 else L σ3 H4)
  (fin:∀ D H',H1 D=none->Same H1 H'->H' D=some (.lst ((List.range xs.length).filterMap sel))->Q (.ref D) H'):CompGo own js g tt te σ Q (Itn t K a) H1:=by
 have s1:∀ H',Same H1 H'->SqX t K H' a xs:=fun H' s=>SqX.of (s _ _ hx)
 refine comp_sel xs.length Sg sel hn h0 (fun i H' hi s=>⟨xs,xs[i],s1 H' s,by simp [hi]⟩) (fun H' s=>⟨xs,s1 H' s,Nat.le_refl _⟩) (fun i x σ' H' H2 hi s hy sg C L hC hL=>?_) fin
 obtain⟨T,y,hT,rfl,rfl,e⟩:=hy
 exact step i y T σ' H' (e _ (s1 H' s)) s hT sg C L hC hL
end
end L3
namespace Far
variable {A:List (Nat × Nat × Int)} {s:Nat}
def Con (A:List (Nat × Nat × Int)) (s v:Nat):Prop:=∃ x,Walk A s v x
noncomputable def rB (A:List (Nat × Nat × Int)) (s v:Nat):Bool:=@decide (Con A s v) (Classical.propDecidable _)
noncomputable def rN (A:List (Nat × Nat × Int)) (n s:Nat):List Nat:=(List.range n).filter (rB A s)
noncomputable def isHd (A:List (Nat × Nat × Int)) (n p:Nat):Bool:=decide ((rN A n p).head?=some p)
noncomputable def pcs (A:List (Nat × Nat × Int)) (n:Nat):List (List Nat):=((List.range n).filter (isHd A n)).map (rN A n)
end Far
namespace L3
open PySem PySem.Spec PyProof.Rows L2
def natV (ns:List Nat):List V:=ns.map fun v:Nat=>V.int (v:Int)
theorem natV_keep (ns:List Nat):natV ns=(keepI ns).map V.int:=by unfold natV keepI;rw[List.map_map];rfl
theorem sel_nats (p:Nat->Bool):∀ is:List Nat,is.filterMap (fun i=>if p i=true then some (V.int (i:Int)) else none)=natV (is.filter p)
 | []=>rfl
 | i::r=>by
  rw[List.filterMap_cons,List.filter_cons]
  cases e:p i with
  | true=>rw[if_pos rfl,if_pos rfl,sel_nats p r];rfl
  | false=>rw[if_neg Bool.false_ne_true,if_neg Bool.false_ne_true,sel_nats p r]
theorem inV_nat {a:Int} (h:0≤a) (ns:List Nat):inV (.int a) (natV ns)=decide (a.toNat ∈ ns):=by
 unfold inV natV
 rw[List.any_map,Bool.eq_iff_iff,List.any_eq_true,decide_eq_true_iff]
 constructor
 ·rintro ⟨v,hv,e⟩
  have e':((v:Int) == a)=true:=e
  have:(v:Int)=a:=by simpa using e'
  have e2:a.toNat=v:=by omega
  rw[e2];exact hv
 ·intro m
  exact⟨_,m,show (((a.toNat:Nat):Int) == a)=true by rw[Int.toNat_of_nonneg h];simp⟩
theorem flat_nat (ns:List Nat):(natV ns).all flatV=true:=by
 unfold natV;rw[List.all_map];exact List.all_eq_true.mpr fun _ _=>rfl
end L3
namespace Srt
open PySem PySem.Spec PyProof.Rows PySem.W
section
variable {prog:Program} {w:World} {A:Around} {E:Value->Shared->Prop} {s:Shared}
/-- sorted(x), x what collect makes vs of -/
theorem sorted_any {x:Value} {vs:List Value} {Q:Value->Shared->Prop} {r:Nat->Int} {κ:SortKind} (h64:vs.length < 64)
  (hcol:∀ (A':Around) (E':Value->Shared->Prop) (Q':List Value->Shared->Prop),(∀ h',(∀ b o,s.heap.get? b=some o->h'.get? b=some o)->Q' vs { s with heap:=h' })->wpAny (model prog w) A' (collect x) Q' E' s)
  (hk:2≤vs.length->∀ (A':Around) (s':Shared) (Q:SortKind->Shared->Prop),(∀ b o,s.heap.get? b=some o->s'.heap.get? b=some o)->Q κ s'->wpAny (model prog w) A' (keyKind' vs.toArray) Q (fun _ _=>False) s')
  (hc:∀ (A':Around) (s':Shared) (i j:Nat) (C:Bool->Shared->Prop),(∀ b o,s.heap.get? b=some o->s'.heap.get? b=some o)->i < vs.length->j < vs.length->C (decide (r i < r j)) s'->kas_ask prog w A' κ vs i j C s')
  (h:∀ (p:Array Nat) (h':Heap) (c:Nat) (g:Heap),Gd vs.length p->Up r p vs.length->(∀ b o,s.heap.get? b=some o->g.get? b=some o)->(∀ b o,g.get? b=some o->h'.get? b=some o)->h'.get? g.objs.size=some (seqObj "list" (outOf vs p).toArray c)->Q (.ref g.objs.size) { s with heap:=h' }) :
  wpAny (model prog w) A (call (.builtin "sorted") [x]) Q E s:=by
 have line:(64:Nat)≤sizeLine:=by rw[sizeLine_eq];decide
 refine Calls.call_function_entry kind_sorted plain_sorted entry_sorted (args_sorted1 _) ?_
 unfold Builtin.«sorted»
 refine wpAny_bind (m:=checkCount "sorted" 1 1 _) (wpAny_pure (wpAny_bind (hcol _ _ _ fun g k1=>wpAny_bind (wpAny_newList ?_ (by omega)))))
 have hoL:(g.push { cls:=.type "list",data:=.seq vs.toArray }).get? g.objs.size=some (seqObj "list" vs.toArray 0):=Heap.get?_push_size _ rfl
 have k2:∀ b o,s.heap.get? b=some o->(g.push { cls:=.type "list",data:=.seq vs.toArray }).get? b=some o:=fun b o q=>Heap.get?_push_of_some _ (k1 b o q)
 have ne:∀ b o,s.heap.get? b=some o->b≠g.objs.size:=fun b o q=>Nat.ne_of_lt (Heap.lt_size (k1 b o q))
 have ne2:∀ b o,g.get? b=some o->b≠g.objs.size:=fun b o q=>Nat.ne_of_lt (Heap.lt_size q)
 show wpAny _ _ _ _ _ { s with heap:=g.push { cls:=.type "list",data:=.seq vs.toArray } }
 refine wpAny_bind (wpAny_holding (wpAny_call_entry slot_list_sort ⟨_,hoL,rfl⟩ entry_list_sort ?_ (args_list_sort _)))
 refine lsort (s:={ s with heap:=g.push { cls:=.type "list",data:=.seq vs.toArray } }) (r:=r) (κ:=κ) hoL h64 (fun h2 s' Q' st q=>hk h2 _ s' Q' (fun b o e=>st b o (ne b o e) (k2 b o e)) q)
  (fun s' i j C st hi hj q=>hc _ s' i j C (fun b o e=>st b o (ne b o e) (k2 b o e)) hi hj q) fun p h' c g1 u1 st e=>⟨_,rfl,?_⟩
 exact wpAny_pure ⟨_,rfl,h p h' c g g1 u1 k1 (fun b o q=>st b o (ne2 b o q) (Heap.get?_push_of_some _ q)) e⟩
end
end Srt
namespace HT
open PySem PyProof.Rows
section
variable {prog:Program} {w:World} {A:Around} {E:Value->Shared->Prop} {s:Shared}
end
section
variable {prog:Program} {w:World} {A:Around} {E:Value->Shared->Prop} {s:Shared}
end
end HT
namespace L3
open PySem PySem.Spec PyProof.Rows L2
section
variable {X:Cx}
/-- sorted(t), t a tuple of whole numbers -/
theorem call_sortedIT:CallR X (.builtin "sorted") (fun xs H Q=>∃ p ns,xs=[.ref p]∧H p=some (.tup (ns.map V.int))∧ns.length < 64∧∀ ms:List Int,ms.Perm ns->ms.Pairwise (·≤·)->∀ l H',Same H H'->H l=none->H' l=some (.lst (ms.map V.int))->Q (.ref l) H'):=by
 intro pins s σ H xs us Q I r h
 obtain⟨p,ns,rfl,hq,h64,q⟩:=h
 obtain⟨u,rfl,rx⟩:=vals1 r
 cases rx
 obtain⟨its,rv,pl,hz⟩:=I.tuple (SqT.of hq)
 have hl:=rv.length
 rw[List.length_map] at hl
 have hI:IntsAre its ns:=intsAre_of rv
 have line:(64:Nat)≤sizeLine:=by rw[sizeLine_eq];decide
 obtain⟨o,ho,hc,n,hd⟩:=id pl
 refine Srt.sorted_any (vs:=its) (r:=fun i=>ns.getD i 0) (κ:=oneType') (by omega) (fun A' E' Q' hQ=>?_) (fun h2 A' s' Q' _ q'=>Srt.int_kind hI h2 q') (fun A' s' i j C _ hi hj q'=>Srt.int_ask hI hi hj q') fun pp h' c gg g u kg kp e=>?_
 ·refine wpAny_collect_seq p (.inr rfl) ho hc hd (fun h' hk=>?_) (by rw[List.size_toArray];omega)
  exact hQ h' hk
 have g':Srt.Gd ns.length pp:=by rw[hl];exact g
 have u':Srt.Up (fun i=>ns.getD i 0) pp ns.length:=by rw[hl];exact u
 have pm:(pp.toList.map fun i=>ns.getD i 0).Perm ns:=by
  have:=gd_perm g' fun i=>ns.getD i 0
  rw[range_getD] at this
  exact this
 have pw:(pp.toList.map fun i=>ns.getD i 0).Pairwise (·≤·):=by
  rw[List.pairwise_map]
  exact up_pair g' u' fun i j _ _ z=>z
 have I1:Inv X pins σ H { s with heap:=gg,toks:=s.toks }:=I.kept (t':=s.toks) kg
 have fr:H gg.objs.size=none:=I1.hok.fresh (Nat.le_refl _)
 have ev:((pp.toList.map fun i=>ns.getD i 0).map V.int)=pp.toList.map fun i=>(ns.map V.int).getD i .non:=by
  rw[List.map_map]
  refine List.map_congr_left fun i hi=>?_
  have:=gd_mem g' i hi
  simp [List.getD,this]
 refine⟨.ref gg.objs.size,_,I1.laid (a:=gg.objs.size) (o:=.lst ((pp.toList.map fun i=>ns.getD i 0).map V.int)) (t':=s.toks) kp (Nat.le_refl _) ⟨?_,Srt.outOf its pp,c,?_,e⟩,rfl,q _ pm pw _ _ (same_new fr) fr upd_same⟩
 ·have:=pm.length_eq
  rw[List.length_map,this];omega
 ·rw[ev]
  exact vals_out rv pp.toList fun i hi=>by rw[List.length_map];exact gd_mem g' i hi
end
section
variable {g:TG} {tt:TT} {te:TE} {own:List Str} {js:List Nat} {σ:L2.St} {H1:Hp} {Q:VK}
theorem comp_selT {K:PySem.W.Frag} {a:Addr} {xs:List V} (hx:H1 a=some (.tup xs)) (Sg:L2.St->Prop) (sel:Nat->Option V) (hn:xs.length≤1000) (h0:Sg (start3 own js σ))
  (step:∀ i x σ' H',xs[i]?=some x->Same H1 H'->Sg σ'->∀ (C:L2.St->V->Hp->Prop) (L:L2.St->Hp->Prop),(∀ σ3 v H5,Sg σ3->Same H' H5->sel i=some v->C σ3 v H5)->(∀ σ3 H5,Sg σ3->Same H' H5->sel i=none->L σ3 H5) ->
   g x σ' H' fun σ3 H3=>tt σ3 H3 fun b H4=>if b=true then te σ3 H4 fun v H5=>C σ3 v H5 else L σ3 H4)
  (fin:∀ D H',H1 D=none->Same H1 H'->H' D=some (.lst ((List.range xs.length).filterMap sel))->Q (.ref D) H'):CompGo own js g tt te σ Q (Itt K a) H1:=by
 refine comp_sel xs.length Sg sel hn h0 (fun i H' hi s=>⟨xs,xs[i],SqT.of (s _ _ hx),by simp [hi]⟩) (fun H' s=>⟨xs,SqT.of (s _ _ hx),Nat.le_refl _⟩) (fun i x σ' H' H2 hi s hy sg C L hC hL=>?_) fin
 obtain⟨rfl,hy⟩:=hy
 exact step i x σ' _ (hy xs (SqT.of (s _ _ hx))) s sg C L hC hL
end
theorem nat_at {ns:List Nat} {i:Nat} {x:V} (h:(natV ns)[i]?=some x):∃ k,ns[i]?=some k∧x=.int (k:Int):=by
 rw[natV_keep] at h;exact keep_at h
end L3
namespace Far
variable {A:List (Nat × Nat × Int)} {s:Nat}
/-- the places ahead -/
structure Ahd (A:List (Nat × Nat × Int)) (s:Nat) (cs:List (Option (Int × Int))) (as:List (Option Nat)):Prop where
 len:as.length=cs.length
 root:get as s=none
 has:∀ v c,get cs v=some c->v≠s->get as v≠none
 arc:∀ v u,get as v=some u->∃ l cu cv,(u,v,l) ∈ A∧get cs u=some cu∧get cs v=some cv∧cu.1 + l≤cv.1
/-- a way, as a list from its start -/
inductive Tr (A:List (Nat × Nat × Int)) (a:Nat):List Nat->Nat->Int->Prop
 | one:Tr A a [a] a 0
 | snoc {ws:List Nat} {u v:Nat} {x l:Int}:Tr A a ws u x->(u,v,l) ∈ A->Tr A a (ws++[v]) v (x + l)
end Far
namespace L3
open PySem PySem.Spec PyProof.Rows L2
def oa:Option Nat->V
 | none=>.non
 | some u=>.int (u:Int)
structure RA (H J:Hp) (lw lc la:Addr) (ws:List V) (cs:List (Option (Int × Int))) (as:List (Option Nat)):Prop where
 same:Same H J
 fc:H lc=none
 fa:H la=none
 nwc:lw≠lc
 nwa:lw≠la
 nca:lc≠la
 wl:J lw=some (.lst ws)
 co:∃ cvs,J lc=some (.lst cvs)∧CostL J cvs cs
 ah:J la=some (.lst (as.map oa))
section
variable {H H' J J':Hp} {vs cvs ws:List V} {cs:List (Option (Int × Int))} {as:List (Option Nat)} {lw lc la t:Addr} {k:Nat} {x y:Int}
end
def isTB (ts:List Tie) (u v:Nat) (k:Nat):Bool:=decide ((tieAt ts k).1=min (u:Int) v) && decide ((tieAt ts k).2.1=max (u:Int) v)
def tbN (ts:List Tie) (u v:Nat):Option Nat:=(List.range ts.length).find? (isTB ts u v)
def tlen (ts:List Tie) (u v:Nat):Int:=(tieAt ts ((tbN ts u v).getD 0)).2.2
def wl (ts:List Tie):List Nat->Int
 | u::v::r=>tlen ts u v + wl ts (v::r)
 | _=>0
def spTB (K:PySem.W.Frag):Sp:=fun vs H Q _=>∃ (n:Int) (ts:List Tie) (wv:V) (u v:Nat),vs=[wv,.int (u:Int),.int (v:Int)]∧Is K H (webD n ts) wv∧ts.length≤60∧∀ H',Same H H'->Q (oa (tbN ts u v)) H'
theorem pair_eqv (a b x y:Int):PyData.eqv (.tuple (([a,b]:List Int).map .int)) (.tuple (([x,y]:List Int).map .int))=(decide (a=x) && decide (b=y)):=by
 show (_ && (_ && true))=_
 rw[Bool.and_true]
 rfl
def but (ks:List Nat) (k:Nat):List Nat:=ks.filter fun j=>decide (j≠k)
theorem but_ok {m:Nat} {ks:List Nat} {k:Nat} (h:KeepOk m ks):KeepOk m (but ks k):=⟨h.1.sublist List.filter_sublist,fun j hj=>h.2 j (List.mem_filter.mp hj).1⟩
theorem sel_list (p:Nat->Bool) (ks:List Nat):(List.range ks.length).filterMap (fun i=>if p (ks.getD i 0)=true then some (V.int ((ks.getD i 0:Nat):Int)) else none)=natV (ks.filter p):=by
 have e:=congrArg (List.filterMap fun j:Nat=>if p j=true then some (V.int (j:Int)) else none) (range_getD ks 0)
 rw[List.filterMap_map] at e
 exact e.trans (sel_nats p ks)
def spWithout (K:PySem.W.Frag):Sp:=fun vs H Q _=>∃ (m:Nat) (ks:List Nat) (kv:V) (k:Nat),vs=[kv,.int (k:Int)]∧Is K H (keepD ks) kv∧KeepOk m ks∧m≤60∧∀ p H',Same H H'->H' p=some (.tup (natV (but ks k)))->Q (.ref p) H'
end L3
namespace L3
open PySem PySem.Spec PyProof.Rows L2
theorem best_mostM (val:Nat->Int):∀ k,argBest (fun i j=>decide (val i > val j)) k≤k∧∀ i,i≤k->val i≤val (argBest (fun i j=>decide (val i > val j)) k)
 | 0=>⟨Nat.le_refl _,fun i hi=>by rw[show i=0 by omega];exact Int.le_refl _⟩
 | k + 1=>by
  obtain⟨h1,h2⟩:=best_mostM val k
  show (if decide (val (k + 1) > val (argBest _ k))=true then k + 1 else argBest _ k)≤k + 1∧∀ i,i≤k + 1->val i≤val (if decide (val (k + 1) > val (argBest _ k))=true then k + 1 else argBest _ k)
  by_cases c:val (k + 1) > val (argBest (fun i j=>decide (val i > val j)) k)
  ·rw[if_pos (decide_eq_true c)]
   refine⟨Nat.le_refl _,fun i hi=>?_⟩
   rcases Nat.lt_or_ge i (k + 1) with z | z
   ·have:=h2 i (by omega);omega
   ·rw[show i=k + 1 by omega];exact Int.le_refl _
  ·rw[if_neg (fun z=>c (of_decide_eq_true z))]
   refine⟨by omega,fun i hi=>?_⟩
   rcases Nat.lt_or_ge i (k + 1) with z | z
   ·exact h2 i (by omega)
   ·rw[show i=k + 1 by omega];omega
end L3
namespace Far
def sumP:List Nat->Nat
 | []=>0
 | k::r=>2 ^ k + sumP r
abbrev Arc:=Nat × Nat × Int × Nat
inductive Rt (B:List Arc) (a:Nat):List Nat->List Nat->Nat->Int->Int->Prop
 | one:Rt B a [a] [] a 0 0
 | snoc {ws S:List Nat} {u v:Nat} {x y l:Int} {k:Nat}:Rt B a ws S u x y->(u,v,l,k) ∈ B->v ∉ ws->Rt B a (ws++[v]) (S++[k]) v (x + l) (y + 2 ^ k)
structure Keys (B:List Arc):Prop where
 sym:∀ u v l k,(u,v,l,k) ∈ B->(v,u,l,k) ∈ B
 key:∀ u v l u' v' l' k,(u,v,l,k) ∈ B->(u',v',l',k) ∈ B->l'=l∧((u'=u∧v'=v)∨(u'=v∧v'=u))
 ne:∀ u v l k,(u,v,l,k) ∈ B->u≠v
 pos:∀ u v l k,(u,v,l,k) ∈ B->1≤l
 few:∀ u v l k,(u,v,l,k) ∈ B->k < 60
variable {B:List Arc} {a b:Nat} {ws S:List Nat} {x y:Int}
end Far
namespace Far
structure Best (B:List Arc) (n s:Nat) (cs:List (Option (Int × Int))) (as:List (Option Nat)):Prop where
 len:cs.length=n
 alen:as.length=n
 start:get cs s=some (0,0)
 root:get as s=none
 has:∀ v c,get cs v=some c->v≠s->get as v≠none
 nn:∀ v c,get cs v=some c->0≤c.1
 stab:∀ u v l k c,(u,v,l,k) ∈ B->get cs u=some c->∃ c',get cs v=some c'∧¬ lt2 (c.1 + l,c.2 + 2 ^ k) c'
 arc:∀ v u,get as v=some u->∃ l k cu,(u,v,l,k) ∈ B∧get cs u=some cu∧get cs v=some (cu.1 + l,cu.2 + 2 ^ k)
/-- the way by the tree, from its root -/
inductive TPw (as:List (Option Nat)) (s:Nat):List Nat->Nat->Prop
 | root:TPw as s [s] s
 | step {ws:List Nat} {u v:Nat}:get as v=some u->TPw as s ws u->TPw as s (ws++[v]) v
section
variable {B:List Arc} {n s:Nat} {cs:List (Option (Int × Int))} {as:List (Option Nat)}
end
/-- lengths and powers in one number -/
def comb (c:Int × Int):Int:=c.1 * 2 ^ 61 + c.2
def arcsC (B:List Arc):List (Nat × Nat × Int):=B.map fun b=>(b.1,b.2.1,b.2.2.1 * 2 ^ 61 + 2 ^ b.2.2.2)
section
variable {B:List Arc} {n s:Nat} {cs:List (Option (Int × Int))} {as:List (Option Nat)}
end
end Far
namespace Far
variable {B:List Arc} {A:List (Nat × Nat × Int)} {n s:Nat}
structure Run (B:List Arc) (s:Nat) (cs:List (Option (Int × Int))) (as:List (Option Nat)):Prop where
 len:as.length=cs.length
 start:get cs s=some (0,0)
 root:get as s=none
 has:∀ v c,get cs v=some c->v≠s->get as v≠none
 arc:∀ v u,get as v=some u->∃ l k cu cv,(u,v,l,k) ∈ B∧get cs u=some cu∧get cs v=some cv∧¬ lt2 cv (cu.1 + l,cu.2 + 2 ^ k)
def Stab2 (B:List Arc) (cs:List (Option (Int × Int))):Prop:=∀ u v l k c,(u,v,l,k) ∈ B->get cs u=some c->∃ c',get cs v=some c'∧¬ lt2 (c.1 + l,c.2 + 2 ^ k) c'
def PS2 (c0:List (Option (Int × Int))) (R:Arc->Prop) (cs:List (Option (Int × Int))) (ag:Bool):Prop :=
 (ag=false∧cs=c0∧∀ u v l k c,R (u,v,l,k)->get c0 u=some c->∃ c',get c0 v=some c'∧¬ lt2 (c.1 + l,c.2 + 2 ^ k) c')∨(ag=true∧mu cs < mu c0)
def plusA (R:Arc->Prop) (a:Arc):Arc->Prop:=fun b=>R b∨b=a
section
variable {c0 cs:List (Option (Int × Int))} {R R':Arc->Prop} {ag:Bool} {u v k:Nat} {l:Int}
end
/-- how many places are nearer -/
def nearer (n:Nat) (cs:List (Option (Int × Int))) (d:Int):Nat:=(List.range n).countP fun v=>match get cs v with | none=>false | some c=>decide (c.1 < d)
end Far
namespace Far
def arcsF (B:List Arc):List (Nat × Nat × Int):=B.map fun b=>(b.1,b.2.1,b.2.2.1)
section
variable {B:List Arc} {n s:Nat} {cs:List (Option (Int × Int))} {as:List (Option Nat)} {a b:Nat} {ws S:List Nat} {x y:Int}
/-- the least of the routes from a to b -/
structure Uni (B:List Arc) (a b:Nat) (ws S:List Nat) (x y:Int):Prop where
 rt:Rt B a ws S b x y
 least:∀ ws' S' x' y',Rt B a ws' S' b x' y'->¬ lt2 (x',y') (x,y)
end
end Far
namespace L3
open PySem PySem.Spec PyProof.Rows L2
def arcs2B (t:Tie) (k:Nat):List Far.Arc:=[(t.1.toNat,t.2.1.toNat,t.2.2,k),(t.2.1.toNat,t.1.toNat,t.2.2,k)]
def arcsB (ts:List Tie) (ks:List Nat):List Far.Arc:=ks.flatMap fun k=>arcs2B (tieAt ts k) k
theorem arcsB_mem {ts:List Tie} {ks:List Nat} {a:Far.Arc}:a ∈ arcsB ts ks↔∃ k,k ∈ ks∧a ∈ arcs2B (tieAt ts k) k:=by
 unfold arcsB;rw[List.mem_flatMap]
theorem arcs2B_mem {t:Tie} {k:Nat} {a:Far.Arc}:a ∈ arcs2B t k↔a=(t.1.toNat,t.2.1.toNat,t.2.2,k)∨a=(t.2.1.toNat,t.1.toNat,t.2.2,k):=by
 unfold arcs2B;simp
end L3
namespace HT
open PySem PyProof.Rows
section
variable {prog:Program} {w:World} {A:Around} {E:Value->Shared->Prop} {s:Shared}
/-- what set(..) of ns holds, how many -/
abbrev setS (ns:List Int) (m:Nat):Int->Bool:=fun x=>(firstMet (fun i=>ns.getD i 0) m).any fun y=>y == x
abbrev setN (ns:List Int) (m:Nat):Nat:=(firstMet (fun i=>ns.getD i 0) m).length
theorem tup_push {h:Heap} {t:Addr} {xs:Array Value} (it:h.IsTuple t xs) (o:Obj):(h.push o).IsTuple t xs:=let ⟨ob,e,r⟩:=it;⟨ob,Heap.get?_push_of_some _ e,r⟩
/-- a set just made -/
abbrev seto (led:Bool):Obj:={ cls:=.type "set",dict:=none,data:=.set #[] 0 (.fresh 0 0 led) }
/-- set(t), t a tuple of whole numbers -/
theorem call_set_tup {t:Addr} {xs:Array Value} {ns:List Int} {Q:Value->Shared->Prop} (hh:A.handled=none) (ht:s.heap.IsTuple t xs) (hi:IntsAre xs.toList ns) (hb:xs.size + 1 < scanBound)
  (h:∀ (h':Heap) (tk:Nat),h'.SetOf (intKind prog w) s.heap.objs.size (setS ns xs.size) (setN ns xs.size)->(∀ b o,b < s.heap.objs.size->s.heap.get? b=some o->h'.get? b=some o)->Q (.ref s.heap.objs.size) { s with heap:=h',toks:=tk }) :
  wpAny (model prog w) A (call (.type "set") [.ref t]) Q E s:=by
 obtain⟨c,tl,hmro⟩:=PySem.F.called_set.mro
 have hmade:=PySem.F.called_set.made;have hsub:=PySem.F.called_set.sub
 refine wpAny_call (codeAny_of_tree ?_);show wpAny _ _ (callAny (.type "set") _) _ _ _
 refine wpAny_pure ⟨Code.quiet_builtin _ (by decide +kernel),codeAny_builtin PySem.F.entry_type_call ?_⟩
 rw[Around.under_plain (PySem.weight_type_call_type "set" [.ref t] []) rfl]
 have h1:=PySem.F.called_set.notType;have h2:=PySem.F.called_set.canCreate;have hct:=PySem.F.typeCall_set_1 (.ref t)
 repeat (any_goals (first | assumption | wp_step))
 refine codeAny_mono (PySem.code_set_new_1 (.ref t) (E:=E) (Q₁:=fun obj s₁=>∃ led:Bool,obj=.ref s.heap.objs.size∧s₁={ s with heap:=s.heap.push (seto led) }) fun led=>⟨led,rfl,rfl⟩) fun r s₁ hr=>?_
 match r,hr with
 | .error e,hr=>exact hr
 | .ok .next,hr=>exact hr.elim
 | .ok .brk,hr=>exact hr.elim
 | .ok .cont,hr=>exact hr.elim
 | .ok (.ret obj),hr =>
  obtain⟨led,rfl,rfl⟩:=hr
  have gS:(s.heap.push (seto led)).get? s.heap.objs.size=some (seto led):=Heap.get?_push_size _ rfl
  have hT:Shared.TypeIs { s with heap:=s.heap.push (seto led) } (.ref s.heap.objs.size) "set":=⟨_,gS,rfl⟩
  have hli:=PySem.F.called_set.init.lookup;have hbi:=PySem.F.called_set.init.bind (.ref s.heap.objs.size)
  repeat (any_goals (first | assumption | wp_step))
  refine codeAny_mono (codeAny_call_builtin (R:=wants (fun r s₂=>r=.none∧∃ h' tk,s₂={ s with heap:=h',toks:=tk }∧h'.SetOf (intKind prog w) s.heap.objs.size (setS ns xs.size) (setN ns xs.size)∧(∀ b o,b < s.heap.objs.size->s.heap.get? b=some o->h'.get? b=some o)) E) PySem.F.called_set.init.plain PySem.F.entry_set_init (PySem.check_set_init_1 hT ?_)) fun r₂ s₂ hr₂=>?_
  ·obtain⟨ot,ho,hc,m,hd⟩:=id ht
   obtain⟨ocls,odict,odata,oslots⟩:=ot
   simp only at hc hd;subst hc hd
   have ho':(s.heap.push (seto led)).get? t=some { cls:=.type "tuple",dict:=odict,data:=.seq xs m,slots:=oslots }:=Heap.get?_push_of_some _ ho
   have f1:=PySem.F.sub_tuple_set;have f2:=PySem.F.sub_tuple_frozenset
   have f3:(Value.type "tuple" == Value.type "dict")=false:=by decide
   have it1:(s.heap.push (seto led)).IsTuple t xs:=⟨_,ho',rfl,m,rfl⟩
   unfold Builtin.«set.__init__» noKeywords Builtin.Frozenset.updateFrom
   generalize hPI:pyIter=PI
   wp_walk;subst hPI
   refine wpAny_pyIter_tuple it1 (wpAny_bind (wpAny_runValue ?_))
   have lt:t < s.heap.objs.size:=Heap.lt_size ho
   have hh3:A.in1.in1.in1.handled=none:=by simp [hh]
   have sz1:(s.heap.push (seto led)).objs.size=s.heap.objs.size + 1:=Heap.size_push ..
   have tI:t≠(s.heap.push (seto led)).objs.size:=by rw[sz1];exact Nat.ne_of_lt (Nat.lt_succ_of_lt lt)
   have Sfp:s.heap.objs.size ∉ [(s.heap.push (seto led)).objs.size,t]:=by
    rw[sz1];simp only [List.mem_cons,List.not_mem_nil,or_false,not_or];exact⟨Nat.ne_of_lt (Nat.lt_succ_self _),(Nat.ne_of_lt lt).symm⟩
   have vals:∀ (i:Nat) (v:Value),xs[i]?=some v->∃ u,v=.int ((fun i=>ns.getD i 0) i) u:=fun i v hv=>IntsAre.int_at hi i v (by rw[Array.getElem?_toList];exact hv)
   refine codeAny_set_update_loopS ((Walks.tuple hh3 _ t tI xs).toS) s.heap.objs.size Sfp (fun i=>ns.getD i 0) vals hb (xs.size - 0) 0 _ (by omega) (Nat.zero_le _) ?st ?s0 ?fin
   case st=>exact⟨⟨_,Heap.get?_push_size _ rfl,rfl,rfl⟩,tup_push it1 _⟩
   case s0=>exact SetOf_congr ((setObjOf_fresh (knd:=intKind prog w) led).setOf (Heap.get?_push_of_some _ gS) (by unfold scanBound;omega)) (fun _=>rfl) rfl
   case fin =>
    rintro ⟨h',g',d',tk',os'⟩ hm hS'
    obtain rfl:g'=s.gens:=hm.gens
    obtain rfl:d'=s.drawn:=hm.drawn
    obtain rfl:os'=s.os:=hm.os
    refine wpAny_pure (wpAny_pure ⟨rfl,h',tk',rfl,hS',fun b o hlt e=>hm.heap b o ?_ (Heap.get?_push_of_some _ (Heap.get?_push_of_some _ e))⟩)
    rw[sz1];simp only [List.mem_cons,List.not_mem_nil,or_false,not_or]
    exact⟨Nat.ne_of_lt hlt,Nat.ne_of_lt (Nat.lt_succ_of_lt hlt)⟩
  ·match r₂,hr₂ with
   | .error e,hr₂=>exact hr₂
   | .ok .next,hr₂=>exact hr₂.elim
   | .ok .brk,hr₂=>exact hr₂.elim
   | .ok .cont,hr₂=>exact hr₂.elim
   | .ok (.ret v),hr₂ =>
    obtain⟨rfl,h',tk,rfl,hS',hk⟩:=hr₂
    repeat (any_goals (first | assumption | wp_step))
    exact h h' tk hS' hk
end
end HT
namespace L3
open PySem PySem.Spec PyProof.Rows L2
theorem firstMet_full (val:Nat->Int):∀ i,(firstMet val i).length=i↔((List.range i).map val).Nodup
 | 0=>by rw[firstMet_zero];simp
 | i + 1=>by
  have ih:=firstMet_full val i
  have le:=firstMet_length_le val i
  have an:=firstMet_any val i (val i)
  rw[firstMet_succ,List.range_succ,List.map_append,List.nodup_append]
  unfold step_dedup
  by_cases c:(firstMet val i).any (fun y=>y == val i)=true
  ·rw[if_pos c]
   constructor
   ·intro z;omega
   ·rintro ⟨_,_,z⟩
    rw[an,List.any_eq_true] at c
    obtain⟨y,hy,e⟩:=c
    exact absurd (by simpa using e) (z y hy (val i) (by simp))
  ·rw[if_neg c,List.length_append,List.length_singleton]
   constructor
   ·intro z
    refine⟨ih.mp (by omega),by simp,fun a ha b hb e=>c ?_⟩
    rw[an,List.any_eq_true]
    have:b=val i:=by simpa using hb
    exact⟨a,ha,by rw[e,this];simp⟩
   ·rintro ⟨z,_⟩
    rw[ih.mpr z]
theorem setN_nodup (ns:List Int):HT.setN ns ns.length=ns.length↔ns.Nodup:=by
 have:=firstMet_full (fun i=>ns.getD i 0) ns.length
 rw[range_getD] at this
 exact this
section
variable {X:Cx}
theorem call_setT (hh:X.calm=true):CallR X (.type "set") (fun xs H Q=>∃ (p:Addr) (ns:List Int),xs=[.ref p]∧H p=some (.tup (ns.map V.int))∧ns.length≤1000∧∀ q H',Same H H'->H q=none->H' q=some (.set (HT.setS ns ns.length) (HT.setN ns ns.length))->Q (.ref q) H'):=by
 intro pins s σ H xs us Q I r h
 obtain⟨p,ns,rfl,hp,hl,q⟩:=h
 obtain⟨u,rfl,rx⟩:=vals1 r
 cases rx
 obtain⟨its,rv,pt,hz⟩:=I.tuple (SqT.of hp)
 have hlen:=rv.length
 rw[List.length_map] at hlen
 have fr:H s.heap.objs.size=none:=I.hok.fresh (Nat.le_refl _)
 have esz:its.toArray.size=ns.length:=by rw[List.size_toArray,← hlen]
 refine HT.call_set_tup (ns:=ns) (I.ok.hd hh) (show s.heap.IsTuple p its.toArray from pt) (by simpa using intsAre_of rv) (by rw[esz];unfold scanBound;omega) fun h' tk hS hk=>?_
 rw[esz] at hS
 exact⟨.ref s.heap.objs.size,_,I.laid (a:=s.heap.objs.size) (o:=.set (HT.setS ns ns.length) (HT.setN ns ns.length)) (t':=tk) (fun b o e=>hk b o (Heap.lt_size e) e) (Nat.le_refl _) hS,rfl,q _ _ (same_new fr) fr upd_same⟩
theorem call_lenS:CallR X (.builtin "len") (fun xs H Q=>∃ (p:Addr) (S:Int->Bool) (n:Nat),xs=[.ref p]∧H p=some (.set S n)∧Q (.int (n:Int)) H):=by
 intro pins s σ H xs us Q I r h
 obtain⟨p,S,n,rfl,hp,q⟩:=h
 obtain⟨u,rfl,rx⟩:=vals1 r
 cases rx
 obtain⟨o,es,ep,t,ho,hex,hd,_,_,hb,hf,hn⟩:=(show ObjOk X.prog X.w H s.heap p (.set S n) from I.hok p _ hp)
 refine call_len_set ho hex hd hf (by unfold scanBound at hb;omega) ⟨.int (n:Int),H,I.tok _,⟨s.toks + 1,by rw[hn]⟩,q⟩
end
end L3
namespace L3
open PySem PySem.Spec PyProof.Rows L2
theorem best_least (val:Nat->Int):∀ k,argBest (fun i j=>decide (val i < val j)) k≤k∧∀ i,i≤k->val (argBest (fun i j=>decide (val i < val j)) k)≤val i
 | 0=>⟨Nat.le_refl _,fun i hi=>by rw[show i=0 by omega];exact Int.le_refl _⟩
 | k + 1=>by
  obtain⟨h1,h2⟩:=best_least val k
  show (if decide (val (k + 1) < val (argBest _ k))=true then k + 1 else argBest _ k)≤k + 1∧∀ i,i≤k + 1->val (if decide (val (k + 1) < val (argBest _ k))=true then k + 1 else argBest _ k)≤val i
  by_cases c:val (k + 1) < val (argBest (fun i j=>decide (val i < val j)) k)
  ·rw[if_pos (decide_eq_true c)]
   refine⟨Nat.le_refl _,fun i hi=>?_⟩
   rcases Nat.lt_or_ge i (k + 1) with z | z
   ·have:=h2 i (by omega);omega
   ·rw[show i=k + 1 by omega];exact Int.le_refl _
  ·rw[if_neg (fun z=>c (of_decide_eq_true z))]
   refine⟨by omega,fun i hi=>?_⟩
   rcases Nat.lt_or_ge i (k + 1) with z | z
   ·exact h2 i (by omega)
   ·rw[show i=k + 1 by omega];omega
/-- min of a list of whole numbers -/
theorem call_minL {X:Cx} (hh:X.calm=true):CallR X (.builtin "min") (fun xs H Q=>∃ (p:Addr) (ns:List Int),xs=[.ref p]∧H p=some (.lst (ns.map V.int))∧ns≠[]∧∀ b,b ∈ ns->(∀ x ∈ ns,b≤x)->Q (.int b) H):=by
 intro pins s σ H xs us Q I r h
 obtain⟨p,ns,rfl,hq,hne,q⟩:=h
 obtain⟨u,rfl,rx⟩:=vals1 r
 cases rx
 obtain⟨its,rv,pl,hz⟩:=I.list (SqL.of hq)
 have hl:=rv.length
 rw[List.length_map] at hl
 have hI:IntsAre its ns:=intsAre_of rv
 have lt:p≠s.heap.objs.size:=by obtain⟨o,e,_⟩:=pl.isList;exact Nat.ne_of_lt (Heap.lt_size e)
 refine call_min_walkS (wpAny_pyIter_list pl.isList ?_)
 have W:=(Walks.list (prog:=X.prog) (w:=X.w) (A:=X.A.in1) (show X.A.in1.handled=none from I.ok.hd hh) s.heap.objs.size p lt its.toArray).toS
 have npos:0 < ns.length:=List.length_pos_iff.mpr hne
 have esz:its.toArray.size=ns.length:=by rw[List.size_toArray,← hl]
 have hv:∀ (i:Nat) (v:Value),its.toArray[i]?=some v->∃ t,v=Value.int (ns.getD i 0) t:=fun i v hv=>IntsAre.int_at hI i v (by simpa using hv)
 refine⟨s.heap.objs.size,_,_,_,_,_,_,(fun i j=>decide (ns.getD i 0 < ns.getD j 0)),rfl,W,⟨⟨_,Heap.get?_push_size _ rfl,rfl,rfl⟩,pl.isList.push _⟩,fun b hb=>?_,by rw[esz];exact npos,CmpOf.ints_lt (fun i=>ns.getD i 0) hv,fun v s' hP hm=>?_⟩
 ·obtain⟨o,e,_⟩:=pl.isList
  have hlt:p < s.heap.objs.size:=Heap.lt_size e
  show b < (s.heap.push _).objs.size
  rw[Heap.size_push]
  simp only [List.mem_cons,List.not_mem_nil,or_false] at hb
  rcases hb with z | z
  ·rw[z];exact Nat.lt_succ_self _
  ·rw[z];exact Nat.lt_succ_of_lt hlt
 ·obtain⟨t,rfl⟩:=hv _ _ hP
  obtain⟨b1,b2⟩:=best_least (fun i=>ns.getD i 0) (its.toArray.size - 1)
  rw[Moved.eq_with hm]
  refine⟨.int _,H,I.kept (t':=s'.toks) fun b o e=>hm.heap b o (fun z=>?_) (Heap.get?_push_of_some _ e),⟨t,rfl⟩,q _ ?_ fun x hx=>?_⟩
  ·have:b=s.heap.objs.size:=by simpa using z
   exact absurd (Heap.lt_size e) (by rw[this];exact Nat.lt_irrefl _)
  ·have:argBest (fun i j=>decide (ns.getD i 0 < ns.getD j 0)) (its.toArray.size - 1) < ns.length:=by omega
   rw[List.getD_eq_getElem?_getD,List.getElem?_eq_getElem this];exact List.getElem_mem this
  ·obtain⟨i,hi,e⟩:=List.getElem_of_mem hx
   have:=b2 i (by omega)
   have g:ns.getD i 0=ns[i]:=by rw[List.getD_eq_getElem?_getD,List.getElem?_eq_getElem hi];rfl
   rw[← e,← g];exact this
end L3
namespace L3
open PySem PySem.Spec PyProof.Rows L2
end L3
namespace L3
open PySem PySem.Spec PyProof.Rows L2
theorem tie_one {n:Int} {ts:List Tie} {ks:List Nat} (ok:WebOk n ts) (ko:KeepOk ts.length ks) {u v k:Nat} {l:Int} (h:(u,v,l,k) ∈ arcsB ts ks):ks.filter (isTB ts u v)=[k]:=by
 have hk:k ∈ ks∧isTB ts u v k=true:=by
  obtain⟨j,hj,m⟩:=arcsB_mem.mp h
  have tk:=ok.tie _ (tieAt_in (ko.2 j hj)).2
  unfold isTB
  rcases arcs2B_mem.mp m with e | e <;> cases e
  ·exact⟨hj,by rw[decide_eq_true (by omega),decide_eq_true (by omega)];rfl⟩
  ·exact⟨hj,by rw[decide_eq_true (by omega),decide_eq_true (by omega)];rfl⟩
 have one:∀ j ∈ ks,isTB ts u v j=true->j=k:=fun j hj p=>by
  have q:=hk.2
  have hjl:=ko.2 j hj
  have hkl:=ko.2 k hk.1
  unfold isTB at p q
  rw[Bool.and_eq_true] at p q
  have a1:=of_decide_eq_true p.1
  have a2:=of_decide_eq_true p.2
  have b1:=of_decide_eq_true q.1
  have b2:=of_decide_eq_true q.2
  exact tie_ends ok hjl hkl (a1.trans b1.symm) (a2.trans b2.symm)
 have nd:ks.Nodup:=ko.1.imp fun h=>Nat.ne_of_lt h
 have nf:(ks.filter (isTB ts u v)).Nodup:=nd.sublist List.filter_sublist
 have mk:k ∈ ks.filter (isTB ts u v):=List.mem_filter.mpr hk
 have all:∀ j ∈ ks.filter (isTB ts u v),j=k:=fun j hj=>one j (List.mem_filter.mp hj).1 (List.mem_filter.mp hj).2
 match e:ks.filter (isTB ts u v) with
 | []=>rw[e] at mk;cases mk
 | [j]=>rw[all j (by rw[e];exact List.mem_cons_self)]
 | i::j::r =>
  rw[e] at nf all
  have h1:=all i List.mem_cons_self
  have h2:=all j (List.mem_cons_of_mem _ List.mem_cons_self)
  exact absurd (h1.trans h2.symm) (fun z=>(List.nodup_cons.mp nf).1 (by rw[z];exact List.mem_cons_self))
section
variable {own:List Str} {js:List Nat} {g:TG} {te:TE} {σ:L2.St} {Q:VK} {H1:Hp}
end
end L3
namespace L3
open PySem PySem.Spec PyProof.Rows L2
end L3
namespace L3
open PySem PySem.Spec PyProof.Rows L2
end L3
namespace HT
open PySem PyProof.Rows
section
variable {prog:Program} {w:World} {A:Around} {R:Result->Shared->Prop} {I:Addr} {fp wr:List Addr} {G:Array GenState->Array GenState->Prop} {St:Nat->Shared->Prop} {its:List Value} {ns:List Int}
end
section
variable {prog:Program} {w:World} {A:Around} {E:Value->Shared->Prop} {s:Shared}
end
end HT
namespace L3
open PySem PySem.Spec PyProof.Rows L2
end L3
namespace L3
open PySem PySem.Spec PyProof.Rows L2
section
variable {own:List Str} {js:List Nat} {g:TG} {tt:TT} {te:TE} {σ:L2.St} {Q:VK} {H1:Hp}
end
end L3
namespace L3
open PySem PySem.Spec PyProof.Rows L2
def lvl (ls:List (List Nat)) (i:Nat):List Nat:=ls.getD i []
structure LevOk (n:Nat) (ls:List (List Nat)):Prop where
 one:1≤ls.length
 six:ls.length≤6
 first:lvl ls 0=List.range n
 rise:∀ i,(lvl ls i).Pairwise (· < ·)
 inn:∀ i,∀ p ∈ lvl ls i,p < n
 down:∀ i,∀ p ∈ lvl ls (i + 1),p ∈ lvl ls i
def IsTop (ls:List (List Nat)) (w b:Nat):Prop:=b < ls.length∧w ∈ lvl ls b∧∀ i,i < ls.length->w ∈ lvl ls i->i≤b
def Bun (ls:List (List Nat)) (D:List (Option Int)) (w:Nat):Prop:=∃ x,Far.get D w=some x∧∀ b p y,IsTop ls w b->p ∈ lvl ls (b + 1)->Far.get D p=some y->x < y
noncomputable def bunB (ls:List (List Nat)) (D:List (Option Int)) (w:Nat):Bool:=@decide (Bun ls D w) (Classical.propDecidable _)
/-- how far all places are, in the web -/
def FarsOf (ts:List Tie) (n s:Nat) (D:List (Option Int)):Prop:=D.length=n∧∀ u,u < n->Far.Dst (arcs ts (List.range ts.length)) s u (Far.get D u)
def FarsT (H:Hp) (p lf:Addr) (n:Nat) (ts:List Tie):Prop:=∃ ys,H lf=some (.lst ys)∧lf≠p∧ys.length=n∧∀ i v,ys[i]?=some v->∃ l D,v=.ref l∧l≠p∧H l=some (.lst (D.map ov))∧FarsOf ts n i D
end L3
namespace HT
open PySem PyProof.Rows
section
variable {prog:Program} {w:World} {A:Around} {R:Result->Shared->Prop} {I:Addr} {fp wr:List Addr} {G:Array GenState->Array GenState->Prop} {St:Nat->Shared->Prop} {its:List Value} {ks:List (List Int)}
end
section
variable {prog:Program} {w:World} {A:Around} {E:Value->Shared->Prop} {s:Shared}
end
end HT
namespace L3
open PySem PySem.Spec PyProof.Rows L2
theorem vals_rel {xs:List V} {us:List Value} (r:Vals xs us):∀ {i:Nat} {u:Value},us[i]?=some u->∃ x,xs[i]?=some x∧RelV x u:=by
 induction r with
 | nil=>intro i u e;cases e
 | cons r _ ih =>
  intro i u e
  cases i with
  | zero=>cases e;exact⟨_,rfl,r⟩
  | succ i=>exact ih (i:=i) e
end L3
namespace L3
open PySem PySem.Spec PyProof.Rows L2
noncomputable def topN (ls:List (List Nat)) (w:Nat):Nat:=@dite _ (∃ b,IsTop ls w b) (Classical.propDecidable _) (fun h=>Classical.choose h) (fun _=>0)
/-- the nearest place of a level, of several one of the greatest top, of these the least -/
structure IsPiv (ls:List (List Nat)) (m:Nat) (D:List (Option Int)) (o:Option Nat):Prop where
 no:o=none->∀ q ∈ lvl ls m,Far.get D q=none
 yes:∀ p,o=some p->p ∈ lvl ls m∧∃ x,Far.get D p=some x∧∀ q ∈ lvl ls m,∀ y,Far.get D q=some y->x≤y∧(y=x->topN ls q≤topN ls p∧(topN ls q=topN ls p->p≤q))
def tupI (k:List Int):PyData:=.tuple (k.map .int)
section
variable {own:List Str} {js:List Nat} {g:TG} {tt:TT} {te:TE} {σ:L2.St} {Q:VK} {H1:Hp}
end
end L3
namespace L3
open PySem PySem.Spec PyProof.Rows L2
noncomputable def pivN (ls:List (List Nat)) (m:Nat) (D:List (Option Int)):Nat:=@dite _ (∃ p,IsPiv ls m D (some p)) (Classical.propDecidable _) (fun h=>Classical.choose h) (fun _=>0)
noncomputable def clN (ls:List (List Nat)):Nat->Nat->Nat->Nat->List (Option Int)->List (Option Int)->Int->List (List Int)
 | 0,w,a,b,_,_,x=>[[(w:Int),(a:Int),(b:Int),x]]
 | f + 1,w,a,b,Da,Db,x=>[(w:Int),(a:Int),(b:Int),x]::(if bunB ls Db w=true then [] else clN ls f (pivN ls (topN ls w + 1) Db) b a Db Da ((Far.get Db (pivN ls (topN ls w + 1) Db)).getD 0))
structure Cs (ts:List Tie) (n:Nat) (ls:List (List Nat)) (d:Int) (j w a b:Nat) (Da Db:List (Option Int)) (x:Int):Prop where
 fa:FarsOf ts n a Da
 fb:FarsOf ts n b Db
 wn:w < n
 an:a < n
 bn:b < n
 xa:Far.get Da w=some x
 lim:x≤j * d
 ab:Far.get Da b=some d
 ba:Far.get Db a=some d
 yb:∃ y,Far.get Db w=some y
 tp:j≤topN ls w
 bu:bunB ls Da w=true
section
variable {n:Int} {ts:List Tie} {ls:List (List Nat)} {d x:Int} {j w a b:Nat} {Da Db:List (Option Int)}
theorem allOk (ts:List Tie):KeepOk ts.length (List.range ts.length):=⟨List.pairwise_lt_range,fun k hk=>List.mem_range.mp hk⟩
end
/-- the rows of a climb -/
structure RowsOk (ls:List (List Nat)) (n:Nat) (d:Int) (Du Dv:List (Option Int)) (rows:List (List Int)):Prop where
 few:rows.length≤ls.length
 lim:∀ (i:Nat) (r:List Int),rows[i]?=some r->∃ p a b x:Int,r=[p,a,b,x]∧x≤i * d
 last:∃ (pre:List (List Int)) (w:Nat) (a b x:Int),rows=pre++[[(w:Int),a,b,x]]∧w < n∧bunB ls Du w=true∧bunB ls Dv w=true
def ClimbV (K:PySem.W.Frag) (H:Hp) (ls:List (List Nat)) (n u v:Nat) (Du Dv:List (Option Int)) (r:V):Prop:=(r=.non∧Far.get Du v=none)∨∃ t ys d,r=.ref t∧Far.get Du v=some d∧H t=some (.tup ys)∧IsAll K H ((clN ls ls.length u u v Du Dv 0).map tupI) ys∧RowsOk ls n d Du Dv (clN ls ls.length u u v Du Dv 0)
/-- how far all places are from all, as a list of lists -/
def FarsM (H:Hp) (lf:Addr) (n:Nat) (ts:List Tie):Prop:=∃ ys,H lf=some (.lst ys)∧ys.length=n∧∀ i v,ys[i]?=some v->∃ l D,v=.ref l∧H l=some (.lst (D.map ov))∧FarsOf ts n i D
/-- where a climb stands: the rows so far, and what is still to come -/
structure Clb (ts:List Tie) (n:Int) (ls:List (List Nat)) (d:Int) (u v:Nat) (Du Dv:List (Option Int)) (pre:List (List Int)) (w a b:Nat) (Da Db:List (Option Int)) (x:Int):Prop where
 cs:Cs ts n.toNat ls d pre.length w a b Da Db x
 sides:(Da=Du∧Db=Dv)∨(Da=Dv∧Db=Du)
 lim:∀ (i:Nat) (r:List Int),(pre++[[(w:Int),(a:Int),(b:Int),x]])[i]?=some r->∃ p a b x:Int,r=[p,a,b,x]∧x≤i * d
 rest:pre++clN ls (ls.length - pre.length) w a b Da Db x=clN ls ls.length u u v Du Dv 0
section
variable {n:Int} {ts:List Tie} {ls:List (List Nat)} {d x:Int} {u v w a b:Nat} {Du Dv Da Db:List (Option Int)} {pre:List (List Int)}
end
end L3
namespace L3
open PySem PySem.Spec PyProof.Rows L2
section
variable {K:PySem.W.Frag} {J J':Hp} {ls:List (List Nat)} {n u v:Nat} {Du Dv:List (Option Int)} {r r1 r2:V}
end
end L3
namespace PySem.SeqAt
open PySem.Spec PySem.MeetsSeq PySem.MeetsSeq2 PySem.MeetsSeq3 PySem.SeqRoads2
open AutoSeq1 (wpAny_loadPart')
end PySem.SeqAt
namespace L3
open PySem PySem.Spec PyProof.Rows L2
section
variable {X:Cx} {o e:Expr} {es:List Expr} {to:TE} {t:TA} {name:Str} {apos cpos:Pos} {id:String} {r:V->List V->Hp->VK->Prop}
end
theorem range_pick {α:Type} (f:Nat->Option α):∀ (m:Nat) (L:List α),L.length=m->(∀ k,k < m->f k=L[k]?)->(List.range m).filterMap f=L
 | 0,L,hl,_=>by rw[List.eq_nil_of_length_eq_zero hl];rfl
 | m + 1,L,hl,h=>by
  have hm:m < L.length:=by omega
  have e:L=L.take m++[L[m]]:=by rw[List.take_append_getElem hm,List.take_of_length_le (by omega)]
  rw[List.range_succ,List.filterMap_append,range_pick f m (L.take m) (by rw[List.length_take];omega) (fun k hk=>by rw[h k (by omega),List.getElem?_take,if_pos hk])]
  rw[show [m].filterMap f=[L[m]] by rw[List.filterMap_cons,h m (by omega),List.getElem?_eq_getElem hm];rfl]
  exact e.symm
theorem pick_back (its:List Value) (j:Nat):((List.range (its.length - j)).filterMap fun (m:Nat)=>its.toArray[(((its.length:Nat):Int) - 1 + (m:Int) * (-1)).toNat]?)=(its.drop j).reverse:=by
 refine range_pick _ _ _ (by rw[List.length_reverse,List.length_drop]) fun k hk=>?_
 rw[List.getElem?_reverse (by rw[List.length_drop];exact hk),List.getElem?_drop,List.length_drop]
 rw[List.getElem?_toArray]
 congr 1
 omega
/-- which parts of a slice that goes back are meant: t[::-1] leaves none out, t[:0:-1] the first -/
def bk (hi:Option Int) (n j:Nat):Prop:=(hi=none∧j=0)∨(hi=some 0∧j=1∧1≤n)
theorem adjust_back {hi:Option Int} {n j:Nat} (h:bk hi n j):Builtin.Slice.sliceAdjust none hi (-1) (n:Int)=((n:Int) - 1,(j:Int) - 1):=by
 unfold Builtin.Slice.sliceAdjust
 simp only [show ((-1:Int) < 0) by omega,if_true]
 rcases h with ⟨rfl,rfl⟩ | ⟨rfl,rfl,h1⟩
 ·rfl
 ·refine Prod.ext rfl ?_
  show (if (0:Int) < 0 then max (0 + (n:Int)) (-1) else min 0 ((n:Int) - 1))=((1:Nat):Int) - 1
  rw[if_neg (by omega)]
  omega
theorem places_back {n j:Nat} (h:j≤n):Builtin.Slice.slicePlaces ((n:Int) - 1) ((j:Int) - 1) (-1)=n - j:=by
 unfold Builtin.Slice.slicePlaces
 rw[if_neg (by omega)]
 split
 ·rw[show -(-1:Int)=1 by rfl,Int.ediv_one];omega
 ·omega
theorem bk_le {hi:Option Int} {n j:Nat} (h:bk hi n j):j≤n:=by
 rcases h with ⟨_,rfl⟩ | ⟨_,rfl,h1⟩
 ·exact Nat.zero_le _
 ·exact h1
section
variable {prog:Program} {w:World} {A:Around} {E:Value->Shared->Prop} {s:Shared}
theorem sliceApplied_back {sl:Addr} {vl vu vs:Value} {hi:Option Int} {n j:Nat} {Q:Int × Int × Nat->Shared->Prop} (hs:s.heap.IsSliceOf sl vl vu vs) (pl:IsPart vl none) (pu:IsPart vu hi) (ps:IsPart vs (some (-1))) (hb:bk hi n j)
  (h:Q ((n:Int) - 1,-1,n - j) s):wpAny (model prog w) A (Builtin.Slice.sliceApplied (.ref sl) (pure (n:Int))) Q E s:=by
 obtain⟨os,hos,hcs,hds⟩:=id hs
 unfold Builtin.Slice.sliceApplied Builtin.Slice.sliceFields
 refine wpAny_bind (wpAny_bind (wpAny_field hos hds (x:=vl) rfl (wpAny_bind (wpAny_field hos hds (x:=vu) rfl (wpAny_bind (wpAny_field hos hds (x:=vs) rfl (wpAny_pure ?_)))))))
 refine wpAny_bind (HT.slicePart_ ps ?_)
 show wpAny _ _ (if ((-1:Int) == 0)=true then _ else _) _ _ s
 rw[if_neg (by decide)]
 refine wpAny_bind (HT.slicePart_ pl (wpAny_bind (HT.slicePart_ pu (wpAny_bind (wpAny_pure ?_)))))
 show wpAny _ _ (match Builtin.Slice.sliceAdjust none hi (-1) (n:Int) with | (lo,hi)=>pure (lo,(-1:Int),Builtin.Slice.slicePlaces lo hi (-1))) _ _ s
 rw[adjust_back hb]
 show wpAny _ _ (pure ((n:Int) - 1,(-1:Int),Builtin.Slice.slicePlaces ((n:Int) - 1) ((j:Int) - 1) (-1))) _ _ s
 rw[places_back (bk_le hb)]
 exact wpAny_pure h
theorem getItem_tuple_back {t sl:Addr} {its:List Value} {vl vu vs:Value} {hi:Option Int} {j:Nat} {Q:Value->Shared->Prop} (ht:IsTup s.heap t its.toArray) (hs:s.heap.IsSliceOf sl vl vu vs) (pl:IsPart vl none) (pu:IsPart vu hi) (ps:IsPart vs (some (-1))) (hb:bk hi its.length j)
  (h:Q (.ref s.heap.objs.size) { s with heap:=s.heap.push { cls:=.type "tuple",data:=.seq (its.drop j).reverse.toArray } })
  (hsz:its.length≤sizeLine):wpAny (model prog w) A (getItem (.ref t) (.ref sl)) Q E s:=by
 have htake:sizeOk (.seq (its.drop j).reverse.toArray):=by
  show (its.drop j).reverse.toArray.size≤sizeLine
  rw[List.size_toArray,List.length_reverse,List.length_drop]
  omega
 obtain⟨os,hos,hcs,hds⟩:=id hs
 have hTs:s.TypeIs (.ref sl) "slice":=⟨os,hos,hcs⟩
 unfold getItem
 try with_reducible refine wpAny_holding ?_
 first | refine wpAny_bind (wpAny_pure ?_) | skip
 refine wpAny_bind (wpAny_sequenceKey ht.typeIs (by decide) ?_)
 refine wpAny_bind (wpAny_callSpecial?_slot (name:=Str.ofString "__getitem__") ht.typeIs PyProof.Rows.slot_tuple_getitem
  (wpAny_call_entry PyProof.Rows.slot_tuple_getitem ht.typeIs entry_tuple_getitem ?_ (args_tuple_getitem _ _)))
 show wpAny _ _ (Builtin.Tuple.tupleItemsOf (.ref t) >>= _) _ _ s
 refine wpAny_bind (tupleItemsOf_ ht ?_)
 refine wpAny_bind (wpAny_typeOf hTs ?_)
 rw[if_pos (by decide)]
 refine wpAny_bind (sliceApplied_back (n:=its.toArray.size) (j:=j) hs pl pu ps (by rw[List.size_toArray];exact hb) ?_)
 rw[List.size_toArray]
 show wpAny _ _ (if ((((its.length:Nat):Int) - 1 == 0) && ((-1:Int) == 1) && ((its.length - j) == its.length))=true then _ else _) _ _ s
 rw[if_neg (by rw[show ((-1:Int) == 1)=false by decide,Bool.and_false,Bool.false_and];decide),pick_back]
 first
  | exact wpAny_bind (m:=Builtin.Tuple.tupleExact _) (wpAny_newObj_type (wpAny_pure ⟨_,rfl,wpAny_pure h⟩) htake)
  | exact wpAny_bind (m:=Builtin.Tuple.tupleExact _) (wpAny_newObj_type (wpAny_bind (wpAny_pure (wpAny_pure ⟨_,rfl,wpAny_pure h⟩))) htake)
  | exact wpAny_bind (wpAny_bind (m:=Builtin.Tuple.tupleExact _) (wpAny_newObj_type (wpAny_pure (wpAny_pure ⟨_,rfl,wpAny_pure h⟩)) htake))
  | exact wpAny_bind (wpAny_bind (m:=Builtin.Tuple.tupleExact _) (wpAny_newObj_type (wpAny_pure ⟨_,rfl,wpAny_pure h⟩) htake))
end
/-- what a slice that goes back is -/
def SlB (X:Cx) (r:V->Option Int->Hp->VK->Prop):Prop :=
 ∀ (pins:List (Addr × Obj)) (s:Shared) (σ:L2.St) (H:Hp) (x:V) (v vl vu vs:Value) (hi:Option Int) (sl:Addr) (Q:VK),Inv X pins σ H s->RelV x v->s.heap.IsSliceOf sl vl vu vs->IsPart vl none->IsPart vu hi->IsPart vs (some (-1))->r x hi H Q ->
  ∃ T id,typeLookup (.type T) "__getitem__"=pure (some (.builtin id))∧s.TypeIs v T∧wpAny (model X.prog X.w) X.A (getItem v (.ref sl)) (EP X pins σ Q) X.xe s
def tSlB (r:V->Option Int->Hp->VK->Prop) (te:TE) (th:TO) (ts:TE):TE:=fun σ H Q=>te σ H fun x H1=>th σ H1 fun u H3=>ts σ H3 fun z H4=>z=.int (-1)∧r x u H4 Q
section
variable {X:Cx} {e st:Expr} {te ts:TE} {lo hi:Option Expr} {th:TO} {pos p2:Pos}
theorem pe_sliceB {r:V->Option Int->Hp->VK->Prop} (hr:SlB X r) (he:PE X e te) (hu:PO X hi th) (hs:PE X st ts):PE X (.Subscript e (.Slice none hi (some st) p2) pos) (tSlB r te th ts):=by
 intro pins s σ H Q I h
 refine Subscript_ (thn (he pins s σ H _ I h) fun v s1 ⟨x,H1,I1,r1,q1⟩=>?_)
 refine wpAny_Slice ?_
 rw[evalPart_none]
 refine wpAny_pure (thn (hu pins s1 σ H1 _ I1 q1) fun vu s3 ⟨u,H3,I3,pu,q3⟩=>?_)
 rw[evalPart_some]
 refine thn (hs pins s3 σ H3 _ I3 q3) fun vz s4 ⟨z,H4,I4',rz,ez,q4⟩=>?_
 subst ez
 obtain⟨t,rfl⟩:=rz
 have I4:Inv X pins σ H4 { s4 with heap:=s4.heap.push { cls:=.type "slice",data:=.fields #[.none,vu,.int (-1) t] } }:=I4'.kept (t':=s4.toks) fun b ob q=>Heap.get?_push_of_some _ q
 obtain⟨T,id,hT,ht,hg⟩:=hr pins { s4 with heap:=s4.heap.push { cls:=.type "slice",data:=.fields #[.none,vu,.int (-1) t] } } σ H4 x v .none vu (.int (-1) t) u s4.heap.objs.size Q I4 r1 (Heap.IsSliceOf.new ..) .none pu (.int _ _) q4
 show wpAny (model X.prog X.w) X.A (subscriptTail e (.Slice none hi (some st) p2) v (.ref s4.heap.objs.size)) (EP X pins σ Q) X.xe { s4 with heap:=s4.heap.push { cls:=.type "slice",data:=.fields #[.none,vu,.int (-1) t] } }
 exact tail_any (ops:=[v,.ref s4.heap.objs.size]) ht hT hg (by with_unfolding_all rfl)
/-- t[::-1], t[:0:-1] -/
def rBkT (K:PySem.W.Frag):V->Option Int->Hp->VK->Prop:=fun x hi H Q=>∃ a xs j,x=.ref a∧H a=some (.tup xs)∧bk hi xs.length j∧∀ p H',Same H H'->H p=none->H' p=some (.tup (xs.drop j).reverse)->Q (.ref p) H'
theorem sb_tup:SlB X (rBkT X.K):=by
 intro pins s σ H x v vl vu vs hi sl Q I rx hs pl pu ps h
 obtain⟨a,xs,j,rfl,hx,hb,q⟩:=h
 cases rx
 obtain⟨its,r,ht,hz⟩:=I.tuple (SqT.of hx)
 have hlen:its.length=xs.length:=r.length.symm
 refine⟨"tuple",_,PyProof.Rows.slot_tuple_getitem.lookup,ht.typeIs,?_⟩
 refine getItem_tuple_back ht hs pl pu ps (j:=j) (by rw[hlen];exact hb) ?_ (by rw[hlen];exact hz)
 refine⟨.ref s.heap.objs.size,_,I.laid (t':=s.toks) (o:=.tup (xs.drop j).reverse) (fun b ob q=>Heap.get?_push_of_some _ q) (Nat.le_refl _) ?_,rfl,q _ _ (same_new (I.hok.fresh (Nat.le_refl _))) (I.hok.fresh (Nat.le_refl _)) upd_same⟩
 exact⟨by rw[List.length_reverse,List.length_drop];omega,_,(r.drop j).reverse,TupN.new _ _⟩
/-- l[::-1], l[:0:-1] -/
def rBkL (K:PySem.W.Frag):V->Option Int->Hp->VK->Prop:=fun x hi H Q=>∃ a xs j,x=.ref a∧H a=some (.lst xs)∧bk hi xs.length j∧∀ p H',Same H H'->H p=none->H' p=some (.lst (xs.drop j).reverse)->Q (.ref p) H'
theorem bounds_back {hi:Option Int} {n j:Nat} (h:bk hi n j):sliceBounds none hi (some (-1)) n=((n:Int) - 1,(j:Int) - 1,-1):=by
 rcases h with ⟨rfl,rfl⟩ | ⟨rfl,rfl,h1⟩
 ·simp [sliceBounds]
 ·simp [sliceBounds]
  omega
theorem slicePick_back (its:List Value) {hi:Option Int} {j:Nat} (h:bk hi its.length j):slicePick its.toArray none hi (some (-1))=(its.drop j).reverse.toArray:=by
 have hj:=bk_le h
 unfold slicePick
 rw[List.size_toArray,bounds_back h]
 show ((sliceRange ((its.length:Int) - 1) ((j:Int) - 1) (-1)).filterMap (its.toArray[·]?)).toArray=_
 have e:sliceRange ((its.length:Int) - 1) ((j:Int) - 1) (-1)=(List.range (its.length - j)).map fun (k:Nat)=>((its.length:Int) - 1 + (-1) * (k:Int)).toNat:=by
  unfold sliceRange
  have c:(if (-1:Int) > 0 then (if (its.length:Int) - 1 < (j:Int) - 1 then ((j:Int) - 1 - ((its.length:Int) - 1) + (-1) - 1) / (-1) else 0) else (if (its.length:Int) - 1 > (j:Int) - 1 then ((its.length:Int) - 1 - ((j:Int) - 1) - (-1) - 1) / (-(-1)) else 0)).toNat=its.length - j:=by
   rw[if_neg (by omega)]
   split
   ·rw[show -(-1:Int)=1 by rfl,Int.ediv_one];omega
   ·omega
  dsimp only
  rw[c]
 rw[e,List.filterMap_map]
 have:=pick_back its j
 rw[← this]
 congr 1
 congr 1
 funext k
 show its.toArray[((its.length:Int) - 1 + (-1) * (k:Int)).toNat]?=_
 rw[Int.mul_comm]
theorem sb_list:SlB X (rBkL X.K):=by
 intro pins s σ H x v vl vu vs hi sl Q I rx hs pl pu ps h
 obtain⟨a,xs,j,rfl,hx,hb,q⟩:=h
 cases rx
 obtain⟨its,r,ht,hz⟩:=I.list (SqL.of hx)
 have hlen:its.length=xs.length:=r.length.symm
 refine⟨"list",_,slot_list_getitem.lookup,ht.isList.typeIs,?_⟩
 refine wpAny_getItem_list_slice ht.isList hs pl pu ps (by simp) ?_ (by rw[List.size_toArray] <;> omega)
 rw[slicePick_back its (by rw[hlen];exact hb)]
 refine⟨.ref s.heap.objs.size,_,I.laid (t':=s.toks) (o:=.lst (xs.drop j).reverse) (fun b ob q=>Heap.get?_push_of_some _ q) (Nat.le_refl _) ?_,rfl,q _ _ (same_new (I.hok.fresh (Nat.le_refl _))) (I.hok.fresh (Nat.le_refl _)) upd_same⟩
 exact⟨by rw[List.length_reverse,List.length_drop];omega,_,0,(r.drop j).reverse,Heap.get?_push_size _ rfl⟩
end
end L3
namespace L3
open PySem PySem.Spec PyProof.Rows L2
/-- l.index(i), the items whole numbers -/
def rLIndex:V->List V->Hp->VK->Prop:=fun x vs H Q=>∃ (p:Addr) (ns:List Int) (i:Int),x=.ref p∧vs=[.int i]∧H p=some (.lst (ns.map V.int))∧ns.length≤1000∧i ∈ ns∧∀ k:Nat,ns[k]?=some i->Q (.int (k:Int)) H
theorem first_is34 {ns:List Int} {i:Int} (h:i ∈ ns):∃ k:Nat,ns[k]?=some i∧∀ m:Nat,m < k->ns[m]?≠some i:=by
 induction ns with
 | nil=>cases h
 | cons a r ih =>
  by_cases e:a=i
  ·exact⟨0,by rw[e];rfl,fun m hm=>by omega⟩
  ·rcases List.mem_cons.mp h with h | h
   ·exact absurd h.symm e
   ·obtain⟨k,h1,h2⟩:=ih h
    refine⟨k + 1,h1,fun m hm=>?_⟩
    cases m with
    | zero=>exact fun z=>e (by injection z)
    | succ m=>exact h2 m (by omega)
theorem mt_lindex {X:Cx}:MtM X "list.index" rLIndex:=by
 intro pins s σ H x vs v us Q I rx rv h
 obtain⟨p,ns,i,rfl,rfl,hH,l1000,hi,q⟩:=h
 obtain⟨k,hk,hno⟩:=first_is34 hi
 cases rx
 obtain⟨u1,rfl,ru1⟩:=vals1 rv
 obtain⟨t,rfl⟩:=ru1
 obtain⟨its,r,⟨⟨cls,dd,data,sl⟩,n,ho,hc,hdd,hd⟩,hz⟩:=I.list (SqL.of hH)
 simp only at hc hd
 subst hc hd
 have hl:=r.length
 rw[List.length_map] at hl
 let e:Value->Bool:=fun w=>match w with | .int a _=>a == i | _=>false
 have rd:∀ m (hm:m < its.toArray.size),∃ (a:Int) (t':Tok),its.toArray[m]=.int a t'∧ns[m]?=some a:=fun m hm=>by
  rw[List.size_toArray] at hm
  obtain⟨x',hx,rel⟩:=vals_rel r (List.getElem?_eq_getElem hm)
  rw[List.getElem?_map,Option.map_eq_some_iff] at hx
  obtain⟨a,ha,rfl⟩:=hx
  obtain⟨t',et⟩:=rel
  exact⟨a,t',by rw[List.getElem_toArray];exact et,ha⟩
 have hkn:=(List.getElem?_eq_some_iff.mp hk).1
 have hkl:k < its.toArray.size:=by
  rw[List.size_toArray,← hl]
  exact hkn
 refine call_meets F.slot_list_index ⟨_,ho,rfl⟩ F.entry_list_index (F.args_list_index_2 _ _) (PySem.SeqAt.list_indexAt p its.toArray n dd sl (.int i t) e k hkl (by omega) ?_ ?_) ⟨ho,?_,?_⟩
 ·obtain⟨a,t',e1,e2⟩:=rd k hkl
  rw[e1]
  rw[hk] at e2
  cases e2
  show (i == i)=true
  exact beq_self_eq_true i
 ·intro m hm hmk
  obtain⟨a,t',e1,e2⟩:=rd m hm
  rw[e1]
  show (a == i)=false
  refine beq_eq_false_iff_ne.mpr fun z=>hno m hmk ?_
  rw[e2,z]
 ·intro y hy
  obtain⟨m,hm,rfl⟩:=Array.getElem_of_mem hy
  obtain⟨a,t',e1,e2⟩:=rd m hm
  rw[e1]
  exact PySem.SeqAt.EqAt.int_int a t' i t
 ·exact⟨.int (k:Int),H,I.tok _,⟨_,rfl⟩,q k hk⟩
end L3
namespace Peel
/-- ties by their ends -/
abbrev T2:=Nat × Nat
/-- kept ties of p to places that aren't gone -/
def hit (gone:List Nat) (p:Nat) (t:T2):Bool:=(t.1 == p && !gone.contains t.2) || (t.2 == p && !gone.contains t.1)
def deg (ts:List T2) (gone:List Nat) (p:Nat):Nat:=ts.countP (hit gone p)
def may (ts:List T2) (d:Int) (gone:List Nat) (p:Nat):Bool:=!gone.contains p && decide ((deg ts gone p:Int)≤d)
def next (n:Nat) (ts:List T2) (d:Int) (gone:List Nat):Option Nat:=(List.range n).find? (may ts d gone)
def run (n:Nat) (ts:List T2) (d:Int):Nat->List Nat->List Nat
 | 0,g=>g
 | f + 1,g=>match next n ts d g with
  | none=>g
  | some p=>run n ts d f (g++[p])
section
variable {n:Nat} {ts:List T2} {d:Int} {g:List Nat} {p:Nat}
theorem next_some (h:next n ts d g=some p):p < n∧p ∉ g∧(deg ts g p:Int)≤d:=by
 have h1:=List.find?_some h
 have h2:=List.mem_of_find?_eq_some h
 unfold may at h1
 rw[Bool.and_eq_true] at h1
 exact⟨List.mem_range.mp h2,by simpa using h1.1,of_decide_eq_true h1.2⟩
theorem next_of (hp:p < n) (h1:may ts d g p=true) (h2:∀ q,q < p->may ts d g q=false):next n ts d g=some p:=by
 unfold next
 rw[List.find?_eq_some_iff_getElem]
 refine⟨h1,p,by simpa using hp,by simp,fun j hj=>?_⟩
 simp only [List.getElem_range]
 rw[h2 j hj];rfl
theorem next_none (h:∀ q,q < n->may ts d g q=false):next n ts d g=none:=by
 unfold next
 rw[List.find?_eq_none]
 intro x hx
 rw[h x (List.mem_range.mp hx)];decide
/-- good: places of the web, none twice -/
def Good (n:Nat) (g:List Nat):Prop:=g.Nodup∧∀ p ∈ g,p < n
theorem len_below:∀ (n:Nat) (g:List Nat),g.Nodup->(∀ p ∈ g,p < n)->g.length≤n
 | 0,[],_,_=>Nat.le_refl _
 | 0,p::_,_,h=>absurd (h p List.mem_cons_self) (Nat.not_lt_zero _)
 | n + 1,g,nd,h=>by
  have h1:=len_below n (g.filter fun p=>p != n) (nd.filter _) fun p hp=>by
   have:=List.mem_filter.mp hp
   have a:=h p this.1
   have b:p≠n:=by simpa using this.2
   omega
  have e:g.length=(g.filter fun p=>p != n).length + g.countP (fun p=>p == n):=by
   rw[← List.countP_eq_length_filter]
   have:=List.length_eq_countP_add_countP (fun p=>p == n) (l:=g)
   have e2:g.countP (fun p=>decide ¬(p == n)=true)=g.countP fun p=>p != n:=List.countP_congr fun x _=>by simp
   rw[e2] at this
   omega
  have c:g.countP (fun p=>p == n)≤1:=by
   have:=List.nodup_iff_count.mp nd n
   exact this
  omega
theorem Good.len (h:Good n g):g.length≤n:=len_below n g h.1 h.2
theorem Good.nil:Good n []:=⟨List.nodup_nil,fun p h=>by cases h⟩
theorem Good.snoc (h:Good n g) (hp:p < n) (np:p ∉ g):Good n (g++[p]):=by
 refine⟨List.nodup_append.mpr ⟨h.1,by simp,fun a ha b hb e=>np ?_⟩,fun q hq=>?_⟩
 ·have:b=p:=by simpa using hb
  subst this;subst e;exact ha
 ·rcases List.mem_append.mp hq with hq | hq
  ·exact h.2 q hq
  ·have:q=p:=by simpa using hq
   subst this;exact hp
theorem run_next (h:Good n g) (e:next n ts d g=some p):run n ts d (n - g.length) g=run n ts d (n - (g++[p]).length) (g++[p]):=by
 obtain⟨a,b,c⟩:=next_some e
 have l:=(h.snoc a b).len
 rw[List.length_append,List.length_singleton] at l ⊢
 have:n - g.length=(n - (g.length + 1)) + 1:=by omega
 rw[this]
 show (match next n ts d g with | none=>g | some p=>run n ts d (n - (g.length + 1)) (g++[p]))=_
 rw[e]
theorem run_end (e:next n ts d g=none):∀ f,run n ts d f g=g
 | 0=>rfl
 | f + 1=>by
  show (match next n ts d g with | none=>g | some p=>run n ts d f (g++[p]))=g
  rw[e]
/-- all that go, from none on -/
def gone (n:Nat) (ts:List T2) (d:Int):List Nat:=run n ts d n []
theorem gone_of (e:next n ts d g=none) (h:run n ts d (n - g.length) g=gone n ts d):g=gone n ts d:=by rw[run_end e] at h;exact h
theorem run_good:∀ (f:Nat) (g:List Nat),Good n g->Good n (run n ts d f g)
 | 0,g,h=>h
 | f + 1,g,h=>by
  show Good n (match next n ts d g with | none=>g | some p=>run n ts d f (g++[p]))
  cases e:next n ts d g with
  | none=>exact h
  | some p=>exact run_good f _ (h.snoc (next_some e).1 (next_some e).2.1)
theorem gone_good:Good n (gone n ts d):=run_good n [] .nil
/-- one more is gone: what it had to others -/
theorem deg_next (hne:∀ t ∈ ts,t.1≠t.2) (np:p ∉ g) (q:Nat):∀ ts':List T2,(∀ t ∈ ts',t.1≠t.2)->deg ts' g q=deg ts' (g++[p]) q + ts'.countP (fun t=>(t.1 == q && t.2 == p) || (t.2 == q && t.1 == p))
 | [],_=>by simp [deg]
 | t::r,h=>by
  have ih:=deg_next hne np q r fun t ht=>h t (List.mem_cons_of_mem _ ht)
  have ht:=h t List.mem_cons_self
  unfold deg at ih ⊢
  rw[List.countP_cons,List.countP_cons,List.countP_cons]
  have:(if hit g q t=true then 1 else 0)=(if hit (g++[p]) q t=true then 1 else 0) + (if ((t.1 == q && t.2 == p) || (t.2 == q && t.1 == p))=true then 1 else 0):=by
   unfold hit
   by_cases a1:t.1=q <;> by_cases a2:t.2=q <;> by_cases b1:t.1=p <;> by_cases b2:t.2=p <;> by_cases c1:t.1 ∈ g <;> by_cases c2:t.2 ∈ g <;> simp_all
  omega
end
end Peel
namespace L3
open PySem PySem.Spec PyProof.Rows L2
def nb1 (ts:List Tie) (p:Int) (k:Nat):Option Nat:=if (tieAt ts k).1=p then some (tieAt ts k).2.1.toNat else none
def nb2 (ts:List Tie) (p:Int) (k:Nat):Option Nat:=if (tieAt ts k).2.1=p then some (tieAt ts k).1.toNat else none
def nbN (ts:List Tie) (ks:List Nat) (p:Int):List Nat:=ks.filterMap (nb1 ts p)++ks.filterMap (nb2 ts p)
def spNeigh (K:PySem.W.Frag):Sp:=fun vs H Q _=>∃ n ts ks wv kv p,vs=[wv,kv,.int p]∧WK K H n ts ks wv kv∧∀ l H',Same H H'->H l=none->H' l=some (.lst (natV (nbN ts ks p)))->Q (.ref l) H'
def spAmong (K:PySem.W.Frag):Sp:=fun vs H Q _=>∃ n ts ks wv kv p o os,vs=[wv,kv,.int p,.ref o]∧WK K H n ts ks wv kv∧(H o=some (.lst (natV os))∨H o=some (.tup (natV os)))∧∀ H',Same H H'->Q (.int (((nbN ts ks p).countP fun q=>os.contains q:Nat):Int)) H'
def spFirstGo (K:PySem.W.Frag):Sp:=fun vs H Q _=>∃ n ts ks wv kv d o os,vs=[wv,kv,.int d,.ref o]∧WK K H n ts ks wv kv∧H o=some (.lst (natV os))∧∀ H',Same H H'->Q (oa (os.find? fun p=>decide ((((nbN ts ks (p:Int)).countP fun q=>os.contains q:Nat):Int)≤d))) H'
def t2s (ts:List Tie) (ks:List Nat):List Peel.T2:=ks.map fun k=>((tieAt ts k).1.toNat,(tieAt ts k).2.1.toNat)
def leftN (n:Nat) (g:List Nat):List Nat:=(List.range n).filter fun p=>!g.contains p
def spPeeled (K:PySem.W.Frag):Sp:=fun vs H Q _=>∃ n ts ks wv kv d,vs=[wv,kv,.int d]∧WK K H n ts ks wv kv ∧
 ∀ p a b H',Same H H'->H' p=some (.tup [.ref a,.ref b])->H' a=some (.tup (natV (Peel.gone n.toNat (t2s ts ks) d)))->H' b=some (.tup (natV (leftN n.toNat (Peel.gone n.toNat (t2s ts ks) d))))->Q (.ref p) H'
section
variable {g:TG} {tt:TT} {te:TE} {own:List Str} {js:List Nat} {σ:L2.St} {H1:Hp} {Q:VK}
theorem comp_selL {K:PySem.W.Frag} {a:Addr} {xs:List V} (hx:H1 a=some (.lst xs)) (Sg:L2.St->Prop) (sel:Nat->Option V) (hn:xs.length≤1000) (h0:Sg (start3 own js σ))
  (step:∀ i x σ' H',xs[i]?=some x->Same H1 H'->Sg σ'->∀ (C:L2.St->V->Hp->Prop) (L:L2.St->Hp->Prop),(∀ σ3 v H5,Sg σ3->Same H' H5->sel i=some v->C σ3 v H5)->(∀ σ3 H5,Sg σ3->Same H' H5->sel i=none->L σ3 H5) ->
   g x σ' H' fun σ3 H3=>tt σ3 H3 fun b H4=>if b=true then te σ3 H4 fun v H5=>C σ3 v H5 else L σ3 H4)
  (fin:∀ D H',H1 D=none->Same H1 H'->H' D=some (.lst ((List.range xs.length).filterMap sel))->Q (.ref D) H'):CompGo own js g tt te σ Q (Itl K a) H1:=by
 refine comp_sel xs.length Sg sel hn h0 (fun i H' hi s=>⟨xs,xs[i],SqL.of (s _ _ hx),by simp [hi]⟩) (fun H' s=>⟨xs,SqL.of (s _ _ hx),Nat.le_refl _⟩) (fun i x σ' H' H2 hi s hy sg C L hC hL=>?_) fin
 obtain⟨rfl,hy⟩:=hy
 exact step i x σ' _ (hy xs (SqL.of (s _ _ hx))) s sg C L hC hL
end
theorem range_sel {α β:Type} (f:α->Option β) (d:α):∀ ks:List α,(List.range ks.length).filterMap (fun i=>f (ks.getD i d))=ks.filterMap f:=fun ks=>by
 have e:=congrArg (List.filterMap f) (range_getD ks d)
 rw[List.filterMap_map] at e
 exact e
/-- l.remove(x), a list of whole numbers -/
theorem erase_at {i:Int}:∀ {ns:List Int},i ∈ ns->∃ k,k < ns.length∧ns[k]?=some i∧(∀ m,m < k->∀ x,ns[m]?=some x->x≠i)∧ns.eraseIdx k=ns.erase i
 | [],h=>by cases h
 | x::r,h=>by
  by_cases e:x=i
  ·subst e
   exact⟨0,by simp,rfl,fun m hm=>by omega,by simp⟩
  ·have h':i ∈ r:=(List.mem_cons.mp h).elim (fun z=>absurd z.symm e) id
   obtain⟨k,h1,h2,h3,h4⟩:=erase_at h'
   refine⟨k + 1,by simpa using h1,by simpa using h2,fun m hm y hy=>?_,?_⟩
   ·cases m with
    | zero=>cases hy;exact e
    | succ m=>exact h3 m (by omega) y (by simpa using hy)
   ·rw[List.eraseIdx_cons_succ,h4,List.erase_cons_tail (by simpa using e)]
theorem map_eraseIdx {α β:Type} (f:α->β):∀ (l:List α) (k:Nat),(l.map f).eraseIdx k=(l.eraseIdx k).map f
 | [],_=>rfl
 | _::_,0=>rfl
 | a::r,k + 1=>by rw[List.map_cons,List.eraseIdx_cons_succ,List.eraseIdx_cons_succ,map_eraseIdx f r k];rfl
def rRemove:V->List V->Hp->VK->Prop:=fun x vs H Q=>∃ (l:Addr) (ns:List Int) (i:Int),x=.ref l∧vs=[.int i]∧H l=some (.lst (ns.map V.int))∧i ∈ ns∧∀ H',But l H H'->H' l=some (.lst ((ns.erase i).map V.int))->Q .non H'
theorem mt_remove {X:Cx}:MtM X "list.remove" rRemove:=by
 intro pins s σ H x vs v us Q I rx rv h
 obtain⟨l,ns,i,rfl,rfl,hH,hi,q⟩:=h
 cases rx
 obtain⟨u,rfl,ru⟩:=rv.one
 obtain⟨t,rfl⟩:=ru
 obtain⟨z,its,n,r,hl,e⟩:=I.lstM hH
 obtain⟨k,k1,k2,k3,k4⟩:=erase_at hi
 have hI:=intsAre_of r
 rw[List.length_map] at hl z
 have at_:∀ m (hm:m < its.toArray.size),∃ t',its.toArray[m]=.int (ns.getD m 0) t':=fun m hm=>IntsAre.int_at hI m _ (by simp)
 refine call_meets F.slot_list_remove ⟨_,e,rfl⟩ F.entry_list_remove (F.args_list_remove_2 _ _)
  (MeetsSeq.list_remove l its.toArray n (.int i t) (fun y=>match y with | .int a _=>a == i | _=>false) (fun y hy=>?_) k (by rw[List.size_toArray,← hl];exact k1) ?_ (fun m hm hmk=>?_) (by rw[List.size_toArray,← hl];exact z)) ⟨e,?_⟩
 ·obtain⟨m,hm,rfl⟩:=Array.getElem_of_mem hy
  obtain⟨t',et⟩:=at_ m hm
  rw[et]
  exact MeetsSeq.EqGives.int _ _ _ _
 ·obtain⟨t',et⟩:=at_ k (by rw[List.size_toArray,← hl];exact k1)
  rw[et]
  rw[List.getD_eq_getElem?_getD,k2]
  simp
 ·obtain⟨t',et⟩:=at_ m hm
  rw[et]
  have hm':m < ns.length:=by rw[hl];simpa using hm
  have:=k3 m hmk ns[m] (List.getElem?_eq_getElem hm')
  rw[List.getD_eq_getElem?_getD,List.getElem?_eq_getElem hm']
  simpa using this
 ·refine⟨.non,_,I.lset (its':=its.eraseIdx k) hH e ?_ (r.eraseIdx k) ?_,rfl,q _ But.upd ?_⟩
  ·show its.toArray.eraseIdxIfInBounds k=(its.eraseIdx k).toArray
   rw[List.eraseIdxIfInBounds_toArray]
  ·have:=len_erase (ns.map V.int) k
   rw[List.length_map] at this
   omega
  ·rw[upd_same,← k4,map_eraseIdx]
theorem countP_filterMap' {α β:Type} (f:α->Option β) (c:β->Bool):∀ l:List α,(l.filterMap f).countP c=l.countP fun a=>(f a).any c
 | []=>rfl
 | a::r=>by
  rw[List.filterMap_cons,List.countP_cons,← countP_filterMap' f c r]
  cases h:f a with
  | none=>simp [h]
  | some b=>simp [h,List.countP_cons]
theorem deg_nb {n:Int} {ts:List Tie} {ks:List Nat} (ok:WebOk n ts) (ko:∀ k ∈ ks,k < ts.length) (g os:List Nat) (p:Nat) (ho:∀ q:Nat,(q:Int) < n->os.contains q=!g.contains q):(nbN ts ks (p:Int)).countP (fun q=>os.contains q)=Peel.deg (t2s ts ks) g p:=by
 unfold nbN Peel.deg t2s
 rw[List.countP_append,countP_filterMap',countP_filterMap',List.countP_map]
 induction ks with
 | nil=>rfl
 | cons k r ih =>
  have hk:=ko k List.mem_cons_self
  have tk:=ok.tie _ (tieAt_in hk).2
  have i:=ih fun j hj=>ko j (List.mem_cons_of_mem _ hj)
  rw[List.countP_cons,List.countP_cons,List.countP_cons,← i]
  have o1:=ho (tieAt ts k).1.toNat (by omega)
  have o2:=ho (tieAt ts k).2.1.toNat (by omega)
  have:(if ((nb1 ts (p:Int) k).any fun q=>os.contains q)=true then 1 else 0) + (if ((nb2 ts (p:Int) k).any fun q=>os.contains q)=true then 1 else 0)=(if (Peel.hit g p ∘ fun k=>((tieAt ts k).1.toNat,(tieAt ts k).2.1.toNat)) k=true then 1 else 0):=by
   show _=(if Peel.hit g p ((tieAt ts k).1.toNat,(tieAt ts k).2.1.toNat)=true then 1 else 0)
   unfold nb1 nb2 Peel.hit
   by_cases a1:(tieAt ts k).1=(p:Int)
   ·have a2:¬ (tieAt ts k).2.1=(p:Int):=by omega
    have b1:((tieAt ts k).1.toNat == p)=true:=by simp;omega
    have b2:((tieAt ts k).2.1.toNat == p)=false:=by simp;omega
    rw[if_pos a1,if_neg a2]
    simp only [Option.any_some,Option.any_none,b1,b2,Bool.true_and,Bool.false_and,Bool.or_false,o2]
    split <;> rfl
   ·have b1:((tieAt ts k).1.toNat == p)=false:=by simp;omega
    rw[if_neg a1]
    by_cases a2:(tieAt ts k).2.1=(p:Int)
    ·have b2:((tieAt ts k).2.1.toNat == p)=true:=by simp;omega
     rw[if_pos a2]
     simp only [Option.any_some,Option.any_none,b1,b2,Bool.true_and,Bool.false_and,Bool.false_or,o1]
     rw[if_neg (by decide:¬ false=true),Nat.zero_add]
    ·have b2:((tieAt ts k).2.1.toNat == p)=false:=by simp;omega
     rw[if_neg a2]
     simp [b1,b2]
  omega
theorem left_has {n:Nat} {g:List Nat} {q:Nat} (h:q < n):(leftN n g).contains q=!g.contains q:=by
 unfold leftN
 rw[Bool.eq_iff_iff]
 simp [h]
theorem next_left {n:Int} {ts:List Tie} {ks:List Nat} (ok:WebOk n ts) (ko:∀ k ∈ ks,k < ts.length) (g:List Nat) (d:Int) :
  ((leftN n.toNat g).find? fun p:Nat=>decide ((((nbN ts ks (p:Int)).countP fun q=>(leftN n.toNat g).contains q:Nat):Int)≤d))=Peel.next n.toNat (t2s ts ks) d g:=by
 have e:(fun p:Nat=>decide ((((nbN ts ks (p:Int)).countP fun q=>(leftN n.toNat g).contains q:Nat):Int)≤d))=fun p=>decide (((Peel.deg (t2s ts ks) g p:Nat):Int)≤d):=by
  funext p
  rw[deg_nb ok ko g (leftN n.toNat g) p fun q hq=>left_has (by omega)]
 rw[e]
 unfold leftN Peel.next
 rw[List.find?_filter]
 congr 1
 funext p
 unfold Peel.may
 rw[Bool.decide_and,Bool.decide_eq_true,Bool.decide_eq_true]
theorem left_next {n:Nat} {g:List Nat} {p:Nat}:(leftN n g).erase p=leftN n (g++[p]):=by
 unfold leftN
 rw[List.Nodup.erase_eq_filter (List.nodup_range.filter _),List.filter_filter]
 refine List.filter_congr fun q _=>?_
 rw[Bool.eq_iff_iff]
 simp
 exact and_comm
theorem keepI_erase (p:Nat):∀ os:List Nat,(keepI os).erase (p:Int)=keepI (os.erase p)
 | []=>rfl
 | o::r=>by
  have ih:=keepI_erase p r
  unfold keepI at ih ⊢
  by_cases e:o=p
  ·subst e;simp
  ·rw[List.map_cons,List.erase_cons_tail (by simp;omega),List.erase_cons_tail (by simpa using e),ih];rfl
theorem left_nil (n:Nat):leftN n []=List.range n:=by
 unfold leftN
 exact List.filter_eq_self.mpr fun p _=>rfl
end L3
namespace L3
open PySem PySem.Spec PyProof.Rows L2
end L3
namespace Far
section
variable {A B:List (Nat × Nat × Int)} {s u v:Nat} {x y:Int}
end
end Far
namespace Far
section
variable {G:Nat->Option Int} {len:Nat->Int}
end
end Far
namespace Far
section
variable {A:List (Nat × Nat × Int)} {s:Nat}
end
end Far
namespace L3
open PySem PySem.Spec PyProof.Rows L2
section
variable {n:Int} {ts:List Tie} {ks:List Nat} {prs:List (Option Int × Int)}
end
end L3
namespace L3
open PySem PySem.Spec PyProof.Rows L2
section
variable {P:Program} {w:World} {K:PySem.W.Frag} {mg:Str->Option Value} {base:Heap}
end
end L3
namespace L3
open PySem PySem.Spec PyProof.Rows L2
section
variable {X:Cx} {pins:List (Addr × Obj)} {σ:L2.St} {A:Around} {E:Value->Shared->Prop}
/-- a key that was made: a tuple of whole numbers -/
def KeyV (H:Hp) (v:V) (k:List Int):Prop:=∃ t,v=.ref t∧H t=some (.tup (k.map V.int))
/-- the list that is sorted stands empty meanwhile -/
abbrev still (a:Addr) (e1:Nat):HO:=.ext fun h=>h.get? a=some (seqObj "list" #[] e1)
end
end L3
namespace L3
open PySem PySem.Spec PyProof.Rows L2
section
variable {X:Cx} {pins:List (Addr × Obj)} {σ:L2.St} {H:Hp} {s:Shared}
/-- the table: empty, or with the lambda's code -/
def Tb (Pt:Addr) (lpos:Pos) (qual:Str) (H:Hp):Prop:=∃ ps,H Pt=some (.tbl ps)∧(ps=#[]∨∃ c',ps=#[rawInt lpos.line,rawInt lpos.col,.ref c']∧H c'=some (.ext fun h=>h.CodeRec (.ref c') qual))
/-- .. with the lambda's code -/
def Tf (Pt:Addr) (lpos:Pos) (qual:Str) (H:Hp):Prop:=∃ c',H Pt=some (.tbl #[rawInt lpos.line,rawInt lpos.col,.ref c'])∧H c'=some (.ext fun h=>h.CodeRec (.ref c') qual)
end
end L3
namespace L3
open PySem PySem.Spec PyProof.Rows L2
section
variable {P:Program} {w:World} {K:PySem.W.Frag} {mg:Str->Option Value} {base:Heap} {x:Str} {ps N:List Str} {sp:Sp} {k:Nat} {st:Stmt} {c:Addr}
end
def okey (ts:List Tie) (k:Nat):List Int:=[(tieAt ts k).2.2,(k:Int)]
/-- all numbers, by length, then by number -/
def OrdOk (ts:List Tie) (os:List Nat):Prop:=os.Perm (List.range ts.length)∧os.Pairwise fun a b=>Srt.lexI (okey ts b) (okey ts a)=false
end L3
namespace L3
open PySem PySem.Spec PyProof.Rows L2
section
variable {P:Program} {w:World} {K:PySem.W.Frag} {mg:Str->Option Value} {base:Heap}
/-- the cells and what is in them; nobody else speaks of them -/
structure Clo (H:Hp) (h:Heap) (ys:List Str) (cl:List (Str × Addr)) (uys:List Value):Prop where
 names:cl.map (·.1)=ys
 unlike:(cl.map (·.2)).Nodup
 len:uys.length=cl.length
 cell:∀ (i:Nat) (y:Str) (c:Addr) (u:Value),cl[i]?=some (y,c)->uys[i]?=some u->h.IsCell c (some u)
 free:∀ y c,(y,c) ∈ cl->H c=none
end
section
variable {X:Cx}
end
end L3
namespace L3
open PySem PySem.Spec PyProof.Rows L2
section
variable {K:PySem.W.Frag} {h:Heap} {mg:Str->Option Value} {x:Str} {st:Stmt} {ps:List Str} {f c Pt:Addr} {od an odc:Option Addr} {sl slc:Array (Option Value)} {oc occ kV dc pm cd ct:Value} {us:Array Value} {fd:FuncData}
end
end L3
namespace L3
open PySem PySem.Spec PyProof.Rows L2
end L3
namespace Frs
abbrev T2:=Nat × Nat
inductive Cn (E:List T2) (u:Nat):Nat->Prop
 | nil:Cn E u u
 | snoc {v w:Nat}:Cn E u v->((v,w) ∈ E∨(w,v) ∈ E)->Cn E u w
section
variable {E F:List T2} {u v w a b:Nat}
end
/-- marks that tell what hangs together -/
def Mk (n:Nat) (E:List T2) (M:List Nat):Prop:=M.length=n∧∀ u v,u < n->v < n->(M.getD u 0=M.getD v 0↔Cn E u v)
def join (M:List Nat) (p q:Nat):List Nat:=M.map fun m=>if m=q then p else m
section
variable {n:Nat} {E:List T2} {M:List Nat} {a b:Nat}
end
end Frs
namespace L3
open PySem PySem.Spec PyProof.Rows L2
def t2 (ts:List Tie) (k:Nat):Frs.T2:=((tieAt ts k).1.toNat,(tieAt ts k).2.1.toNat)
end L3
namespace L3
open PySem PySem.Spec PyProof.Rows L2
end L3
namespace Far
section
variable {B:List Arc} {n s a b:Nat} {ws S:List Nat} {x y:Int} {cs:List (Option (Int × Int))} {as:List (Option Nat)}
/-- the least of all walks, and a route -/
def MinW (B:List Arc) (a b:Nat) (ws:List Nat):Prop:=∃ S x y,Rt B a ws S b x y∧∀ L,Walk (arcsC B) a b L->comb (x,y)≤L
end
/-- what two ways share is a part of both -/
def Shr (W1 W2:List Nat):Prop:=(∀ x ∈ W1,x ∉ W2)∨∃ p m q p2 q2,W1=p++m++q∧m≠[]∧(∀ x ∈ p,x ∉ W2)∧(∀ x ∈ q,x ∉ W2)∧(W2=p2++m++q2∨W2=p2++m.reverse++q2)
end Far
namespace L3
open PySem PySem.Spec PyProof.Rows L2
theorem tb_arcB {n:Int} {ts:List Tie} {ks:List Nat} (ok:WebOk n ts) (ko:KeepOk ts.length ks) {u v k:Nat} {l:Int} (h:(u,v,l,k) ∈ arcsB ts ks):tbN ts u v=some k:=by
 have h2:(u,v,l,k) ∈ arcsB ts (List.range ts.length):=by
  obtain⟨k',hk',m⟩:=arcsB_mem.mp h
  exact arcsB_mem.mpr ⟨k',List.mem_range.mpr (ko.2 k' hk'),m⟩
 have e:=tie_one ok (allOk ts) h2
 unfold tbN
 rw[← List.head?_filter,e];rfl
def spShare (K:PySem.W.Frag):Sp:=fun vs H Q _=>∃ (t1 t2:Addr) (W1 W2:List Nat),vs=[.ref t1,.ref t2]∧H t1=some (.tup (natV W1))∧H t2=some (.tup (natV W2))∧W1.length≤24∧W2.length≤24∧W1.Nodup∧Far.Shr W1 W2∧∀ H',Same H H'->Q (.bl true) H'
end L3
namespace L3
open PySem PySem.Spec PyProof.Rows L2
/-- the ways that were told so far -/
def WaysL (J:Hp) (ts:List Tie) (ks:List Nat) (ys:List V):Prop:=∀ v ∈ ys,∃ t W a b,v=.ref t∧J t=some (.tup (natV W))∧W.length≤24∧Far.MinW (arcsB ts ks) a b W
end L3
namespace Far
inductive W2 (B:List Arc) (s:Nat):Nat->Int->Int->Prop
 | nil:W2 B s s 0 0
 | snoc {u v:Nat} {x y l:Int} {k:Nat}:W2 B s u x y->(u,v,l,k) ∈ B->W2 B s v (x + l) (y + 2 ^ k)
end Far
namespace L3
open PySem PySem.Spec PyProof.Rows L2
/-- a web and a keep of it that is a list -/
def WKL (K:PySem.W.Frag) (H:Hp) (n:Int) (ts:List Tie) (ks:List Nat) (wv:V) (kp:Addr):Prop:=Is K H (webD n ts) wv∧WebOk n ts∧H kp=some (.lst ((keepI ks).map V.int))∧KeepOk ts.length ks
end L3
namespace Far
def chn (R:Nat->Nat->Prop):List Nat->Prop
 | []=>True
 | [_]=>True
 | a::b::r=>R a b∧chn R (b::r)
section
variable {R:Nat->Nat->Prop}
theorem chn_join:∀ {l m:List Nat} {x y:Nat},chn R (l++[x])->R x y->chn R (y::m)->chn R (l++[x]++y::m)
 | [],m,x,y,_,r,h=>⟨r,h⟩
 | [a],m,x,y,h1,r,h=>⟨h1.1,chn_join (l:=[]) (x:=x) (y:=y) h1.2 r h⟩
 | a::b::l,m,x,y,h1,r,h=>⟨h1.1,chn_join (l:=b::l) (x:=x) (y:=y) h1.2 r h⟩
theorem chn_split:∀ {l m:List Nat} {x:Nat},chn R (l++x::m)->chn R (l++[x])∧chn R (x::m)
 | [],m,x,h=>⟨trivial,h⟩
 | [a],m,x,h=>⟨⟨h.1,trivial⟩,h.2⟩
 | a::b::l,m,x,h=>⟨⟨h.1,(chn_split (l:=b::l) (x:=x) h.2).1⟩,(chn_split (l:=b::l) (x:=x) h.2).2⟩
theorem chn_rev (sy:∀ u v,R u v->R v u):∀ {l:List Nat},chn R l->chn R l.reverse
 | [],_=>trivial
 | [_],_=>trivial
 | a::b::r,h=>by
  have ih:=chn_rev sy h.2
  rw[List.reverse_cons] at ih
  rw[List.reverse_cons,List.reverse_cons]
  exact chn_join (l:=r.reverse) (m:=[]) ih (sy _ _ h.1) trivial
theorem chn_at:∀ {l:List Nat} {i u v:Nat},chn R l->l[i]?=some u->l[i + 1]?=some v->R u v
 | [],i,u,v,_,e,_=>by cases e
 | [a],i,u,v,_,_,e=>by cases e
 | a::b::r,0,u,v,h,e1,e2=>by cases e1;cases e2;exact h.1
 | a::b::r,i + 1,u,v,h,e1,e2=>chn_at (l:=b::r) h.2 e1 e2
/-- a way made a ring: turned so that h stands first, one way about or the other -/
def RingOf (ws:List Nat) (h:Nat) (tl:List Nat):Prop:=∃ p q,ws=p++h::q∧(tl=q++p∨tl=(q++p).reverse)
theorem RingOf.mem {ws tl:List Nat} {h:Nat} (r:RingOf ws h tl) {x:Nat}:x ∈ h::tl↔x ∈ ws:=by
 obtain⟨p,q,e,t⟩:=r
 rw[e]
 rcases t with t | t
 ·rw[t];simp only [List.mem_cons,List.mem_append];constructor
  ·rintro (z | z | z)
   ·exact .inr (.inl z)
   ·exact .inr (.inr z)
   ·exact .inl z
  ·rintro (z | z | z)
   ·exact .inr (.inr z)
   ·exact .inl z
   ·exact .inr (.inl z)
 ·rw[t];simp only [List.mem_cons,List.mem_append,List.mem_reverse];constructor
  ·rintro (z | z | z)
   ·exact .inr (.inl z)
   ·exact .inr (.inr z)
   ·exact .inl z
  ·rintro (z | z | z)
   ·exact .inr (.inr z)
   ·exact .inl z
   ·exact .inr (.inl z)
theorem RingOf.len {ws tl:List Nat} {h:Nat} (r:RingOf ws h tl):tl.length + 1=ws.length:=by
 obtain⟨p,q,e,t⟩:=r
 rw[e]
 rcases t with t | t
 ·rw[t];simp only [List.length_append,List.length_cons];omega
 ·rw[t];simp only [List.length_append,List.length_cons,List.length_reverse];omega
theorem RingOf.nodup {ws tl:List Nat} {h:Nat} (r:RingOf ws h tl) (nd:ws.Nodup):(h::tl).Nodup:=by
 obtain⟨p,q,e,t⟩:=r
 rw[e] at nd
 have n1:(h::(q++p)).Nodup:=by
  have:(h::q++p).Nodup:=(List.perm_append_comm.nodup_iff).mp nd
  simpa using this
 rcases t with t | t
 ·rw[t];exact n1
 ·rw[t]
  rw[List.nodup_cons] at n1 ⊢
  exact⟨fun z=>n1.1 (List.mem_reverse.mp z),(List.reverse_perm _).nodup_iff.mpr n1.2⟩
theorem RingOf.chn (sy:∀ u v,R u v->R v u) {ws tl:List Nat} {h a b:Nat} {w1 w2:List Nat} (r:RingOf ws h tl) (c:chn R ws) (e1:ws=a::w1) (e2:ws=w2++[b]) (l:R b a):Far.chn R (h::tl++[h]):=by
 obtain⟨p,q,e,t⟩:=r
 have key:Far.chn R (h::(q++p)++[h]):=by
  obtain⟨c1,c2⟩:=chn_split (l:=p) (x:=h) (m:=q) (by rw[← e];exact c)
  obtain⟨q2,eq⟩:∃ q2,h::q=q2++[b]:=by
   rcases List.eq_nil_or_concat q with rfl | ⟨q',z,rfl⟩
   ·have:w2++[b]=p++[h]:=by rw[← e2,e]
    obtain⟨_,z⟩:=List.append_inj' this rfl
    cases z
    exact⟨[],rfl⟩
   ·have:w2++[b]=(p++h::q')++[z]:=by rw[← e2,e];simp
    obtain⟨_,y⟩:=List.append_inj' this rfl
    cases y
    exact⟨h::q',by simp⟩
  cases p with
  | nil =>
   have:a=h:=by rw[e] at e1;injection e1 with z _;exact z.symm
   subst this
   rw[List.append_nil,eq]
   rw[eq] at c2
   exact chn_join (m:=[]) c2 l trivial
  | cons a' p' =>
   have:a=a':=by rw[e] at e1;injection e1 with z _;exact z.symm
   subst this
   have e3:h::(q++a::p')++[h]=(h::q)++(a::(p'++[h])):=by simp
   rw[e3,eq]
   rw[eq] at c2
   exact chn_join c2 l c1
 rcases t with t | t
 ·rw[t];exact key
 ·have e4:h::tl++[h]=(h::(q++p)++[h]).reverse:=by rw[t];simp
  rw[e4]
  exact chn_rev sy key
end
end Far
namespace L3
open PySem PySem.Spec PyProof.Rows L2
/-- min of a tuple of whole numbers -/
theorem call_minTu {X:Cx} (hh:X.calm=true):CallR X (.builtin "min") (fun xs H Q=>∃ (p:Addr) (ns:List Int),xs=[.ref p]∧H p=some (.tup (ns.map V.int))∧ns≠[]∧∀ b,b ∈ ns->(∀ x ∈ ns,b≤x)->Q (.int b) H):=by
 intro pins s σ H xs us Q I r h
 obtain⟨p,ns,rfl,hq,hne,q⟩:=h
 obtain⟨u,rfl,rx⟩:=vals1 r
 cases rx
 obtain⟨its,rv,pl,hz⟩:=I.tuple (SqT.of hq)
 have it:s.heap.IsTuple p its.toArray:=pl
 have hl:=rv.length
 rw[List.length_map] at hl
 have hI:IntsAre its ns:=intsAre_of rv
 have lt:p≠s.heap.objs.size:=by obtain⟨o,e,_⟩:=it;exact Nat.ne_of_lt (Heap.lt_size e)
 refine call_min_walkS (wpAny_pyIter_tuple it ?_)
 have W:=(Walks.tuple (prog:=X.prog) (w:=X.w) (A:=X.A.in1) (show X.A.in1.handled=none from I.ok.hd hh) s.heap.objs.size p lt its.toArray).toS
 have npos:0 < ns.length:=List.length_pos_iff.mpr hne
 have esz:its.toArray.size=ns.length:=by rw[List.size_toArray,← hl]
 have hv:∀ (i:Nat) (v:Value),its.toArray[i]?=some v->∃ t,v=Value.int (ns.getD i 0) t:=fun i v hv=>IntsAre.int_at hI i v (by simpa using hv)
 refine⟨s.heap.objs.size,_,_,_,_,_,_,(fun i j=>decide (ns.getD i 0 < ns.getD j 0)),rfl,W,⟨⟨_,Heap.get?_push_size _ rfl,rfl,rfl⟩,it.push _⟩,fun b hb=>?_,by rw[esz];exact npos,CmpOf.ints_lt (fun i=>ns.getD i 0) hv,fun v s' hP hm=>?_⟩
 ·obtain⟨o,e,_⟩:=it
  have hlt:p < s.heap.objs.size:=Heap.lt_size e
  show b < (s.heap.push _).objs.size
  rw[Heap.size_push]
  simp only [List.mem_cons,List.not_mem_nil,or_false] at hb
  rcases hb with z | z
  ·rw[z];exact Nat.lt_succ_self _
  ·rw[z];exact Nat.lt_succ_of_lt hlt
 ·obtain⟨t,rfl⟩:=hv _ _ hP
  obtain⟨b1,b2⟩:=best_least (fun i=>ns.getD i 0) (its.toArray.size - 1)
  rw[Moved.eq_with hm]
  refine⟨.int _,H,I.kept (t':=s'.toks) fun b o e=>hm.heap b o (fun z=>?_) (Heap.get?_push_of_some _ e),⟨t,rfl⟩,q _ ?_ fun x hx=>?_⟩
  ·have:b=s.heap.objs.size:=by simpa using z
   exact absurd (Heap.lt_size e) (by rw[this];exact Nat.lt_irrefl _)
  ·have:argBest (fun i j=>decide (ns.getD i 0 < ns.getD j 0)) (its.toArray.size - 1) < ns.length:=by omega
   rw[List.getD_eq_getElem?_getD,List.getElem?_eq_getElem this];exact List.getElem_mem this
  ·obtain⟨i,hi,e⟩:=List.getElem_of_mem hx
   have:=b2 i (by omega)
   have g:ns.getD i 0=ns[i]:=by rw[List.getD_eq_getElem?_getD,List.getElem?_eq_getElem hi];rfl
   rw[← e,← g];exact this
theorem nodup_few':∀ (n:Nat) {ws:List Nat},ws.Nodup->(∀ x ∈ ws,x < n)->ws.length≤n
 | 0,[],_,_=>Nat.le_refl _
 | 0,x::r,_,h=>absurd (h x (List.mem_cons_self ..)) (Nat.not_lt_zero _)
 | n + 1,ws,nd,h=>by
  by_cases c:n ∈ ws
  ·have:=nodup_few' n (ws:=ws.erase n) (nd.erase n) fun x hx=>by
    have:=(nd.mem_erase_iff).mp hx
    have:=h x this.2
    omega
   rw[List.length_erase_of_mem c] at this
   omega
  ·have:=nodup_few' n nd fun x hx=>by
    have:=h x hx
    have:x≠n:=fun z=>c (z ▸ hx)
    omega
   omega
theorem nodup_few {ws:List Nat} {n:Nat} (nd:ws.Nodup) (h:∀ x ∈ ws,x < n):ws.length≤n:=nodup_few' n nd h
/-- two places with a tie of the keep between them -/
def adjK (ts:List Tie) (ks:List Nat) (u v:Nat):Prop:=∃ k,k ∈ ks∧tbN ts u v=some k
theorem tb_comm (ts:List Tie) (u v:Nat):tbN ts u v=tbN ts v u:=by
 unfold tbN
 congr 1
 funext k
 unfold isTB
 rw[Int.min_comm,Int.max_comm]
theorem adjK.sym {ts:List Tie} {ks:List Nat} (u v:Nat) (h:adjK ts ks u v):adjK ts ks v u:=by
 obtain⟨k,hk,e⟩:=h
 exact⟨k,hk,by rw[tb_comm];exact e⟩
theorem tie_arc {ts:List Tie} {ks:List Nat} {k:Nat} (hk:k ∈ ks):((tieAt ts k).1.toNat,(tieAt ts k).2.1.toNat,(tieAt ts k).2.2,k) ∈ arcsB ts ks:=arcsB_mem.mpr ⟨k,hk,arcs2B_mem.mpr (.inl rfl)⟩
/-- a ring in its least turn -/
def Turn (h:Nat) (tl:List Nat):Prop:=(∀ x ∈ tl,h≤x)∧∀ u v p q,tl=u::p->tl=q++[v]->u≤v
end L3
namespace Stb
open PySem
def Asc (xs:Array Nat):Prop:=∀ i j,i < j->j < xs.size->xs.getD i 0 < xs.getD j 0
/-- what holds of each table that was made by adding -/
def TI (b:Bool) (t:SetTable):Prop:=Asc t.place∧t.led=b
end Stb
namespace Stb
open PySem PyProof.Rows
/-- whether sets of this world are led -/
def ledOf (w:World):Bool:=!w.params.followText "set-order"
/-- the table of the set at a -/
def TIat (w:World) (h:Heap) (a:Addr):Prop:=∃ o es ep t,h.get? a=some o∧o.data=.set es ep t∧TI (ledOf w) t
abbrev SetT (P:Program) (w:World) (h:Heap) (a:Addr) (S:Int->Bool) (n:Nat):Prop:=h.SetOf (intKind P w) a S n∧TIat w h a
section
variable {prog:Program} {w:World} {A:Around} {E:Value->Shared->Prop} {s:Shared}
end
end Stb
namespace Stb
open PySem PyProof.Rows
section
variable {prog:Program} {w:World} {A:Around} {E:Value->Shared->Prop} {s:Shared}
end
end Stb
namespace Stb
open PySem PyProof.Rows
section
variable {prog:Program} {w:World} {A:Around} {E:Value->Shared->Prop} {s:Shared}
end
end Stb
namespace Stb
open PySem PyProof.Rows
section
variable {prog:Program} {w:World} {A:Around} {E:Value->Shared->Prop} {s:Shared} {a I:Addr} {es:Array (Int × Value)} {ep:Nat} {t:SetTable}
section
variable {Q:Option Value->Shared->Prop} {i:Nat}
end
end
end Stb
namespace Stb
open PySem PyProof.Rows
section
variable {prog:Program} {w:World} {A:Around} {E:Value->Shared->Prop} {s:Shared} {a I:Addr} {es:Array (Int × Value)} {ep:Nat} {t:SetTable}
end
end Stb
namespace Stb
open PySem PyProof.Rows
section
variable {prog:Program} {w:World} {A:Around} {E:Value->Shared->Prop} {s:Shared} {a:Addr} {es:Array (Int × Value)} {ep:Nat} {t:SetTable}
end
end Stb
namespace Srt
open PySem PySem.Spec PyProof.Rows PySem.W
section
variable {prog:Program} {w:World} {A:Around} {E:Value->Shared->Prop} {s:Shared}
end
end Srt
namespace L3
open PySem PySem.Spec PyProof.Rows L2
/-- a set that can be walked -/
def SetO (P:Program) (w:World) (a:Addr) (S:Int->Bool) (n:Nat):HO:=.ext fun h=>Stb.SetT P w h a S n
section
variable {X:Cx}
end
end L3
namespace L3
open PySem PySem.Spec PyProof.Rows L2
/-- max of a tuple of whole numbers -/
theorem call_maxTu {X:Cx} (hh:X.calm=true):CallR X (.builtin "max") (fun xs H Q=>∃ (p:Addr) (ns:List Int),xs=[.ref p]∧H p=some (.tup (ns.map V.int))∧ns≠[]∧∀ b,b ∈ ns->(∀ x ∈ ns,x≤b)->Q (.int b) H):=by
 intro pins s σ H xs us Q I r h
 obtain⟨p,ns,rfl,hq,hne,q⟩:=h
 obtain⟨u,rfl,rx⟩:=vals1 r
 cases rx
 obtain⟨its,rv,pl,hz⟩:=I.tuple (SqT.of hq)
 have it:s.heap.IsTuple p its.toArray:=pl
 have hl:=rv.length
 rw[List.length_map] at hl
 have hI:IntsAre its ns:=intsAre_of rv
 have lt:p≠s.heap.objs.size:=by obtain⟨o,e,_⟩:=it;exact Nat.ne_of_lt (Heap.lt_size e)
 refine call_max_walkS (wpAny_pyIter_tuple it ?_)
 have W:=(Walks.tuple (prog:=X.prog) (w:=X.w) (A:=X.A.in1) (show X.A.in1.handled=none from I.ok.hd hh) s.heap.objs.size p lt its.toArray).toS
 have npos:0 < ns.length:=List.length_pos_iff.mpr hne
 have esz:its.toArray.size=ns.length:=by rw[List.size_toArray,← hl]
 have hv:∀ (i:Nat) (v:Value),its.toArray[i]?=some v->∃ t,v=Value.int (ns.getD i 0) t:=fun i v hv=>IntsAre.int_at hI i v (by simpa using hv)
 refine⟨s.heap.objs.size,_,_,_,_,_,_,(fun i j=>decide (ns.getD i 0 > ns.getD j 0)),rfl,W,⟨⟨_,Heap.get?_push_size _ rfl,rfl,rfl⟩,it.push _⟩,fun b hb=>?_,by rw[esz];exact npos,CmpOf.ints_gt (fun i=>ns.getD i 0) hv,fun v s' hP hm=>?_⟩
 ·obtain⟨o,e,_⟩:=it
  have hlt:p < s.heap.objs.size:=Heap.lt_size e
  show b < (s.heap.push _).objs.size
  rw[Heap.size_push]
  simp only [List.mem_cons,List.not_mem_nil,or_false] at hb
  rcases hb with z | z
  ·rw[z];exact Nat.lt_succ_self _
  ·rw[z];exact Nat.lt_succ_of_lt hlt
 ·obtain⟨t,rfl⟩:=hv _ _ hP
  obtain⟨b1,b2⟩:=best_mostM (fun i=>ns.getD i 0) (its.toArray.size - 1)
  rw[Moved.eq_with hm]
  refine⟨.int _,H,I.kept (t':=s'.toks) fun b o e=>hm.heap b o (fun z=>?_) (Heap.get?_push_of_some _ e),⟨t,rfl⟩,q _ ?_ fun x hx=>?_⟩
  ·have:b=s.heap.objs.size:=by simpa using z
   exact absurd (Heap.lt_size e) (by rw[this];exact Nat.lt_irrefl _)
  ·have:argBest (fun i j=>decide (ns.getD i 0 > ns.getD j 0)) (its.toArray.size - 1) < ns.length:=by omega
   rw[List.getD_eq_getElem?_getD,List.getElem?_eq_getElem this];exact List.getElem_mem this
  ·obtain⟨i,hi,e⟩:=List.getElem_of_mem hx
   have:=b2 i (by omega)
   have g:ns.getD i 0=ns[i]:=by rw[List.getD_eq_getElem?_getD,List.getElem?_eq_getElem hi];rfl
   rw[← e,← g];exact this
theorem perm_of_len:∀ {l m:List Int},l.Nodup->(∀ x ∈ l,x ∈ m)->m.length≤l.length->m.Perm l
 | [],m,_,_,h=>by
  have:m=[]:=List.length_eq_zero_iff.mp (by simpa using h)
  rw[this]
 | x::l,m,nd,sub,h=>by
  have hx:=sub x List.mem_cons_self
  obtain⟨nx,nl⟩:=List.nodup_cons.mp nd
  have pe:=List.perm_cons_erase hx
  refine pe.trans (List.Perm.cons x (perm_of_len nl (fun y hy=>?_) ?_))
  ·exact (List.mem_erase_of_ne fun e=>nx (by rw[← e];exact hy)).mpr (sub y (List.mem_cons_of_mem _ hy))
  ·rw[List.length_erase_of_mem hx];simp at h;omega
def alongO (ts:List Tie) (ws:List Nat):List V:=(List.range (ws.length - 1)).map fun i=>oa (tbN ts (ws.getD i 0) (ws.getD (i + 1) 0))
def spAlongO (K:PySem.W.Frag):Sp:=fun vs H Q _=>∃ (n:Int) (ts:List Tie) (wv:V) (t:Addr) (ws:List Nat),vs=[wv,.ref t]∧Is K H (webD n ts) wv∧ts.length≤60∧H t=some (.tup (natV ws))∧ws.length≤40∧∀ l H',Same H H'->H' l=some (.lst (alongO ts ws))->Q (.ref l) H'
def tiedB (ts:List Tie) (ks:List Nat) (a b:Int):Bool:=match tbN ts a.toNat b.toNat with | some k=>decide (k ∈ ks) | none=>false
def roundB (ts:List Tie) (ks:List Nat) (ns:List Int):Bool:=(List.range ns.length).all fun i=>tiedB ts ks (ns.getD i 0) ((ns++ns.take 1).getD (i + 1) 0)
def turnB (ns:List Int):Bool:=ns.all (fun x=>decide (ns.getD 0 0≤x)) && decide (ns.getD 1 0≤ns.getD (ns.length - 1) 0)
def inB (n:Int) (ns:List Int):Bool:=ns.all fun i=>decide (0≤i) && decide (i < n)
def ringB (n:Int) (ts:List Tie) (ks:List Nat) (ns:List Int):Bool:=(inB n ns && decide ns.Nodup) && (decide (3≤ns.length) && (turnB ns && roundB ts ks ns))
def spRingB (K:PySem.W.Frag):Sp:=fun vs H Q _=>∃ (n:Int) (ts:List Tie) (ks:List Nat) (wv kv:V) (t:Addr) (ns:List Int),vs=[wv,kv,.ref t]∧WK K H n ts ks wv kv∧H t=some (.tup (ns.map V.int))∧ns.length≤60∧∀ H',Same H H'->Q (.bl (ringB n ts ks ns)) H'
end L3
namespace L3
open PySem PySem.Spec PyProof.Rows L2
theorem eqv_ints:∀ a b:List Int,PyData.eqvAll (a.map .int) (b.map .int)=decide (a=b)
 | [],[]=>rfl
 | [],_::_=>rfl
 | _::_,[]=>rfl
 | x::a,y::b=>by
  show (PyData.eqv (.int x) (.int y) && PyData.eqvAll (a.map .int) (b.map .int))=_
  rw[eqv_ints a b,show PyData.eqv (.int x) (.int y)=decide (x=y) from rfl]
  by_cases e:x=y
  ·subst e;simp
  ·simp [e]
theorem eqv_list (a b:List Int):PyData.eqv (.list (a.map .int)) (.list (b.map .int))=decide (a=b):=eqv_ints a b
end L3
namespace L3
open PySem PySem.Spec PyProof.Rows L2
end L3
namespace L3
open PySem PySem.Spec PyProof.Rows L2
section
variable {g:TG} {tt:TT} {te:TE} {own:List Str} {js:List Nat} {σ:L2.St} {H1:Hp} {Q:VK}
end
/-- a row of whole numbers, of so many at the most -/
def RowV (lo hi:Nat) (J:Hp) (v:V):Prop:=∃ (p:Addr) (ns:List Int),v=.ref p∧J p=some (.tup (ns.map V.int))∧lo≤ns.length∧ns.length≤hi
theorem RowV.tk {lo hi:Nat} {J J':Hp} {v:V} (k:TupKeep J J') (h:RowV lo hi J v):RowV lo hi J' v:=let ⟨p,ns,e,e1,r⟩:=h;⟨p,ns,e,k _ _ e1,r⟩
end L3
namespace L3
open PySem PySem.Spec PyProof.Rows L2
theorem cut_row (ns:List Int) (lo hi:Option Int):∃ ms:List Int,cutV (ns.map V.int) lo hi=ms.map V.int∧ms.length≤ns.length:=by
 refine⟨(ns.drop (HT.sIx (ns.map V.int).length 0 lo)).take (HT.sIx (ns.map V.int).length (ns.map V.int).length hi - HT.sIx (ns.map V.int).length 0 lo),?_,?_⟩
 ·unfold cutV;rw[List.map_take,List.map_drop]
 ·rw[List.length_take,List.length_drop];omega
end L3
namespace L3
open PySem PySem.Spec PyProof.Rows L2
end L3
namespace Shr
def geo (d:Nat):Nat->Nat
 | 0=>0
 | k + 1=>geo d k * d + 1
theorem geo_next (d:Nat):∀ k,geo d (k + 1)=geo d k + d ^ k
 | 0=>by simp [geo]
 | k + 1=>by
  have h:=geo_next d k
  show geo d (k + 1) * d + 1=geo d (k + 1) + d ^ (k + 1)
  have e:geo d (k + 1)=geo d k * d + 1:=rfl
  calc geo d (k + 1) * d + 1=(geo d k + d ^ k) * d + 1:=by rw[h]
   _=geo d k * d + d ^ k * d + 1:=by rw[Nat.add_mul]
   _=(geo d k * d + 1) + d ^ (k + 1):=by rw[Nat.pow_succ];omega
   _=geo d (k + 1) + d ^ (k + 1):=by rw[e]
def spr (d k:Nat):Nat:=1 + (d + 1) * geo d k
theorem spr_next (d k:Nat):spr d (k + 1)=spr d k + (d + 1) * d ^ k:=by
 unfold spr;rw[geo_next,Nat.mul_add];omega
theorem geo_pos (d k:Nat):1≤geo d (k + 1):=by show 1≤geo d k * d + 1;omega
theorem spr_big (d k:Nat) (hk:1≤k):d + 2≤spr d k:=by
 cases k with
 | zero=>omega
 | succ k =>
  unfold spr
  have:=Nat.mul_le_mul_left (d + 1) (geo_pos d k)
  omega
/-- the share: the least d -/
def Share (n k d:Nat):Prop:=n < spr d k∧∀ e,e < d->spr e k≤n
theorem Share.one {n k d e:Nat} (a:Share n k d) (b:Share n k e):d=e:=by
 rcases Nat.lt_trichotomy d e with h | h | h
 ·exact absurd (b.2 d h) (by have:=a.1;omega)
 ·exact h
 ·exact absurd (a.2 e h) (by have:=b.1;omega)
end Shr
namespace Lr
open Far (chn chn_join chn_split chn_rev chn_at RingOf)
section
variable {R:Nat->Nat->Prop}
theorem chn_glue {l m:List Nat} {z:Nat} (h1:chn R (l++[z])) (h2:chn R (z::m)):chn R (l++z::m):=by
 cases m with
 | nil=>exact h1
 | cons y m =>
  have:=chn_join (l:=l) (m:=m) (x:=z) (y:=y) h1 h2.1 h2.2
  simpa using this
theorem chn_mono {R':Nat->Nat->Prop} (h:∀ u v,R u v->R' u v):∀ {l:List Nat},chn R l->chn R' l
 | [],_=>trivial
 | [_],_=>trivial
 | _::_::_,c=>⟨h _ _ c.1,chn_mono h c.2⟩
/-- a ring: h, then tl, and back to h -/
structure Rg (R:Nat->Nat->Prop) (h:Nat) (tl:List Nat):Prop where
 len:2≤tl.length
 nd:(h::tl).Nodup
 ch:chn R (h::tl++[h])
/-- a ring told as it should be: from its least place on, the smaller neighbour first -/
def Cano (h:Nat) (tl:List Nat):Prop:=(∀ v ∈ tl,h < v)∧∃ x m y,tl=x::(m++[y])∧x < y
theorem two_ends {tl:List Nat} (h:2≤tl.length):∃ x m y,tl=x::(m++[y]):=by
 match tl,h with
 | x::y::r,_ =>
  rcases List.eq_nil_or_concat (y::r) with e | ⟨m,z,e⟩
  ·cases e
  ·exact⟨x,m,z,by rw[e,List.concat_eq_append]⟩
theorem least_of:∀ {l:List Nat},l≠[]->∃ m ∈ l,∀ v ∈ l,m≤v
 | [],h=>absurd rfl h
 | [a],_=>⟨a,List.mem_cons_self,fun v hv=>by rw[List.mem_singleton.mp hv];exact Nat.le_refl _⟩
 | a::b::r,_=>by
  obtain⟨m,hm,h⟩:=least_of (l:=b::r) (by simp)
  by_cases c:a≤m
  ·refine⟨a,List.mem_cons_self,fun v hv=>?_⟩
   rcases List.mem_cons.mp hv with z | z
   ·rw[z];exact Nat.le_refl _
   ·exact Nat.le_trans c (h v z)
  ·refine⟨m,List.mem_cons_of_mem _ hm,fun v hv=>?_⟩
   rcases List.mem_cons.mp hv with z | z
   ·rw[z];omega
   ·exact h v z
/-- a ring turned -/
theorem Rg.turn (sy:∀ u v,R u v->R v u) {a:Nat} {w:List Nat} (r:Rg R a w) {h:Nat} {tl:List Nat} (o:RingOf (a::w) h tl):Rg R h tl:=by
 obtain⟨x,m,y,e⟩:=two_ends r.len
 have c:=r.ch
 have c0:chn R (a::w):=(chn_split (l:=a::w) (m:=[]) (x:=a) c |>.1 |> fun _=>by
  rcases List.eq_nil_or_concat w with z | ⟨w',z,ez⟩
  ·rw[z];trivial
  ·rw[ez,List.concat_eq_append] at c ⊢
   have:=(chn_split (l:=a::w') (x:=z) (m:=[a]) (by simpa using c)).1
   simpa using this)
 have cl:R y a:=by
  rw[e] at c
  have:=(chn_split (l:=a::x::m) (x:=y) (m:=[a]) (by simpa using c)).2
  exact this.1
 refine⟨?_,o.nodup r.nd,o.chn sy c0 (a:=a) (b:=y) (w1:=w) (w2:=a::x::m) rfl (by rw[e];simp) cl⟩
 have:=o.len
 have:=r.len
 simp at *
 omega
theorem Rg.cano (sy:∀ u v,R u v->R v u) {a:Nat} {w:List Nat} (r:Rg R a w):∃ h tl,Rg R h tl∧Cano h tl∧tl.length=w.length∧∀ v,v ∈ h::tl↔v ∈ a::w:=by
 obtain⟨h,hm,hl⟩:=least_of (l:=a::w) (by simp)
 obtain⟨p,q,e⟩:=List.append_of_mem hm
 have fin:∀ tl,RingOf (a::w) h tl->(∀ v ∈ tl,h < v)∧tl.length=w.length∧∀ v,v ∈ h::tl↔v ∈ a::w:=fun tl o=>by
  have nd:=o.nodup r.nd
  refine⟨fun v hv=>?_,?_,fun v=>o.mem⟩
  ·have:=hl v (o.mem.mp (List.mem_cons_of_mem _ hv))
   have ne:h≠v:=fun z=>(List.nodup_cons.mp nd).1 (z ▸ hv)
   omega
  ·have:=o.len
   simp at this;omega
 have o1:RingOf (a::w) h (q++p):=⟨p,q,e,.inl rfl⟩
 have o2:RingOf (a::w) h (q++p).reverse:=⟨p,q,e,.inr rfl⟩
 have r1:=r.turn sy o1
 obtain⟨x,m,y,e1⟩:=two_ends r1.len
 have ne:x≠y:=fun z=>by
  have nd:=(List.nodup_cons.mp r1.nd).2
  rw[e1] at nd
  exact (List.nodup_cons.mp nd).1 (by rw[z];simp)
 obtain⟨f1,f2,f3⟩:=fin _ o1
 obtain⟨g1,g2,g3⟩:=fin _ o2
 by_cases lt:x < y
 ·exact⟨h,_,r1,⟨f1,x,m,y,e1,lt⟩,f2,f3⟩
 ·refine⟨h,_,r.turn sy o2,⟨g1,y,m.reverse,x,?_,by omega⟩,g2,g3⟩
  rw[e1];simp
/-- no ring of at most B places -/
def NoRg (R:Nat->Nat->Prop) (B:Nat):Prop:=∀ h tl,Rg R h tl->B < tl.length + 1
theorem first_in:∀ {p q:List Nat} {z:Nat},z ∈ p->z ∈ q->∃ p1 y p2,p=p1++y::p2∧y ∈ q∧∀ v ∈ p1,v ∉ q
 | [],q,z,h,_=>by cases h
 | a::p,q,z,h,hq=>by
  by_cases c:a ∈ q
  ·exact⟨[],a,p,rfl,c,fun v hv=>by cases hv⟩
  ·have hz:z ∈ p:=(List.mem_cons.mp h).resolve_left fun e=>c (e ▸ hq)
   obtain⟨p1,y,p2,e,h1,h2⟩:=first_in (p:=p) hz hq
   refine⟨a::p1,y,p2,by rw[e];rfl,h1,fun v hv=>?_⟩
   rcases List.mem_cons.mp hv with e | e
   ·rw[e];exact c
   ·exact h2 v e
theorem same_way (sy:∀ u v,R u v->R v u):∀ {p q:List Nat} {x B:Nat},(x::p).Nodup->(x::q).Nodup->chn R (x::p)->chn R (x::q)->(x::p).getLast?=(x::q).getLast?->p.length + q.length≤B->NoRg R B->p=q
 | [],q,x,B,_,nq,_,_,e,_,_=>by
  cases q with
  | nil=>rfl
  | cons v q =>
   exfalso
   have e':(v::q).getLast?=some x:=by simpa using e.symm
   exact (List.nodup_cons.mp nq).1 (List.mem_of_getLast? e')
 | u::p,[],x,B,np,_,_,_,e,_,_=>by
  exfalso
  have e':(u::p).getLast?=some x:=by simpa using e
  exact (List.nodup_cons.mp np).1 (List.mem_of_getLast? e')
 | u::p,v::q,x,B,np,nq,cp,cq,e,lB,no=>by
  by_cases z:u=v
  ·subst z
   have e':(u::p).getLast?=(u::q).getLast?:=by simpa using e
   rw[same_way sy (List.nodup_cons.mp np).2 (List.nodup_cons.mp nq).2 cp.2 cq.2 e' (B:=B) (by simp at lB;omega) no]
  ·exfalso
   obtain⟨w,hw⟩:∃ w,(u::p).getLast?=some w:=⟨_,List.getLast?_eq_some_getLast (by simp)⟩
   have hw2:(v::q).getLast?=some w:=by
    have e':(u::p).getLast?=(v::q).getLast?:=by simpa using e
    rw[← e',hw]
   obtain⟨p1,y,p2,ep,hy,hp1⟩:=first_in (List.mem_of_getLast? hw) (List.mem_of_getLast? hw2)
   obtain⟨q1,q2,eq⟩:=List.append_of_mem hy
   have ndp:=np
   have ndq:=nq
   rw[ep] at ndp cp
   rw[eq] at ndq cq
   have xp:=(List.nodup_cons.mp ndp).1
   have xq:=(List.nodup_cons.mp ndq).1
   have np':=(List.nodup_cons.mp ndp).2
   have nq':=(List.nodup_cons.mp ndq).2
   have c1:chn R (x::p1++[y]):=(chn_split (l:=x::p1) (x:=y) (m:=p2) (by simpa using cp)).1
   have c2:chn R (x::q1++[y]):=(chn_split (l:=x::q1) (x:=y) (m:=q2) (by simpa using cq)).1
   have c3:chn R (y::q1.reverse++[x]):=by
    have:=chn_rev sy c2
    simpa using this
   have ring:Rg R x (p1++y::q1.reverse):=by
    refine⟨?_,?_,?_⟩
    ·rw[List.length_append,List.length_cons,List.length_reverse]
     have:¬ (p1=[]∧q1=[]):=fun ⟨a,b⟩=>by
      rw[a] at ep;rw[b] at eq
      injection ep with h1 _
      injection eq with h2 _
      exact z (h1.trans h2.symm)
     have h1:p1=[]∨1≤p1.length:=by cases p1 <;> simp
     have h2:q1=[]∨1≤q1.length:=by cases q1 <;> simp
     rcases h1 with h1 | h1
     ·rcases h2 with h2 | h2
      ·exact absurd ⟨h1,h2⟩ this
      ·omega
     ·omega
    ·refine List.nodup_cons.mpr ⟨fun h=>?_,?_⟩
     ·rcases List.mem_append.mp h with h | h
      ·exact xp (List.mem_append_left _ h)
      ·rcases List.mem_cons.mp h with h | h
       ·exact xp (by rw[h];simp)
       ·exact xq (List.mem_append_left _ (List.mem_reverse.mp h))
     ·refine List.nodup_append.mpr ⟨(List.nodup_append.mp np').1,?_,fun a ha b hb=>?_⟩
      ·refine List.nodup_cons.mpr ⟨fun h=>?_,(List.reverse_perm q1).nodup_iff.mpr (List.nodup_append.mp nq').1⟩
       exact (List.nodup_append.mp nq').2.2 y (List.mem_reverse.mp h) y List.mem_cons_self rfl
      ·rintro rfl
       refine hp1 a ha ?_
       rw[eq]
       rcases List.mem_cons.mp hb with h | h
       ·rw[h];simp
       ·exact List.mem_append_left _ (List.mem_reverse.mp h)
    ·have:=chn_glue (l:=x::p1) (z:=y) (m:=q1.reverse++[x]) c1 (by simpa using c3)
     simpa using this
   have:=no _ _ ring
   have l1:=congrArg List.length ep
   have l2:=congrArg List.length eq
   simp only [List.length_append,List.length_cons,List.length_reverse] at *
   omega
theorem chn_left:∀ {l m:List Nat},chn R (l++m)->chn R l
 | [],_,_=>trivial
 | [_],_,_=>trivial
 | a::b::l,m,h=>⟨h.1,chn_left (l:=b::l) h.2⟩
def stepW (rows:Nat->List Nat) (w:List Nat):List (List Nat):=((rows (w.getLast?.getD 0)).filter fun o=>decide (w.headD 0 < o) && !decide (o ∈ w)).map fun o=>w++[o]
def ways (rows:Nat->List Nat) (n:Nat):Nat->List (List Nat)
 | 0=>(List.range n).map fun v=>[v]
 | s + 1=>(ways rows n s).flatMap (stepW rows)
structure PW (R:Nat->Nat->Prop) (n:Nat) (w:List Nat):Prop where
 ne:w≠[]
 nd:w.Nodup
 ch:chn R w
 lt:∀ v ∈ w,v < n
 up:∀ h t,w=h::t->∀ v ∈ t,h < v
theorem snoc_parts {w:List Nat} (h:w≠[]):∃ p x,w=p++[x]:=by
 rcases List.eq_nil_or_concat w with z | ⟨p,x,e⟩
 ·exact absurd z h
 ·exact⟨p,x,by rw[e,List.concat_eq_append]⟩
section
variable {rows:Nat->List Nat} {n:Nat}
theorem step_mem {w w':List Nat} (hr:∀ u c,c ∈ rows u↔R u c) (hn:∀ u c,R u c->c < n) (h:PW R n w):w' ∈ stepW rows w↔∃ o,w'=w++[o]∧PW R n (w++[o]):=by
 obtain⟨p,x,e⟩:=snoc_parts h.ne
 have el:w.getLast?.getD 0=x:=by rw[e];simp
 obtain⟨h0,t,e0⟩:∃ h0 t,w=h0::t:=by cases w with
  | nil=>exact absurd rfl h.ne
  | cons a b=>exact⟨a,b,rfl⟩
 have eh:w.headD 0=h0:=by rw[e0];rfl
 unfold stepW
 rw[List.mem_map,el,eh]
 constructor
 ·rintro ⟨o,ho,rfl⟩
  obtain⟨h1,h2⟩:=List.mem_filter.mp ho
  rw[Bool.and_eq_true,decide_eq_true_iff,Bool.not_eq_true',decide_eq_false_iff_not] at h2
  have ro:=(hr x o).mp h1
  refine⟨o,rfl,by simp,?_,?_,fun v hv=>?_,fun a b eab v hv=>?_⟩
  ·refine List.nodup_append.mpr ⟨h.nd,by simp,fun a ha b hb=>?_⟩
   rw[List.mem_singleton.mp hb]
   exact fun z=>h2.2 (z ▸ ha)
  ·have c:=h.ch
   rw[e] at c ⊢
   exact chn_join (m:=[]) c ro trivial
  ·rcases List.mem_append.mp hv with z | z
   ·exact h.lt v z
   ·rw[List.mem_singleton.mp z];exact hn _ _ ro
  ·rw[e0] at eab
   injection eab with q1 q2
   subst q1;subst q2
   rcases List.mem_append.mp hv with z | z
   ·exact h.up _ _ e0 v z
   ·rw[List.mem_singleton.mp z];exact h2.1
 ·rintro ⟨o,rfl,k⟩
  refine⟨o,List.mem_filter.mpr ⟨(hr x o).mpr ?_,?_⟩,rfl⟩
  ·have c:=k.ch
   rw[e] at c
   exact (chn_split (l:=p) (x:=x) (m:=[o]) (by simpa using c)).2.1
  ·rw[Bool.and_eq_true,decide_eq_true_iff,Bool.not_eq_true',decide_eq_false_iff_not]
   refine⟨k.up h0 (t++[o]) (by rw[e0];rfl) o (by simp),fun z=>?_⟩
   exact (List.nodup_append.mp k.nd).2.2 o z o (by simp) rfl
theorem PW.init {w:List Nat} {o:Nat} (hw:w≠[]) (h:PW R n (w++[o])):PW R n w :=
 ⟨hw,(List.nodup_append.mp h.nd).1,chn_left h.ch,fun v hv=>h.lt v (List.mem_append_left _ hv),fun a b e v hv=>h.up a (b++[o]) (by rw[e];rfl) v (List.mem_append_left _ hv)⟩
theorem ways_mem (hr:∀ u c,c ∈ rows u↔R u c) (hn:∀ u c,R u c->c < n):∀ (s:Nat) (w:List Nat),w ∈ ways rows n s↔w.length=s + 1∧PW R n w
 | 0,w=>by
  unfold ways
  rw[List.mem_map]
  constructor
  ·rintro ⟨v,hv,rfl⟩
   exact⟨rfl,by simp,by simp,trivial,fun u hu=>by rw[List.mem_singleton.mp hu];exact List.mem_range.mp hv,fun a b e u hu=>by injection e with _ e;subst e;cases hu⟩
  ·rintro ⟨l,h⟩
   match w,l with
   | [v],_=>exact⟨v,List.mem_range.mpr (h.lt v List.mem_cons_self),rfl⟩
 | s + 1,w=>by
  show w ∈ (ways rows n s).flatMap (stepW rows)↔_
  rw[List.mem_flatMap]
  constructor
  ·rintro ⟨u,hu,hw⟩
   obtain⟨lu,pu⟩:=(ways_mem hr hn s u).mp hu
   obtain⟨o,rfl,k⟩:=(step_mem hr hn pu).mp hw
   exact⟨by rw[List.length_append,lu];rfl,k⟩
  ·rintro ⟨l,h⟩
   obtain⟨u,o,rfl⟩:=snoc_parts h.ne
   rw[List.length_append,List.length_singleton] at l
   have hu:u≠[]:=fun z=>by rw[z] at l;cases l
   have pu:=h.init hu
   exact⟨u,(ways_mem hr hn s u).mpr ⟨by omega,pu⟩,(step_mem hr hn pu).mpr ⟨o,rfl,h⟩⟩
end
end
end Lr
namespace Lr
open Far (chn chn_join chn_split chn_rev chn_at RingOf)
/-- at most, as rows of numbers -/
def lle:List Nat->List Nat->Prop
 | [],_=>True
 | _::_,[]=>False
 | a::l,b::m=>a < b∨(a=b∧lle l m)
theorem lle_init:∀ {l m:List Nat} {x y:Nat},l.length=m.length->lle (l++[x]) (m++[y])->lle l m
 | [],_,_,_,_,_=>trivial
 | a::l,[],_,_,e,_=>by cases e
 | a::l,b::m,x,y,e,h=>h.imp id fun z=>⟨z.1,lle_init (by simpa using e) z.2⟩
section
variable {R:Nat->Nat->Prop}
/-- a shortest chain from v to z -/
structure Sh (R:Nat->Nat->Prop) (z v:Nat) (l:List Nat):Prop where
 ch:chn R (v::l)
 last:(v::l).getLast?=some z
 min:∀ l',chn R (v::l')->(v::l').getLast?=some z->l.length≤l'.length
theorem last_cons {u v:Nat} {l:List Nat}:(v::u::l).getLast?=(u::l).getLast?:=by simp
theorem Sh.tail {z v u:Nat} {l:List Nat} (h:Sh R z v (u::l)):Sh R z u l :=
 ⟨h.ch.2,by rw[← last_cons (v:=v)];exact h.last,fun l' c e=>by
  have:=h.min (u::l') ⟨h.ch.1,c⟩ (by rw[last_cons];exact e)
  simpa using this⟩
theorem Sh.nodup {z:Nat}:∀ {l:List Nat} {v:Nat},Sh R z v l->(v::l).Nodup
 | [],v,_=>by simp
 | u::l,v,h=>by
  refine List.nodup_cons.mpr ⟨fun m=>?_,h.tail.nodup⟩
  obtain⟨p,q,e⟩:=List.append_of_mem m
  have c:=h.ch
  have la:=h.last
  rw[e] at c la
  have c2:chn R (v::q):=(chn_split (l:=v::p) (x:=v) (m:=q) (by simpa using c)).2
  have l2:(v::q).getLast?=some z:=by
   rw[← la,← List.cons_append,List.getLast?_append]
   have:(v::q).getLast?=some ((v::q).getLast (by simp)):=List.getLast?_eq_some_getLast (by simp)
   rw[this];rfl
  have:=h.min q c2 l2
  have le:=congrArg List.length e
  simp only [List.length_append,List.length_cons] at this le
  omega
/-- the step taken: to the least of the places that are one nearer -/
def Nx (R:Nat->Nat->Prop) (D:Nat->Option Nat) (v u:Nat):Prop:=R v u∧(∃ m,D u=some m∧D v=some (m + 1))∧∀ u',R v u'->(∃ m,D u'=some m∧D v=some (m + 1))->u≤u'
/-- how far, in steps -/
def Ds (R:Nat->Nat->Prop) (z:Nat) (D:Nat->Option Nat):Prop:=∀ v,(∀ m,D v=some m->∃ l,chn R (v::l)∧(v::l).getLast?=some z∧l.length=m)∧∀ l,chn R (v::l)->(v::l).getLast?=some z->∃ m,D v=some m∧m≤l.length
theorem Ds.sh {z:Nat} {D:Nat->Option Nat} (d:Ds R z D) {v m:Nat} {l:List Nat} (e:D v=some m) (c:chn R (v::l)) (la:(v::l).getLast?=some z):Sh R z v l↔l.length=m:=by
 constructor
 ·intro h
  obtain⟨l',c',e',len⟩:=(d v).1 m e
  have h1:=h.min l' c' e'
  obtain⟨m',em,le⟩:=(d v).2 l c la
  rw[e] at em
  cases em
  omega
 ·intro h
  refine⟨c,la,fun l' c' e'=>?_⟩
  obtain⟨m',em,le⟩:=(d v).2 l' c' e'
  rw[e] at em
  cases em
  omega
theorem greedy {z:Nat} {D:Nat->Option Nat} (d:Ds R z D):∀ {l:List Nat} {v:Nat},chn (Nx R D) (v::l)->(v::l).getLast?=some z->Sh R z v l∧∀ l',Sh R z v l'->lle l l'
 | [],v,_,e=>⟨⟨trivial,e,fun l' _ _=>Nat.zero_le _⟩,fun _ _=>trivial⟩
 | u::l,v,c,e=>by
  obtain⟨⟨rvu,⟨m,em,ev⟩,least⟩,c'⟩:=c
  obtain⟨sh,le⟩:=greedy d c' (by rw[← last_cons (v:=v)];exact e)
  have lm:l.length=m:=(d.sh em sh.ch sh.last).mp sh
  have sh':Sh R z v (u::l):=(d.sh (l:=u::l) ev ⟨rvu,sh.ch⟩ e).mpr (by rw[List.length_cons,lm])
  refine⟨sh',fun l' h=>?_⟩
  have ll:=(d.sh ev h.ch h.last).mp h
  cases l' with
  | nil=>cases ll
  | cons u' t =>
   have ht:=h.tail
   obtain⟨m',em',le'⟩:=(d u').2 t ht.ch ht.last
   have lt:=(d.sh em' ht.ch ht.last).mp ht
   have ee:m'=m:=by simp at ll;omega
   subst ee
   have:=least u' h.ch.1 ⟨m',em',ev⟩
   rcases Nat.lt_or_eq_of_le this with z1 | z1
   ·exact .inl z1
   ·subst z1;exact .inr ⟨rfl,le t ht⟩
/-- without the tie between a and b -/
def Rm (R:Nat->Nat->Prop) (a b u v:Nat):Prop:=R u v∧¬ (u=a∧v=b)∧¬ (u=b∧v=a)
theorem chn_imp {R':Nat->Nat->Prop} {z:Nat}:∀ {l:List Nat},(∀ u v,u ∈ l->R u v->R' u v)->chn R (l++[z])->chn R' (l++[z])
 | [],_,_=>trivial
 | [a],h,c=>⟨h _ _ List.mem_cons_self c.1,trivial⟩
 | a::b::l,h,c=>⟨h _ _ List.mem_cons_self c.1,chn_imp (l:=b::l) (fun u v hu=>h u v (List.mem_cons_of_mem _ hu)) c.2⟩
/-- a ring gives a chain round its first tie -/
theorem Rg.round {h x:Nat} {t:List Nat} (r:Rg R h (x::t)):chn (Rm R h x) (x::(t++[h]))∧(x::(t++[h])).getLast?=some h∧R h x:=by
 have nd:=r.nd
 have c:=r.ch
 have hx:h ∉ x::t:=(List.nodup_cons.mp nd).1
 have xt:x ∉ t:=(List.nodup_cons.mp (List.nodup_cons.mp nd).2).1
 refine⟨?_,by rw[← List.cons_append,List.getLast?_append];simp,c.1⟩
 have len:=r.len
 match t,len with
 | y::t',_ =>
  have c2:chn R (x::y::t'++[h]):=c.2
  refine⟨⟨c2.1,fun z=>hx (by rw[← z.1];simp),fun z=>hx (by rw[← z.2];simp)⟩,?_⟩
  refine chn_imp (l:=y::t') (fun u v hu ruv=>⟨ruv,fun z=>hx (by rw[← z.1];exact List.mem_cons_of_mem _ hu),fun z=>xt (by rw[← z.1];exact hu)⟩) c2.2
/-- and a shortest chain round a tie gives a ring -/
theorem Sh.ring {a b:Nat} {l:List Nat} (ab:R a b) (ne:a≠b) (s:Sh (Rm R a b) a b l):∃ m,l=m++[a]∧Rg R a (b::m):=by
 have la:=s.last
 cases l with
 | nil=>exact absurd (by simpa using la.symm) ne
 | cons y t =>
  obtain⟨m,x,e⟩:=snoc_parts (w:=y::t) (by simp)
  have ex:x=a:=by
   rw[last_cons,e] at la
   simpa using la
  subst ex
  refine⟨m,e,?_⟩
  have c:=s.ch
  rw[e] at c
  have nd:=s.nodup
  rw[e] at nd
  refine⟨?_,?_,?_⟩
  ·cases m with
   | nil=>exact absurd ⟨rfl,rfl⟩ c.1.2.2
   | cons _ _=>simp
  ·have p:(x::b::m).Perm (b::(m++[x])):=(List.perm_append_singleton x (b::m)).symm.trans (by simp)
   exact p.nodup_iff.mpr nd
  ·exact⟨ab,chn_mono (fun u v h=>h.1) c⟩
end
end Lr
namespace Lr
open Far (chn chn_join chn_split chn_rev chn_at RingOf)
structure Ties (R:Nat->Nat->Prop) (ks:List Nat) (ends:Nat->Nat × Nat):Prop where
 sy:∀ u v,R u v->R v u
 of:∀ k ∈ ks,(ends k).1 < (ends k).2∧R (ends k).1 (ends k).2
 to:∀ u v,R u v->u < v->∃ k ∈ ks,ends k=(u,v)
 up:∀ k ∈ ks,∀ j ∈ ks,k≤j->(ends k).1 < (ends j).1∨((ends k).1=(ends j).1∧(ends k).2≤(ends j).2)
section
variable {R:Nat->Nat->Prop} {ks:List Nat} {ends:Nat->Nat × Nat}
/-- a ring told as it should be has its first tie, and a chain round it -/
theorem Ties.first (T:Ties R ks ends) {h:Nat} {tl:List Nat} (r:Rg R h tl) (up:∀ v ∈ tl,h < v):∃ k ∈ ks,∃ x t,tl=x::t∧ends k=(h,x)∧chn (Rm R (ends k).1 (ends k).2) ((ends k).2::(t++[h]))∧((ends k).2::(t++[h])).getLast?=some (ends k).1∧(t++[h]).length=tl.length:=by
 obtain⟨x,m,y,e⟩:=two_ends r.len
 rw[e] at r
 obtain⟨c,la,rx⟩:=r.round
 obtain⟨k,hk,ek⟩:=T.to h x rx (up x (by rw[e];exact List.mem_cons_self))
 refine⟨k,hk,x,m++[y],e,ek,?_,?_,?_⟩
 ·rw[ek];exact c
 ·rw[ek];exact la
 ·rw[e];simp
theorem Ties.none (T:Ties R ks ends) (hno:∀ k ∈ ks,∀ l,chn (Rm R (ends k).1 (ends k).2) ((ends k).2::l)->((ends k).2::l).getLast?=some (ends k).1->False) (h:Nat) (tl:List Nat):¬ Rg R h tl:=fun r=>by
 obtain⟨h',tl',r',cn,_⟩:=r.cano T.sy
 obtain⟨k,hk,x,t,_,_,c,la,_⟩:=T.first r' cn.1
 exact hno k hk _ c la
theorem Ties.least (T:Ties R ks ends) {k0:Nat} (hk0:k0 ∈ ks) {l:List Nat} (sh:Sh (Rm R (ends k0).1 (ends k0).2) (ends k0).1 (ends k0).2 l) (lx:∀ l',Sh (Rm R (ends k0).1 (ends k0).2) (ends k0).1 (ends k0).2 l'->lle l l')
  (hm:∀ k ∈ ks,∀ l',chn (Rm R (ends k).1 (ends k).2) ((ends k).2::l')->((ends k).2::l').getLast?=some (ends k).1->l.length≤l'.length∧(k < k0->l.length < l'.length)) :
  ∃ m,l=m++[(ends k0).1]∧Rg R (ends k0).1 ((ends k0).2::m)∧Cano (ends k0).1 ((ends k0).2::m)∧(∀ h tl,Rg R h tl->((ends k0).2::m).length≤tl.length)∧∀ h tl,Rg R h tl->Cano h tl->tl.length=((ends k0).2::m).length->lle ((ends k0).1::(ends k0).2::m) (h::tl):=by
 obtain⟨ab,rab⟩:=T.of k0 hk0
 obtain⟨m,em,rg⟩:=sh.ring rab (Nat.ne_of_lt ab)
 have ll:l.length=((ends k0).2::m).length:=by rw[em];simp
 have low:∀ h tl,Rg R h tl->(∀ v ∈ tl,h < v)->l.length≤tl.length∧(tl.length=l.length->∃ x t,tl=x::t∧((ends k0).1 < h∨((ends k0).1=h∧(ends k0).2≤x))∧(x=(ends k0).2->h=(ends k0).1->Sh (Rm R (ends k0).1 (ends k0).2) (ends k0).1 (ends k0).2 (t++[h]))):=fun h tl r up=>by
  obtain⟨k,hk,x,t,e,ek,c,la,len⟩:=T.first r up
  have q:=hm k hk _ c la
  rw[len] at q
  refine⟨q.1,fun el=>⟨x,t,e,?_,fun ex eh=>?_⟩⟩
  ·have le:k0≤k:=Nat.le_of_not_lt fun z=>by have:=q.2 z;omega
   have:=T.up k0 hk0 k hk le
   rw[ek] at this
   exact this
  ·rw[ek] at c la
   simp only at c la
   rw[ex,eh] at c la
   refine⟨?_,?_,fun l' c' e'=>?_⟩
   ·rw[eh];exact c
   ·rw[eh];exact la
   ·have:=(hm k0 hk0 l' c' e').1
    rw[len,el];exact this
 have least:∀ v ∈ (ends k0).2::m,(ends k0).1 < v:=by
  obtain⟨h',tl',r',cn,len,mem⟩:=rg.cano T.sy
  obtain⟨_,q⟩:=low h' tl' r' cn.1
  obtain⟨x,t,e,o,_⟩:=q (by rw[len,ll])
  have ha:(ends k0).1 ∈ h'::tl':=(mem _).mpr List.mem_cons_self
  have hle:h'≤(ends k0).1:=by
   rcases List.mem_cons.mp ha with z | z
   ·rw[z];exact Nat.le_refl _
   ·exact Nat.le_of_lt (cn.1 _ z)
  have eh:h'=(ends k0).1:=by omega
  intro v hv
  have hv':v ∈ h'::tl':=(mem v).mpr (List.mem_cons_of_mem _ hv)
  rcases List.mem_cons.mp hv' with z | z
  ·exfalso
   rw[eh] at z
   exact (List.nodup_cons.mp rg.nd).1 (z ▸ hv)
  ·rw[← eh];exact cn.1 v z
 obtain⟨x,m',y,e⟩:=two_ends rg.len
 have ex:x=(ends k0).2:=by injection e with e _;exact e.symm
 have r2:Rg R (ends k0).1 ((ends k0).2::m).reverse:=rg.turn T.sy ⟨[],(ends k0).2::m,rfl,.inr (by simp)⟩
 have cano:Cano (ends k0).1 ((ends k0).2::m):=by
  refine⟨least,x,m',y,e,?_⟩
  obtain⟨_,q⟩:=low _ _ r2 fun v hv=>least v (List.mem_reverse.mp hv)
  obtain⟨x2,t,e2,o,_⟩:=q (by rw[List.length_reverse,ll])
  have ey:x2=y:=by
   rw[e] at e2
   simp at e2
   exact e2.1.symm
  have nd:=(List.nodup_cons.mp rg.nd).2
  rw[e] at nd
  have ne:x≠y:=fun z=>(List.nodup_cons.mp nd).1 (by rw[z];simp)
  omega
 refine⟨m,em,rg,cano,fun h tl r=>?_,fun h tl r cn el=>?_⟩
 ·obtain⟨h',tl',r',cn,len,_⟩:=r.cano T.sy
  have:=(low h' tl' r' cn.1).1
  omega
 ·obtain⟨_,q⟩:=low h tl r cn.1
  obtain⟨x,t,e,o,s2⟩:=q (by omega)
  rcases o with o | ⟨o1,o2⟩
  ·exact .inl o
  ·refine .inr ⟨o1,?_⟩
   rw[e]
   rcases Nat.lt_or_eq_of_le o2 with z | z
   ·exact .inl z
   ·refine .inr ⟨z,?_⟩
    have:=lx _ (s2 z.symm o1.symm)
    rw[em] at this
    refine lle_init ?_ this
    rw[e] at el
    simpa using el.symm
end
/-- the rings among the ways of a size -/
def isRing (rows:Nat->List Nat) (w:List Nat):Bool:=decide (2 < w.length) && (decide (w.getD 1 0 < w.getLast?.getD 0) && decide (w.getD 0 0 ∈ rows (w.getLast?.getD 0)))
section
variable {R:Nat->Nat->Prop} {rows:Nat->List Nat} {n:Nat}
theorem last_snoc (p:List Nat) (z:Nat):(p++[z]).getLast?.getD 0=z:=by simp
theorem ring_mem (sy:∀ u v,R u v->R v u) (hr:∀ u c,c ∈ rows u↔R u c) (hn:∀ u c,R u c->c < n) (s:Nat) (w:List Nat):(w ∈ ways rows n s∧isRing rows w=true)↔∃ h tl,w=h::tl∧tl.length=s∧Rg R h tl∧Cano h tl:=by
 constructor
 ·rintro ⟨h1,h2⟩
  obtain⟨lw,p⟩:=(ways_mem hr hn s w).mp h1
  unfold isRing at h2
  rw[Bool.and_eq_true,Bool.and_eq_true,decide_eq_true_iff,decide_eq_true_iff,decide_eq_true_iff] at h2
  obtain⟨l2,lt,cl⟩:=h2
  match w,l2 with
  | h::x::y::t,_ =>
   obtain⟨x',m,z,e⟩:=two_ends (tl:=x::y::t) (by simp)
   have ex:x=x':=by injection e
   subst ex
   have ez:(h::x::y::t).getLast?.getD 0=z:=by rw[e];exact last_snoc (h::x::m) z
   rw[ez] at lt cl
   have rz:=(hr z h).mp cl
   refine⟨h,x::y::t,rfl,by simpa using lw,⟨by simp,p.nd,?_⟩,⟨p.up h _ rfl,x,m,z,e,lt⟩⟩
   have c:=p.ch
   rw[e] at c ⊢
   have:=chn_join (l:=h::x::m) (m:=[]) (x:=z) (y:=h) (by simpa using c) rz trivial
   simpa using this
 ·rintro ⟨h,tl,rfl,ls,r,cn⟩
  obtain⟨up,x,m,y,e,lt⟩:=cn
  have c:=r.ch
  have c0:chn R (h::tl):=chn_left (m:=[h]) (by simpa using c)
  have cl:R y h:=by
   rw[e] at c
   exact (chn_split (l:=h::x::m) (x:=y) (m:=[h]) (by simpa using c)).2.1
  have all:∀ v ∈ h::tl,v < n:=fun v hv=>by
   rcases List.mem_cons.mp hv with z | z
   ·rw[z];exact hn _ _ cl
   ·obtain⟨p,q,ep⟩:=List.append_of_mem z
    have c1:=c0
    rw[ep] at c1
    rcases List.eq_nil_or_concat p with ez | ⟨p',u,ez⟩
    ·rw[ez] at c1
     exact hn _ _ c1.1
    ·rw[ez,List.concat_eq_append] at c1
     have:=(chn_split (l:=h::p') (x:=u) (m:=v::q) (by simpa using c1)).2
     exact hn _ _ this.1
  refine⟨(ways_mem hr hn s _).mpr ⟨by simp [ls],by simp,r.nd,c0,all,fun a b e v hv=>by injection e with e1 e2;subst e1;subst e2;exact up v hv⟩,?_⟩
  have ez:(h::tl).getLast?.getD 0=y:=by rw[e];exact last_snoc (h::x::m) y
  have ex:(h::tl).getD 1 0=x:=by rw[e];rfl
  unfold isRing
  rw[ez,ex,Bool.and_eq_true,Bool.and_eq_true,decide_eq_true_iff,decide_eq_true_iff,decide_eq_true_iff]
  exact⟨by have:=r.len;simp;omega,lt,(hr y h).mpr cl⟩
end
end Lr
namespace L3
open PySem PySem.Spec PyProof.Rows L2
section
variable {own:List Str} {js:List Nat} {g:TG} {te:TE} {σ:L2.St} {Q:VK} {H1:Hp}
theorem comp_rangeD {lo:Int} {n:Nat} (Sg:L2.St->Prop) (hn:n≤1000) (h0:Sg (start3 own js σ))
  (step:∀ i σ' H',i < n->Same H1 H'->Sg σ'->∀ C:L2.St->V->Hp->Prop,(∀ σ3 l H5,Sg σ3->Same H' H5->H' l=none->H5 l=some (.lst [])->C σ3 (.ref l) H5)->g (.int (lo + i)) σ' H' fun σ3 H3=>te σ3 H3 fun v H5=>C σ3 v H5)
  (fin:∀ D (as:List Addr) H',H1 D=none->Same H1 H'->H' D=some (.lst (as.map V.ref))->as.length=n->as.Nodup->D ∉ as->(∀ a ∈ as,H1 a=none∧H' a=some (.lst []))->Q (.ref D) H'):CompGo own js g tTrue te σ Q (Itr lo n) H1:=by
 intro D hD
 refine⟨fun i m ys σ' H'=>m=n - i∧i≤n∧Sg σ'∧Same H1 H'∧∃ as:List Addr,ys=as.map V.ref∧as.length=i∧as.Nodup∧D ∉ as∧∀ a ∈ as,H1 a=none∧H' a=some (.lst []),⟨n,rfl,Nat.zero_le _,h0,same_new hD,[],rfl,rfl,List.nodup_nil,(by simp),fun a h=>by cases h⟩,?_⟩
 rintro i m ys σ' H' ⟨rfl,hi,sg,sm,as,rfl,hl,nd,nD,hr⟩ hd
 have lys:(as.map V.ref).length=as.length:=List.length_map _
 by_cases hlt:i < n
 ·refine .inr ⟨hlt,fun x H2 hy=>?_⟩
  obtain⟨rfl,rfl⟩:=hy
  refine step i σ' _ hlt sm sg (fun σ3 v H5=>H5 D=some (.lst (as.map V.ref))∧(as.map V.ref).length < sizeLine∧∃ m',m' < n - i∧(m'=n - (i + 1)∧i + 1≤n∧Sg σ3∧Same H1 (upd H5 D (.lst (as.map V.ref++[v])))∧∃ bs:List Addr,as.map V.ref++[v]=bs.map V.ref∧bs.length=i + 1∧bs.Nodup∧D ∉ bs∧∀ a ∈ bs,H1 a=none∧upd H5 D (.lst (as.map V.ref++[v])) a=some (.lst []))) fun σ3 l H5 sg3 s5 fl hL=>?_
  have hd5:=s5 _ _ hd
  have nlD:l≠D:=fun z=>by rw[z,hd] at fl;cases fl
  have nla:l ∉ as:=fun z=>by rw[(hr l z).2] at fl;cases fl
  refine⟨hd5,Nat.lt_of_le_of_lt (by omega:(as.map V.ref).length≤1000) (by decide),n - (i + 1),by omega,rfl,hlt,sg3,fun b o e=>?_,as++[l],by rw[List.map_append];rfl,by rw[List.length_append,hl];rfl,?_,?_,fun a ha=>?_⟩
  ·rw[upd_ne (ne_of_none e hD)];exact s5 _ _ (sm _ _ e)
  ·exact List.nodup_append.mpr ⟨nd,(by simp),fun a ha b hb e=>by
    have:b=l:=by simpa using hb
    subst this;subst e;exact nla ha⟩
  ·intro z
   rcases List.mem_append.mp z with z | z
   ·exact nD z
   ·exact nlD (List.mem_singleton.mp z).symm
  ·rcases List.mem_append.mp ha with z | z
   ·have ne:a≠D:=fun x=>nD (x ▸ z)
    exact⟨(hr a z).1,by rw[upd_ne ne];exact s5 _ _ (hr a z).2⟩
   ·have:a=l:=List.mem_singleton.mp z
    subst this
    exact⟨sm.free fl,by rw[upd_ne nlD];exact hL⟩
 ·have e:i=n:=by omega
  subst e
  exact .inl ⟨Nat.le_refl _,fin D as H' hD sm hd hl nd nD hr⟩
end
/-- the list at l holds the lists at as, each its own, with these rows -/
structure Bes (H:Hp) (l:Addr) (as:List Addr) (rows:Nat->List V):Prop where
 top:H l=some (.lst (as.map V.ref))
 nd:as.Nodup
 own:l ∉ as
 row:∀ i a,as[i]?=some a->H a=some (.lst (rows i))
theorem Bes.new {H:Hp} {l:Addr} {as:List Addr} (h:H l=some (.lst (as.map V.ref))) (nd:as.Nodup) (no:l ∉ as) (r:∀ a ∈ as,H a=some (.lst [])):Bes H l as fun _=>[]:=⟨h,nd,no,fun _ a e=>r a (List.mem_of_getElem? e)⟩
theorem Bes.ix {H:Hp} {l:Addr} {as:List Addr} {rows:Nat->List V} (b:Bes H l as rows) {i:Nat} (h:i < as.length):∃ a,as[i]?=some a∧(as.map V.ref)[i]?=some (.ref a)∧H a=some (.lst (rows i)):=by
 refine⟨as[i],List.getElem?_eq_getElem h,by rw[List.getElem?_map,List.getElem?_eq_getElem h];rfl,b.row i _ (List.getElem?_eq_getElem h)⟩
theorem Bes.put {H H':Hp} {l:Addr} {as:List Addr} {rows:Nat->List V} (b:Bes H l as rows) {i:Nat} {a:Addr} {xs:List V} (ha:as[i]?=some a) (B:But a H H') (e:H' a=some (.lst xs)):Bes H' l as fun j=>if j=i then xs else rows j:=by
 have nl:l≠a:=fun z=>b.own (z ▸ List.mem_of_getElem? ha)
 refine⟨B _ _ nl b.top,b.nd,b.own,fun j c hc=>?_⟩
 by_cases z:j=i
 ·subst z
  rw[hc] at ha;cases ha
  rw[if_pos rfl];exact e
 ·rw[if_neg z]
  refine B _ _ (fun x=>z ?_) (b.row j c hc)
  subst x
  obtain⟨h1,e1⟩:=List.getElem?_eq_some_iff.mp hc
  obtain⟨h2,e2⟩:=List.getElem?_eq_some_iff.mp ha
  have pw:=List.pairwise_iff_getElem.mp b.nd
  rcases Nat.lt_trichotomy j i with z | z | z
  ·exact absurd (e1.trans e2.symm) (pw j i h1 h2 z)
  ·exact z
  ·exact absurd (e2.trans e1.symm) (pw i j h2 h1 z)
/-- two ties with the same ends are one -/
theorem tie_oneB {n:Int} {ts:List Tie} (ok:WebOk n ts) {k k' a b:Nat} {l l':Int} (hk:k < ts.length) (hk':k' < ts.length) (h:(a,b,l) ∈ arcs2 (tieAt ts k)) (h':(a,b,l') ∈ arcs2 (tieAt ts k')):k=k':=by
 have t1:=ok.tie _ (tieAt_in hk).2
 have t2:=ok.tie _ (tieAt_in hk').2
 have E:=fun z=>ends_eq t1.1 t1.2.1 t2.1 t2.2.1 z
 have e:(tieAt ts k).1=(tieAt ts k').1∧(tieAt ts k).2.1=(tieAt ts k').2.1:=by
  rcases arcs2_mem.mp h with e | e <;> rcases arcs2_mem.mp h' with e' | e' <;> injection e with e1 e2 <;> injection e2 with e2 _ <;> injection e' with e3 e4 <;> injection e4 with e4 _
  ·exact E (.inl ⟨e1.symm.trans e3,e2.symm.trans e4⟩)
  ·exact E (.inr ⟨e1.symm.trans e3,e2.symm.trans e4⟩)
  ·exact E (.inr ⟨e2.symm.trans e4,e1.symm.trans e3⟩)
  ·exact E (.inl ⟨e2.symm.trans e4,e1.symm.trans e3⟩)
 exact tie_ends ok hk hk' e.1 e.2
/-- m unlike places beside j -/
def Uniq (ts:List Tie) (ks:List Nat) (j m:Nat):Prop:=∃ cs:List Nat,cs.Nodup∧cs.length=m∧∀ c ∈ cs,∃ k ∈ ks,∃ l,(j,c,l) ∈ arcs2 (tieAt ts k)
section
variable {X:Cx}
end
end L3
namespace L3
open PySem PySem.Spec PyProof.Rows L2
def Adj (ts:List Tie) (ks:List Nat) (u v:Nat):Prop:=∃ k ∈ ks,(u,v,(tieAt ts k).2.2) ∈ arcs2 (tieAt ts k)
def en (ts:List Tie) (k:Nat):Nat × Nat:=((tieAt ts k).1.toNat,(tieAt ts k).2.1.toNat)
def ones (ts:List Tie):List Tie:=ts.map fun t=>(t.1,t.2.1,1)
section
variable {n:Int} {ts:List Tie} {ks:List Nat} {u v k:Nat}
theorem a2_iff {t:Tie}:(u,v,t.2.2) ∈ arcs2 t↔(u=t.1.toNat∧v=t.2.1.toNat)∨(u=t.2.1.toNat∧v=t.1.toNat):=by
 rw[arcs2_mem]
 refine or_congr ⟨fun e=>?_,fun e=>by rw[e.1,e.2]⟩ ⟨fun e=>?_,fun e=>by rw[e.1,e.2]⟩ <;> (injection e with e1 e2;injection e2 with e2 _;exact⟨e1,e2⟩)
theorem adj_sy (u v:Nat) (h:Adj ts ks u v):Adj ts ks v u:=by
 obtain⟨k,hk,m⟩:=h
 exact⟨k,hk,a2_iff.mpr ((a2_iff.mp m).symm.imp (fun z=>⟨z.2,z.1⟩) fun z=>⟨z.2,z.1⟩)⟩
theorem adj_lt (ok:WebOk n ts) (ko:KeepOk ts.length ks) (u v:Nat) (h:Adj ts ks u v):v < n.toNat:=by
 obtain⟨k,hk,m⟩:=h
 exact (arcs_in ok ko _ _ _ (arcs_mem.mpr ⟨k,hk,m⟩)).2
theorem en_lt (ok:WebOk n ts) (hk:k < ts.length):(en ts k).1 < (en ts k).2∧(en ts k).2 < n.toNat∧(((en ts k).1:Nat):Int)=(tieAt ts k).1∧(((en ts k).2:Nat):Int)=(tieAt ts k).2.1:=by
 have tk:=ok.tie _ (tieAt_in hk).2
 unfold en
 simp only
 omega
theorem adj_ties (ok:WebOk n ts) (ko:KeepOk ts.length ks):Lr.Ties (Adj ts ks) ks (en ts):=by
 refine⟨adj_sy,fun k hk=>⟨(en_lt ok (ko.2 k hk)).1,k,hk,a2_iff.mpr (.inl ⟨rfl,rfl⟩)⟩,fun u v h lt=>?_,fun k hk j hj le=>?_⟩
 ·obtain⟨k,hk,m⟩:=h
  have:=(en_lt ok (ko.2 k hk)).1
  refine⟨k,hk,?_⟩
  unfold en at this ⊢
  rcases a2_iff.mp m with z | z
  ·rw[z.1,z.2]
  ·exfalso;simp only at this;omega
 ·rcases Nat.eq_or_lt_of_le le with z | z
  ·subst z;exact .inr ⟨rfl,Nat.le_refl _⟩
  ·have pw:=List.pairwise_iff_getElem.mp ok.rise k j (ko.2 k hk) (ko.2 j hj) z
   have g:∀ {i:Nat} (hi:i < ts.length),ts[i]=tieAt ts i:=fun {i} hi=>by
    have:=(tieAt_in hi).1
    rw[List.getElem?_eq_getElem hi] at this
    exact Option.some.inj this
   rw[g (ko.2 k hk),g (ko.2 j hj)] at pw
   unfold endLt at pw
   obtain⟨_,_,a1,a2⟩:=en_lt ok (ko.2 k hk)
   obtain⟨_,_,b1,b2⟩:=en_lt ok (ko.2 j hj)
   omega
theorem adj_rm (ok:WebOk n ts) (ko:KeepOk ts.length ks) (hk:k ∈ ks) (u v:Nat):Adj ts (but ks k) u v↔Lr.Rm (Adj ts ks) (en ts k).1 (en ts k).2 u v:=by
 constructor
 ·rintro ⟨j,hj,m⟩
  obtain⟨h1,h2⟩:=List.mem_filter.mp hj
  have ne:j≠k:=of_decide_eq_true h2
  refine⟨⟨j,h1,m⟩,fun z=>ne ?_,fun z=>ne ?_⟩
  ·rw[z.1,z.2] at m
   exact tie_oneB ok (ko.2 j h1) (ko.2 k hk) m (a2_iff.mpr (.inl ⟨rfl,rfl⟩))
  ·rw[z.1,z.2] at m
   exact tie_oneB ok (ko.2 j h1) (ko.2 k hk) m (a2_iff.mpr (.inr ⟨rfl,rfl⟩))
 ·rintro ⟨⟨j,hj,m⟩,h1,h2⟩
  refine⟨j,List.mem_filter.mpr ⟨hj,decide_eq_true fun z=>?_⟩,m⟩
  subst z
  rcases a2_iff.mp m with z | z
  ·exact h1 z
  ·exact h2 z
theorem ones_len:(ones ts).length=ts.length:=List.length_map _
theorem ones_at (h:k < ts.length):tieAt (ones ts) k=((tieAt ts k).1,(tieAt ts k).2.1,1):=by
 have h1:=(tieAt_in h).1
 have h2:=(tieAt_in (ts:=ones ts) (k:=k) (by rw[ones_len];exact h)).1
 unfold ones at h2 ⊢
 rw[List.getElem?_map,h1] at h2
 exact (Option.some.inj h2).symm
theorem ones_ok (ok:WebOk n ts):WebOk n (ones ts):=by
 refine⟨ok.n1,ok.n24,?_,by rw[ones_len];exact ok.few,fun t ht=>?_⟩
 ·unfold ones
  exact List.Pairwise.map _ (fun _ _ h=>h) ok.rise
 ·obtain⟨t0,h0,rfl⟩:=List.mem_map.mp ht
  have:=ok.tie _ h0
  exact⟨this.1,this.2.1,this.2.2.1,by show (1:Int)≤1;decide,by show (1:Int)≤10 ^ 18;decide⟩
theorem arcs_ones (ko:KeepOk ts.length ks) {l:Int}:(u,v,l) ∈ arcs (ones ts) ks↔l=1∧Adj ts ks u v:=by
 rw[arcs_mem]
 constructor
 ·rintro ⟨k,hk,m⟩
  rw[ones_at (ko.2 k hk)] at m
  have el:l=1:=by rcases arcs2_mem.mp m with e | e <;> (injection e with _ e;injection e)
  subst el
  have:=(a2_iff (t:=((tieAt ts k).1,(tieAt ts k).2.1,1))).mp m
  exact⟨rfl,k,hk,a2_iff.mpr this⟩
 ·rintro ⟨rfl,k,hk,m⟩
  refine⟨k,hk,?_⟩
  rw[ones_at (ko.2 k hk)]
  have:=(a2_iff (t:=tieAt ts k)).mp m
  exact (a2_iff (t:=((tieAt ts k).1,(tieAt ts k).2.1,1))).mpr this
theorem adj_ones (ko:KeepOk ts.length ks):Adj (ones ts) ks u v↔Adj ts ks u v:=by
 constructor
 ·rintro ⟨k,hk,m⟩
  have:=(a2_iff (t:=tieAt (ones ts) k)).mp m
  rw[ones_at (ko.2 k hk)] at this
  exact⟨k,hk,a2_iff.mpr this⟩
 ·rintro ⟨k,hk,m⟩
  have:=(a2_iff (t:=tieAt ts k)).mp m
  refine⟨k,hk,a2_iff.mpr ?_⟩
  rw[ones_at (ko.2 k hk)]
  exact this
theorem chn_below (ok:WebOk n ts) (ko:KeepOk ts.length ks):∀ {l:List Nat} {v:Nat},v < n.toNat->Far.chn (Adj ts ks) (v::l)->∀ x ∈ v::l,x < n.toNat
 | [],v,hv,_,x,hx=>by rw[List.mem_singleton.mp hx];exact hv
 | u::l,v,hv,c,x,hx=>by
  rcases List.mem_cons.mp hx with z | z
  ·rw[z];exact hv
  ·exact chn_below ok ko (adj_lt ok ko _ _ c.1) c.2 x z
theorem sh_len (ok:WebOk n ts) (ko:KeepOk ts.length ks) {z:Nat} {l:List Nat} (hv:v < n.toNat) (h:Lr.Sh (Adj ts ks) z v l):(v::l).length≤n.toNat:=Peel.len_below _ _ h.nodup (chn_below ok ko hv h.ch)
theorem walk_chn (ko:KeepOk ts.length ks) {z:Nat} {x:Int} (h:Far.Walk (arcs (ones ts) ks) z v x):∃ l,Far.chn (Adj ts ks) (v::l)∧(v::l).getLast?=some z∧(l.length:Int)=x:=by
 induction h with
 | nil=>exact⟨[],trivial,rfl,rfl⟩
 | @snoc u v l x _ m ih =>
  obtain⟨p,c,la,len⟩:=ih
  obtain⟨rfl,a⟩:=(arcs_ones ko).mp m
  exact⟨u::p,⟨adj_sy _ _ a,c⟩,by rw[Lr.last_cons];exact la,by rw[List.length_cons];omega⟩
theorem chn_walk (ko:KeepOk ts.length ks) {z:Nat}:∀ {l:List Nat} {v:Nat},Far.chn (Adj ts ks) (v::l)->(v::l).getLast?=some z->Far.Walk (arcs (ones ts) ks) z v (l.length:Int)
 | [],v,_,e=>by
  have:v=z:=by simpa using e
  subst this
  exact .nil
 | u::l,v,c,e=>by
  have:=chn_walk ko c.2 (by rw[← Lr.last_cons (v:=v)];exact e)
  have s:=Far.Walk.snoc this ((arcs_ones ko).mpr ⟨rfl,adj_sy _ _ c.1⟩)
  rw[List.length_cons]
  rw[show ((l.length + 1:Nat):Int)=(l.length:Int) + 1 by omega]
  exact s
theorem dst_chn (ko:KeepOk ts.length ks) {z:Nat} {o:Option Int} (d:Far.Dst (arcs (ones ts) ks) z v o):(∀ x,o=some x->∃ l,Far.chn (Adj ts ks) (v::l)∧(v::l).getLast?=some z∧(l.length:Int)=x)∧∀ l,Far.chn (Adj ts ks) (v::l)->(v::l).getLast?=some z->∃ x,o=some x∧x≤(l.length:Int) :=
 ⟨fun x e=>walk_chn ko (d.1 x e),fun l c e=>d.2 _ (chn_walk ko c e)⟩
/-- how far in steps, out of the list that was reckoned -/
def dN (n:Int) (D:List (Option Int)) (v:Nat):Option Nat:=if v < n.toNat then (Far.get D v).map Int.toNat else none
theorem dst_ds (ok:WebOk n ts) (ko:KeepOk ts.length ks) {z:Nat} {D:List (Option Int)} (hz:z < n.toNat) (d:∀ v,v < n.toNat->Far.Dst (arcs (ones ts) ks) z v (Far.get D v)):Lr.Ds (Adj ts ks) z (dN n D):=fun v=>by
 unfold dN
 by_cases hv:v < n.toNat
 ·rw[if_pos hv]
  obtain⟨h1,h2⟩:=dst_chn ko (d v hv)
  refine⟨fun m e=>?_,fun l c la=>?_⟩
  ·obtain⟨x,ex,em⟩:=Option.map_eq_some_iff.mp e
   obtain⟨l,c,la,len⟩:=h1 x ex
   exact⟨l,c,la,by omega⟩
  ·obtain⟨x,ex,le⟩:=h2 l c la
   exact⟨x.toNat,by rw[ex];rfl,by omega⟩
 ·rw[if_neg hv]
  refine⟨fun m e=>(by cases e),fun l c la=>?_⟩
  exfalso
  cases l with
  | nil => exact hv (by have : v = z := by simpa using la
                        rw[this];exact hz)
  | cons u l=>exact hv (adj_lt ok ko _ _ (adj_sy _ _ c.1))
/-- neighbours -/
theorem nb_mem (ok:WebOk n ts) (ko:KeepOk ts.length ks) (p q:Nat):q ∈ nbN ts ks (p:Int)↔Adj ts ks p q:=by
 unfold nbN
 rw[List.mem_append,List.mem_filterMap,List.mem_filterMap]
 have e1:∀ k ∈ ks,(nb1 ts (p:Int) k=some q↔p=(tieAt ts k).1.toNat∧q=(tieAt ts k).2.1.toNat):=fun k hk=>by
  have tk:=ok.tie _ (tieAt_in (ko.2 k hk)).2
  unfold nb1
  by_cases c:(tieAt ts k).1=(p:Int)
  ·rw[if_pos c]
   exact⟨fun z=>⟨by omega,(Option.some.inj z).symm⟩,fun z=>by rw[z.2]⟩
  ·rw[if_neg c]
   exact⟨fun z=>(by cases z),fun z=>absurd (by omega) c⟩
 have e2:∀ k ∈ ks,(nb2 ts (p:Int) k=some q↔p=(tieAt ts k).2.1.toNat∧q=(tieAt ts k).1.toNat):=fun k hk=>by
  have tk:=ok.tie _ (tieAt_in (ko.2 k hk)).2
  unfold nb2
  by_cases c:(tieAt ts k).2.1=(p:Int)
  ·rw[if_pos c]
   exact⟨fun z=>⟨by omega,(Option.some.inj z).symm⟩,fun z=>by rw[z.2]⟩
  ·rw[if_neg c]
   exact⟨fun z=>(by cases z),fun z=>absurd (by omega) c⟩
 constructor
 ·rintro (⟨k,hk,h⟩ | ⟨k,hk,h⟩)
  ·exact⟨k,hk,a2_iff.mpr (.inl ((e1 k hk).mp h))⟩
  ·exact⟨k,hk,a2_iff.mpr (.inr ((e2 k hk).mp h))⟩
 ·rintro ⟨k,hk,h⟩
  rcases a2_iff.mp h with z | z
  ·exact .inl ⟨k,hk,(e1 k hk).mpr z⟩
  ·exact .inr ⟨k,hk,(e2 k hk).mpr z⟩
end
theorem is_nkeepL {K:PySem.W.Frag} {H:Hp} {p:Addr} {ks:List Nat} (h:H p=some (.tup (natV ks))):Is K H (keepD ks) (.ref p):=⟨p,_,rfl,h,by rw[natV_keep];exact IsAll.ints _⟩
theorem cut_last {ws:List Nat} (h:ws≠[]):cutV (natV ws) none (some (-1))=natV ws.dropLast:=by
 have pos:=List.length_pos_iff.mpr h
 have len:(natV ws).length=ws.length:=by unfold natV;rw[List.length_map]
 unfold cutV
 have h0:HT.sIx (natV ws).length 0 none=0:=rfl
 have h1:HT.sIx (natV ws).length (natV ws).length (some (-1))=ws.length - 1:=by
  rw[len]
  unfold HT.sIx
  simp
  omega
 rw[h0,h1,List.drop_zero,Nat.sub_zero,List.dropLast_eq_take]
 unfold natV
 rw[List.map_take]
def IsLR (ts:List Tie) (ks:List Nat) (h:Nat) (tl:List Nat):Prop:=Lr.Rg (Adj ts ks) h tl∧Lr.Cano h tl∧(∀ h' tl',Lr.Rg (Adj ts ks) h' tl'->tl.length≤tl'.length)∧∀ h' tl',Lr.Rg (Adj ts ks) h' tl'->Lr.Cano h' tl'->tl'.length=tl.length->Lr.lle (h::tl) (h'::tl')
def LrV (H:Hp) (ts:List Tie) (ks:List Nat) (v:V):Prop:=(v=.non∧∀ h tl,¬ Lr.Rg (Adj ts ks) h tl)∨∃ t h tl,v=.ref t∧H t=some (.tup (natV (h::tl)))∧IsLR ts ks h tl
def spLR (K:PySem.W.Frag):Sp:=fun vs H Q _=>∃ n ts ks wv kv,vs=[wv,kv]∧WK K H n ts ks wv kv∧∀ v H',Same H H'->LrV H' ts ks v->Q v H'
def spSteps (K:PySem.W.Frag):Sp:=fun vs H Q _=>∃ n ts wv,vs=[wv]∧Is K H (webD n ts) wv∧WebOk n ts∧∀ v H',Same H H'->Is K H' (webD n (ones ts)) v->Q v H'
def spFBS (K:PySem.W.Frag):Sp:=fun vs H Q _=>∃ n ts ks sv kv,∃ a b:Nat,vs=[sv,kv,.int (b:Int),.int (a:Int)]∧WK K H n (ones ts) ks sv kv∧WebOk n ts∧a < n.toNat∧b < n.toNat∧(∃ l,Far.chn (Adj ts ks) (b::l)∧(b::l).getLast?=some a) ∧
 ∀ p l H',Same H H'->H p=none->H' p=some (.lst (natV (b::l)))->Lr.Sh (Adj ts ks) a b l->(∀ l',Lr.Sh (Adj ts ks) a b l'->Lr.lle l l')->(b::l).length≤24->Q (.ref p) H'
end L3
namespace L3
open PySem PySem.Spec PyProof.Rows L2
section
variable {J:It} {g:TG} {tt:TT} {te:TE} {own:List Str} {js:List Nat} {σ:L2.St} {H1:Hp} {Q:VK}
end
end L3
namespace Stb
open PySem PyProof.Rows
section
variable {prog:Program} {w:World} {A:Around} {E:Value->Shared->Prop} {s:Shared}
end
end Stb
namespace L3
open PySem PySem.Spec PyProof.Rows L2
section
variable {X:Cx}
end
end L3
namespace Far
variable {A:List (Nat × Nat × Int)} {s:Nat}
def Unit1 (A:List (Nat × Nat × Int)):Prop:=∀ u v l,(u,v,l) ∈ A->l=1
/-- k steps away, and no fewer -/
def AtK (A:List (Nat × Nat × Int)) (s k v:Nat):Prop:=Walk A s v (k:Int)∧∀ x,Walk A s v x->(k:Int)≤x
/-- i rings gone through -/
structure Bfs (A:List (Nat × Nat × Int)) (s i:Nat) (D:Nat->Option Nat) (ring:List Nat):Prop where
 found:∀ v d,D v=some d↔AtK A s d v∧d < i
 ring:∀ v,v ∈ ring↔AtK A s i v
end Far
namespace L3
open PySem PySem.Spec PyProof.Rows L2
theorem natV_length (a:List Nat):(natV a).length=a.length:=by unfold natV;rw[List.length_map]
theorem get_set (E:List (Option Nat)) {i v:Nat} (x:Nat) (h:i < E.length):Far.get (E.set i (some x)) v=if v=i then some x else Far.get E v:=by
 unfold Far.get
 rw[List.getD_eq_getElem?_getD,List.getD_eq_getElem?_getD]
 by_cases z:v=i
 ·subst z
  rw[if_pos rfl,List.getElem?_set_self h];rfl
 ·rw[if_neg z,List.getElem?_set_ne (Ne.symm z)]
section
variable {n g:Int} {ts:List Tie} {ks:List Nat} {k:Nat}
end
end L3
namespace HT
open PySem PyProof.Rows
open Sem (wp)
section
variable {prog:Program} {w:World} {A:Around} {E:Value->Shared->Prop} {s:Shared}
end
end HT
namespace L3
open PySem PySem.Spec PyProof.Rows L2
end L3
namespace L3
open PySem PySem.Spec PyProof.Rows L2
def PapV (H:Hp) (lo hi m:Nat) (v:V):Prop:=∃ p xs,v=.ref p∧H p=some (.tup xs)∧xs.length≤m∧∀ u ∈ xs,RowV lo hi H u
end L3
namespace L3
open PySem PySem.Spec PyProof.Rows L2
section
variable {near kept:Nat->Nat->Option Int} {u v:Nat} {r:List (Nat × Nat)} {m:Int × Int × Int} {x y:Int}
end
/-- a web and a keep of it, a tuple or a list -/
def WKE (K:PySem.W.Frag) (H:Hp) (n:Int) (ts:List Tie) (ks:List Nat) (wv:V) (kp:Addr) (tp:Bool):Prop:=Is K H (webD n ts) wv∧WebOk n ts∧H kp=some (if tp=true then .tup (natV ks) else .lst (natV ks))∧KeepOk ts.length ks
section
variable {g:TG} {tt:TT} {te:TE} {own:List Str} {js:List Nat} {σ:L2.St} {H1:Hp} {Q:VK}
end
theorem cut_toK (xs:List V) (k:Nat):cutV xs none (some (k:Int))=xs.take k:=by
 unfold cutV
 rw[HT.sIx_none,HT.sIx_nat,List.drop_zero,Nat.sub_zero]
 by_cases z:k≤xs.length
 ·rw[Nat.min_eq_left z]
 ·rw[Nat.min_eq_right (by omega),List.take_of_length_le (Nat.le_refl _),List.take_of_length_le (by omega)]
theorem cut_fromK (xs:List V) (k:Nat):cutV xs (some (k:Int)) none=xs.drop k:=by
 unfold cutV
 rw[HT.sIx_none,HT.sIx_nat]
 by_cases z:k≤xs.length
 ·rw[Nat.min_eq_left z,List.take_of_length_le (by rw[List.length_drop];exact Nat.le_refl _)]
 ·rw[Nat.min_eq_right (by omega),List.drop_eq_nil_of_le (Nat.le_refl _),List.drop_eq_nil_of_le (show xs.length≤k by omega),List.take_nil]
end L3
namespace Lr
open Far (chn chn_join chn_split chn_rev chn_at RingOf)
section
variable {R:Nat->Nat->Prop} {nb:Nat->List Nat}
/-- a way one place further, within the core -/
def stepC (nb:Nat->List Nat) (w:List Nat):List (List Nat):=((nb (w.getLast?.getD 0)).filter fun o=>!decide (o ∈ w)).map fun o=>w++[o]
def waysC (nb:Nat->List Nat) (x:Nat):Nat->List (List Nat)
 | 0=>[[x]]
 | s + 1=>(waysC nb x s).flatMap (stepC nb)
/-- simple ways from x in the core -/
structure PC (R:Nat->Nat->Prop) (C:Nat->Prop) (x:Nat) (w:List Nat):Prop where
 hd:∃ t,w=x::t
 nd:w.Nodup
 ch:chn R w
 co:∀ v ∈ w,C v
theorem waysC_of {C:Nat->Prop} {x:Nat} (hnb:∀ u c,c ∈ nb u->C u->R u c∧C c) (hx:C x):∀ (s:Nat) (w:List Nat),w ∈ waysC nb x s->w.length=s + 1∧PC R C x w
 | 0,w,h=>by
  have e:w=[x]:=List.mem_singleton.mp h
  subst e
  exact⟨rfl,⟨[],rfl⟩,by simp,trivial,fun v hv=>by rw[List.mem_singleton.mp hv];exact hx⟩
 | s + 1,w,h=>by
  obtain⟨u,hu,hw⟩:=List.mem_flatMap.mp h
  obtain⟨lu,⟨t,et⟩,nd,ch,co⟩:=waysC_of hnb hx s u hu
  unfold stepC at hw
  obtain⟨o,ho,rfl⟩:=List.mem_map.mp hw
  obtain⟨h1,h2⟩:=List.mem_filter.mp ho
  rw[Bool.not_eq_true',decide_eq_false_iff_not] at h2
  obtain⟨p,y,ep⟩:=snoc_parts (w:=u) (by rw[et];simp)
  have el:u.getLast?.getD 0=y:=by rw[ep];simp
  rw[el] at h1
  have cy:C y:=co y (by rw[ep];simp)
  obtain⟨r,cc⟩:=hnb y o h1 cy
  refine⟨by rw[List.length_append,lu];rfl,⟨t++[o],by rw[et];rfl⟩,?_,?_,fun v hv=>?_⟩
  ·refine List.nodup_append.mpr ⟨nd,by simp,fun a ha b hb=>?_⟩
   rw[List.mem_singleton.mp hb]
   exact fun z=>h2 (z ▸ ha)
  ·rw[ep] at ch ⊢
   exact chn_join (m:=[]) ch r trivial
  ·rcases List.mem_append.mp hv with z | z
   ·exact co v z
   ·rw[List.mem_singleton.mp z];exact cc
theorem waysC_nodup {x:Nat} (nr:∀ u,(nb u).Nodup):∀ s,(waysC nb x s).Nodup
 | 0=>by show [[x]].Nodup;simp
 | s + 1=>by
  show ((waysC nb x s).flatMap (stepC nb)).Nodup
  rw[List.Nodup,List.pairwise_flatMap]
  refine⟨fun w _=>?_,?_⟩
  ·unfold stepC
   exact List.Pairwise.map _ (fun a b h z=>h (by simpa using z)) ((nr _).sublist List.filter_sublist)
  ·refine (waysC_nodup nr s).imp fun {a b} ab u hu v hv z=>?_
   unfold stepC at hu hv
   obtain⟨o,_,rfl⟩:=List.mem_map.mp hu
   obtain⟨o',_,e⟩:=List.mem_map.mp hv
   exact ab (List.append_inj' (z.trans e.symm) rfl).1
theorem filter_but:∀ {l:List Nat} {p:Nat->Bool} {u:Nat},l.Nodup->(∀ c ∈ l,p c=false->c=u)->l.length≤(l.filter p).length + 1
 | [],p,u,_,_=>by simp
 | a::l,p,u,nd,h=>by
  obtain⟨na,nl⟩:=List.nodup_cons.mp nd
  by_cases c:p a=true
  ·rw[List.filter_cons_of_pos c,List.length_cons,List.length_cons]
   have:=filter_but (l:=l) (p:=p) (u:=u) nl fun c hc=>h c (List.mem_cons_of_mem _ hc)
   omega
  ·have ea:a=u:=h a List.mem_cons_self (Bool.eq_false_iff.mpr c)
   rw[List.filter_cons_of_neg c,List.length_cons]
   have:l.filter p=l:=List.filter_eq_self.mpr fun c hc=>by
    cases e:p c
    ·exact absurd (h c (List.mem_cons_of_mem _ hc) e) (fun z=>na (by rw[ea,← z];exact hc))
    ·rfl
   rw[this]
   exact Nat.le_refl _
theorem stepC_many {C:Nat->Prop} {x d B:Nat} (sy:∀ u v,R u v->R v u) (ir:∀ u,¬ R u u) (hnb:∀ u c,c ∈ nb u->C u->R u c∧C c) (nr:∀ u,(nb u).Nodup) (many:∀ u,C u->d + 1≤(nb u).length) (no:NoRg R B) {w:List Nat} (pc:PC R C x w) (lb:w.length≤B) :
  d≤(stepC nb w).length∧(w=[x]->d + 1≤(stepC nb w).length):=by
 obtain⟨t,et⟩:=pc.hd
 obtain⟨p,y,ep⟩:=snoc_parts (w:=w) (by rw[et];simp)
 have el:w.getLast?.getD 0=y:=by rw[ep];simp
 have cy:C y:=pc.co y (by rw[ep];simp)
 have my:=many y cy
 unfold stepC
 rw[List.length_map,el]
 constructor
 ·obtain⟨u,hu⟩:∃ u,∀ c ∈ nb y,(!decide (c ∈ w))=false->c=u:=by
   rcases List.eq_nil_or_concat p with z | ⟨p',u,z⟩
   ·refine⟨0,fun c hc h=>?_⟩
    exfalso
    have hw:c ∈ w:=by simpa using h
    rw[ep,z] at hw
    have:c=y:=by simpa using hw
    subst this
    exact ir c (hnb c c hc cy).1
   ·rw[List.concat_eq_append] at z
    refine⟨u,fun c hc h=>?_⟩
    have hw:c ∈ w:=by simpa using h
    have rc:=(hnb y c hc cy).1
    rw[ep,z] at hw
    rcases List.mem_append.mp hw with h1 | h1
    ·rcases List.mem_append.mp h1 with h2 | h2
     ·exfalso
      obtain⟨a,b,e⟩:=List.append_of_mem h2
      have ew:w=a++c::(b++[u]++[y]):=by rw[ep,z,e];simp
      have c2:=pc.ch
      have n2:=pc.nd
      rw[ew] at c2 n2
      have cc:chn R (c::(b++[u]++[y])):=(chn_split (l:=a) (x:=c) c2).2
      have nn:(c::(b++[u]++[y])).Nodup:=(List.nodup_append.mp n2).2.1
      have rg:Rg R c (b++[u]++[y]):=by
       refine⟨by simp,nn,?_⟩
       have:=chn_join (l:=c::(b++[u])) (m:=[]) (x:=y) (y:=c) (by simpa using cc) rc trivial
       simpa using this
      have h3:=no _ _ rg
      have lw:=congrArg List.length ew
      simp only [List.length_append,List.length_cons,List.length_nil] at h3 lw
      omega
     ·exact List.mem_singleton.mp h2
    ·exfalso
     have:c=y:=List.mem_singleton.mp h1
     subst this
     exact ir c rc
  have:=filter_but (p:=fun o=>!decide (o ∈ w)) (nr y) hu
  omega
 ·intro ex
  have:(nb y).filter (fun o=>!decide (o ∈ w))=nb y:=List.filter_eq_self.mpr fun c hc=>by
   rw[Bool.not_eq_true',decide_eq_false_iff_not]
   intro hw
   rw[ex] at hw ep
   have e1:c=x:=List.mem_singleton.mp hw
   have e2:x=y:=by
    have:=congrArg (fun l=>l.getLast?.getD 0) ep
    simpa using this
   have rc:=(hnb y c hc cy).1
   rw[← e2,e1] at rc
   exact ir x rc
  rw[this];exact my
theorem flat_many {α β:Type} {f:α->List β} {d:Nat}:∀ {l:List α},(∀ a ∈ l,d≤(f a).length)->l.length * d≤(l.flatMap f).length
 | [],_=>by simp
 | a::l,h=>by
  rw[List.flatMap_cons,List.length_append,List.length_cons,Nat.succ_mul]
  have h1:=h a List.mem_cons_self
  have h2:=flat_many (l:=l) fun b hb=>h b (List.mem_cons_of_mem _ hb)
  omega
/-- the ends of all ways of at most k steps -/
def endsC (nb:Nat->List Nat) (x:Nat):Nat->List (List Nat)
 | 0=>waysC nb x 0
 | k + 1=>endsC nb x k++waysC nb x (k + 1)
theorem endsC_mem {x:Nat} {w:List Nat}:∀ {k:Nat},w ∈ endsC nb x k->∃ j,j≤k∧w ∈ waysC nb x j
 | 0,h=>⟨0,Nat.le_refl _,h⟩
 | k + 1,h=>by
  rcases List.mem_append.mp h with z | z
  ·obtain⟨j,hj,hw⟩:=endsC_mem (k:=k) z
   exact⟨j,by omega,hw⟩
  ·exact⟨k + 1,Nat.le_refl _,z⟩
theorem moore {C:Nat->Prop} {x d k n:Nat} (sy:∀ u v,R u v->R v u) (ir:∀ u,¬ R u u) (hn:∀ u,C u->u < n) (hnb:∀ u c,c ∈ nb u->C u->R u c∧C c) (nr:∀ u,(nb u).Nodup) (many:∀ u,C u->d + 1≤(nb u).length) (hx:C x) (hk:1≤k) (no:NoRg R (2 * k)) (len_below:∀ (n:Nat) (g:List Nat),g.Nodup->(∀ p ∈ g,p < n)->g.length≤n):Shr.spr d k≤n:=by
 have of_:=waysC_of hnb hx
 have cnt:∀ j,j < k->(d + 1) * d ^ j≤(waysC nb x (j + 1)).length:=fun j=>by
  induction j with
  | zero =>
   intro _
   have pc:=(of_ 0 [x] (List.mem_singleton.mpr rfl)).2
   have:=(stepC_many sy ir hnb nr many no pc (by show 1≤2 * k;omega)).2 rfl
   show (d + 1) * d ^ 0≤([[x]].flatMap (stepC nb)).length
   simp
   exact this
  | succ j ih =>
   intro hj
   have h1:=ih (by omega)
   have h2:(waysC nb x (j + 1)).length * d≤((waysC nb x (j + 1)).flatMap (stepC nb)).length:=flat_many fun w hw=>by
    obtain⟨lw,pc⟩:=of_ _ w hw
    exact (stepC_many sy ir hnb nr many no pc (by omega)).1
   show (d + 1) * d ^ (j + 1)≤((waysC nb x (j + 1)).flatMap (stepC nb)).length
   rw[Nat.pow_succ,← Nat.mul_assoc]
   exact Nat.le_trans (Nat.mul_le_mul_right d h1) h2
 have tot:∀ j,j≤k->Shr.spr d j≤(endsC nb x j).length:=fun j=>by
  induction j with
  | zero=>intro _;show 1 + (d + 1) * 0≤1;omega
  | succ j ih =>
   intro hj
   rw[Shr.spr_next]
   show _≤(endsC nb x j++waysC nb x (j + 1)).length
   rw[List.length_append]
   have:=ih (by omega)
   have:=cnt j (by omega)
   omega
 have nodup:∀ j,(endsC nb x j).Nodup:=fun j=>by
  induction j with
  | zero=>exact waysC_nodup nr 0
  | succ j ih =>
   refine List.nodup_append.mpr ⟨ih,waysC_nodup nr _,fun a ha b hb z=>?_⟩
   subst z
   obtain⟨i,hi,h1⟩:=endsC_mem ha
   have l1:=(of_ i a h1).1
   have l2:=(of_ _ a hb).1
   omega
 refine Nat.le_trans (tot k (Nat.le_refl _)) ?_
 have le:((endsC nb x k).map fun w=>w.getLast?.getD 0).length=(endsC nb x k).length:=List.length_map _
 rw[← le]
 refine len_below _ _ ?_ fun y hy=>?_
 ·rw[List.Nodup,List.pairwise_map]
  refine List.Pairwise.imp_of_mem ?_ (nodup k)
  intro a b ha hb ne e
  obtain⟨i,hi,h1⟩:=endsC_mem ha
  obtain⟨j,hj,h2⟩:=endsC_mem hb
  obtain⟨l1,⟨ta,ea⟩,nda,ca,_⟩:=of_ i a h1
  obtain⟨l2,⟨tb,eb⟩,ndb,cb,_⟩:=of_ j b h2
  subst ea;subst eb
  refine ne ?_
  rw[same_way (B:=2 * k) sy nda ndb ca cb ?_ ?_ no]
  ·have q1:(x::ta).getLast?=some ((x::ta).getLast (by simp)):=List.getLast?_eq_some_getLast (by simp)
   have q2:(x::tb).getLast?=some ((x::tb).getLast (by simp)):=List.getLast?_eq_some_getLast (by simp)
   rw[q1,q2] at e ⊢
   exact congrArg some e
  ·simp at l1 l2;omega
 ·obtain⟨w,hw,rfl⟩:=List.mem_map.mp hy
  obtain⟨i,hi,h1⟩:=endsC_mem hw
  obtain⟨_,⟨t,et⟩,_,_,co⟩:=of_ i w h1
  refine hn _ (co _ ?_)
  have q1:w.getLast?=some (w.getLast (by rw[et];simp)):=List.getLast?_eq_some_getLast (by rw[et];simp)
  rw[q1]
  exact List.getLast_mem _
end
end Lr
namespace Peel
section
variable {n:Nat} {ts:List T2} {d:Int}
theorem run_stop:∀ (f:Nat) (g:List Nat),Good n g->n≤g.length + f->next n ts d (run n ts d f g)=none
 | 0,g,h,le=>by
  cases e:next n ts d g with
  | none=>exact e
  | some p =>
   obtain⟨a,b,_⟩:=next_some e
   have:=(h.snoc a b).len
   rw[List.length_append,List.length_singleton] at this
   omega
 | f + 1,g,h,le=>by
  show next n ts d (match next n ts d g with | none=>g | some p=>run n ts d f (g++[p]))=none
  cases e:next n ts d g with
  | none=>exact e
  | some p =>
   obtain⟨a,b,_⟩:=next_some e
   exact run_stop f (g++[p]) (h.snoc a b) (by rw[List.length_append,List.length_singleton];omega)
theorem gone_stop {q:Nat} (hq:q < n) (nq:q ∉ gone n ts d):d < (deg ts (gone n ts d) q:Int):=by
 have:=run_stop (n:=n) (ts:=ts) (d:=d) n [] Good.nil (by simp)
 have h:=List.find?_eq_none.mp this q (List.mem_range.mpr hq)
 unfold may at h
 rw[Bool.and_eq_true] at h
 refine Int.not_le.mp fun z=>h ⟨?_,decide_eq_true z⟩
 show (!(gone n ts d).contains q)=true
 simpa using nq
end
end Peel
namespace L3
open PySem PySem.Spec PyProof.Rows L2
/-- neighbours that aren't gone -/
def nbG (ts:List Tie) (ks g:List Nat) (p:Nat):List Nat:=(nbN ts ks (p:Int)).filter fun q=>!g.contains q
theorem nbG_len {n:Int} {ts:List Tie} {ks:List Nat} (ok:WebOk n ts) (ko:KeepOk ts.length ks) (g:List Nat) (p:Nat):(nbG ts ks g p).length=Peel.deg (t2s ts ks) g p:=by
 rw[← deg_nb ok ko.2 g (leftN n.toNat g) p fun q hq=>left_has (by omega)]
 unfold nbG
 rw[← List.countP_eq_length_filter]
 refine List.countP_congr fun q hq=>?_
 have lt:q < n.toNat:=adj_lt ok ko _ _ ((nb_mem ok ko p q).mp hq)
 rw[left_has lt]
theorem nbN_nodup {n:Int} {ts:List Tie} {ks:List Nat} (ok:WebOk n ts) (ko:KeepOk ts.length ks) (p:Nat):(nbN ts ks (p:Int)).Nodup:=by
 unfold nbN
 have arc1:∀ {k c},k ∈ ks->nb1 ts (p:Int) k=some c->(p,c,(tieAt ts k).2.2) ∈ arcs2 (tieAt ts k):=fun {k c} hk e=>by
  refine a2_iff.mpr (.inl ?_)
  unfold nb1 at e
  by_cases z:(tieAt ts k).1=(p:Int)
  ·rw[if_pos z] at e;exact⟨by omega,(Option.some.inj e).symm⟩
  ·rw[if_neg z] at e;cases e
 have arc2:∀ {k c},k ∈ ks->nb2 ts (p:Int) k=some c->(p,c,(tieAt ts k).2.2) ∈ arcs2 (tieAt ts k):=fun {k c} hk e=>by
  refine a2_iff.mpr (.inr ?_)
  unfold nb2 at e
  by_cases z:(tieAt ts k).2.1=(p:Int)
  ·rw[if_pos z] at e;exact⟨by omega,(Option.some.inj e).symm⟩
  ·rw[if_neg z] at e;cases e
 refine List.nodup_append.mpr ⟨?_,?_,fun a ha b hb z=>?_⟩
 ·rw[List.Nodup,List.pairwise_filterMap]
  refine List.Pairwise.imp_of_mem ?_ ko.1
  intro k k' hk hk' lt c hc c' hc' e
  subst e
  exact Nat.ne_of_lt lt (tie_oneB ok (ko.2 k hk) (ko.2 k' hk') (arc1 hk hc) (arc1 hk' hc'))
 ·rw[List.Nodup,List.pairwise_filterMap]
  refine List.Pairwise.imp_of_mem ?_ ko.1
  intro k k' hk hk' lt c hc c' hc' e
  subst e
  exact Nat.ne_of_lt lt (tie_oneB ok (ko.2 k hk) (ko.2 k' hk') (arc2 hk hc) (arc2 hk' hc'))
 ·subst z
  obtain⟨k,hk,e⟩:=List.mem_filterMap.mp ha
  obtain⟨k',hk',e'⟩:=List.mem_filterMap.mp hb
  have ee:=tie_oneB ok (ko.2 k hk) (ko.2 k' hk') (arc1 hk e) (arc2 hk' e')
  subst ee
  have tk:=ok.tie _ (tieAt_in (ko.2 k hk)).2
  unfold nb1 at e
  unfold nb2 at e'
  by_cases z1:(tieAt ts k).1=(p:Int)
  ·rw[if_neg (by omega)] at e';cases e'
  ·rw[if_neg z1] at e;cases e
theorem adj_ir {n:Int} {ts:List Tie} {ks:List Nat} (ok:WebOk n ts) (ko:KeepOk ts.length ks) (u:Nat):¬ Adj ts ks u u:=fun ⟨k,hk,m⟩=>by
 have:=(en_lt ok (ko.2 k hk)).1
 unfold en at this
 rcases a2_iff.mp m with ⟨z1,z2⟩ | ⟨z1,z2⟩ <;> (simp only at this;omega)
/-- a core has a small ring -/
theorem core_ring {n:Int} {ts:List Tie} {ks:List Nat} {d k x:Nat} (ok:WebOk n ts) (ko:KeepOk ts.length ks) (sh:Shr.Share n.toNat k d) (hk:1≤k) (hx:x < n.toNat) (nx:x ∉ Peel.gone n.toNat (t2s ts ks) (d:Int)):¬ Lr.NoRg (Adj ts ks) (2 * k):=fun no=>by
 have:=Lr.moore (R:=Adj ts ks) (nb:=nbG ts ks (Peel.gone n.toNat (t2s ts ks) (d:Int))) (C:=fun u=>u < n.toNat∧u ∉ Peel.gone n.toNat (t2s ts ks) (d:Int)) (x:=x) (d:=d) (k:=k) (n:=n.toNat) adj_sy (adj_ir ok ko) (fun u h=>h.1) (fun u c hc hu=>?_) (fun u=>(nbN_nodup ok ko u).sublist List.filter_sublist) (fun u hu=>?_) ⟨hx,nx⟩ hk no Peel.len_below
 ·have:=sh.1;omega
 ·obtain⟨h1,h2⟩:=List.mem_filter.mp hc
  have a:=(nb_mem ok ko u c).mp h1
  exact⟨a,adj_lt ok ko _ _ a,by simpa using h2⟩
 ·rw[nbG_len ok ko]
  have:=Peel.gone_stop hu.1 hu.2
  omega
theorem core_least {n:Int} {ts:List Tie} {ks:List Nat} {d k x:Nat} {H:Hp} {v:V} (ok:WebOk n ts) (ko:KeepOk ts.length ks) (sh:Shr.Share n.toNat k d) (hk:1≤k) (hx:x < n.toNat) (nx:x ∉ Peel.gone n.toNat (t2s ts ks) (d:Int)) (lv:LrV H ts ks v):∃ t h tl,v=.ref t∧H t=some (.tup (natV (h::tl)))∧IsLR ts ks h tl∧(h::tl).length≤2 * k:=by
 have no:=core_ring ok ko sh hk hx nx
 rcases lv with ⟨_,none⟩ | ⟨t,h,tl,e,ht,lr⟩
 ·exact absurd (fun h tl r=>absurd r (none h tl)) no
 ·refine⟨t,h,tl,e,ht,lr,Nat.le_of_not_lt fun z=>no fun h' tl' r=>?_⟩
  have:=lr.2.2.1 h' tl' r
  rw[List.length_cons] at z
  omega
end L3
namespace L3
open PySem PySem.Spec PyProof.Rows L2
section
variable {g:TG} {te:TE} {own:List Str} {js:List Nat} {σ:L2.St} {H1:Hp} {Q:VK}
/-- a comprehension over a list that makes lists -/
theorem comp_lstF {K:PySem.W.Frag} {a:Addr} {zs:List V} (hx:H1 a=some (.lst zs)) (Sg:L2.St->Prop) (P:Nat->List V->Prop) (hn:zs.length≤1000) (h0:Sg (start3 own js σ))
  (step:∀ i z σ' H',zs[i]?=some z->Same H1 H'->Sg σ'->∀ C:L2.St->V->Hp->Prop,(∀ σ3 l xs H5,Sg σ3->Same H' H5->H' l=none->H5 l=some (.lst xs)->P i xs->C σ3 (.ref l) H5)->g z σ' H' fun σ3 H3=>te σ3 H3 fun v H5=>C σ3 v H5)
  (fin:∀ D ys H',H1 D=none->Same H1 H'->H' D=some (.lst ys)->ys.length=zs.length->(∀ i v,ys[i]?=some v->∃ l xs,v=.ref l∧l≠D∧H1 l=none∧H' l=some (.lst xs)∧P i xs)->Q (.ref D) H'):CompGo own js g tTrue te σ Q (Itl K a) H1:=by
 intro D hD
 refine⟨fun i m ys σ' H'=>m=zs.length - i∧i≤zs.length∧Sg σ'∧Same H1 H'∧ys.length=i∧∀ j v,ys[j]?=some v->∃ l xs,v=.ref l∧l≠D∧H1 l=none∧H' l=some (.lst xs)∧P j xs,⟨zs.length,rfl,Nat.zero_le _,h0,same_new hD,rfl,fun j v e=>by simp at e⟩,?_⟩
 rintro i m ys σ' H' ⟨rfl,hi,sg,sm,hl,hr⟩ hd
 have sq:SqL K H' a zs:=SqL.of (sm _ _ hx)
 by_cases hlt:i < zs.length
 ·refine .inr ⟨⟨zs,zs[i],sq,by simp [hlt]⟩,fun x H2 hy=>?_⟩
  obtain⟨rfl,hy⟩:=hy
  refine step i x σ' _ (hy zs sq) sm sg (fun σ3 v H5=>H5 D=some (.lst ys)∧ys.length < sizeLine∧∃ m',m' < zs.length - i∧(m'=zs.length - (i + 1)∧i + 1≤zs.length∧Sg σ3∧Same H1 (upd H5 D (.lst (ys++[v])))∧(ys++[v]).length=i + 1∧∀ j u,(ys++[v])[j]?=some u->∃ l xs,u=.ref l∧l≠D∧H1 l=none∧upd H5 D (.lst (ys++[v])) l=some (.lst xs)∧P j xs)) fun σ3 l xs H5 sg3 s5 fl hL p5=>?_
  have hd5:=s5 _ _ hd
  have nlD:l≠D:=fun z=>by rw[z,hd] at fl;cases fl
  refine⟨hd5,Nat.lt_of_le_of_lt (by omega:ys.length≤1000) (by decide),zs.length - (i + 1),by omega,rfl,hlt,sg3,fun b o e=>?_,by rw[List.length_append,List.length_singleton,hl],fun j u e=>?_⟩
  ·rw[upd_ne (ne_of_none e hD)];exact s5 _ _ (sm _ _ e)
  ·by_cases hj:j < ys.length
   ·rw[List.getElem?_append_left hj] at e
    obtain⟨l',xs',e1,e2,e3,e4,e5⟩:=hr j u e
    exact⟨l',xs',e1,e2,e3,by rw[upd_ne e2];exact s5 _ _ e4,e5⟩
   ·rw[List.getElem?_append_right (by omega)] at e
    have ej:j=ys.length:=by
     have:=(List.getElem?_eq_some_iff.mp e).1
     simp at this;omega
    subst ej
    have eu:V.ref l=u:=by simpa using e
    subst eu
    rw[hl]
    exact⟨l,xs,rfl,nlD,sm.free fl,by rw[upd_ne nlD];exact hL,p5⟩
 ·have e:i=zs.length:=by omega
  subst e
  exact .inl ⟨⟨zs,sq,Nat.le_refl _⟩,fin D ys H' hD sm hd hl hr⟩
end
theorem call_sortedIC {X:Cx} {own fr:List Str} {scope:Scope} {fp:List Addr} {pins:List (Addr × Obj)} {s3:Shared} {H3:Hp}:CallR (cxComp X own fr scope fp pins s3 H3) (.builtin "sorted") (fun xs H Q=>∃ (p:Addr) (ns:List Int),xs=[.ref p]∧SqL X.K H p (ns.map V.int)∧ns.length < 64∧∀ ms:List Int,ms.Perm ns->ms.Pairwise (fun a b=>a≤b)->∀ l,H l=none->Q (.ref l) (upd H l (.lst (ms.map V.int)))):=call_sortedI (X:=cxComp X own fr scope fp pins s3 H3)
/-- a ring of that many places, told as it should be, that begins so -/
def RgP (ts:List Tie) (ks w:List Nat) (size:Nat) (r:List Nat):Prop:=∃ h tl,r=h::tl∧Lr.Rg (Adj ts ks) h tl∧Lr.Cano h tl∧r.length=size∧w <+: r
def RowS (ts:List Tie) (ks:List Nat) (j:Nat) (rs:List Nat):Prop:=rs.Pairwise (· < ·)∧∀ c,c ∈ rs↔Adj ts ks j c
/-- lists beside one another, only read -/
def BesS (H:Hp) (l:Addr) (n:Nat) (ts:List Tie) (ks:List Nat):Prop:=∃ vs:List V,H l=some (.lst vs)∧vs.length=n∧∀ j,j < n->∃ a rs,vs[j]?=some (.ref a)∧H a=some (.lst (natV rs))∧RowS ts ks j rs
theorem BesS.same {H H':Hp} {l:Addr} {n:Nat} {ts:List Tie} {ks:List Nat} (S:Same H H') (b:BesS H l n ts ks):BesS H' l n ts ks:=by
 obtain⟨vs,h1,h2,h3⟩:=b
 refine⟨vs,S _ _ h1,h2,fun j hj=>?_⟩
 obtain⟨a,rs,e1,e2,e3⟩:=h3 j hj
 exact⟨a,rs,e1,S _ _ e2,e3⟩
def spBesS (K:PySem.W.Frag):Sp:=fun vs H Q _=>∃ n ts ks wv kv,vs=[wv,kv]∧WK K H n ts ks wv kv∧∀ l H',Same H H'->BesS H' l n.toNat ts ks->Q (.ref l) H'
/-- the first ring in order that begins with w, or none -/
def RonV (H:Hp) (ts:List Tie) (ks w:List Nat) (size:Nat) (v:V):Prop:=(v=.non∧∀ r,¬ RgP ts ks w size r)∨∃ t r,v=.ref t∧H t=some (.tup (natV r))∧RgP ts ks w size r∧∀ r',RgP ts ks w size r'->Lr.lle r r'
def spRon (m:Nat):Sp:=fun vs H Q _=>∃ (n:Int) (ts:List Tie) (ks:List Nat) (l p:Addr) (w:List Nat) (size:Nat),vs=[.ref l,.ref p,.int (size:Int)]∧WebOk n ts∧KeepOk ts.length ks∧BesS H l n.toNat ts ks∧H p=some (.lst (natV w))∧Lr.PW (Adj ts ks) n.toNat w∧3≤size∧size≤24∧w.length + m=size∧∀ v H',Same H H'->RonV H' ts ks w size v->Q v H'
theorem brT {A T B:Prop} (main:(A->T)->B) (tail:A->T):B:=main tail
theorem RgP.new {ts:List Tie} {ks w:List Nat} {c size:Nat} {r:List Nat} (h:RgP ts ks (w++[c]) size r) (hw:w≠[]):w.headD 0 < c∧c ∉ w∧w.length < size:=by
 obtain⟨h0,tl,rfl,rg,cn,len,t,et⟩:=h
 have et':w++c::t=h0::tl:=by rw[← et];simp
 refine⟨?_,fun z=>?_,?_⟩
 ·cases w with
  | nil=>exact absurd rfl hw
  | cons a w =>
   injection et' with e1 e2
   subst e1
   exact cn.1 c (by rw[← e2];simp)
 ·have nd:=rg.nd
  rw[← et'] at nd
  exact (List.nodup_append.mp nd).2.2 c z c List.mem_cons_self rfl
 ·have:=congrArg List.length et'
  rw[← len,← this]
  simp
theorem lle_refl:∀ l:List Nat,Lr.lle l l
 | []=>trivial
 | a::l=>.inr ⟨rfl,lle_refl l⟩
/-- the smaller next place comes first -/
theorem lle_next {w:List Nat} {c c':Nat} {r r':List Nat} (lt:c < c') (h:w++[c] <+: r) (h':w++[c'] <+: r'):Lr.lle r r':=by
 obtain⟨t,rfl⟩:=h
 obtain⟨t',rfl⟩:=h'
 induction w with
 | nil=>exact .inl lt
 | cons a w ih=>exact .inr ⟨rfl,ih⟩
/-- what goes on from w goes on by a neighbour that is new -/
theorem RgP.next {ts:List Tie} {ks w:List Nat} {size:Nat} {r:List Nat} (h:RgP ts ks w size r) (hw:w≠[]) (lt:w.length < size):∃ c,w++[c] <+: r∧Adj ts ks (w.getLast?.getD 0) c∧w.headD 0 < c∧c ∉ w:=by
 obtain⟨h0,tl,rfl,rg,cn,len,t,et⟩:=h
 cases t with
 | nil=>rw[List.append_nil] at et;rw[et] at lt;omega
 | cons c t =>
  refine⟨c,⟨t,by rw[← et];simp⟩,?_,?_,?_⟩
  ·obtain⟨p,y,ep⟩:=Lr.snoc_parts hw
   have c1:=rg.ch
   rw[← et,ep] at c1
   have c2:Far.chn (Adj ts ks) (p++y::c::(t++[h0])):=by simpa using c1
   have:=(Far.chn_split c2).2.1
   rw[ep]
   simpa using this
  ·cases w with
   | nil=>exact absurd rfl hw
   | cons a w =>
    injection et with e1 e2
    subst e1
    exact cn.1 c (by rw[← e2];simp)
  ·intro z
   have nd:=rg.nd
   rw[← et] at nd
   exact (List.nodup_append.mp nd).2.2 c z c List.mem_cons_self rfl
theorem RgP.less {ts:List Tie} {ks w:List Nat} {c size:Nat} {r:List Nat} (h:RgP ts ks (w++[c]) size r):RgP ts ks w size r:=by
 obtain⟨h0,tl,e,rg,cn,len,t,et⟩:=h
 exact⟨h0,tl,e,rg,cn,len,c::t,by rw[← et];simp⟩
theorem cut_from {ws:List Nat} (k:Nat):cutV (natV ws) (some (k:Int)) none=natV (ws.drop k):=by
 have len:(natV ws).length=ws.length:=by unfold natV;rw[List.length_map]
 unfold cutV
 rw[HT.sIx_nat,HT.sIx_none,len]
 by_cases z:k≤ws.length
 ·rw[Nat.min_eq_left z,List.take_of_length_le (by rw[List.length_drop,len];exact Nat.le_refl _)]
  unfold natV
  rw[List.map_drop]
 ·rw[Nat.min_eq_right (by omega),List.drop_of_length_le (by omega),List.drop_of_length_le (l:=ws) (by omega),List.take_nil];rfl
def FewD (n:Int) (ts:List Tie) (ks:List Nat) (k:Nat) (x:Str) (ns:List Nat):Prop:=∃ d,Shr.Share n.toNat k d∧((x="few"∧ns=Peel.gone n.toNat (t2s ts ks) (d:Int)∧∀ q,q < n.toNat->q ∈ Peel.gone n.toNat (t2s ts ks) (d:Int))∨(x="ring"∧(∃ q,q < n.toNat∧q ∉ Peel.gone n.toNat (t2s ts ks) (d:Int))∧∃ h tl,ns=h::tl∧IsLR ts ks h tl∧(h::tl).length≤2 * k))
theorem left_none {n:Nat} {g:List Nat}:leftN n g=[]↔∀ q,q < n->q ∈ g:=by
 unfold leftN
 rw[List.filter_eq_nil_iff]
 constructor
 ·intro h q hq
  have:=h q (List.mem_range.mpr hq)
  simpa using this
 ·intro h q hq
  have:=h q (List.mem_range.mp hq)
  simpa using this
theorem left_cons {n:Nat} {g:List Nat} (h:leftN n g≠[]):∃ q,q < n∧q ∉ g:=by
 cases e:leftN n g with
 | nil=>exact absurd e h
 | cons q r =>
  have m:q ∈ leftN n g:=by rw[e];exact List.mem_cons_self
  unfold leftN at m
  obtain⟨m1,m2⟩:=List.mem_filter.mp m
  exact⟨q,List.mem_range.mp m1,by simpa using m2⟩
def spFewT (K:PySem.W.Frag):Sp:=fun vs H Q _=>∃ n ts ks wv kv,∃ k:Nat,vs=[wv,kv,.int (k:Int)]∧WK K H n ts ks wv kv∧1≤k∧k≤1000∧∀ p t x ns H',Same H H'->H' p=some (.tup [.str x,.ref t])->H' t=some (.tup (natV ns))->FewD n ts ks k x ns->Q (.ref p) H'
def spTold2 (K:PySem.W.Frag):Sp:=fun vs H Q _=>∃ (p:Addr) (x y:Str) (v:V),vs=[.ref p,.str y,.int 2]∧H p=some (.tup [.str x,v])∧∀ H',Same H H'->Q (.bl (decide (x=y))) H'
def spTupOf2:Sp:=fun vs H Q _=>∃ (t:Addr) (xs:List V),vs=[.ref t,.int 2]∧H t=some (.tup xs)∧xs.length=2∧Q (.bl true) H
end L3
namespace L3
open PySem PySem.Spec PyProof.Rows L2
/-- a way along ties -/
inductive Trl (ts:List Tie) (u:Nat):Nat->List Nat->Prop
 | nil:Trl ts u u []
 | snoc {v w k:Nat} {es:List Nat}:Trl ts u v es->(v,w,(tieAt ts k).2.2) ∈ arcs2 (tieAt ts k)->Trl ts u w (es++[k])
def lenE (ts:List Tie) (es:List Nat):Int:=(es.map fun k=>(tieAt ts k).2.2).sum
/-- a way of unlike places from s, its ties es -/
structure Pth (ts:List Tie) (ks:List Nat) (s v:Nat) (way es:List Nat):Prop where
 trl:Trl ts s v es
 head:way[0]?=some s
 last:way[way.length - 1]?=some v
 nd:way.Nodup
 len:way.length=es.length + 1
 ends:∀ e ∈ es,∀ a b l,(a,b,l) ∈ arcs2 (tieAt ts e)->a ∈ way∧b ∈ way
 nde:es.Nodup
 sub:∀ e ∈ es,e ∈ ks
 one:∀ e ∈ es,∀ b l,(s,b,l) ∈ arcs2 (tieAt ts e)->way[1]?=some b
end L3
namespace Shr
theorem share_ex (n k:Nat) (hk:1≤k):∃ d,Share n k d:=by
 have H:∀ m,n < spr m k->∃ d,Share n k d:=by
  intro m
  induction m using Nat.strongRecOn with
  | _ m ih =>
   intro h
   by_cases c:∃ e,e < m∧n < spr e k
   ·obtain⟨e,he,h'⟩:=c;exact ih e he h'
   ·exact⟨m,h,fun e he=>Nat.le_of_not_lt fun z=>c ⟨e,he,z⟩⟩
 exact H n (by have:=spr_big n k hk;omega)
end Shr
namespace L3
open PySem PySem.Spec PyProof.Rows L2
theorem adjK_adj {ts:List Tie} {ks:List Nat} {u v:Nat} (h:adjK ts ks u v):Adj ts ks u v:=by
 obtain⟨k,hk,e⟩:=h
 unfold tbN at e
 have q:=List.find?_some e
 unfold isTB at q
 obtain⟨a,b⟩:=(Bool.and_eq_true _ _).mp q
 have a:=of_decide_eq_true a
 have b:=of_decide_eq_true b
 refine⟨k,hk,a2_iff.mpr ?_⟩
 by_cases c:u≤v
 ·exact .inl ⟨by omega,by omega⟩
 ·exact .inr ⟨by omega,by omega⟩
theorem tiedB_iff {ts:List Tie} {ks:List Nat} {u v:Nat}:tiedB ts ks (u:Int) (v:Int)=true↔adjK ts ks u v:=by
 unfold tiedB adjK
 rw[Int.toNat_natCast,Int.toNat_natCast]
 cases e:tbN ts u v with
 | none=>exact⟨fun h=>(by cases h),fun ⟨k,_,z⟩=>(by cases z)⟩
 | some k=>exact⟨fun h=>⟨k,of_decide_eq_true h,rfl⟩,fun ⟨k',hk,z⟩=>by cases z;exact decide_eq_true hk⟩
theorem adj_adjK {n:Int} {ts:List Tie} {ks:List Nat} (ok:WebOk n ts) (ko:KeepOk ts.length ks) {u v:Nat} (h:Adj ts ks u v):adjK ts ks u v:=by
 obtain⟨k',hk',m⟩:=h
 rcases a2_iff.mp m with ⟨z1,z2⟩ | ⟨z1,z2⟩
 ·rw[z1,z2];exact⟨k',hk',tb_arcB ok ko (tie_arc hk')⟩
 ·rw[z1,z2];exact adjK.sym _ _ ⟨k',hk',tb_arcB ok ko (tie_arc hk')⟩
end L3
namespace Hx
open PySem PySem.W
/-- a statement of the top: its number, the first address and the first token it takes, the module's name (statement, token), for a class the chunk of its base -/
structure Ch where
 i:Nat
 a:Nat
 t:Nat
 j:Nat
 u:Nat
 b:Nat:=0
def stt (p:Program) (i:Nat):Stmt:=p.main.body.getD i (.Pass ⟨0,0,0,0⟩)
def fileS:Str:=Str.ofString "/claim/cut.py"
def mdV (p:Program) (c:Ch):Value:=match stt p c.j with
 | .Assign _ (.Constant (.str x) _ _) _=>.str x c.u
 | _=>.str (Str.ofString "__main__") c.u
def sT (xs:List Value):Obj:=⟨.type "tuple",none,.seq xs.toArray 0,#[]⟩
def fE (xs:List Value):Obj:=⟨.none,none,.fields xs.toArray,#[]⟩
def tks:List Str->Nat->List Value
 | [],_=>[]
 | v::r,t=>.str v t::tks r (t + 1)
def z:Value:=.int 0 0
def cdO (nm q:Str) (t:Nat) (l:Int) (na fl:Int) (k:Value) (fn:Bool) (tb vs cs tp:Value) (u:Nat):Obj :=
 ⟨.type "code",none,.fields #[.str nm t,.str q (t + 1),.str fileS (t + 2),.int l 0,.int na 0,z,z,.int fl 0,k,.bool fn,.int 181 0,tb,.none,vs,cs,tp,.int u 0,.int l 0,.str fileS (u + 1)],#[]⟩
def ent (P:Params) (s:Str) (t:Nat) (v:Value):DictEntry:=⟨PyData.keyHash P s,.str s t,v⟩
def dO (es:List DictEntry) (n:Nat):Obj:=⟨.type "dict",none,.dict es.toArray n,#[]⟩
structure Got where
 os:List Obj
 en:List DictEntry
 tb:List Value
def fO (P:Params) (md:Value) (a t:Nat) (name:Str) (args:Arguments) (body:List Stmt) (scope:Scope) (bind:Str) (pos:Pos):Got :=
 let fd:FuncData:=⟨name,bind,args,.stmts body,scope,0,[],.none,.none,.none,.none,none,.none,.none,0⟩
 let k (vs cs:Value) (b u:Nat) (h:List Obj):Got :=
  ⟨h++[⟨.none,none,.func fd,#[]⟩,cdO name bind t pos.line args.args.length 3 (.ref a) true (.ref (a + 1)) vs cs (.ref b) u,
   ⟨.type "function",none,.func ⟨name,bind,args,.stmts body,scope,3,[],.none,.none,.none,md,none,.ref (b + 1),.none,0⟩,#[]⟩],
   [ent P name (u + 2) (.ref (b + 2))],[.int pos.line 0,.int pos.col 0,.ref (b + 1)]⟩
 match localNames args scope (.stmts body) with
 | none=>k .none .none (a + 2) (t + 3) [sT [],fE []]
 | some (vs,cs)=>k (.ref (a + 2)) (.ref (a + 3)) (a + 4) (t + 3 + vs.length + cs.length) [sT [],fE [],sT (tks vs (t + 3)),sT (tks cs (t + 3 + vs.length))]
/-- the base class's address, and its bases; none: ValueError -/
def mro0:List Value:=[.type "ValueError",.type "Exception",.type "BaseException",.type "object"]
def clO (P:Params) (md:Value) (a t:Nat) (base:Option Nat) (sub:List Value) (name bind:Str) (pos:Pos):Got :=
 let l:Int:=pos.line
 let w:=base.isNone
 let C:=a + 9 - (if w then 0 else 0)
 let bs:Value:=match base with | none=>.type "ValueError" | some b=>.ref b
 let e1:=ent P (Str.ofString "__module__") (t + 7) md
 let e2:=ent P (Str.ofString "__firstlineno__") (t + 11) (.int l (t + 10))
 let e3:=ent P (Str.ofString "__static_attributes__") (t + 12) (.ref (a + 7))
 ⟨[sT [bs],⟨.type "builtin_function_or_method",none,.fields #[.builtin "type.__prepare__",.type "type"],#[]⟩,
  dO [e1,ent P (Str.ofString "__qualname__") (t + 9) (.str bind (t + 8)),e2,e3] 4,sT [],fE [],
  cdO name bind (t + 2) l 0 0 (.ref (a + 3)) false (.ref (a + 4)) .none .none .none (t + 5),
  ⟨.type "frame",none,.plain,#[some (.ref (a + 5)),some (.ref 3),some (.ref (a + 2)),none,some md,none,some (.ref 0)]⟩,sT [],
  dO (e1::e2::e3::(if w then [ent P (Str.ofString "__weakref__") (t + 14) (.ref (a + 10)),ent P (Str.ofString "__doc__") (t + 15) .none] else [ent P (Str.ofString "__doc__") (t + 13) .none])) (if w then 3 else 2),
  ⟨.type "type",none,.cls ⟨name,[bs],.ref C::(match base with | none=>mro0 | some b=>.ref b::mro0),a + 8,bind,true,[],sub,false,none,false⟩,
   #[some (.ref a),none,some (.str name t),some (.str bind (t + 8)),some (.builtin "ValueError.__new__"),some (.bool true)]⟩] ++
  (if w then [⟨.type "getset_descriptor",none,.fields #[.str (Str.ofString "__weakref__") (t + 13),.ref C,.builtin "ExceptionGroup.__weakref__",.none],#[]⟩] else []) ++
  [⟨.type "super",none,.fields #[.ref C,.ref C,.ref C],#[]⟩,⟨.type "builtin_function_or_method",none,.fields #[.builtin "object.__init_subclass__",.ref C],#[]⟩],
  [ent P name (t + (if w then 17 else 15)) (.ref C)],[.int l 0,.int pos.col 0,.ref (a + 5)]⟩
/-- what a statement leaves, where the chunks cs are behind it -/
def got (p:Program) (P:Params) (cs:List Ch) (c:Ch):Got:=match stt p c.i with
 | .FunctionDef name args body _ _ _ scope _ bind pos=>fO P (mdV p c) c.a c.t name args body scope bind pos
 | .ClassDef name _ _ _ _ _ _ _ bind _ pos=>clO P (mdV p c) c.a c.t (if c.b == 0 then none else some c.b) (cs.filterMap fun d=>if d.b == c.a + 9 then some (.ref (d.a + 9)) else none) name bind pos
 | _=>⟨[],[],[]⟩
/-- the module's name as the last statement set it -/
def nameNow (p:Program) (cs:List Ch):Option Value:=match cs.getLast? with
 | some c=>some (mdV p { c with j:=c.j,u:=c.u })
 | none=>none
def setName (P:Params) (v:Option Value):List DictEntry->List DictEntry
 | e::r=>(match v with | some v=>{ e with val:=v } | none=>e)::r
 | []=>[]
def globO (p:Program) (P:Params) (cs:List Ch) (en:List DictEntry):Obj->Obj
 | ⟨c,d,.dict es n,s⟩=>⟨c,d,.dict (setName P (nameNow p cs) es.toList++en).toArray (n + en.length),s⟩
 | o=>o
/-- the objects behind the chunks cs, where B are those of the boot -/
def objs (p:Program) (P:Params) (B:List Obj) (cs:List Ch):List Obj :=
 let gs:=cs.map (got p P cs)
 match B with
 | b0::b1::b2::b3::r=>b0::b1::b2::globO p P cs (gs.flatMap (·.en)) b3::(r++(sT []::fE (gs.flatMap (·.tb)) ::
  cdO (Str.ofString "<module>") (Str.ofString "<module>") 182 1 0 0 (.ref 11) false (.ref 12) .none .none .none 185 ::
  ⟨.type "frame",none,.plain,#[some (.ref 13),some (.ref 3),some (.ref 3),none,some (.str (Str.ofString "__main__") 164),none,some (.ref 0)]⟩::gs.flatMap (·.os)))
 | _=>[]
def spl:List Obj->List Obj × List Obj
 | []=>([],[])
 | x::r=>(x::(spl r).2,(spl r).1)
def braun:Nat->List Obj->BT
 | 0,_=>.nil
 | _ + 1,[]=>.nil
 | f + 1,o::r=>.node o (braun f (spl r).1) (braun f (spl r).2)
/-- where a piece ends: the statements behind, the next address, the next token -/
structure Cut where
 k:Nat
 n:Nat
 t:Nat
def hpT (p:Program) (B:Params->List Obj) (cs:List Ch) (c:Cut) (P:Params):Heap:=absHeap (braun 12 (objs p P (B P) (cs.take c.k))) c.n {}
def stT (p:Program) (B:Params->List Obj) (D:Drawn) (cs:List Ch) (c:Cut) (w:World) (os:OsState):SharedT :=
 ⟨braun 12 (objs p w.params (B w.params) (cs.take c.k)),c.n,{},Array.mk [],D,c.t,os⟩
def env (p:Program):Env:={ scope:=p.main.scope,locals:=mainNs,globals:=mainNs,cells:=[],code:=.ref 13,frame:=some 14 }
def cE (p:Program):Code:=.body p.main.body (env p)
def pos0:Pos:=⟨0,0,0,0⟩
def posOf (p:Program):Nat->Pos
 | 0=>pos0
 | k + 1=>match stt p k with
  | .Assign [.Name _ q] _ _=>q
  | .FunctionDef _ _ _ _ _ _ _ _ _ q=>q
  | .ClassDef _ _ _ _ _ _ _ _ _ _ q=>q
  | _=>pos0
def ann0:Option Value:=some (.ref 6)
def PieceT (p:Program) (B:Params->List Obj) (D:Drawn) (cs:List Ch) (a b:Cut) (N:Nat):Prop:=∀ w:World,
 (fun os=>segRunT treeTable p w 11 ann0 1 N (stT p B D cs a w os) (piecesOf ((p.main.body.drop a.k).take (b.k - a.k)) (env p) (cE p) (posOf p a.k) [topFrame pos0]))=fun os=>some (Flow.next,stT p B D cs b w os,cE p,posOf p b.k)
def PreT (p:Program) (B:Params->List Obj) (D:Drawn) (h:Params->Heap) (t:Nat) (cs:List Ch) (a:Cut):Prop:=∀ w:World,
 (fun os=>topGo treeTable p w 11 ann0 12 ⟨h w.params,Array.mk [],D,t,os⟩ (topStub p))=fun os=>some ((stT p B D cs a w os).abs,⟨denote treeTable (cE p),cE p,pos0,[topFrame pos0]⟩)
def BlockT (p:Program):Prop:=∀ (w:World) (s:Shared),segRun treeTable p w 11 ann0 1 1 s (blockOf p.main.body (env p) (cE p) pos0 [topFrame pos0])=some (.next,s,cE p,pos0)
noncomputable def boots (P:Params):List Obj:=[boot_o_0 P,boot_o_1 P,boot_o_2 P,boot_o_3 P,boot_o_4 P,boot_o_5 P,boot_o_6 P,boot_o_7 P,boot_o_8 P,boot_o_9 P,boot_o_10 P]
/-- the statements of the view -/
def qv (p:Program) (is:List Nat):Program:={ p with main:={ p.main with body:=is.map (stt p) } }
def nmO:Stmt->Option Str
 | .FunctionDef n ..=>some n
 | .ClassDef n ..=>some n
 | _=>none
def lz (p:Program) (is:List Nat) (n:Nat):List Str:=(List.range n).filterMap fun i=>if is.contains i then none else nmO (stt p i)
/-- what the law's run never changes: the globals, each def's code and object, each class with its names -/
def kk (a:Nat) (g:Got):List (Nat × Obj):=match g.os with
 | [_,_,_,c,f]=>[(a + 3,c),(a + 4,f)]
 | [_,_,_,_,_,c,f]=>[(a + 5,c),(a + 6,f)]
 | _::_::_::_::_::_::_::_::d::C::_=>[(a + 8,d),(a + 9,C)]
 | _=>[]
def Kf (p:Program) (B:Params->List Obj) (cs:List Ch) (P:Params):Frag :=
 let gs:=cs.map (got p P cs)
 (3,globO p P cs (gs.flatMap (·.en)) ((B P).getD 3 (sT [])))::(cs.zip gs).flatMap fun c=>kk c.1.a c.2
def LookA (p:Program) (B:Params->List Obj) (D:Drawn) (h:Params->Heap) (cs:List Ch) (c:Cut):Prop:=∀ w:World,(fun os =>
  (staticsOk (importedModules p.main.body) (h w.params) (hpT p B cs c w.params) && namesBound p (hpT p B cs c w.params) && gensDone ⟨hpT p B cs c w.params,Array.mk [],D,c.t,os⟩ && laidKept (h w.params) (hpT p B cs c w.params)))=fun _:OsState=>true
def LookB (p:Program) (B:Params->List Obj) (D:Drawn) (cs:List Ch) (c:Cut) (is:List Nat) (rc:WRecords):Prop:=∀ w:World,(fun os =>
  openSeen (qv p is) (lz p is c.k) (importedModules p.main.body) (fun s=>xlAt (qv p is) [] s && recOk rc s) true ⟨hpT p B cs c w.params,Array.mk [],D,c.t,os⟩)=fun _:OsState=>openGood (qv p is) (lz p is c.k)
def LookC (p:Program) (B:Params->List Obj) (cs:List Ch) (c:Cut) (as:List Nat):Prop:=∀ w:World,as.map (hpT p B cs c w.params).get?=(Kf p B cs w.params).map fun p=>some p.2
section
variable {p:Program} {D:Drawn} {cs:List Ch}
theorem fin_any {w:World} {s:Shared} {c:Code} {q:Pos}:topRun treeTable p w 11 ann0 2 s ⟨doneF .next,c,q,[topFrame pos0]⟩=some s:=rfl
theorem chain_end {w:World} {os:OsState} {c:Cut} (h:p.main.body.drop c.k=[]) :
  topRun treeTable p w 11 ann0 2 (stT p boots boot_drawn cs c w os).abs (restOf (p.main.body.drop c.k) (env p) (cE p) (posOf p c.k) [topFrame pos0])=some (stT p boots boot_drawn cs c w os).abs:=by
 rw[h];exact piece_nil fin_any
theorem chain {w:World} {os:OsState} {a b:Cut} {N M:Nat} {r:Shared} (h:PieceT p boots boot_drawn cs a b N) (le:a.k≤b.k)
  (k:topRun treeTable p w 11 ann0 M (stT p boots boot_drawn cs b w os).abs (restOf (p.main.body.drop b.k) (env p) (cE p) (posOf p b.k) [topFrame pos0])=some r) :
  topRun treeTable p w 11 ann0 (N + M) (stT p boots boot_drawn cs a w os).abs (restOf (p.main.body.drop a.k) (env p) (cE p) (posOf p a.k) [topFrame pos0])=some r:=by
 have e:p.main.body.drop a.k=(p.main.body.drop a.k).take (b.k - a.k)++p.main.body.drop b.k:=by
  have x:=(List.take_append_drop (b.k - a.k) (p.main.body.drop a.k)).symm
  rw[List.drop_drop,Nat.add_sub_cancel' le] at x;exact x
 rw[e];exact piece_app (segRun_of (congrFun (h w) os)) k
theorem run_all {w:World} {os:OsState} {M:Nat} {r:Shared} (pre:PreT p boots boot_drawn boot_heap boot_toks cs ⟨0,15,187⟩) (bl:BlockT p)
  (k:topRun treeTable p w 11 ann0 M (stT p boots boot_drawn cs ⟨0,15,187⟩ w os).abs (restOf (p.main.body.drop 0) (env p) (cE p) (posOf p 0) [topFrame pos0])=some r) :
  topRun treeTable p w 11 ann0 (12 + (1 + M)) ⟨boot_heap w.params,Array.mk [],boot_drawn,boot_toks,os⟩ (topStub p)=some r :=
 go_top (congrFun (pre w) os) (piece_block (bl w _) k)
theorem left_of {is as:List Nat} {rc:WRecords} {c:Cut} {M N:Nat} {e:∀ P,as=(Kf p boots cs P).map (·.1)}
  (op:opening p=plainProg p.main.scope.names) (hN:Nat.ble 600 N=true) (fe:∀ s,fenceModules? p s=some s)
  (size:∀ w:World,((boot_heap w.params).isNs mainGlobals && (Array.mk []:Array GenState).size == 0,(boot_heap w.params).objs.size,(boot_heap w.params).nsMap mainGlobals "__annotations__")=(true,11,ann0))
  (run:∀ (w:World) (os:OsState),topRun treeTable p w 11 ann0 M ⟨boot_heap w.params,Array.mk [],boot_drawn,boot_toks,os⟩ (topStub p)=some (stT p boots boot_drawn cs c w os).abs) (le:Nat.ble M N=true)
  (hA:LookA p boots boot_drawn boot_heap cs c) (hB:LookB p boots boot_drawn cs c is rc) (hC:LookC p boots cs c as) :
  LeftO p (qv p is) (lz p is c.k) (fun s=>xlAt (qv p is) [] s && recOk rc s) (Hook.obs (kHook (Kf p boots cs) as e)) (Hook.val (kHook (Kf p boots cs) as e)) N :=
 LeftO.of_pieces (H₀:=boot_heap) (H₁:=hpT p boots cs c) (boot_open op hN fe) size run le fun w=>funext fun os=>by
  have a:=congrFun (hA w) os
  have b:=congrFun (hB w) os
  have c:=hC w
  exact looks_pair a (looks_pair b c)
end
end Hx
namespace Me
open PySem PySem.Spec PyProof.Rows L2 L3
def top (i:Nat):Stmt:=PySem.Challenge.pw_thinways_k34_few_judged.main.body.getD i (.Pass ⟨0,0,0,0⟩)
abbrev s_is_whole:Stmt:=top 1
theorem sc_is_whole:FnScope ["thing"] ["thing"] (defScope s_is_whole):=⟨rfl,rfl,rfl,by decide +kernel,rfl,by decide +kernel,by decide +kernel⟩
abbrev s_is_tuple_of:Stmt:=top 2
theorem sc_is_tuple_of:FnScope ["thing","many"] ["thing","many"] (defScope s_is_tuple_of):=⟨rfl,rfl,rfl,by decide +kernel,rfl,by decide +kernel,by decide +kernel⟩
abbrev s_is_told:Stmt:=top 3
theorem sc_is_told:FnScope ["thing","word","many"] ["thing","word","many"] (defScope s_is_told):=⟨rfl,rfl,rfl,by decide +kernel,rfl,by decide +kernel,by decide +kernel⟩
abbrev s_is_place:Stmt:=top 5
theorem sc_is_place:FnScope ["web","thing"] ["web","thing"] (defScope s_is_place):=⟨rfl,rfl,rfl,by decide +kernel,rfl,by decide +kernel,by decide +kernel⟩
abbrev s_tie_between:Stmt:=top 6
theorem sc_tie_between:FnScope ["web","a","b","ends","number","tie"] ["web","a","b"] (defScope s_tie_between):=⟨rfl,rfl,rfl,by decide +kernel,rfl,by decide +kernel,by decide +kernel⟩
abbrev s_are_unlike_places:Stmt:=top 8
theorem sc_are_unlike_places:FnScope ["web","thing"] ["web","thing"] (defScope s_are_unlike_places):=⟨rfl,rfl,rfl,by decide +kernel,rfl,by decide +kernel,by decide +kernel⟩
abbrev s_ties_along:Stmt:=top 9
theorem sc_ties_along:FnScope ["web","places"] ["web","places"] (defScope s_ties_along):=⟨rfl,rfl,rfl,by decide +kernel,rfl,by decide +kernel,by decide +kernel⟩
abbrev s_tie_weights:Stmt:=top 10
theorem sc_tie_weights:FnScope ["web","weights","weight","tie"] ["web"] (defScope s_tie_weights):=⟨rfl,rfl,rfl,by decide +kernel,rfl,by decide +kernel,by decide +kernel⟩
abbrev s_cost_with:Stmt:=top 11
theorem sc_cost_with:FnScope ["cost","length","weight"] ["cost","length","weight"] (defScope s_cost_with):=⟨rfl,rfl,rfl,by decide +kernel,rfl,by decide +kernel,by decide +kernel⟩
abbrev s_reached_from:Stmt:=top 12
theorem sc_reached_from:FnScope ["web","keep","root","weights","costs","ahead","again","tie","a","b","length","one","other","cost"] ["web","keep","root"] (defScope s_reached_from):=⟨rfl,rfl,rfl,by decide +kernel,rfl,by decide +kernel,by decide +kernel⟩
abbrev s_fars_from:Stmt:=top 13
theorem sc_fars_from:FnScope ["web","keep","root","costs","ahead"] ["web","keep","root"] (defScope s_fars_from):=⟨rfl,rfl,rfl,by decide +kernel,rfl,by decide +kernel,by decide +kernel⟩
abbrev s_far:Stmt:=top 14
theorem sc_far:FnScope ["web","keep","a","b"] ["web","keep","a","b"] (defScope s_far):=⟨rfl,rfl,rfl,by decide +kernel,rfl,by decide +kernel,by decide +kernel⟩
abbrev s_without:Stmt:=top 16
theorem sc_without:FnScope ["keep","tie"] ["keep","tie"] (defScope s_without):=⟨rfl,rfl,rfl,by decide +kernel,rfl,by decide +kernel,by decide +kernel⟩
abbrev s_by_steps:Stmt:=top 17
theorem sc_by_steps:FnScope ["web"] ["web"] (defScope s_by_steps):=⟨rfl,rfl,rfl,by decide +kernel,rfl,by decide +kernel,by decide +kernel⟩
abbrev s_ring_right:Stmt:=top 19
theorem sc_ring_right:FnScope ["web","keep","ring"] ["web","keep","ring"] (defScope s_ring_right):=⟨rfl,rfl,rfl,by decide +kernel,rfl,by decide +kernel,by decide +kernel⟩
abbrev s_neighbours:Stmt:=top 20
theorem sc_neighbours:FnScope ["web","keep","place","ties"] ["web","keep","place"] (defScope s_neighbours):=⟨rfl,rfl,rfl,by decide +kernel,rfl,by decide +kernel,by decide +kernel⟩
abbrev s_first_by_steps:Stmt:=top 21
theorem sc_first_by_steps:FnScope ["steps","keep","start","end","left","way","nearer"] ["steps","keep","start","end"] (defScope s_first_by_steps):=⟨rfl,rfl,rfl,by decide +kernel,rfl,by decide +kernel,by decide +kernel⟩
abbrev s_least_ring:Stmt:=top 22
theorem sc_least_ring:FnScope ["web","keep","steps","best","first","tie","a","b","length","size"] ["web","keep"] (defScope s_least_ring):=⟨rfl,rfl,rfl,by decide +kernel,rfl,by decide +kernel,by decide +kernel⟩
abbrev s_ties_among:Stmt:=top 24
theorem sc_ties_among:FnScope ["web","keep","place","others"] ["web","keep","place","others"] (defScope s_ties_among):=⟨rfl,rfl,rfl,by decide +kernel,rfl,by decide +kernel,by decide +kernel⟩
abbrev s_first_to_go:Stmt:=top 25
theorem sc_first_to_go:FnScope ["web","keep","d","left","place"] ["web","keep","d","left"] (defScope s_first_to_go):=⟨rfl,rfl,rfl,by decide +kernel,rfl,by decide +kernel,by decide +kernel⟩
abbrev s_peeled:Stmt:=top 26
theorem sc_peeled:FnScope ["web","keep","d","order","left","place"] ["web","keep","d"] (defScope s_peeled):=⟨rfl,rfl,rfl,by decide +kernel,rfl,by decide +kernel,by decide +kernel⟩
abbrev s_spread:Stmt:=top 27
theorem sc_spread:FnScope ["d","k","places","front","step"] ["d","k"] (defScope s_spread):=⟨rfl,rfl,rfl,by decide +kernel,rfl,by decide +kernel,by decide +kernel⟩
abbrev s_share_of:Stmt:=top 28
theorem sc_share_of:FnScope ["n","k","d"] ["n","k"] (defScope s_share_of):=⟨rfl,rfl,rfl,by decide +kernel,rfl,by decide +kernel,by decide +kernel⟩
abbrev s_few_told:Stmt:=top 29
theorem sc_few_told:FnScope ["web","keep","k","order","core"] ["web","keep","k"] (defScope s_few_told):=⟨rfl,rfl,rfl,by decide +kernel,rfl,by decide +kernel,by decide +kernel⟩
abbrev s_peels:Stmt:=top 30
theorem sc_peels:FnScope ["web","keep","d","order"] ["web","keep","d","order"] (defScope s_peels):=⟨rfl,rfl,rfl,by decide +kernel,rfl,by decide +kernel,by decide +kernel⟩
abbrev s_few_right:Stmt:=top 31
theorem sc_few_right:FnScope ["web","keep","k","told"] ["web","keep","k","told"] (defScope s_few_right):=⟨rfl,rfl,rfl,by decide +kernel,rfl,by decide +kernel,by decide +kernel⟩
abbrev s__law_pot:Stmt:=top 33
theorem sc__law_pot:FnScope ["script","k","cell","prime"] ["script","k"] (defScope s__law_pot):=⟨rfl,rfl,rfl,by decide +kernel,rfl,by decide +kernel,by decide +kernel⟩
abbrev s__law_take:Stmt:=top 34
theorem sc__law_take:FnScope ["pot","many","found"] ["pot","many"] (defScope s__law_take):=⟨rfl,rfl,rfl,by decide +kernel,rfl,by decide +kernel,by decide +kernel⟩
abbrev s__law_length:Stmt:=top 35
theorem sc__law_length:FnScope ["pot","way"] ["pot","way"] (defScope s__law_length):=⟨rfl,rfl,rfl,by decide +kernel,rfl,by decide +kernel,by decide +kernel⟩
abbrev s__law_tied:Stmt:=top 36
theorem sc__law_tied:FnScope ["pot","n","style","a","b","beside"] ["pot","n","style","a","b"] (defScope s__law_tied):=⟨rfl,rfl,rfl,by decide +kernel,rfl,by decide +kernel,by decide +kernel⟩
abbrev s__law_order:Stmt:=top 37
theorem sc__law_order:FnScope ["pot","many","left","found","turn"] ["pot","many"] (defScope s__law_order):=⟨rfl,rfl,rfl,by decide +kernel,rfl,by decide +kernel,by decide +kernel⟩
abbrev s__law_web:Stmt:=top 38
theorem sc__law_web:FnScope ["pot","most","n","style","way","names","ties","b","a","one","other"] ["pot","most"] (defScope s__law_web):=⟨rfl,rfl,rfl,by decide +kernel,rfl,by decide +kernel,by decide +kernel⟩
abbrev s__law_keep:Stmt:=top 39
theorem sc__law_keep:FnScope ["pot","web","way"] ["pot","web"] (defScope s__law_keep):=⟨rfl,rfl,rfl,by decide +kernel,rfl,by decide +kernel,by decide +kernel⟩
abbrev s__law_is:Stmt:=top 40
theorem sc__law_is:FnScope ["found","due"] ["found","due"] (defScope s__law_is):=⟨rfl,rfl,rfl,by decide +kernel,rfl,by decide +kernel,by decide +kernel⟩
abbrev s__law_peel:Stmt:=top 41
theorem sc__law_peel:FnScope ["web","keep","d","counts","number","gone","at","one","other","length"] ["web","keep","d"] (defScope s__law_peel):=⟨rfl,rfl,rfl,by decide +kernel,rfl,by decide +kernel,by decide +kernel⟩
abbrev s__law_fan:Stmt:=top 42
theorem sc__law_fan:FnScope ["d","k","found","turn"] ["d","k"] (defScope s__law_fan):=⟨rfl,rfl,rfl,by decide +kernel,rfl,by decide +kernel,by decide +kernel⟩
abbrev s__law_share:Stmt:=top 43
theorem sc__law_share:FnScope ["n","k","d"] ["n","k"] (defScope s__law_share):=⟨rfl,rfl,rfl,by decide +kernel,rfl,by decide +kernel,by decide +kernel⟩
abbrev s__law_beside:Stmt:=top 44
theorem sc__law_beside:FnScope ["web","keep","found","number"] ["web","keep"] (defScope s__law_beside):=⟨rfl,rfl,rfl,by decide +kernel,rfl,by decide +kernel,by decide +kernel⟩
abbrev s__law_ring_on:Stmt:=top 45
theorem sc__law_ring_on:FnScope ["beside","row","size","place","found"] ["beside","row","size"] (defScope s__law_ring_on):=⟨rfl,rfl,rfl,by decide +kernel,rfl,by decide +kernel,by decide +kernel⟩
abbrev s__law_least_ring:Stmt:=top 46
theorem sc__law_least_ring:FnScope ["web","keep","beside","size","start","found"] ["web","keep"] (defScope s__law_least_ring):=⟨rfl,rfl,rfl,by decide +kernel,rfl,by decide +kernel,by decide +kernel⟩
abbrev s__law_steps:Stmt:=top 47
theorem sc__law_steps:FnScope ["pot"] ["pot"] (defScope s__law_steps):=⟨rfl,rfl,rfl,by decide +kernel,rfl,by decide +kernel,by decide +kernel⟩
abbrev s__law_most:Stmt:=top 48
theorem sc__law_most:FnScope ["pot","k"] ["pot","k"] (defScope s__law_most):=⟨rfl,rfl,rfl,by decide +kernel,rfl,by decide +kernel,by decide +kernel⟩
abbrev s__law_drawn_ring:Stmt:=top 49
theorem sc__law_drawn_ring:FnScope ["pot","web","row","at"] ["pot","web"] (defScope s__law_drawn_ring):=⟨rfl,rfl,rfl,by decide +kernel,rfl,by decide +kernel,by decide +kernel⟩
abbrev s__law_row:Stmt:=top 50
theorem sc__law_row:FnScope ["pot","web","keep","steps","way","gone","core","found"] ["pot","web","keep","steps"] (defScope s__law_row):=⟨rfl,rfl,rfl,by decide +kernel,rfl,by decide +kernel,by decide +kernel⟩
abbrev s__law_spoilt:Stmt:=top 51
theorem sc__law_spoilt:FnScope ["pot","n","row","at","ahead","rest","some","others"] ["pot","n","row"] (defScope s__law_spoilt):=⟨rfl,rfl,rfl,by decide +kernel,rfl,by decide +kernel,by decide +kernel⟩
abbrev s__law_is_ring:Stmt:=top 52
theorem sc__law_is_ring:FnScope ["web","keep","row","beside","at"] ["web","keep","row"] (defScope s__law_is_ring):=⟨rfl,rfl,rfl,by decide +kernel,rfl,by decide +kernel,by decide +kernel⟩
abbrev s__law_is_order:Stmt:=top 53
theorem sc__law_is_order:FnScope ["web","keep","steps","row","beside","share","at","rest"] ["web","keep","steps","row"] (defScope s__law_is_order):=⟨rfl,rfl,rfl,by decide +kernel,rfl,by decide +kernel,by decide +kernel⟩
abbrev s_law:Stmt:=top 54
theorem sc_law:FnScope ["script","k","pot","web","keep","steps","turn","row","again","due"] ["script"] (defScope s_law):=⟨rfl,rfl,rfl,by decide +kernel,rfl,by decide +kernel,by decide +kernel⟩
section
variable {P:Program} {w:World} {K:PySem.W.Frag} {mg:Str->Option Value} {base:Heap}
theorem ok__law_take (T:Bi mg) (D:DefOk K mg "_law_take" s__law_take ["pot","many"]):Ok P w K mg base 1 "_law_take" ["pot","many"] spTake:=by
 refine mk_ok (k:=0) D sc__law_take (fun vs H Q E h=>?_) (fun f cdv A outer s H vs Q E hr h=>?_)
 ·obtain⟨p,m,rfl,_⟩:=h
  rfl
 obtain⟨p,m,rfl,⟨a,b,hp,ha,hb,hb2⟩,hm,hm2,q⟩:=h
 have nd:=sc__law_take.nd
 refine⟨_,(pss_cons (ps_if (pt_cmpR op_gt (pe_ix ix_list (pv 0) pe_int (fun _ _=>rfl)) pe_int (nomark _)) (pss_cons (ps_set (i:=2) nd rfl (Or.inl rfl) (pe_op op_mod (pe_ix ix_list (pv 0) pe_int (fun _ _=>rfl)) (pv 1))) (pss_cons (ps_asg (pe_op op_fdiv (pe_ix ix_list (pv 0) pe_int (fun _ _=>rfl)) (pv 1)) (pg_sub (pv 0) pe_int set_list)) (pss_one (ps_ret (pv 2))))) pss_nil) (pss_cons (ps_asg (pe_op op_mod (pe_op op_add (pe_op op_mul (pe_ix ix_list (pv 0) pe_int (fun _ _=>rfl)) pe_int) pe_int) pe_int) (pg_sub (pv 0) pe_int set_list)) (pss_one (ps_ret (pe_op op_mod (pe_op op_fdiv (pe_op op_mod (pe_op op_pow (pe_ix ix_list (pv 0) pe_int (fun _ _=>rfl)) pe_int) pe_int) pe_int) (pv 1)))))),?_⟩
 refine⟨_,rfl,p,_,_,_,rfl,rfl,SqL.of hp,rfl,_,_,rfl,rfl,_,rfl,?_⟩
 refine ite2 (fun c=>?_) (fun c=>?_)
 ·refine⟨_,rfl,p,_,_,_,rfl,rfl,SqL.of hp,rfl,_,rfl,_,_,rfl,rfl,hm,?_⟩
  refine⟨_,rfl,p,_,_,_,rfl,rfl,SqL.of hp,rfl,_,rfl,_,_,rfl,rfl,⟨hm,hm2⟩,?_⟩
  refine⟨_,rfl,p,_,0,0,rfl,rfl,hp,rfl,_,rfl,?_⟩
  refine q _ _ (Int.emod_nonneg _ (by omega)) (Int.emod_lt_of_pos _ hm) But.upd ⟨a / m,b,upd_same,Int.ediv_nonneg ha (by omega),hb,hb2⟩
 ·refine⟨_,rfl,p,_,_,_,rfl,rfl,SqL.of hp,rfl,_,_,rfl,rfl,.inr ⟨by decide,by decide⟩,_,_,rfl,rfl,_,_,rfl,rfl,(by show (0:Int) < 2147483647;decide),?_⟩
  refine⟨_,rfl,p,_,1,1,rfl,rfl,hp,rfl,?_⟩
  have n1:0≤(b * 48271 + 12820163) % 2147483647:=Int.emod_nonneg _ (by decide)
  have n2:(b * 48271 + 12820163) % 2147483647 < 2147483647:=Int.emod_lt_of_pos _ (by decide)
  refine⟨_,rfl,p,_,_,_,rfl,rfl,SqL.of upd_same,rfl,_,_,rfl,rfl,⟨by decide,by decide,by omega⟩,_,_,rfl,rfl,(by show (0:Int) < 2147483629;decide),_,_,rfl,rfl,⟨by decide,by decide⟩,_,rfl,_,_,rfl,rfl,hm,?_⟩
  exact q _ _ (Int.emod_nonneg _ (by omega)) (Int.emod_lt_of_pos _ hm) But.upd ⟨a,_,upd_same,ha,n1,n2⟩
theorem ok__law_pot (T:Bi mg) (D:DefOk K mg "_law_pot" s__law_pot ["script","k"]):Ok P w K mg base 1 "_law_pot" ["script","k"] (spPot K):=by
 refine mk_ok (k:=0) D sc__law_pot (fun vs H Q E h=>?_) (fun f cdv A outer s H vs Q E hr h=>?_)
 ·obtain⟨a,k,ns,rfl,_⟩:=h
  rfl
 obtain⟨a,k,ns,rfl,hS,hk0,hk1,q⟩:=h
 have nd:=sc__law_pot.nd
 have hl:(ns.map V.int).length=ns.length:=List.length_map _
 refine⟨_,(pss_cons (ps_set (i:=2) nd rfl (Or.inl rfl) pe_int) (pss_cons (ps_if (pt_cmpR op_lt (pv 1) (pe_callB call_len_seq rfl T.z_len (by decide +kernel) (pa_cons (pv 0) pa_nil)) (nomark _)) (pss_one (ps_set (i:=2) nd rfl (Or.inl rfl) (pe_op op_mod (pe_ix ix_list (pv 0) (pv 1) (fun _ _=>rfl)) (pe_op op_mulB (pe_op op_mulB (pe_op op_pow pe_int pe_int) (pe_op op_pow pe_int pe_int)) (pe_op op_pow pe_int pe_int))))) pss_nil) (pss_cons (ps_set (i:=3) nd rfl (Or.inl rfl) (pe_ix ix_list (pe_lst (pa_cons pe_int (pa_cons pe_int (pa_cons pe_int (pa_cons pe_int (pa_cons pe_int pa_nil)))))) (pe_op op_mod (pv 1) pe_int) (fun _ _=>rfl))) (pss_one (ps_ret (pe_lst (pa_cons (pe_callB (call_max2 rfl) rfl T.z_max (by decide +kernel) (pa_cons pe_int (pa_cons (pe_op op_sub (pv 2) (pe_op op_pow pe_int pe_int)) pa_nil))) (pa_cons (pe_op op_mod (pe_op op_pow (pe_op op_add (pe_op op_add (pe_op op_mod (pv 2) (pv 3)) (pe_op op_mul pe_int (pv 1))) pe_int) pe_int) pe_int) pa_nil)))))))),?_⟩
  -- behind the test: cell is some number that is not below nought
 have rest : ∀ (cell : Int), 0 ≤ cell → ∀ (σ : L2.St), σ = [some (.ref a), some (.int k), some (.int cell), none] →
     (tSeq (tAsg (tOp (rIxL K) (tLst (tCons (tC (.int 2147483629)) (tCons (tC (.int 2147483587)) (tCons (tC (.int 2147483579)) (tCons (tC (.int 2147483563)) (tCons (tC (.int 2147483549)) tNil)))))) (tOp (rI (fun _ j=>0 < j) fun i j=>.int (i % j)) (tVar 1) (tC (.int 5)))) (gName 3))
       (tRet (tLst (tCons (tCB (fun xs H Q=>∃ i j,xs=[.int i,.int j]∧Q (.int (if j > i then j else i)) H) (tCons (tC (.int 0)) (tCons (tOp (rI0 fun i j=>.int (i - j)) (tVar 2) (tOp (rI CPow fun i j=>.int (i ^ j.toNat)) (tC (.int 10)) (tC (.int 18)))) tNil)))
         (tCons (tOp (rI (fun _ j=>0 < j) fun i j=>.int (i % j)) (tOp (rI CPow fun i j=>.int (i ^ j.toNat)) (tOp (rI0 fun i j=>.int (i + j)) (tOp (rI0 fun i j=>.int (i + j)) (tOp (rI (fun _ j=>0 < j) fun i j=>.int (i % j)) (tVar 2) (tVar 3)) (tOp (rI CMul fun i j=>.int (i * j)) (tC (.int 7919)) (tVar 1))) (tC (.int 11))) (tC (.int 3))) (tC (.int 2147483647))) tNil)))))
       { nx:=fun _ H'=>Q .non H',rt:=Q } σ H:=by
  intro cell hc σ hσ
  subst hσ
  refine⟨(by show 5≤sizeLine;decide),fun l hl=>?_⟩
  refine⟨_,rfl,_,_,rfl,rfl,(by show (0:Int) < 5;decide),?_⟩
  have m0:0≤k % 5:=Int.emod_nonneg _ (by decide)
  have m1:k % 5 < 5:=Int.emod_lt_of_pos _ (by decide)
  have pr:∃ v:Int,atI [V.int 2147483629,V.int 2147483587,V.int 2147483579,V.int 2147483563,V.int 2147483549] (k % 5)=some (.int v)∧2147483549≤v∧v≤2147483629:=by
   have:k % 5=0∨k % 5=1∨k % 5=2∨k % 5=3∨k % 5=4:=by omega
   rcases this with e | e | e | e | e <;> rw[e] <;> exact⟨_,rfl,by decide,by decide⟩
  obtain⟨v,hv,v1,v2⟩:=pr
  refine⟨l,_,_,_,rfl,rfl,SqL.of upd_same,hv,?_⟩
  have S1:Same H (upd H l (.lst [V.int 2147483629,V.int 2147483587,V.int 2147483579,V.int 2147483563,V.int 2147483549])):=same_new hl
  refine⟨_,rfl,_,_,rfl,rfl,⟨by decide,by decide,by decide⟩,_,_,rfl,rfl,_,_,rfl,?_⟩
  refine⟨_,rfl,_,rfl,_,_,rfl,rfl,(by show (0:Int) < v;omega),_,rfl,_,_,rfl,rfl,.inl ⟨by decide,by decide⟩,_,_,rfl,rfl,_,_,rfl,rfl,_,_,rfl,rfl,⟨by decide,by decide,?_⟩,_,_,rfl,rfl,(by show (0:Int) < 2147483647;decide),?_⟩
  ·have c0:0≤cell % v:=Int.emod_nonneg _ (by omega)
   have c1:cell % v < v:=Int.emod_lt_of_pos _ (by omega)
   omega
  refine⟨(by show 2≤sizeLine;decide),fun l2 hl2=>?_⟩
  refine q l2 _ (S1.trans (same_new hl2)) (S1.free hl2) ⟨_,_,upd_same,?_,Int.emod_nonneg _ (by decide),Int.emod_lt_of_pos _ (by decide)⟩
  split <;> omega
 refine⟨_,rfl,_,rfl,a,_,rfl,.inl hS,_,_,rfl,rfl,_,rfl,?_⟩
 refine ite2 (fun c=>?_) (fun c=>?_)
 ·have c':k < (((ns.map V.int).length:Nat):Int):=of_decide_eq_true c
  rw[hl] at c'
  obtain⟨v,hv⟩:∃ v:Int,atI (ns.map V.int) k=some (.int v):=by
   have hk:k.toNat < ns.length:=by omega
   have ek:k=((k.toNat:Nat):Int):=by omega
   have z:atI (ns.map V.int) ((k.toNat:Nat):Int)=some (.int ns[k.toNat]):=atI_nat (by rw[List.getElem?_map,List.getElem?_eq_getElem hk] <;> rfl)
   rw[← ek] at z
   exact⟨_,z⟩
  refine⟨_,rfl,_,rfl,a,_,_,_,rfl,rfl,hS,hv,?_⟩
  refine⟨_,_,rfl,rfl,⟨by decide,by decide,by decide⟩,_,_,rfl,rfl,⟨by decide,by decide,by decide⟩,_,_,rfl,rfl,mulB,_,_,rfl,rfl,⟨by decide,by decide,by decide⟩,_,_,rfl,rfl,mulB2,_,_,rfl,rfl,posB,?_⟩
  exact rest _ (Int.emod_nonneg _ (by have:=posB;omega)) _ rfl
 ·exact rest 5 (by decide) _ rfl
theorem ok__law_length (T:Bi mg) (D:DefOk K mg "_law_length" s__law_length ["pot","way"]) (O__law_take:Ok P w K mg base 1 "_law_take" ["pot","many"] spTake):Ok P w K mg base 2 "_law_length" ["pot","way"] spLength:=by
 refine mk_ok (k:=1) D sc__law_length (fun vs H Q E h=>?_) (fun f cdv A outer s H vs Q E hr h=>?_)
 ·obtain⟨p,y,rfl,_⟩:=h
  rfl
 obtain⟨p,y,rfl,hp,hy0,hy5,q⟩:=h
 have nd:=sc__law_length.nd
 refine⟨_,(pss_cons (ps_if (pt_cmpR op_lt (pv 1) pe_int (nomark _)) (pss_one (ps_ret (pe_ix ix_list (pe_lst (pa_cons pe_int (pa_cons (pe_op op_add pe_int (pe_callD O__law_take hr rfl (pa_cons (pv 0) (pa_cons pe_int pa_nil)))) pa_nil))) (pv 1) (fun _ _=>rfl)))) pss_nil) (pss_cons (ps_if (pt_cmpR op_eq (pv 1) pe_int (nomark _)) (pss_one (ps_ret (pe_op op_add pe_int (pe_callD O__law_take hr rfl (pa_cons (pv 0) (pa_cons pe_int pa_nil)))))) pss_nil) (pss_cons (ps_if (pt_cmpR op_eq (pv 1) pe_int (nomark _)) (pss_one (ps_ret (pe_ix ix_list (pe_lst (pa_cons pe_int (pa_cons pe_int (pa_cons pe_int (pa_cons (pe_op op_pow pe_int pe_int) (pa_cons (pe_op op_sub (pe_op op_pow pe_int pe_int) pe_int) (pa_cons (pe_op op_pow pe_int pe_int) pa_nil))))))) (pe_callD O__law_take hr rfl (pa_cons (pv 0) (pa_cons pe_int pa_nil))) (fun _ _=>rfl)))) pss_nil) (pss_one (ps_ret (pe_op op_add pe_int (pe_op op_mul (pe_callD O__law_take hr rfl (pa_cons (pv 0) (pa_cons (pe_op op_pow pe_int pe_int) pa_nil))) (pe_callD O__law_take hr rfl (pa_cons (pv 0) (pa_cons (pe_op op_add (pe_op op_pow pe_int pe_int) pe_int) pa_nil)))))))))),?_⟩
 refine⟨_,rfl,_,_,rfl,rfl,_,rfl,?_⟩
 refine ite2 (fun c=>?_) (fun c=>?_)
 ·have c':y < 2:=of_decide_eq_true c
  refine⟨_,rfl,p,3,rfl,hp,by decide,by decide,fun r H1 r0 r1 b1 p1=>?_⟩
  refine⟨_,_,rfl,rfl,(by show 2≤sizeLine;decide),fun l hl=>?_⟩
  have at_:∃ v:Int,atI [V.int 1,V.int (1 + r)] y=some (.int v)∧1≤v∧v≤10 ^ 18:=by
   have:y=0∨y=1:=by omega
   rcases this with e | e <;> rw[e]
   ·exact⟨1,rfl,by decide +kernel,by decide +kernel⟩
   ·exact⟨1 + r,rfl,by omega,by omega⟩
  obtain⟨v,hv,v0,v1⟩:=at_
  refine⟨_,rfl,l,_,_,_,rfl,rfl,SqL.of upd_same,hv,?_⟩
  obtain⟨a',b',e',z⟩:=p1
  exact q v _ v0 v1 (b1.trans (But.new hl)) ⟨a',b',(same_new hl) _ _ e',z⟩
 refine⟨_,rfl,rfl,_,rfl,?_⟩
 refine ite2 (fun c2=>?_) (fun c2=>?_)
 ·refine⟨_,rfl,p,50,rfl,hp,by decide,by decide,fun r H1 r0 r1 b1 p1=>?_⟩
  exact⟨_,_,rfl,rfl,q _ _ (by omega) (by omega) b1 p1⟩
 refine⟨_,rfl,rfl,_,rfl,?_⟩
 refine ite2 (fun c3=>?_) (fun c3=>?_)
 ·refine⟨_,_,rfl,rfl,⟨by decide,by decide,by decide⟩,_,_,rfl,rfl,⟨by decide,by decide,by decide⟩,_,_,rfl,rfl,_,_,rfl,rfl,⟨by decide,by decide,by decide⟩,(by show 6≤sizeLine;decide),fun l hl=>?_⟩
  have hp':Pot (upd H l (.lst [V.int 1,V.int 2,V.int 3,V.int ((10:Int) ^ (18:Int).toNat),V.int ((10:Int) ^ (18:Int).toNat - 1),V.int ((10:Int) ^ (17:Int).toNat)])) p:=by
   obtain⟨a',b',e',z⟩:=hp
   exact⟨a',b',(same_new hl) _ _ e',z⟩
  have lp:l≠p:=by
   obtain⟨a',b',e',z⟩:=hp
   exact fun e=>by rw[e,e'] at hl;cases hl
  refine⟨_,rfl,p,6,rfl,hp',by decide,by decide,fun r H1 r0 r1 b1 p1=>?_⟩
  have at_:∃ v:Int,atI [V.int 1,V.int 2,V.int 3,V.int ((10:Int) ^ (18:Int).toNat),V.int ((10:Int) ^ (18:Int).toNat - 1),V.int ((10:Int) ^ (17:Int).toNat)] r=some (.int v)∧1≤v∧v≤10 ^ 18:=by
   have:r=0∨r=1∨r=2∨r=3∨r=4∨r=5:=by omega
   rcases this with e | e | e | e | e | e <;> rw[e] <;> exact⟨_,rfl,by decide +kernel,by decide +kernel⟩
  obtain⟨v,hv,v0,v1⟩:=at_
  refine⟨l,_,_,_,rfl,rfl,SqL.of (b1 _ _ lp upd_same),hv,?_⟩
  exact q v _ v0 v1 ((But.new hl).trans b1) p1
 ·refine⟨_,rfl,_,_,rfl,rfl,⟨by decide,by decide,by decide⟩,p,_,rfl,hp,by decide,by decide,fun r H1 r0 r1 b1 p1=>?_⟩
  refine⟨_,rfl,_,_,rfl,rfl,⟨by decide,by decide,by decide⟩,_,_,rfl,rfl,p,_,rfl,p1,by decide,by decide,fun r2 H2 r20 r21 b2 p2=>?_⟩
  have e9:((10:Int) ^ (9:Int).toNat)=1000000000:=by decide
  rw[e9] at r1 r21
  refine⟨_,_,rfl,rfl,.inl ⟨by omega,by omega⟩,_,_,rfl,rfl,?_⟩
  have m0:0≤r * r2:=Int.mul_nonneg r0 r20
  have m1:r * r2≤999999999 * 1000000000:=Int.mul_le_mul (by omega) (by omega) r20 (by decide)
  exact q _ _ (by omega) (by omega) (b1.trans b2) p2
theorem ok__law_tied (T:Bi mg) (D:DefOk K mg "_law_tied" s__law_tied ["pot","n","style","a","b"]) (O__law_take:Ok P w K mg base 1 "_law_take" ["pot","many"] spTake):Ok P w K mg base 2 "_law_tied" ["pot","n","style","a","b"] spTied:=by
 refine mk_ok (k:=1) D sc__law_tied (fun vs H Q E h=>?_) (fun f cdv A outer s H vs Q E hr h=>?_)
 ·obtain⟨p,n,y,a,b,rfl,_⟩:=h
  rfl
 obtain⟨p,n,y,a,b,rfl,hp,q⟩:=h
 have nd:=sc__law_tied.nd
 have q0:∀ k,Q (.bl k) H:=fun k=>q k H But.refl hp
 refine⟨_,(pss_cons (ps_set (i:=5) nd rfl (Or.inl rfl) (pe_or (pe_cmpR op_eq (pe_op op_sub (pv 4) (pv 3)) pe_int (nomark _)) (pe_one (pe_cmpR op_eq (pe_op op_sub (pv 4) (pv 3)) (pe_op op_sub (pv 1) pe_int) (nomark _))))) (pss_cons (ps_if (pt_cmpR op_lt (pv 2) pe_int (nomark _)) (pss_one (ps_ret (pe_or (pv 5) (pe_one (pe_and (pe_cmpR op_eq (pv 2) pe_int (nomark _)) (pe_one (pe_cmpR op_eq (pe_callD O__law_take hr rfl (pa_cons (pv 0) (pa_cons pe_int pa_nil))) pe_int (nomark _)))))))) pss_nil) (pss_cons (ps_if (pt_cmpR op_lt (pv 2) pe_int (nomark _)) (pss_one (ps_ret (pe_cmpR op_eq (pe_cmpR op_gt (pe_callD O__law_take hr rfl (pa_cons (pv 0) (pa_cons pe_int pa_nil))) pe_int (nomark _)) (pe_cmpR op_eq (pv 2) pe_int (nomark _)) (nomark _)))) pss_nil) (pss_cons (ps_if (pt_cmpR op_eq (pv 2) pe_int (nomark _)) (pss_one (ps_ret (pe_or (pe_cmpR op_eq (pe_op op_sub (pv 4) (pv 3)) pe_int (nomark _)) (pe_one (pe_and (pe_cmpR op_eq (pe_op op_sub (pv 4) (pv 3)) pe_int (nomark _)) (pe_one (pe_cmpR op_gt (pe_op op_mod (pv 4) pe_int) pe_int (nomark _)))))))) pss_nil) (pss_cons (ps_if (pt_cmpR op_lt (pv 2) pe_int (nomark _)) (pss_one (ps_ret (pe_and (pe_cmpR op_eq (pe_cmpR op_eq (pe_op op_mod (pv 3) pe_int) (pe_op op_mod (pv 4) pe_int) (nomark _)) (pe_cmpR op_eq (pv 2) pe_int (nomark _)) (nomark _)) (pe_one (pe_cmpR op_gt (pe_callD O__law_take hr rfl (pa_cons (pv 0) (pa_cons pe_int pa_nil))) pe_int (nomark _)))))) pss_nil) (pss_one (ps_ret pe_bl))))))),?_⟩
 refine⟨_,rfl,_,rfl,_,_,rfl,rfl,rfl,_,rfl,?_⟩
 refine ite2 (fun c=>?_) (fun c=>?_)
 all_goals (try refine⟨_,rfl,_,rfl,_,_,rfl,rfl,_,rfl,_,_,rfl,rfl,rfl,?_⟩)
 all_goals
  refine⟨_,rfl,_,_,rfl,rfl,_,rfl,?_⟩
  refine ite2 (fun c1=>?_) (fun c1=>?_)
  ·refine⟨_,rfl,_,rfl,?_⟩
   refine ite2 (fun d=>?_) (fun d=>?_)
   ·exact q0 _
   ·refine⟨_,rfl,rfl,_,rfl,?_⟩
    refine ite2 (fun d=>?_) (fun d=>?_)
    ·exact⟨_,rfl,p,_,rfl,hp,by decide,by decide,fun r H' _ _ b1 p1=>⟨rfl,q _ _ b1 p1⟩⟩
    ·exact q0 _
  refine⟨_,rfl,_,_,rfl,rfl,_,rfl,?_⟩
  refine ite2 (fun c2=>?_) (fun c2=>?_)
  ·exact⟨_,rfl,p,_,rfl,hp,by decide,by decide,fun r H' _ _ b1 p1=>⟨_,_,rfl,rfl,_,rfl,rfl,rfl,q _ _ b1 p1⟩⟩
  refine⟨_,rfl,rfl,_,rfl,?_⟩
  refine ite2 (fun c3=>?_) (fun c3=>?_)
  ·refine⟨_,rfl,_,rfl,_,_,rfl,rfl,rfl,_,rfl,?_⟩
   refine ite2 (fun d=>?_) (fun d=>?_)
   ·exact q0 _
   ·refine⟨_,rfl,_,rfl,_,_,rfl,rfl,rfl,_,rfl,?_⟩
    refine ite2 (fun d=>?_) (fun d=>?_)
    ·exact⟨_,rfl,_,_,rfl,rfl,(by show (0:Int) < 3;decide),_,_,rfl,rfl,q0 _⟩
    ·exact q0 _
  refine⟨_,rfl,_,_,rfl,rfl,_,rfl,?_⟩
  refine ite2 (fun c4=>?_) (fun c4=>?_)
  ·refine⟨_,rfl,_,_,rfl,rfl,(by show (0:Int) < 2;decide),_,rfl,_,_,rfl,rfl,(by show (0:Int) < 2;decide),rfl,_,rfl,rfl,rfl,_,rfl,?_⟩
   refine ite2 (fun d=>?_) (fun d=>?_)
   ·exact⟨_,rfl,p,_,rfl,hp,by decide,by decide,fun r H' _ _ b1 p1=>⟨_,_,rfl,rfl,q _ _ b1 p1⟩⟩
   ·exact q0 _
  ·exact q0 _
theorem ok__law_order (T:Bi mg) (D:DefOk K mg "_law_order" s__law_order ["pot","many"]) (O__law_take:Ok P w K mg base 1 "_law_take" ["pot","many"] spTake):Ok P w K mg base 2 "_law_order" ["pot","many"] spOrder:=by
 refine mk_ok (k:=1) D sc__law_order (fun vs H Q E h=>?_) (fun f cdv A outer s H vs Q E hr h=>?_)
 ·obtain⟨p,m,rfl,_⟩:=h
  rfl
 obtain⟨p,m,rfl,hp,hm0,hm1,q⟩:=h
 have nd:=sc__law_order.nd
 refine⟨_,(pss_cons (ps_set (i:=2) nd rfl (Or.inl rfl) (pe_callTy (call_list_rng rfl) rfl T.z_list (by decide +kernel) (pa_cons (pe_callTy call_range rfl T.z_range (by decide +kernel) (pa_cons (pv 1) pa_nil)) pa_nil))) (pss_cons (ps_set (i:=3) nd rfl (Or.inl rfl) (pe_lst pa_nil)) (pss_cons (ps_for PassesOwn.never rfl (pi_range1 rfl T.z_range (pa_cons (pv 1) pa_nil)) (pg_name (i:=4) nd rfl (Or.inl rfl)) (pss_one (ps_expr (pe_bm PySem.F.plainAttrs_list PySem.F.slot_list_append PySem.F.type_list_append mt_append (pv 3) (pa_cons (pe_bm PySem.F.plainAttrs_list PySem.F.slot_list_pop PySem.F.type_list_pop mt_popAt (pv 2) (pa_cons (pe_callD O__law_take hr rfl (pa_cons (pv 0) (pa_cons (pe_callB call_len_seq rfl T.z_len (by decide +kernel) (pa_cons (pv 2) pa_nil)) pa_nil))) pa_nil)) pa_nil))))) (pss_one (ps_ret (pv 3)))))),?_⟩
 refine⟨_,rfl,m,rfl,fun g hg=>?_⟩
 refine⟨g,m,rfl,upd_same,hm0,hm1,fun l hl=>?_⟩
 refine⟨(by show 0≤sizeLine;decide),fun l2 hl2=>?_⟩
 obtain⟨H0,eH0⟩:∃ H0,H0=upd (upd (upd H g (.rng 0 m)) l (.lst ((List.range m.toNat).map fun i:Nat=>V.int (i:Int)))) l2 (.lst []):=⟨_,rfl⟩
 rw[← eH0]
 have S1:Same H (upd H g (.rng 0 m)):=same_new hg
 have S2:=S1.trans (same_new (o:=.lst ((List.range m.toNat).map fun i:Nat=>V.int (i:Int))) hl)
 have S3:Same H H0:=by rw[eH0];exact S2.trans (same_new hl2)
 have fl:H l=none:=S1.free hl
 have fl2:H l2=none:=S2.free hl2
 have ll2:l≠l2:=fun e=>by rw[← e,upd_same] at hl2;cases hl2
 have el:H0 l=some (.lst ((List.range m.toNat).map fun i:Nat=>V.int (i:Int))):=by rw[eH0,upd_ne ll2,upd_same]
 have el2:H0 l2=some (.lst []):=by rw[eH0,upd_same]
 have hp0:Pot H0 p:=by
  obtain⟨a,b,e,z⟩:=hp
  exact⟨a,b,S3 _ _ e,z⟩
 have nlp:l≠p:=by
  obtain⟨a,b,e,z⟩:=hp
  exact fun x=>by rw[x,e] at fl;cases fl
 have nl2p:l2≠p:=by
  obtain⟨a,b,e,z⟩:=hp
  exact fun x=>by rw[x,e] at fl2;cases fl2
 refine⟨_,rfl,m,rfl,by omega,by omega,?_⟩
 refine for_range (n:=m.toNat) (fun i σ H'=>∃ (t:Option V) (ls ms:List Int),σ=[some (.ref p),some (.int m),some (.ref l),some (.ref l2),t]∧H' l=some (.lst (ls.map V.int))∧H' l2=some (.lst (ms.map V.int))∧Pot H' p ∧
  (∀ b o,b≠p->H b=some o->H' b=some o)∧(ms++ls).Perm ((List.range m.toNat).map fun i:Nat=>(i:Int))∧ms.length=i) ?start ?turn ?fin
 case start=>exact⟨none,(List.range m.toNat).map fun i:Nat=>(i:Int),[],rfl,by rw[el,List.map_map];rfl,el2,hp0,fun b o _ e=>S3 b o e,List.Perm.refl _,rfl⟩
 case turn =>
  rintro i σ H' hi ⟨t,ls,ms,rfl,e1,e2,hp',kp,pm,hl'⟩
  have hlen:ls.length=m.toNat - i:=by
   have:=pm.length_eq
   rw[List.length_append,List.length_map,List.length_range] at this
   omega
  refine⟨_,rfl,.inl ⟨rfl,_,SqL.of e2⟩,_,rfl,.inl ⟨rfl,_,SqL.of e1⟩,_,rfl,_,rfl,l,_,rfl,.inl (SqL.of e1),?_⟩
  refine⟨p,_,rfl,hp',(by rw[List.length_map];omega),(by rw[List.length_map];omega),fun r H1 r0 r1 b1 p1=>?_⟩
  rw[List.length_map] at r1
  have hr1:r.toNat < ls.length:=by omega
  have er:r=((r.toNat:Nat):Int):=by omega
  have six:seqIndex? r (ls.map V.int).length=some r.toNat:=(ixN_seq (by unfold ixN;rw[if_pos r0,if_pos (by rw[List.length_map];omega)])).1
  refine⟨l,_,r,r.toNat,.int ls[r.toNat],rfl,rfl,b1 _ _ nlp e1,by omega,by omega,six,by rw[List.getElem?_map,List.getElem?_eq_getElem hr1];rfl,?_⟩
  refine⟨l2,_,_,rfl,rfl,by rw[upd_ne ll2.symm];exact b1 _ _ nl2p e2,?_,?_⟩
  ·rw[List.length_map]
   exact Nat.lt_of_le_of_lt (by omega:ms.length≤1000) (by decide)
  ·refine⟨_,ls.eraseIdx r.toNat,ms++[ls[r.toNat]],rfl,?_,?_,?_,?_,?_,by rw[List.length_append,List.length_singleton];omega⟩
   ·rw[upd_ne ll2,upd_same,map_erase]
   ·rw[upd_same,List.map_append];rfl
   ·obtain⟨a,b,e,z⟩:=p1
    exact⟨a,b,by rw[upd_ne nl2p.symm,upd_ne nlp.symm];exact e,z⟩
   ·intro b o hb e
    have n1:b≠l:=fun x=>by rw[x,fl] at e;cases e
    have n2:b≠l2:=fun x=>by rw[x,fl2] at e;cases e
    rw[upd_ne n2,upd_ne n1]
    exact b1 _ _ hb (kp _ _ hb e)
   ·refine List.Perm.trans ?_ pm
    rw[List.append_assoc]
    refine List.Perm.append_left _ ?_
    show (ls[r.toNat]::ls.eraseIdx r.toNat).Perm ls
    exact erase_perm ls r.toNat hr1
 case fin =>
  rintro σ H' ⟨t,ls,ms,rfl,e1,e2,hp',kp,pm,hl'⟩
  have hlen:ls=[]:=by
   have:=pm.length_eq
   rw[List.length_append,List.length_map,List.length_range] at this
   exact List.eq_nil_of_length_eq_zero (by omega)
  subst hlen
  rw[List.append_nil] at pm
  exact⟨_,rfl,q l2 H' ms kp hp' fl2 nl2p e2 pm⟩
/-- between the turns of the web's loops -/
def WInv (H:Hp) (p ln lt:Addr) (m n st wy:Int) (ms:List Int) (b a:Nat) (σ:L2.St) (H':Hp):Prop :=
 ∃ (t7 t8 t9 t10:Option V) (ys:List V) (ties:List Tie),σ=[some (.ref p),some (.int m),some (.int n),some (.int st),some (.int wy),some (.ref ln),some (.ref lt),t7,t8,t9,t10] ∧
  H' ln=some (.lst (ms.map V.int))∧H' lt=some (.lst ys)∧TieL H' ys ties∧Pot H' p∧(∀ b o,b≠p->H b=some o->H' b=some o)∧Grown n.toNat ms b a ties
theorem ok__law_web (T:Bi mg) (D:DefOk K mg "_law_web" s__law_web ["pot","most"]) (O__law_take:Ok P w K mg base 2 "_law_take" ["pot","many"] spTake) (O__law_order:Ok P w K mg base 2 "_law_order" ["pot","many"] spOrder)
  (O__law_tied:Ok P w K mg base 2 "_law_tied" ["pot","n","style","a","b"] spTied) (O__law_length:Ok P w K mg base 2 "_law_length" ["pot","way"] spLength):Ok P w K mg base 3 "_law_web" ["pot","most"] (spWeb K):=by
 refine mk_ok (k:=2) D sc__law_web (fun vs H Q E h=>?_) (fun f cdv A outer s H vs Q E hr h=>?_)
 ·obtain⟨p,m,rfl,_⟩:=h
  rfl
 obtain⟨p,m,rfl,hp,hm0,hm1,q⟩:=h
 have nd:=sc__law_web.nd
 refine⟨_,(pss_cons (ps_set (i:=2) nd rfl (Or.inl rfl) (pe_op op_add pe_int (pe_callD O__law_take hr rfl (pa_cons (pv 0) (pa_cons (pv 1) pa_nil))))) (pss_cons (ps_set (i:=3) nd rfl (Or.inl rfl) (pe_callD O__law_take hr rfl (pa_cons (pv 0) (pa_cons pe_int pa_nil)))) (pss_cons (ps_set (i:=4) nd rfl (Or.inl rfl) (pe_callD O__law_take hr rfl (pa_cons (pv 0) (pa_cons pe_int pa_nil)))) (pss_cons (ps_set (i:=5) nd rfl (Or.inl rfl) (pe_callD O__law_order hr rfl (pa_cons (pv 0) (pa_cons (pv 2) pa_nil)))) (pss_cons (ps_set (i:=6) nd rfl (Or.inl rfl) (pe_lst pa_nil)) (pss_cons (ps_for PassesOwn.never rfl (pi_range1 rfl T.z_range (pa_cons (pv 2) pa_nil)) (pg_name (i:=7) nd rfl (Or.inl rfl)) (pss_one (ps_for PassesOwn.never rfl (pi_range1 rfl T.z_range (pa_cons (pv 7) pa_nil)) (pg_name (i:=8) nd rfl (Or.inl rfl)) (pss_one (ps_if (PW.pt (pw_and (pt_val (pe_callD O__law_tied hr rfl (pa_cons (pv 0) (pa_cons (pv 2) (pa_cons (pv 3) (pa_cons (pv 8) (pa_cons (pv 7) pa_nil))))))) (pw_and1 (pt_cmpR op_lt (pe_callB call_len_seq rfl T.z_len (by decide +kernel) (pa_cons (pv 6) pa_nil)) pe_int (nomark _))))) (pss_cons (ps_asg (pe_callB call_sortedI rfl T.z_sorted (by decide +kernel) (pa_cons (pe_lst (pa_cons (pe_ix ix_list (pv 5) (pv 8) (fun _ _=>rfl)) (pa_cons (pe_ix ix_list (pv 5) (pv 7) (fun _ _=>rfl)) pa_nil))) pa_nil)) (pg_lst (n:=2) rfl (pgs_cons (pg_name (i:=9) nd rfl (Or.inl rfl)) (pgs_cons (pg_name (i:=10) nd rfl (Or.inl rfl)) pgs_nil)))) (pss_one (ps_expr (pe_bm PySem.F.plainAttrs_list PySem.F.slot_list_append PySem.F.type_list_append mt_append (pv 6) (pa_cons (pe_tup (pa_cons (pv 9) (pa_cons (pv 10) (pa_cons (pe_callD O__law_length hr rfl (pa_cons (pv 0) (pa_cons (pv 4) pa_nil))) pa_nil)))) pa_nil))))) pss_nil))))) (pss_one (ps_ret (pe_tup (pa_cons (pv 2) (pa_cons (pe_callTy call_tuple_of rfl T.z_tuple (by decide +kernel) (pa_cons (pe_callB call_sortedT rfl T.z_sorted (by decide +kernel) (pa_cons (pv 6) pa_nil)) pa_nil)) pa_nil))))))))))),?_⟩
 refine⟨_,rfl,_,rfl,p,m,rfl,hp,by omega,by omega,fun r1 H1 r10 r11 b1 p1=>?_⟩
 refine⟨_,_,rfl,rfl,?_⟩
 refine⟨_,rfl,p,8,rfl,p1,by decide,by decide,fun st H2 _ _ b2 p2=>?_⟩
 refine⟨_,rfl,p,5,rfl,p2,by decide,by decide,fun wy H3 wy0 wy1 b3 p3=>?_⟩
 refine⟨_,rfl,_,rfl,p,_,rfl,p3,by omega,by omega,fun ln H4 ms b4 p4 f4 n4 e4 pm=>?_⟩
 obtain⟨n,en⟩:∃ n:Int,n=1 + r1:=⟨_,rfl⟩
 rw[← en] at pm
 have bt4:But p H H4:=b1.trans (b2.trans (b3.trans b4))
 have fln:H ln=none:=by
  cases e:H ln with
  | none=>rfl
  | some u=>rw[(b1.trans (b2.trans b3)) _ _ n4 e] at f4;cases f4
 refine⟨(by show 0≤sizeLine;decide),fun lt hlt=>?_⟩
 have flt:H lt=none:=by
  by_cases z:lt=p
  ·obtain⟨a',b',e',_⟩:=p4;rw[z,e'] at hlt;cases hlt
  ·cases e:H lt with
   | none=>rfl
   | some u=>rw[bt4 _ _ z e] at hlt;cases hlt
 have nlt:lt≠p:=by
  obtain⟨a',b',e',_⟩:=p4
  exact fun x=>by rw[x,e'] at hlt;cases hlt
 have nln:ln≠lt:=fun x=>by rw[← x,e4] at hlt;cases hlt
 have pm0:Perm0 n.toNat ms:=Perm0.of pm
 refine⟨_,rfl,n,by rw[en],by omega,by omega,?_⟩
 refine for_range (n:=n.toNat) (fun i σ H'=>WInv H p ln lt m n st wy ms i 0 σ H') ?start ?turn ?fin
 case start =>
  refine⟨none,none,none,none,[],[],by rw[en];rfl,by rw[upd_ne nln];exact e4,upd_same,.nil,?_,fun b o hb e=>?_,Grown.start⟩
  ·obtain⟨a',b',e',z⟩:=p4
   exact⟨a',b',by rw[upd_ne nlt.symm];exact e',z⟩
  ·rw[upd_ne (fun x=>by rw[x,flt] at e;cases e)]
   exact bt4 _ _ hb e
 case turn =>
  rintro i σ H' hi ⟨t7,t8,t9,t10,ys,ties,rfl,g1,g2,g3,g4,g5,g6⟩
  refine⟨_,rfl,_,rfl,by omega,by omega,?_⟩
  have ei:((0 + (i:Int)):Int).toNat=i:=by omega
  rw[ei]
  refine for_range (n:=i) (fun k σ H''=>(∃ t7,σ[7]?=some (some (.int (0 + (i:Int))))∧t7=())∧WInv H p ln lt m n st wy ms i k σ H'') ?start2 ?turn2 ?fin2
  case start2=>exact⟨⟨(),rfl,rfl⟩,some (.int (0 + (i:Int))),t8,t9,t10,ys,ties,rfl,g1,g2,g3,g4,g5,g6⟩
  case fin2 =>
   rintro σ H'' ⟨_,t7,t8,t9,t10,ys,ties,rfl,g1,g2,g3,g4,g5,g6⟩
   exact⟨t7,t8,t9,t10,ys,ties,rfl,g1,g2,g3,g4,g5,g6.down⟩
  case turn2 =>
   rintro k σ K1 hk ⟨⟨_,h7,_⟩,t7,t8,t9,t10,ys,ties,rfl,g1,g2,g3,g4,g5,g6⟩
   have e7:t7=some (.int (0 + (i:Int))):=by simpa using h7
   subst e7
   have again : ∀ {u8 u9 u10 : Option V} {ys' : List V} {ts : List Tie} {J : Hp}, J ln = some (.lst (ms.map V.int)) → J lt = some (.lst ys') → TieL J ys' ts → Pot J p → (∀ b o, b ≠ p → H b = some o → J b = some o) → Grown n.toNat ms i (k + 1) ts →
       (∃ t7,([some (.ref p),some (.int m),some (.int n),some (.int st),some (.int wy),some (.ref ln),some (.ref lt),some (.int (0 + (i:Int))),u8,u9,u10]:L2.St)[7]?=some (some (.int (0 + (i:Int))))∧t7=())∧WInv H p ln lt m n st wy ms i (k + 1) [some (.ref p),some (.int m),some (.int n),some (.int st),some (.int wy),some (.ref ln),some (.ref lt),some (.int (0 + (i:Int))),u8,u9,u10] J :=
    fun a1 a2 a3 a4 a5 a6=>⟨⟨(),rfl,rfl⟩,_,_,_,_,_,_,rfl,a1,a2,a3,a4,a5,a6⟩
   refine⟨_,rfl,_,rfl,_,rfl,_,rfl,_,rfl,p,_,_,_,_,rfl,g4,fun kk K2 c2 d2=>⟨kk,rfl,?_⟩⟩
   have nlnp:ln≠p:=n4
   have l1:K2 ln=some (.lst (ms.map V.int)):=c2 _ _ nlnp g1
   have l2:K2 lt=some (.lst ys):=c2 _ _ nlt g2
   have tup2:∀ a xs,K1 a=some (.tup xs)->K2 a=some (.tup xs):=fun a xs e=>c2 _ _ (fun x=>by
    obtain⟨a',b',e',_⟩:=g4
    rw[x,e'] at e;cases e) e
   have l3:TieL K2 ys ties:=g3.keep tup2
   have l5:∀ b o,b≠p->H b=some o->K2 b=some o:=fun b o hb e=>c2 _ _ hb (g5 _ _ hb e)
   have ylen:ys.length=ties.length:=Paired.length g3
   cases kk with
   | false =>
    refine iteF (iteF ?_)
    exact again l1 l2 l3 d2 l5 g6.skip
   | true =>
    refine iteT ?_
    refine⟨_,rfl,lt,_,rfl,.inl (SqL.of l2),_,_,rfl,rfl,_,rfl,?_⟩
    refine ite2 (fun c=>?_) (fun c=>?_)
    case refine_2=>exact again l1 l2 l3 d2 l5 g6.skip
    have c':((ys.length:Nat):Int) < 60:=of_decide_eq_true c
    have hkn:k < n.toNat:=by omega
    have at_:∀ j:Nat,j < n.toNat->atI (ms.map V.int) (j:Int)=some (.int (ms.getD j 0)):=fun j hj=>by
     have hj':j < ms.length:=by rw[pm0.len];exact hj
     refine atI_nat ?_
     rw[List.getElem?_map,List.getElem?_eq_getElem hj']
     simp [List.getD,hj']
    have ak:atI (ms.map V.int) (0 + (k:Int))=some (.int (ms.getD k 0)):=by rw[Int.zero_add];exact at_ k hkn
    have ai:atI (ms.map V.int) (0 + (i:Int))=some (.int (ms.getD i 0)):=by rw[Int.zero_add];exact at_ i hi
    refine⟨_,rfl,_,rfl,ln,_,_,_,rfl,rfl,SqL.of l1,ak,_,rfl,_,rfl,ln,_,_,_,rfl,rfl,SqL.of l1,ai,(by show 2≤sizeLine;decide),fun s1 hs1=>?_⟩
    refine⟨s1,[ms.getD k 0,ms.getD i 0],rfl,SqL.of upd_same,(by show 2 < 64;decide),fun zs pz wz s2 hs2=>?_⟩
    obtain⟨x,y,rfl,hxy,hor⟩:=two_sorted pz wz
    refine⟨s2,_,rfl,SqL.of upd_same,rfl,?_⟩
    refine⟨_,_,rfl,_,_,rfl,rfl,?_⟩
    have n1:∀ b o,K2 b=some o->b≠s1:=fun b o e=>ne_of_none e hs1
    have n2:∀ b o,K2 b=some o->b≠s2:=fun b o e=>ne_of_none (same_new hs1 b o e) hs2
    have up:∀ b o,K2 b=some o->upd (upd K2 s1 (.lst [.int (ms.getD k 0),.int (ms.getD i 0)])) s2 (.lst [.int x,.int y]) b=some o:=fun b o e=>by rw[upd_ne (n2 b o e),upd_ne (n1 b o e)];exact e
    refine⟨_,rfl,.inl ⟨rfl,_,SqL.of (up _ _ l2)⟩,_,rfl,_,rfl,_,rfl,_,rfl,?_⟩
    refine⟨p,wy,rfl,?_,wy0,wy1,fun len K5 ln0 ln1 c5 d5=>?_⟩
    ·obtain⟨a',b',e',z⟩:=d2
     exact⟨a',b',up _ _ e',z⟩
    refine⟨(by show 3≤sizeLine;decide),fun tp htp=>?_⟩
    have pl:∃ xs,K2 p=some (.lst xs):=d2.lst
    have up5:∀ b o,b≠p->K2 b=some o->upd K5 tp (.tup [.int x,.int y,.int len]) b=some o:=fun b o hb e=>by
     have e5:=c5 b o hb (up b o e)
     rw[upd_ne (ne_of_none e5 htp)];exact e5
    refine⟨lt,_,_,rfl,rfl,up5 _ _ nlt l2,?_,?_⟩
    ·exact Nat.lt_of_le_of_lt (by omega:ys.length≤1000) (by decide)
    have k5:∀ b o,b≠p->b≠lt->K2 b=some o->upd (upd K5 tp (.tup [.int x,.int y,.int len])) lt (.lst (ys++[.ref tp])) b=some o:=fun b o hb hb2 e=>by rw[upd_ne hb2];exact up5 b o hb e
    have ntp:tp≠lt:=fun z=>by
     have:=c5 _ _ nlt (up _ _ l2)
     rw[← z,htp] at this;cases this
    refine again (k5 _ _ nlnp nln l1) upd_same (TieL.snoc (TieL.keep l3 fun a xs e=>k5 _ _ ?_ ?_ e) ?_) ?_ (fun b o hb e=>k5 _ _ hb (fun z=>by rw[z,flt] at e;cases e) (l5 _ _ hb e))
     (g6.add (x:=x) (y:=y) (l:=len) pm0 hk hi (by omega) ln0 ln1 hor hxy)
    ·intro z
     obtain⟨xs',e'⟩:=pl
     rw[z,e'] at e;cases e
    ·intro z
     rw[z,l2] at e;cases e
    ·rw[upd_ne ntp,upd_same];rfl
    ·obtain⟨a',b',e',z⟩:=d5
     exact⟨a',b',by rw[upd_ne nlt.symm,upd_ne (ne_of_none e' htp)];exact e',z⟩
 case fin =>
  rintro σ H' ⟨t7,t8,t9,t10,ys,ties,rfl,g1,g2,g3,g4,g5,g6⟩
  have ylen:ys.length=ties.length:=Paired.length g3
  have few:=g6.few
  refine⟨_,rfl,_,rfl,lt,ys,ties.map tieI,rfl,SqL.of g2,by omega,paired_keys (fun y t ⟨a,e1,e2⟩=>⟨a,e1,SqT.of e2⟩) g3,fun k hk=>?_,fun qs pq wq l hl=>?_⟩
  ·obtain⟨t,_,rfl⟩:=List.mem_map.mp hk
   exact fun z=>by cases z
  obtain⟨ts,pt,tl,wt⟩:=tie_out g3 pq wq
  refine⟨l,_,rfl,.inl ⟨SqL.of upd_same,fun l' hl'=>?_⟩⟩
  refine⟨(by show 2≤sizeLine;decide),fun v hv=>?_⟩
  have S1:Same H' (upd H' l (.lst (qs.map (·.1)))):=same_new hl
  have S2:=S1.trans (same_new (o:=.tup (qs.map (·.1))) hl')
  have S3:=S2.trans (same_new (o:=.tup [.int n,.ref l']) hv)
  refine q (.ref v) _ n ts (fun b o hb e=>S3 _ _ (g5 _ _ hb e)) ?_ ⟨by omega,by omega,rise_of wt ((pt.pairwise_iff (fun {a b} h z=>h ⟨z.1.symm,z.2.symm⟩)).mpr g6.nd),by have:=pt.length_eq;omega,fun t ht=>?_⟩ (by omega) ?_
  ·obtain⟨a',b',e',z⟩:=g4
   exact⟨a',b',S3 _ _ e',z⟩
  ·have:=g6.ok t (pt.mem_iff.mp ht)
   have e:((n.toNat:Nat):Int)=n:=by omega
   rw[e] at this
   exact this
  ·refine⟨v,_,rfl,upd_same,_,_,rfl,rfl,_,_,rfl,⟨l',qs.map (·.1),rfl,?_,?_⟩,rfl⟩
   ·exact (same_new hv) _ _ upd_same
   ·exact TieL.is (tl.keep fun a xs e=>S3 _ _ e)
theorem ok__law_keep (T:Bi mg) (D:DefOk K mg "_law_keep" s__law_keep ["pot","web"]) (O__law_take:Ok P w K mg base 1 "_law_take" ["pot","many"] spTake):Ok P w K mg base 2 "_law_keep" ["pot","web"] (spKeep K):=by
 refine mk_ok (k:=1) D sc__law_keep (fun vs H Q E h=>?_) (fun f cdv A outer s H vs Q E hr h=>?_)
 ·obtain⟨p,n,ts,v,rfl,_⟩:=h
  rfl
 obtain⟨p,n,ts,v,rfl,hp,hw,few60,q⟩:=h
 have nd:=sc__law_keep.nd
 refine⟨_,(pss_cons (ps_set (i:=2) nd rfl (Or.inr rfl) (pe_callD O__law_take hr rfl (pa_cons (pv 0) (pa_cons pe_int pa_nil)))) (pss_one (ps_ret (pe_callTy call_tuple_of rfl T.z_tuple (by decide +kernel) (pa_cons (pe_comp (N:=["pot","web","way"]) (sc0:=defScope s__law_keep) (own:=["number"]) (fr:=["way","pot"]) (js:=[2,0]) rfl (pi_range1 rfl T.z_range (pa_cons (pe_callB call_len_seq rfl T.z_len (by decide +kernel) (pa_cons (pe_ix ix_tup (pv 1) pe_int (fun _ _=>rfl)) pa_nil)) pa_nil)) (fun _ _ _ _=>(pg_name (i:=0) (by show List.Nodup [("number":Str),("way":Str),("pot":Str)];decide +kernel) rfl (Or.inl rfl))) (fun _ _ _ _=>(pts_one (PW.pt (pw_or (pt_cmpR op_eq (pv 1) pe_int (nomark _)) (pw_or1 (PW.pt (pw_and (pt_cmpR op_gt (pv 1) pe_int (nomark _)) (pw_and1 (pt_cmpR op_eq (pe_cmpR op_eq (pe_callD O__law_take hr rfl (pa_cons (pv 2) (pa_cons pe_int pa_nil))) pe_int (nomark _)) (pe_cmpR op_eq (pv 1) pe_int (nomark _)) (nomark _)))))))))) (fun _ _ _ _=>(pv 0))) pa_nil))))),?_⟩
 refine⟨_,rfl,p,4,rfl,hp,by decide,by decide,fun way H1 w0 w1 b1 p1=>?_⟩
 obtain⟨g0,g,ws,rfl,hg0,hg,hall,hlw⟩:=web_parts hw
 obtain⟨xs0,e0⟩:=hp.lst
 have tup1:∀ c zs,H c=some (.tup zs)->H1 c=some (.tup zs):=fun c zs e=>b1 _ _ (fun x=>by rw[x,e0] at e;cases e) e
 refine⟨_,rfl,g0,_,_,_,rfl,rfl,SqT.of (tup1 _ _ hg0),rfl,g,_,rfl,.inr (SqT.of (tup1 _ _ hg)),_,rfl,by omega,by omega,fun L hL=>?_⟩
 have nLp:L≠p:=by
  obtain⟨a',b',e',_⟩:=p1
  exact fun z=>by rw[z,e'] at hL;cases hL
 have en:(((ws.length:Nat):Int)).toNat=ts.length:=by omega
 rw[en]
 refine⟨fun i m ys σ' H'=>m=ts.length - i∧i≤ts.length∧(∃ o,σ'=[o,some (.int way),some (.ref p)])∧But p H1 H'∧Pot H' p∧∃ ks:List Nat,ys=(keepI ks).map V.int∧KeepOk i ks,⟨ts.length,rfl,Nat.zero_le _,⟨none,rfl⟩,But.new hL,?_,[],rfl,.nil,fun k hk=>by cases hk⟩,?_⟩
 ·obtain⟨a',b',e',z⟩:=p1
  exact⟨a',b',by rw[upd_ne nLp.symm];exact e',z⟩
 rintro i m ys σ' H' ⟨rfl,hi,⟨o,rfl⟩,bt,pt,ks,rfl,ko⟩ hd
 by_cases hlt:i < ts.length
 ·refine .inr ⟨hlt,fun x H2 hy=>?_⟩
  obtain⟨rfl,rfl⟩:=hy
  have lenk:ks.length≤i:=ko.len
  have takeIt : ∀ {J : Hp}, But p H2 J → Pot J p → J L = some (.lst ((keepI ks).map V.int)) ∧ ((keepI ks).map V.int).length < sizeLine ∧ ∃ m', m' < ts.length - i ∧ (m' = ts.length - (i + 1) ∧ i + 1 ≤ ts.length ∧ (∃ o, ([some (V.int (0 + (i : Int))), some (.int way), some (.ref p)] : L2.St) = [o, some (.int way), some (.ref p)]) ∧
      But p H1 (upd J L (.lst ((keepI ks).map V.int++[.int (0 + (i:Int))])))∧Pot (upd J L (.lst ((keepI ks).map V.int++[.int (0 + (i:Int))]))) p∧∃ ks':List Nat,(keepI ks).map V.int++[.int (0 + (i:Int))]=(keepI ks').map V.int∧KeepOk (i + 1) ks'):=fun {J} bj pj=>by
   refine⟨bj _ _ nLp hd,?_,ts.length - (i + 1),by omega,rfl,hlt,⟨_,rfl⟩,fun b o hb e=>?_,?_,ks++[i],?_,?_⟩
   ·rw[List.length_map];unfold keepI;rw[List.length_map]
    exact Nat.lt_of_le_of_lt (by omega:ks.length≤1000) (by decide)
   ·rw[upd_ne (ne_of_none e hL)];exact bj _ _ hb (bt _ _ hb e)
   ·obtain⟨a',b',e',z⟩:=pj
    exact⟨a',b',by rw[upd_ne nLp.symm];exact e',z⟩
   ·unfold keepI
    rw[List.map_append,List.map_append]
    simp
   ·refine⟨List.pairwise_append.mpr ⟨ko.1,List.pairwise_singleton _ _,fun x hx y hy=>?_⟩,fun k hk=>?_⟩
    ·have:y=i:=by simpa using hy
     rw[this];exact ko.2 x hx
    ·rcases List.mem_append.mp hk with hk | hk
     ·have:=ko.2 k hk;omega
     ·have:k=i:=by simpa using hk
      omega
  have leaveIt:∀ {J:Hp},But p H2 J->Pot J p->J L=some (.lst ((keepI ks).map V.int))∧∃ m',m' < ts.length - i∧(m'=ts.length - (i + 1)∧i + 1≤ts.length∧(∃ o,([some (V.int (0 + (i:Int))),some (.int way),some (.ref p)]:L2.St)=[o,some (.int way),some (.ref p)])∧But p H1 J∧Pot J p∧∃ ks':List Nat,(keepI ks).map V.int=(keepI ks').map V.int∧KeepOk (i + 1) ks'):=fun {J} bj pj =>
   ⟨bj _ _ nLp hd,ts.length - (i + 1),by omega,rfl,hlt,⟨_,rfl⟩,bt.trans bj,pj,ks,rfl,ko.1,fun k hk=>by have:=ko.2 k hk;omega⟩
  refine⟨_,rfl,rfl,_,rfl,ite2 (fun c=>?_) (fun c=>?_)⟩
  ·exact iteT ⟨_,rfl,takeIt But.refl pt⟩
  ·refine⟨_,rfl,_,_,rfl,rfl,_,rfl,ite2 (fun c2=>?_) (fun c2=>?_)⟩
   ·refine⟨_,rfl,p,4,rfl,pt,by decide,by decide,fun r J _ _ bj pj=>⟨rfl,_,rfl,rfl,rfl,_,rfl,ite2 (fun c3=>?_) (fun c3=>?_)⟩⟩
    ·exact⟨_,rfl,takeIt bj pj⟩
    ·exact leaveIt bj pj
   ·exact iteF (leaveIt But.refl pt)
 ·have e:i=ts.length:=by omega
  subst e
  refine .inl ⟨Nat.le_refl _,L,_,rfl,.inl ⟨SqL.of hd,fun l hl=>?_⟩⟩
  refine q _ _ ks (b1.trans (bt.trans (But.new hl))) ?_ ko ⟨l,_,rfl,upd_same,IsAll.ints _⟩
  obtain⟨a',b',e',z⟩:=pt
  exact⟨a',b',(same_new hl) _ _ e',z⟩
theorem ok_is_whole (T:Bi mg) (D:DefOk K mg "is_whole" s_is_whole ["thing"]):Ok P w K mg base 1 "is_whole" ["thing"] (spD1 K (fun _=>True) wholeB):=by
 refine mk_ok (k:=0) D sc_is_whole (fun vs H Q E h=>?_) (fun f cdv A outer s H vs Q E hr h=>?_)
 ·obtain⟨d,v,rfl,_⟩:=h
  rfl
 obtain⟨d,v,rfl,hd,_,q⟩:=h
 have nd:=sc_is_whole.nd
 have q0:=q H (Same.refl H)
 have ty:=ty_of hd
 refine⟨_,(pss_one (ps_ret (pe_and (pe_callB (call_isi (n:="int")) rfl T.z_isinstance (by decide +kernel) (pa_cons (pv 0) (pa_cons (pe_bltn (v:=.ty "int") rfl T.z_int (by decide +kernel) rfl) pa_nil))) (pe_one (pe_not (pe_callB (call_isi (n:="bool")) rfl T.z_isinstance (by decide +kernel) (pa_cons (pv 0) (pa_cons (pe_bltn (v:=.ty "bool") rfl T.z_bool (by decide +kernel) rfl) pa_nil)))))))),?_⟩
 cases d with
 | int i=>exact⟨_,rfl,_,_,_,rfl,ty,rfl,_,rfl,iteT ⟨_,rfl,_,_,_,rfl,ty,rfl,_,rfl,q0⟩⟩
 | bool b=>exact⟨_,rfl,_,_,_,rfl,ty,rfl,_,rfl,iteT ⟨_,rfl,_,_,_,rfl,ty,rfl,_,rfl,q0⟩⟩
 | none=>exact⟨_,rfl,_,_,_,rfl,ty,rfl,_,rfl,iteF q0⟩
 | str x=>exact⟨_,rfl,_,_,_,rfl,ty,rfl,_,rfl,iteF q0⟩
 | tuple ds=>exact⟨_,rfl,_,_,_,rfl,ty,rfl,_,rfl,iteF q0⟩
 | list ds=>exact⟨_,rfl,_,_,_,rfl,ty,rfl,_,rfl,iteF q0⟩
 | dict ds=>exact⟨_,rfl,_,_,_,rfl,ty,rfl,_,rfl,iteF q0⟩
theorem ok_tie_weights (T:Bi mg) (D:DefOk K mg "tie_weights" s_tie_weights ["web"]):Ok P w K mg base 1 "tie_weights" ["web"] (spWeights K):=by
 refine mk_ok (k:=0) D sc_tie_weights (fun vs H Q E h=>?_) (fun f cdv A outer s H vs Q E hr h=>?_)
 ·obtain⟨n,ts,v,rfl,_⟩:=h
  rfl
 obtain⟨n,ts,v,rfl,hw,few60,q⟩:=h
 have nd:=sc_tie_weights.nd
 obtain⟨g0,g,ws,rfl,hg0,hg,hall,hlw⟩:=web_parts hw
 refine⟨_,(pss_cons (ps_set (i:=1) nd rfl (Or.inl rfl) (pe_lstG pa_nil)) (pss_cons (ps_set (i:=2) nd rfl (Or.inl rfl) pe_int) (pss_cons (ps_for PassesOwn.never rfl (pi_tup (pe_ix ix_tup (pv 0) pe_int (fun _ _=>rfl))) (pg_name (i:=3) nd rfl (Or.inl rfl)) (pss_cons (ps_expr (pe_bm PySem.F.plainAttrs_list PySem.F.slot_list_append PySem.F.type_list_append mt_appendG (pv 1) (pa_cons (pv 2) pa_nil))) (pss_one (ps_set (i:=2) nd rfl (Or.inl rfl) (pe_op op_mul pe_int (pv 2)))))) (pss_one (ps_ret (pv 1)))))),?_⟩
 refine⟨(by show 0≤1000;decide),fun l J0 S0 f0 e0=>?_⟩
 refine⟨_,rfl,g0,_,_,_,rfl,rfl,SqT.of (S0 _ _ hg0),rfl,g,rfl,⟨_,SqT.of (S0 _ _ hg)⟩,?_⟩
 refine for_tup (xs:=ws) (fun i σ J=>∃ y3:Option V,σ=[some (.ref g0),some (.ref l),some (.int (2 ^ i)),y3]∧Same H J∧J l=some (.lst (pows i))) ⟨none,rfl,S0,e0⟩ (fun i σ J _ h=>by obtain⟨_,_,s,_⟩:=h;exact SqT.of (s _ _ hg)) (fun i x σ J hx h=>?_) (fun σ J h=>?_)
 ·obtain⟨y3,rfl,s1,e1⟩:=h
  have hi:i < ws.length:=(List.getElem?_eq_some_iff.mp hx).1
  refine⟨_,rfl,.inl ⟨rfl,_,SqL.of e1⟩,_,rfl,l,_,_,rfl,rfl,e1,(by unfold pows;rw[List.length_map,List.length_range];omega),fun J1 b1 e2=>?_⟩
  refine⟨_,rfl,_,_,rfl,rfl,.inl ⟨by decide,by decide⟩,?_⟩
  refine⟨some x,?_,fun b o e=>b1 _ _ (ne_of_none e f0) (s1 _ _ e),by rw[e2,pows_succ]⟩
  have ep:(2:Int) * 2 ^ i=2 ^ (i + 1):=by rw[Int.pow_succ,Int.mul_comm]
  show [some (V.ref g0),some (V.ref l),some (V.int (2 * 2 ^ i)),some x]=_
  rw[ep]
 ·obtain⟨y3,rfl,s1,e1⟩:=h
  exact⟨_,rfl,q l J s1 f0 (by rw[e1,hlw])⟩
theorem ok_cost_with (T:Bi mg) (D:DefOk K mg "cost_with" s_cost_with ["cost","length","weight"]):Ok P w K mg base 1 "cost_with" ["cost","length","weight"] (spCost K):=by
 refine mk_ok (k:=0) D sc_cost_with (fun vs H Q E h=>?_) (fun f cdv A outer s H vs Q E hr h=>?_)
 ·obtain⟨c,x,y,l,ww,rfl,_⟩:=h
  rfl
 obtain⟨c,x,y,l,ww,rfl,hc,q⟩:=h
 have nd:=sc_cost_with.nd
 refine⟨_,(pss_one (ps_ret (pe_tupG (pa_cons (pe_op op_add (pe_ix ix_tup (pv 0) pe_int (fun _ _=>rfl)) (pv 1)) (pa_cons (pe_op op_add (pe_ix ix_tup (pv 0) pe_int (fun _ _=>rfl)) (pv 2)) pa_nil))))),?_⟩
 exact⟨_,rfl,c,_,_,_,rfl,rfl,SqT.of hc,rfl,_,rfl,_,_,rfl,rfl,_,rfl,c,_,_,_,rfl,rfl,SqT.of hc,rfl,_,rfl,_,_,rfl,rfl,(by show 2≤1000;decide),fun t J S f e=>q t J S e⟩
def rW (H:Hp) (wv kv:V) (n r:Int) (ts:List Tie) (ks:List Nat) (lw lc la:Addr) (m:Nat) (σ:L2.St) (J:Hp):Prop:=∃ (cs:List (Option (Int × Int))) (ag:Bool) (y7 y8 y9 y10 y11 y12 y13:Option V),σ=[some wv,some kv,some (.int r),some (.ref lw),some (.ref lc),some (.ref la),some (.bl ag),y7,y8,y9,y10,y11,y12,y13] ∧
 RH H J lw lc la (pows ts.length) n.toNat cs∧Far.Good (arcs ts ks) n.toNat r.toNat cs∧(ag=false->Far.Stab (arcs ts ks) cs)∧m=Far.mu cs + (if ag=true then 1 else 0)
theorem ok_reached_from (T:Bi mg) (D:DefOk K mg "reached_from" s_reached_from ["web","keep","root"]) (O_tie_weights:Ok P w K mg base 1 "tie_weights" ["web"] (spWeights K)) (O_cost_with:Ok P w K mg base 1 "cost_with" ["cost","length","weight"] (spCost K)):Ok P w K mg base 2 "reached_from" ["web","keep","root"] (spReached K):=by
 refine mk_ok (k:=1) D sc_reached_from (fun vs H Q E h=>?_) (fun f cdv A outer s H vs Q E hr h=>?_)
 ·obtain⟨n,ts,ks,wv,kv,r,rfl,_⟩:=h
  rfl
 obtain⟨n,ts,ks,wv,kv,r,rfl,⟨isw,ok,isk,ko⟩,r0,r1,q⟩:=h
 have nd:=sc_reached_from.nd
 have few60:=ok.few
 have n1:=ok.n1
 have n24:=ok.n24
 obtain⟨g0,g,ws,rfl,hg0,hg,hall,hlw⟩:=web_parts isw
 obtain⟨kp,rfl,hkp⟩:=keep_parts isk
 have P:=arcs_pos ok ko
 refine⟨_,(pss_cons (ps_set (i:=3) nd rfl (Or.inl rfl) (pe_callD O_tie_weights hr rfl (pa_cons (pv 0) pa_nil))) (pss_cons (ps_set (i:=4) nd rfl (Or.inl rfl) (pe_op op_rep1 (pe_lstG (pa_cons pe_non pa_nil)) (pe_ix ix_tup (pv 0) pe_int (fun _ _=>rfl)))) (pss_cons (ps_set (i:=5) nd rfl (Or.inl rfl) (pe_op op_rep1 (pe_lstG (pa_cons pe_non pa_nil)) (pe_ix ix_tup (pv 0) pe_int (fun _ _=>rfl)))) (pss_cons (ps_asg (pe_tupG (pa_cons pe_int (pa_cons pe_int pa_nil))) (pg_sub (pv 4) (pv 2) set_list)) (pss_cons (ps_set (i:=6) nd rfl (Or.inl rfl) pe_bl) (pss_cons (ps_while PassesOwn.never (pt_val (pv 6)) (pss_cons (ps_set (i:=6) nd rfl (Or.inl rfl) pe_bl) (pss_one (ps_for PassesOwn.never rfl (pi_tup (pv 1)) (pg_name (i:=7) nd rfl (Or.inl rfl)) (pss_cons (ps_asg (pe_ix ix_tup (pe_ix ix_tup (pv 0) pe_int (fun _ _=>rfl)) (pv 7) (fun _ _=>rfl)) (pg_tup (n:=3) rfl (pgs_cons (pg_name (i:=8) nd rfl (Or.inl rfl)) (pgs_cons (pg_name (i:=9) nd rfl (Or.inl rfl)) (pgs_cons (pg_name (i:=10) nd rfl (Or.inl rfl)) pgs_nil))))) (pss_one (ps_for PassesOwn.never rfl (pi_tup (pe_tupG (pa_cons (pe_tupG (pa_cons (pv 8) (pa_cons (pv 9) pa_nil))) (pa_cons (pe_tupG (pa_cons (pv 9) (pa_cons (pv 8) pa_nil))) pa_nil)))) (pg_tup (n:=2) rfl (pgs_cons (pg_name (i:=11) nd rfl (Or.inl rfl)) (pgs_cons (pg_name (i:=12) nd rfl (Or.inl rfl)) pgs_nil))) (pss_cons (ps_if (pt_cmpR op_isN (pe_ix ix_list (pv 4) (pv 11) (fun _ _=>rfl)) pe_non (nomark _)) (pss_one ps_continue) pss_nil) (pss_cons (ps_set (i:=13) nd rfl (Or.inl rfl) (pe_callD O_cost_with hr rfl (pa_cons (pe_ix ix_list (pv 4) (pv 11) (fun _ _=>rfl)) (pa_cons (pv 10) (pa_cons (pe_ix ix_list (pv 3) (pv 7) (fun _ _=>rfl)) pa_nil))))) (pss_one (ps_if (PW.pt (pw_or (pt_cmpR op_isN (pe_ix ix_list (pv 4) (pv 12) (fun _ _=>rfl)) pe_non (nomark _)) (pw_or1 (pt_cmpR (op_ltT hr.units0) (pv 13) (pe_ix ix_list (pv 4) (pv 12) (fun _ _=>rfl)) (nomark _))))) (pss_cons (ps_asg (pv 13) (pg_sub (pv 4) (pv 12) set_list)) (pss_cons (ps_asg (pv 11) (pg_sub (pv 5) (pv 12) set_list)) (pss_one (ps_set (i:=6) nd rfl (Or.inl rfl) pe_bl)))) pss_nil))))))))))) (pss_one (ps_ret (pe_tupG (pa_cons (pv 4) (pa_cons (pv 5) pa_nil))))))))))),?_⟩
 refine⟨_,rfl,n,ts,_,rfl,isw,few60,fun lw J1 S1 f1 e1=>?_⟩
 refine⟨(by show 1≤1000;decide),fun t0 J2 S2 f2 e2=>⟨_,rfl,g0,_,_,_,rfl,rfl,SqT.of (S2 _ _ (S1 _ _ hg0)),rfl,t0,n,_,rfl,rfl,e2,by omega,by omega,fun lc J3 S3 f3 e3=>?_⟩⟩
 have S13:=S1.trans (S2.trans S3)
 refine⟨(by show 1≤1000;decide),fun t1 J4 S4 f4 e4=>⟨_,rfl,g0,_,_,_,rfl,rfl,SqT.of (S4 _ _ (S13 _ _ hg0)),rfl,t1,n,_,rfl,rfl,e4,by omega,by omega,fun la J5 S5 f5 e5=>?_⟩⟩
 refine⟨(by show 2≤1000;decide),fun t2 J6 S6 f6 e6=>?_⟩
 have S36:=S4.trans (S5.trans S6)
 have elc:=S36 _ _ e3
 refine⟨_,rfl,_,rfl,lc,_,r,r.toNat,rfl,rfl,elc,ixN_nat r0 (by rw[List.length_replicate];omega),?_⟩
 have Sall:Same H J6:=S13.trans S36
 have fc:H lc=none:=(S1.trans S2).free f3
 have fa:H la=none:=(S13.trans S4).free f5
 have nwc:lw≠lc:=fun z=>by rw[← z,S2 _ _ e1] at f3;cases f3
 have nwa:lw≠la:=fun z=>by rw[← z,S4 _ _ (S3 _ _ (S2 _ _ e1))] at f5;cases f5
 have nca:lc≠la:=fun z=>by rw[← z,S4 _ _ e3] at f5;cases f5
 have R0:RH H J6 lw lc la (pows ts.length) n.toNat (List.replicate n.toNat none):=⟨Sall,fc,fa,nwc,nwa,nca,S36 _ _ (S3 _ _ (S2 _ _ e1)),⟨_,elc,CostL.first _⟩,⟨_,S6 _ _ e5,List.length_replicate⟩⟩
 have R1:=R0.put (k:=r.toNat) elc (by rw[List.length_replicate];omega) e6
  -- the passes
 refine⟨rW H (.ref g0) (.ref kp) n r ts ks lw lc la,⟨_,_,true,none,none,none,none,none,none,none,rfl,R1,Far.Good.first (by omega),fun z=>(by cases z),rfl⟩,?_⟩
 rintro m σ J ⟨c0,ag,y7,y8,y9,y10,y11,y12,y13,rfl,R,G,St,rfl⟩
 refine⟨_,rfl,ag,rfl,?_⟩
 cases ag with
 | false =>
  refine iteF ?_
  obtain⟨cvs,hc,cl⟩:=R.co
  obtain⟨avs,ha,_⟩:=R.ah
  exact⟨_,rfl,_,rfl,(by show 2≤1000;decide),fun p J' S' f' e'=>q p lc la cvs avs c0 J' (R.same.trans S') e' (S' _ _ hc) (S' _ _ ha) (cl.keep (tk_same S')) G (St rfl)⟩
 | true =>
  refine iteT ⟨fun σ' J'=>∃ m',m' < Far.mu c0 + 1∧rW H (.ref g0) (.ref kp) n r ts ks lw lc la m' σ' J',fun _ _ h=>h,?_⟩
  refine⟨_,rfl,kp,rfl,⟨_,SqT.of (R.same _ _ hkp)⟩,?_⟩
  refine for_tup (xs:=(keepI ks).map V.int) (fun i σ J=>∃ (cs:List (Option (Int × Int))) (ag:Bool) (y7 y8 y9 y10 y11 y12 y13:Option V),σ=[some (.ref g0),some (.ref kp),some (.int r),some (.ref lw),some (.ref lc),some (.ref la),some (.bl ag),y7,y8,y9,y10,y11,y12,y13] ∧
   RH H J lw lc la (pows ts.length) n.toNat cs∧Far.Good (arcs ts ks) n.toNat r.toNat cs∧Far.PSt c0 (fun z=>z ∈ arcs ts (ks.take i)) cs ag) ⟨c0,false,_,_,_,_,_,_,_,rfl,R,G,.inl ⟨rfl,rfl,fun u v l c z=>by cases z⟩⟩ (fun i σ J _ h=>?_) (fun i x σ J hx h=>?_) (fun σ J h=>?_)
  ·obtain⟨cs,ag,y7,y8,y9,y10,y11,y12,y13,rfl,R,_⟩:=h
   exact SqT.of (R.same _ _ hkp)
  ·obtain⟨cs,ag,y7,y8,y9,y10,y11,y12,y13,rfl,R,G,Pt⟩:=h
   obtain⟨k,hk,rfl⟩:=keep_at hx
   have hkl:k < ts.length:=ko.2 k (List.mem_of_getElem? hk)
   obtain⟨ta,hta,htie⟩:=tie_val hall hkl
   obtain⟨t,et⟩:∃ t,t=tieAt ts k:=⟨_,rfl⟩
   rw[← et] at htie
   have tk:=ok.tie _ (tieAt_in hkl).2
   rw[← et] at tk
   refine⟨_,rfl,g0,_,_,_,rfl,rfl,SqT.of (R.same _ _ hg0),rfl,_,rfl,g,_,_,_,rfl,rfl,SqT.of (R.same _ _ hg),atI_toNat (Int.natCast_nonneg _) hta,ta,_,rfl,SqT.of (R.same _ _ htie),rfl,_,_,rfl,_,_,rfl,_,_,rfl,rfl,?_⟩
   refine⟨_,rfl,_,rfl,(by show 2≤1000;decide),fun t1 K1 T1 u1 v1=>⟨_,rfl,_,rfl,(by show 2≤1000;decide),fun t2 K2 T2 u2 v2=>⟨(by show 2≤1000;decide),fun t3 K3 T3 u3 v3=>⟨t3,rfl,⟨_,SqT.of v3⟩,?_⟩⟩⟩⟩
   have R3:=R.step (T1.trans (T2.trans T3))
   have v1':=T3 _ _ (T2 _ _ v1)
   have v2':=T3 _ _ v2
   refine for_tup (xs:=[V.ref t1,.ref t2]) (fun j σ J=>∃ (cs:List (Option (Int × Int))) (ag:Bool) (y11 y12 y13:Option V),σ=[some (.ref g0),some (.ref kp),some (.int r),some (.ref lw),some (.ref lc),some (.ref la),some (.bl ag),some (.int (k:Int)),some (.int t.1),some (.int t.2.1),some (.int t.2.2),y11,y12,y13] ∧
    RH H J lw lc la (pows ts.length) n.toNat cs∧Far.Good (arcs ts ks) n.toNat r.toNat cs∧Far.PSt c0 (fun z=>z ∈ arcs ts (ks.take i)∨z ∈ (arcs2 t).take j) cs ag∧TupKeep K3 J) ⟨cs,ag,_,_,_,rfl,R3,G,Pt.less fun a z=>z.elim id fun z=>(by cases z),fun _ _ e=>e⟩ (fun j σ J _ h=>?_) (fun j x σ J hx h=>?_) (fun σ J h=>?_)
   ·obtain⟨cs,ag,y11,y12,y13,rfl,R,G,Pt,tk⟩:=h
    exact SqT.of (tk _ _ v3)
   ·obtain⟨cs,ag,y11,y12,y13,rfl,R,G,Pt,tkp⟩:=h
    obtain⟨p,u,v,rfl,hp,u0,un,v0,vn,arc,more⟩:∃ p u v,x=.ref p∧J p=some (.tup [.int u,.int v])∧0≤u∧u < n∧0≤v∧v < n∧(u.toNat,v.toNat,t.2.2) ∈ arcs ts ks∧∀ z,z ∈ (arcs2 t).take (j + 1)->z ∈ (arcs2 t).take j∨z=(u.toNat,v.toNat,t.2.2):=by
     have mem:∀ z,z ∈ arcs2 t->z ∈ arcs ts ks:=fun z hz=>arcs_mem.mpr ⟨k,List.mem_of_getElem? hk,by rw[← et];exact hz⟩
     match j,hx with
     | 0,hx=>cases hx;exact⟨t1,t.1,t.2.1,rfl,tkp _ _ v1',by omega,by omega,by omega,by omega,mem _ (arcs2_mem.mpr (.inl rfl)),fun z hz=>by unfold arcs2 at *;simpa using hz⟩
     | 1,hx=>cases hx;exact⟨t2,t.2.1,t.1,rfl,tkp _ _ v2',by omega,by omega,by omega,by omega,mem _ (arcs2_mem.mpr (.inr rfl)),fun z hz=>by unfold arcs2 at *;simpa using hz⟩
    refine⟨p,_,rfl,SqT.of hp,rfl,_,_,rfl,_,_,rfl,rfl,?_⟩
    obtain⟨cvs,hc,cl⟩:=R.co
    have lenC:cvs.length=n.toNat:=by rw[cl.1];exact G.len
    obtain⟨x1,at1,cv1⟩:=cost_at cl u0 (by rw[G.len];omega)
    obtain⟨x2,at2,cv2⟩:=cost_at cl v0 (by rw[G.len];omega)
    have next:∀ {cs':List (Option (Int × Int))} {ag':Bool},Far.PSt c0 (Far.plus (fun z=>z ∈ arcs ts (ks.take i)∨z ∈ (arcs2 t).take j) (u.toNat,v.toNat,t.2.2)) cs' ag'->Far.PSt c0 (fun z=>z ∈ arcs ts (ks.take i)∨z ∈ (arcs2 t).take (j + 1)) cs' ag':=fun h=>h.less fun z hz=>by
     rcases hz with hz | hz
     ·exact .inl (.inl hz)
     ·exact (more z hz).elim (fun y=>.inl (.inr y)) .inr
    refine⟨_,rfl,_,rfl,lc,_,_,_,rfl,rfl,SqL.of hc,at1,rfl,_,rfl,ite2 (fun c1=>?_) (fun c1=>?_)⟩
    ·-- not reached
     have gu:Far.get cs u.toNat=none:=by
      cases e:Far.get cs u.toNat with
      | none=>rfl
      | some d =>
       rw[e] at cv1
       obtain⟨tt,rfl,_⟩:=cv1
       cases of_decide_eq_true c1
     exact⟨cs,ag,_,_,_,rfl,R,G,next (Pt.no gu),tkp⟩
    ·obtain⟨d,gu⟩:∃ d,Far.get cs u.toNat=some d:=by
      cases e:Far.get cs u.toNat with
      | none=>rw[e] at cv1;exact absurd (decide_eq_true (show x1=V.non from cv1)) c1
      | some d=>exact⟨d,rfl⟩
     rw[gu] at cv1
     obtain⟨td,rfl,htd⟩:=cv1
     have pw:=pow_le (i:=k) (by omega)
     refine⟨_,rfl,_,rfl,lc,_,_,_,rfl,rfl,SqL.of hc,at1,_,rfl,_,rfl,_,rfl,lw,_,_,_,rfl,rfl,SqL.of R.wl,atI_toNat (Int.natCast_nonneg _) (pows_at hkl),td,_,_,_,_,rfl,htd,fun tn L1 Z1 en=>?_⟩
     have R':=R.step Z1
     have hc':=Z1 _ _ hc
     have tkp':TupKeep K3 L1:=fun a xs e=>Z1 _ _ (tkp a xs e)
     have done : ∀ (hlt : Far.get cs v.toNat = none ∨ ∃ c', Far.get cs v.toNat = some c' ∧ Far.lt2 (d.1 + t.2.2, d.2 + 2 ^ k) c') {avs : List V} (ha : L1 la = some (.lst avs)), ∀ L, L = upd (upd L1 lc (.lst (cvs.set v.toNat (.ref tn)))) la (.lst (avs.set v.toNat (.int u))) →
         RH H L lw lc la (pows ts.length) n.toNat (cs.set v.toNat (some (d.1 + t.2.2,d.2 + 2 ^ k)))∧Far.Good (arcs ts ks) n.toNat r.toNat (cs.set v.toNat (some (d.1 + t.2.2,d.2 + 2 ^ k)))∧Far.PSt c0 (fun z=>z ∈ arcs ts (ks.take i)∨z ∈ (arcs2 t).take (j + 1)) (cs.set v.toNat (some (d.1 + t.2.2,d.2 + 2 ^ k))) true∧TupKeep K3 L:=fun hlt avs ha L eL=>by
      subst eL
      obtain⟨G',mm⟩:=G.step P (by omega) arc (by omega) pw.1 pw.2 (by omega) gu hlt
      have ha':upd L1 lc (.lst (cvs.set v.toNat (.ref tn))) la=some (.lst avs):=by rw[upd_ne R.nca.symm];exact ha
      exact⟨(R'.put hc' (by omega) en).mark ha',G',next (Pt.put mm),fun a xs e=>tk_upd ha' _ _ (tk_upd hc' _ _ (tkp' a xs e))⟩
     obtain⟨avs,ha,hal⟩:=R'.ah
     refine⟨_,rfl,_,rfl,lc,_,_,_,rfl,rfl,SqL.of hc',at2,rfl,_,rfl,ite2 (fun c2=>iteT ?_) (fun c2=>?_)⟩
     ·have gv:Far.get cs v.toNat=none:=by
       cases e:Far.get cs v.toNat with
       | none=>rfl
       | some d =>
        rw[e] at cv2
        obtain⟨tt,rfl,_⟩:=cv2
        cases of_decide_eq_true c2
      obtain⟨R2,G2,P2,k2⟩:=done (.inl gv) ha _ rfl
      exact⟨_,rfl,_,rfl,_,rfl,lc,_,_,_,rfl,rfl,hc',ixN_nat v0 (by omega),_,rfl,_,rfl,_,rfl,la,_,_,_,rfl,rfl,(by rw[upd_ne R.nca.symm];exact ha),ixN_nat v0 (by omega),_,true,_,_,_,rfl,R2,G2,P2,k2⟩
     ·obtain⟨d2,gv⟩:∃ d,Far.get cs v.toNat=some d:=by
       cases e:Far.get cs v.toNat with
       | none=>rw[e] at cv2;exact absurd (decide_eq_true (show x2=V.non from cv2)) c2
       | some d=>exact⟨d,rfl⟩
      rw[gv] at cv2
      obtain⟨te,rfl,hte⟩:=cv2
      refine⟨_,rfl,_,rfl,_,rfl,lc,_,_,_,rfl,rfl,SqL.of hc',at2,tn,te,L3.e2 (d.1 + t.2.2,d.2 + 2 ^ k),L3.e2 d2,rfl,rfl,SqT.of en,SqT.of (Z1 _ _ hte),_,rfl,ite2 (fun c3=>?_) (fun c3=>?_)⟩
      ·have hl:=(lexLt_e2 _ _).mp c3
       obtain⟨R2,G2,P2,k2⟩:=done (.inr ⟨d2,gv,hl⟩) ha _ rfl
       exact⟨_,rfl,_,rfl,_,rfl,lc,_,_,_,rfl,rfl,hc',ixN_nat v0 (by omega),_,rfl,_,rfl,_,rfl,la,_,_,_,rfl,rfl,(by rw[upd_ne R.nca.symm];exact ha),ixN_nat v0 (by omega),_,true,_,_,_,rfl,R2,G2,P2,k2⟩
      ·have hn:¬ Far.lt2 (d.1 + t.2.2,d.2 + 2 ^ k) d2:=fun z=>c3 ((lexLt_e2 _ _).mpr z)
       exact⟨cs,ag,_,_,_,rfl,R',G,next (Pt.old gu gv hn),tkp'⟩
   ·obtain⟨cs,ag,y11,y12,y13,rfl,R,G,Pt,tkp⟩:=h
    refine⟨cs,ag,_,_,_,_,_,_,_,rfl,R,G,Pt.less fun z hz=>?_⟩
    exact (arcs_take hk hz).elim .inl fun y=>.inr (by rw[← et] at y;exact y)
  ·obtain⟨cs,ag,y7,y8,y9,y10,y11,y12,y13,rfl,R2,G2,Pt⟩:=h
   have lk:((keepI ks).map V.int).length=ks.length:=by unfold keepI;rw[List.length_map,List.length_map]
   rw[lk,List.take_length] at Pt
   rcases Pt with ⟨ea,ec,st⟩ | ⟨ea,lt⟩
   ·subst ea
    rw[← ec] at st
    exact⟨Far.mu cs + 0,by rw[ec];omega,cs,false,_,_,_,_,_,_,_,rfl,R2,G2,fun _=>st,rfl⟩
   ·subst ea
    exact⟨Far.mu cs + 1,by omega,cs,true,_,_,_,_,_,_,_,rfl,R2,G2,fun z=>(by cases z),rfl⟩
theorem ok_fars_from (T:Bi mg) (D:DefOk K mg "fars_from" s_fars_from ["web","keep","root"]) (O_reached_from:Ok P w K mg base 2 "reached_from" ["web","keep","root"] (spReached K)):Ok P w K mg base 3 "fars_from" ["web","keep","root"] (spFars K):=by
 refine mk_ok (k:=2) D sc_fars_from (fun vs H Q E h=>?_) (fun f cdv A outer s H vs Q E hr h=>?_)
 ·obtain⟨n,ts,ks,wv,kv,r,rfl,_⟩:=h
  rfl
 obtain⟨n,ts,ks,wv,kv,r,rfl,wk,r0,r1,q⟩:=h
 have nd:=sc_fars_from.nd
 have n24:=wk.2.1.n24
 refine⟨_,(pss_cons (ps_asg (pe_callD O_reached_from hr rfl (pa_cons (pv 0) (pa_cons (pv 1) (pa_cons (pv 2) pa_nil)))) (pg_tup (n:=2) rfl (pgs_cons (pg_name (i:=3) nd rfl (Or.inl rfl)) (pgs_cons (pg_name (i:=4) nd rfl (Or.inl rfl)) pgs_nil)))) (pss_one (ps_ret (pe_comp (N:=["web","keep","root","costs","ahead"]) (sc0:=defScope s_fars_from) (own:=["cost"]) (fr:=[]) (js:=[]) rfl (pi_list (pv 3)) (fun _ _ _ _=>(pg_name (i:=0) (by show List.Nodup [("cost":Str)];decide +kernel) rfl (Or.inl rfl))) (fun _ _ _ _=>pts_nil) (fun _ _ _ _=>(pe_ifExp (pt_cmpR op_isN (pv 0) pe_non (nomark _)) pe_non (pe_ix ix_tupC (pv 0) pe_int (fun _ _=>rfl)))))))),?_⟩
 refine⟨_,rfl,_,rfl,_,rfl,n,ts,ks,wv,kv,r,rfl,wk,r0,r1,fun p lc la cvs avs cs J S ep ec ea cl G St=>?_⟩
 refine⟨p,_,rfl,SqT.of ep,rfl,_,_,rfl,_,_,rfl,rfl,?_⟩
 have lenC:cvs.length=n.toNat:=by rw[cl.1];exact G.len
 refine⟨_,rfl,lc,rfl,⟨_,SqL.of ec⟩,?_⟩
 refine comp_lst ec (fun σ'=>σ'.length=1) (fun i v _=>v=ov ((Far.get cs i).map (·.1))) (by omega) (by rfl) (fun _ _ _ _ _ h=>h) (fun i x σ' H' hx s2 sg C hC=>?_) (fun L ys H2 hL s2 hH hly hys=>?_)
 ·match σ',sg with
  | [o],_ =>
   have cv:=cl.2 i x hx
   refine⟨_,rfl,rfl,_,rfl,ite2 (fun c=>?_) (fun c=>?_)⟩
   ·have e:Far.get cs i=none:=by
     cases e:Far.get cs i with
     | none=>rfl
     | some d =>
      rw[e] at cv
      obtain⟨tt,rfl,_⟩:=cv
      cases of_decide_eq_true c
    exact hC _ _ _ rfl (Same.refl _) (by rw[e];rfl)
   ·obtain⟨d,gu⟩:∃ d,Far.get cs i=some d:=by
     cases e:Far.get cs i with
     | none=>rw[e] at cv;exact absurd (decide_eq_true (show x=V.non from cv)) c
     | some d=>exact⟨d,rfl⟩
    rw[gu] at cv
    obtain⟨td,rfl,htd⟩:=cv
    exact⟨_,rfl,td,_,_,_,rfl,rfl,SqT.of (s2 _ _ htd),rfl,hC _ _ _ rfl (Same.refl _) (by rw[gu];rfl)⟩
 ·obtain⟨DD,eD⟩:∃ DD,DD=cs.map fun o=>o.map (·.1):=⟨_,rfl⟩
  have gD:∀ v,Far.get DD v=(Far.get cs v).map (·.1):=fun v=>by
   rw[eD];unfold Far.get
   rw[List.getD_eq_getElem?_getD,List.getElem?_map,List.getD_eq_getElem?_getD]
   cases cs[v]? <;> rfl
  refine q L DD H2 (S.trans s2) (S.free hL) ?_ (by rw[eD,List.length_map];exact G.len) fun v hv=>by rw[gD];exact G.dst St v
  rw[hH]
  refine congrArg (fun z=>some (HO.lst z)) (List.ext_getElem? fun i=>?_)
  have lD:DD.length=n.toNat:=by rw[eD,List.length_map];exact G.len
  by_cases hi:i < n.toNat
  ·rw[ov_at (by omega),gD]
   have e:ys[i]?=some ys[i]:=List.getElem?_eq_getElem (by omega)
   rw[e,hys i _ e]
  ·rw[List.getElem?_eq_none (by omega),List.getElem?_eq_none (by rw[List.length_map];omega)]
theorem ok_far (T:Bi mg) (D:DefOk K mg "far" s_far ["web","keep","a","b"]) (O_fars_from:Ok P w K mg base 3 "fars_from" ["web","keep","root"] (spFars K)):Ok P w K mg base 4 "far" ["web","keep","a","b"] (spFar K):=by
 refine mk_ok (k:=3) D sc_far (fun vs H Q E h=>?_) (fun f cdv A outer s H vs Q E hr h=>?_)
 ·obtain⟨n,ts,ks,wv,kv,a,b,rfl,_⟩:=h
  rfl
 obtain⟨n,ts,ks,wv,kv,a,b,rfl,wk,a0,a1,b0,b1,q⟩:=h
 have nd:=sc_far.nd
 refine⟨_,(pss_one (ps_ret (pe_ix ix_list (pe_callD O_fars_from hr rfl (pa_cons (pv 0) (pa_cons (pv 1) (pa_cons (pv 2) pa_nil)))) (pv 3) (fun _ _=>rfl)))),?_⟩
 refine⟨_,rfl,_,rfl,_,rfl,n,ts,ks,wv,kv,a,rfl,wk,a0,a1,fun l DD J S f1 e1 lD hD=>?_⟩
 exact⟨_,rfl,l,_,_,_,rfl,rfl,SqL.of e1,atI_toNat b0 (ov_at (by omega)),q _ _ S (hD _ (by omega))⟩
theorem ok_without (T:Bi mg) (D:DefOk K mg "without" s_without ["keep","tie"]):Ok P w K mg base 1 "without" ["keep","tie"] (spWithout K):=by
 refine mk_ok (k:=0) D sc_without (fun vs H Q E h=>?_) (fun f cdv A outer s H vs Q E hr h=>?_)
 ·obtain⟨m,ks,kv,k,rfl,_⟩:=h
  rfl
 obtain⟨m,ks,kv,k,rfl,isk,ko,m60,q⟩:=h
 have nd:=sc_without.nd
 obtain⟨kp,rfl,hkp⟩:=keep_parts isk
 rw[← natV_keep] at hkp
 have lks:=ko.len
 have len:(natV ks).length=ks.length:=by unfold natV;rw[List.length_map]
 refine⟨_,(pss_one (ps_ret (pe_callTy call_tupleG rfl T.z_tuple (by decide +kernel) (pa_cons (pe_comp (N:=["keep","tie"]) (sc0:=defScope s_without) (own:=["other"]) (fr:=["tie"]) (js:=[1]) rfl (pi_tup (pv 0)) (fun _ _ _ _=>(pg_name (i:=0) (by show List.Nodup [("other":Str),("tie":Str)];decide +kernel) rfl (Or.inl rfl))) (fun _ _ _ _=>(pts_one (pt_cmpR op_ne (pv 0) (pv 1) (nomark _)))) (fun _ _ _ _=>(pv 0))) pa_nil)))),?_⟩
 refine⟨_,rfl,kp,rfl,⟨_,SqT.of hkp⟩,?_⟩
 refine comp_selT hkp (fun σ'=>∃ o,σ'=[o,some (.int (k:Int))]) (fun i=>if decide (ks.getD i 0≠k)=true then some (V.int ((ks.getD i 0:Nat):Int)) else none) (by omega) (by exact⟨none,rfl⟩) (fun i x σ' H' hx s2 sg C L hC hL=>?_) (fun L H2 hL s2 hH=>?_)
 ·obtain⟨o,rfl⟩:=sg
  obtain⟨j,hj,rfl⟩:=nat_at hx
  have ej:ks.getD i 0=j:=by rw[List.getD_eq_getElem?_getD,hj];rfl
  refine⟨_,rfl,_,rfl,rfl,_,rfl,?_⟩
  by_cases z:j=k
  ·refine iteNS (by rw[z]) (hL _ _ ⟨_,rfl⟩ (Same.refl _) ?_)
   rw[ej,if_neg]
   exact fun y=>of_decide_eq_true y z
  ·have ne:decide (V.int (j:Int)=V.int (k:Int))=false:=decide_eq_false fun y=>z (by injection y with y;omega)
   rw[ne]
   refine iteT ⟨_,rfl,hC _ _ _ ⟨_,rfl⟩ (Same.refl _) ?_⟩
   rw[ej,if_pos (decide_eq_true z)]
 ·refine⟨L,_,rfl,hH,fun t J S f e=>q t J (s2.trans S) ?_⟩
  rw[e,len]
  exact congrArg (fun z=>some (HO.tup z)) (sel_list (fun j=>decide (j≠k)) ks)
theorem nb_sel (f:Nat->Option Nat):∀ ks:List Nat,ks.filterMap (fun k=>(f k).map fun v:Nat=>V.int (v:Int))=natV (ks.filterMap f)
 | []=>rfl
 | k::r=>by
  rw[List.filterMap_cons,List.filterMap_cons,nb_sel f r]
  cases f k <;> rfl
theorem ok_neighbours (T:Bi mg) (D:DefOk K mg "neighbours" s_neighbours ["web","keep","place"]):Ok P w K mg base 1 "neighbours" ["web","keep","place"] (spNeigh K):=by
 refine mk_ok (k:=0) D sc_neighbours (fun vs H Q E h=>?_) (fun f cdv A outer s H vs Q E hr h=>?_)
 ·obtain⟨n,ts,ks,wv,kv,p,rfl,_⟩:=h
  rfl
 obtain⟨n,ts,ks,wv,kv,p,rfl,wk,q⟩:=h
 have nd:=sc_neighbours.nd
 have ok:=wk.2.1
 have ko:=wk.2.2.2
 have few60:=ok.few
 have lks:=ko.len
 obtain⟨g0,g,ws,rfl,hg0,hg,hall,hlw⟩:=web_parts wk.1
 obtain⟨kp,rfl,hkp⟩:=keep_parts wk.2.2.1
 have len:((keepI ks).map V.int).length=ks.length:=by unfold keepI;rw[List.length_map,List.length_map]
 refine⟨_,(pss_cons (ps_setcomp (i:=3) (N:=["web","keep","place","ties"]) (sc0:=defScope s_neighbours) (own:=["tie"]) (fr:=["web"]) (js:=[0]) rfl (pi_tup (pv 1)) (fun _ _ _ _=>(pg_name (i:=0) (by show List.Nodup [("tie":Str),("web":Str)];decide +kernel) rfl (Or.inl rfl))) (fun _ _ _ _=>pts_nil) (fun _ _ _ _=>(pe_ix ix_tupC (pe_ix ix_tupC (pv 1) pe_int (fun _ _=>rfl)) (pv 0) (fun _ _=>rfl))) nd rfl (Or.inl rfl)) (pss_one (ps_ret (pe_op op_catL (pe_comp (N:=["web","keep","place","ties"]) (sc0:=defScope s_neighbours) (own:=["a","b","length"]) (fr:=["place"]) (js:=[2]) rfl (pi_list (pv 3)) (fun _ _ _ _=>(pg_tupC (n:=3) rfl (pgs_cons (pg_name (i:=0) (by show List.Nodup [("a":Str),("b":Str),("length":Str),("place":Str)];decide +kernel) rfl (Or.inl rfl)) (pgs_cons (pg_name (i:=1) (by show List.Nodup [("a":Str),("b":Str),("length":Str),("place":Str)];decide +kernel) rfl (Or.inl rfl)) (pgs_cons (pg_name (i:=2) (by show List.Nodup [("a":Str),("b":Str),("length":Str),("place":Str)];decide +kernel) rfl (Or.inl rfl)) pgs_nil))))) (fun _ _ _ _=>(pts_one (pt_cmpR op_eq (pv 0) (pv 3) (nomark _)))) (fun _ _ _ _=>(pv 1))) (pe_comp (N:=["web","keep","place","ties"]) (sc0:=defScope s_neighbours) (own:=["a","b","length"]) (fr:=["place"]) (js:=[2]) rfl (pi_list (pv 3)) (fun _ _ _ _=>(pg_tupC (n:=3) rfl (pgs_cons (pg_name (i:=0) (by show List.Nodup [("a":Str),("b":Str),("length":Str),("place":Str)];decide +kernel) rfl (Or.inl rfl)) (pgs_cons (pg_name (i:=1) (by show List.Nodup [("a":Str),("b":Str),("length":Str),("place":Str)];decide +kernel) rfl (Or.inl rfl)) (pgs_cons (pg_name (i:=2) (by show List.Nodup [("a":Str),("b":Str),("length":Str),("place":Str)];decide +kernel) rfl (Or.inl rfl)) pgs_nil))))) (fun _ _ _ _=>(pts_one (pt_cmpR op_eq (pv 1) (pv 3) (nomark _)))) (fun _ _ _ _=>(pv 0))))))),?_⟩
 refine⟨_,rfl,kp,rfl,⟨_,SqT.of hkp⟩,?_⟩
 refine comp_tup hkp (fun σ'=>∃ o,σ'=[o,some (.ref g0)]) (fun i v J=>∃ t k,ks[i]?=some k∧v=.ref t∧J t=some (.tup [.int (tieAt ts k).1,.int (tieAt ts k).2.1,.int (tieAt ts k).2.2])) (by omega) (by exact⟨none,rfl⟩) (fun i v H H' tk ⟨t,k,h0,h1,h2⟩=>⟨t,k,h0,h1,tk _ _ h2⟩) (fun i x σ' H' hx s2 sg C hC=>?_) (fun L ys H2 hL s2 hH hly hys=>?_)
 ·obtain⟨o,rfl⟩:=sg
  obtain⟨k,hk,rfl⟩:=keep_at hx
  have hkl:k < ts.length:=ko.2 k (List.mem_of_getElem? hk)
  obtain⟨ta,hta,htie⟩:=tie_val hall hkl
  exact⟨_,rfl,g0,_,_,_,rfl,rfl,SqT.of (s2 _ _ hg0),rfl,_,rfl,g,_,_,_,rfl,rfl,SqT.of (s2 _ _ hg),atI_toNat (Int.natCast_nonneg _) hta,hC _ _ _ ⟨_,rfl⟩ (Same.refl _) ⟨ta,k,hk,rfl,s2 _ _ htie⟩⟩
 have half:∀ (J:Hp) (i:Nat) (x:V),Same H2 J->ys[i]?=some x->∃ t k,ks.getD i 0=k∧k < ts.length∧x=.ref t∧J t=some (.tup [.int (tieAt ts k).1,.int (tieAt ts k).2.1,.int (tieAt ts k).2.2]):=fun J i x S hx=>by
  obtain⟨t,k,h0,h1,h2⟩:=hys i x hx
  exact⟨t,k,by rw[List.getD_eq_getElem?_getD,h0];rfl,ko.2 k (List.mem_of_getElem? h0),h1,S _ _ h2⟩
 refine⟨_,rfl,L,rfl,⟨_,SqL.of hH⟩,?_⟩
 refine comp_selL hH (fun σ'=>∃ o1 o2 o3,σ'=[o1,o2,o3,some (.int p)]) (fun i=>(nb1 ts p (ks.getD i 0)).map fun v:Nat=>V.int (v:Int)) (by omega) (by exact⟨none,none,none,rfl⟩) (fun i x σ' H' hx s3 sg C M hC hM=>?_) (fun L3 H3 hL3 s3 hH3=>?_)
 ·obtain⟨o1,o2,o3,rfl⟩:=sg
  obtain⟨t,k,ek,hkl,rfl,ht⟩:=half H' i x s3 hx
  have tk:=ok.tie _ (tieAt_in hkl).2
  refine⟨t,_,rfl,SqT.of ht,rfl,_,_,rfl,_,_,rfl,_,_,rfl,rfl,?_⟩
  refine⟨_,rfl,_,rfl,rfl,_,rfl,?_⟩
  rw[ek] at hC hM
  by_cases z:(tieAt ts k).1=p
  ·rw[decide_eq_true (by rw[z])]
   refine iteT ⟨_,rfl,hC _ _ _ ⟨_,_,_,rfl⟩ (Same.refl _) ?_⟩
   unfold nb1;rw[if_pos z]
   show some (V.int _)=some (V.int _)
   rw[Int.toNat_of_nonneg (by omega)]
  ·rw[decide_eq_false fun e=>z (by injection e)]
   refine iteF (hM _ _ ⟨_,_,_,rfl⟩ (Same.refl _) ?_)
   unfold nb1;rw[if_neg z];rfl
 refine⟨_,rfl,L,rfl,⟨_,SqL.of (s3 _ _ hH)⟩,?_⟩
 refine comp_selL (s3 _ _ hH) (fun σ'=>∃ o1 o2 o3,σ'=[o1,o2,o3,some (.int p)]) (fun i=>(nb2 ts p (ks.getD i 0)).map fun v:Nat=>V.int (v:Int)) (by omega) (by exact⟨none,none,none,rfl⟩) (fun i x σ' H' hx s4 sg C M hC hM=>?_) (fun L4 H4 hL4 s4 hH4=>?_)
 ·obtain⟨o1,o2,o3,rfl⟩:=sg
  obtain⟨t,k,ek,hkl,rfl,ht⟩:=half H' i x (s3.trans s4) hx
  have tk:=ok.tie _ (tieAt_in hkl).2
  refine⟨t,_,rfl,SqT.of ht,rfl,_,_,rfl,_,_,rfl,_,_,rfl,rfl,?_⟩
  refine⟨_,rfl,_,rfl,rfl,_,rfl,?_⟩
  rw[ek] at hC hM
  by_cases z:(tieAt ts k).2.1=p
  ·rw[decide_eq_true (by rw[z])]
   refine iteT ⟨_,rfl,hC _ _ _ ⟨_,_,_,rfl⟩ (Same.refl _) ?_⟩
   unfold nb2;rw[if_pos z]
   show some (V.int _)=some (V.int _)
   rw[Int.toNat_of_nonneg (by omega)]
  ·rw[decide_eq_false fun e=>z (by injection e)]
   refine iteF (hM _ _ ⟨_,_,_,rfl⟩ (Same.refl _) ?_)
   unfold nb2;rw[if_neg z];rfl
 have ly:ys.length=ks.length:=by rw[hly,len]
 rw[ly,range_sel (fun k=>(nb1 ts p k).map fun v:Nat=>V.int (v:Int)) 0,nb_sel] at hH3
 rw[ly,range_sel (fun k=>(nb2 ts p k).map fun v:Nat=>V.int (v:Int)) 0,nb_sel] at hH4
 have l1:(natV (ks.filterMap (nb1 ts p))).length≤ks.length:=by unfold natV;rw[List.length_map];exact List.length_filterMap_le _ _
 have l2:(natV (ks.filterMap (nb2 ts p))).length≤ks.length:=by unfold natV;rw[List.length_map];exact List.length_filterMap_le _ _
 refine⟨L3,L4,_,_,rfl,rfl,s4 _ _ hH3,hH4,by omega,fun pp J S fr e=>q pp J (s2.trans (s3.trans (s4.trans S))) ((s2.trans (s3.trans s4)).free fr) ?_⟩
 rw[e];unfold nbN natV;rw[List.map_append]
theorem ok_ties_among (T:Bi mg) (D:DefOk K mg "ties_among" s_ties_among ["web","keep","place","others"]) (O_neighbours:Ok P w K mg base 1 "neighbours" ["web","keep","place"] (spNeigh K)):Ok P w K mg base 2 "ties_among" ["web","keep","place","others"] (spAmong K):=by
 refine mk_ok (k:=1) D sc_ties_among (fun vs H Q E h=>?_) (fun f cdv A outer s H vs Q E hr h=>?_)
 ·obtain⟨n,ts,ks,wv,kv,p,o,os,rfl,_⟩:=h
  rfl
 obtain⟨n,ts,ks,wv,kv,p,o,os,rfl,wk,ho,q⟩:=h
 have nd:=sc_ties_among.nd
 have lks:=wk.2.2.2.len
 have few60:=wk.2.1.few
 refine⟨_,(pss_one (ps_ret (pe_callB call_len_seq rfl T.z_len (by decide +kernel) (pa_cons (pe_comp (N:=["web","keep","place","others"]) (sc0:=defScope s_ties_among) (own:=["other"]) (fr:=["others"]) (js:=[3]) rfl (pi_list (pe_callD O_neighbours hr rfl (pa_cons (pv 0) (pa_cons (pv 1) (pa_cons (pv 2) pa_nil))))) (fun _ _ _ _=>(pg_name (i:=0) (by show List.Nodup [("other":Str),("others":Str)];decide +kernel) rfl (Or.inl rfl))) (fun _ _ _ _=>(pts_one (pt_cmpR op_in_seqC (pv 0) (pv 1) (by with_unfolding_all rfl)))) (fun _ _ _ _=>(pv 0))) pa_nil)))),?_⟩
 refine⟨_,rfl,_,rfl,_,rfl,n,ts,ks,wv,kv,p,rfl,wk,fun l J S fr e=>?_⟩
 have len:(natV (nbN ts ks p)).length=(nbN ts ks p).length:=by unfold natV;rw[List.length_map]
 have lnb:(nbN ts ks p).length≤2 * ks.length:=by
  unfold nbN;rw[List.length_append]
  have a:=List.length_filterMap_le (nb1 ts p) ks
  have b:=List.length_filterMap_le (nb2 ts p) ks
  omega
 refine⟨l,rfl,⟨_,SqL.of e⟩,?_⟩
 refine comp_selL e (fun σ'=>∃ u,σ'=[u,some (.ref o)]) (fun i=>if os.contains ((nbN ts ks p).getD i 0)=true then some (V.int (((nbN ts ks p).getD i 0:Nat):Int)) else none) (by omega) (by exact⟨none,rfl⟩) (fun i x σ' H' hx s3 sg C M hC hM=>?_) (fun L3 H3 hL3 s3 hH3=>?_)
 ·obtain⟨u,rfl⟩:=sg
  obtain⟨k,hk,rfl⟩:=nat_at hx
  have ek:(nbN ts ks p).getD i 0=k:=by rw[List.getD_eq_getElem?_getD,hk];rfl
  rw[ek] at hC hM
  have sq:SqL K H' o (natV os)∨SqT K H' o (natV os):=ho.imp (fun z=>SqL.of ((S.trans s3) _ _ z)) fun z=>SqT.of ((S.trans s3) _ _ z)
  refine⟨_,rfl,_,rfl,o,_,rfl,sq,rfl,flat_nat os,_,rfl,?_⟩
  show if inV (V.int (k:Int)) (natV os)=true then _ else _
  rw[inV_nat (Int.natCast_nonneg _),Int.toNat_natCast]
  have ec:decide (k ∈ os)=os.contains k:=by rw[List.contains_eq_mem]
  rw[ec]
  exact ite2 (fun c=>⟨_,rfl,hC _ _ _ ⟨_,rfl⟩ (Same.refl _) (by rw[if_pos c])⟩) (fun c=>hM _ _ ⟨_,rfl⟩ (Same.refl _) (by rw[if_neg c]))
 ·rw[len,sel_list (fun j=>os.contains j)] at hH3
  refine⟨L3,_,rfl,.inl (SqL.of hH3),?_⟩
  have el:(natV ((nbN ts ks p).filter fun j=>os.contains j)).length=(nbN ts ks p).countP fun j=>os.contains j:=by unfold natV;rw[List.length_map,List.countP_eq_length_filter]
  rw[el]
  exact q H3 (S.trans s3)
theorem ok_first_to_go (T:Bi mg) (D:DefOk K mg "first_to_go" s_first_to_go ["web","keep","d","left"]) (O_ties_among:Ok P w K mg base 2 "ties_among" ["web","keep","place","others"] (spAmong K)):Ok P w K mg base 3 "first_to_go" ["web","keep","d","left"] (spFirstGo K):=by
 refine mk_ok (k:=2) D sc_first_to_go (fun vs H Q E h=>?_) (fun f cdv A outer s H vs Q E hr h=>?_)
 ·obtain⟨n,ts,ks,wv,kv,d,o,os,rfl,_⟩:=h
  rfl
 obtain⟨n,ts,ks,wv,kv,d,o,os,rfl,wk,ho,q⟩:=h
 have nd:=sc_first_to_go.nd
 refine⟨_,(pss_cons (ps_for PassesOwn.never rfl (pi_list (pv 3)) (pg_name (i:=4) nd rfl (Or.inl rfl)) (pss_one (ps_if (pt_cmpR op_le (pe_callD O_ties_among hr rfl (pa_cons (pv 0) (pa_cons (pv 1) (pa_cons (pv 4) (pa_cons (pv 3) pa_nil))))) (pv 2) (nomark _)) (pss_one (ps_ret (pv 4))) pss_nil))) (pss_one (ps_ret pe_non))),?_⟩
 refine⟨_,rfl,o,rfl,⟨_,SqL.of ho⟩,?_⟩
 refine for_list (xs:=natV os) (fun i σ J=>∃ y:Option V,σ=[some wv,some kv,some (.int d),some (.ref o),y]∧Same H J∧∀ j p,j < i->os[j]?=some p->¬ ((((nbN ts ks (p:Int)).countP fun q=>os.contains q:Nat):Int)≤d)) ⟨none,rfl,Same.refl H,fun j p hj=>by omega⟩ (fun i σ J _ h=>?_) (fun i x σ J hx h=>?_) (fun σ J h=>?_)
 ·obtain⟨y,rfl,sm,_⟩:=h
  exact SqL.of (sm _ _ ho)
 ·obtain⟨y,rfl,sm,hno⟩:=h
  obtain⟨p,hp,rfl⟩:=nat_at hx
  refine⟨_,rfl,_,rfl,_,rfl,_,rfl,n,ts,ks,wv,kv,_,o,os,rfl,wk.same sm,.inl (sm _ _ ho),fun J2 S2=>⟨_,rfl,_,_,rfl,rfl,_,rfl,ite2 (fun c=>?_) (fun c=>?_)⟩⟩
  ·have c':=of_decide_eq_true c
   refine⟨_,rfl,?_⟩
   have ef:(os.find? fun p:Nat=>decide ((((nbN ts ks (p:Int)).countP fun q=>os.contains q:Nat):Int)≤d))=some p:=by
    rw[List.find?_eq_some_iff_getElem]
    have hi:=List.getElem?_eq_some_iff.mp hp
    refine⟨decide_eq_true c',i,hi.1,hi.2,fun j hj=>?_⟩
    have hj':j < os.length:=Nat.lt_trans hj hi.1
    have:=hno j os[j] hj (List.getElem?_eq_getElem hj')
    simpa using this
   have z:=q J2 (sm.trans S2)
   rw[ef] at z
   exact z
  ·have c':=of_decide_eq_false (Bool.eq_false_iff.mpr c)
   refine⟨_,rfl,sm.trans S2,fun j p' hj hp'=>?_⟩
   rcases Nat.lt_or_ge j i with z | z
   ·exact hno j p' z hp'
   ·have:j=i:=by omega
    subst this
    rw[hp] at hp';cases hp'
    exact c'
 ·obtain⟨y,rfl,sm,hno⟩:=h
  have ef:(os.find? fun p:Nat=>decide ((((nbN ts ks (p:Int)).countP fun q=>os.contains q:Nat):Int)≤d))=none:=by
   rw[List.find?_eq_none]
   intro p hp
   obtain⟨j,hj,e⟩:=List.getElem_of_mem hp
   have:=hno j p (by unfold natV;rw[List.length_map];exact hj) (by rw[List.getElem?_eq_getElem hj,e])
   simpa using this
  have z:=q J sm
  rw[ef] at z
  exact z
theorem ok_peeled (T:Bi mg) (D:DefOk K mg "peeled" s_peeled ["web","keep","d"]) (O_first_to_go:Ok P w K mg base 3 "first_to_go" ["web","keep","d","left"] (spFirstGo K)):Ok P w K mg base 4 "peeled" ["web","keep","d"] (spPeeled K):=by
 refine mk_ok (k:=3) D sc_peeled (fun vs H Q E h=>?_) (fun f cdv A outer s H vs Q E hr h=>?_)
 ·obtain⟨n,ts,ks,wv,kv,d,rfl,_⟩:=h
  rfl
 obtain⟨n,ts,ks,wv,kv,d,rfl,wk,q⟩:=h
 have nd:=sc_peeled.nd
 have ok:=wk.2.1
 have ko:=wk.2.2.2
 have n1:=ok.n1
 have n24:=ok.n24
 obtain⟨g0,g,ws,rfl,hg0,hg,hall,hlw⟩:=web_parts wk.1
 refine⟨_,(pss_cons (ps_set (i:=3) nd rfl (Or.inl rfl) (pe_lstG pa_nil)) (pss_cons (ps_set (i:=4) nd rfl (Or.inl rfl) (pe_callTy (call_list_rng rfl) rfl T.z_list (by decide +kernel) (pa_cons (pe_callTy call_range rfl T.z_range (by decide +kernel) (pa_cons (pe_ix ix_tup (pv 0) pe_int (fun _ _=>rfl)) pa_nil)) pa_nil))) (pss_cons (ps_set (i:=5) nd rfl (Or.inl rfl) (pe_callD O_first_to_go hr rfl (pa_cons (pv 0) (pa_cons (pv 1) (pa_cons (pv 2) (pa_cons (pv 4) pa_nil)))))) (pss_cons (ps_while PassesOwn.never (pt_cmpR op_notN (pv 5) pe_non (nomark _)) (pss_cons (ps_expr (pe_bm PySem.F.plainAttrs_list PySem.F.slot_list_append PySem.F.type_list_append mt_appendG (pv 3) (pa_cons (pv 5) pa_nil))) (pss_cons (ps_expr (pe_bm PySem.F.plainAttrs_list PySem.F.slot_list_remove PySem.F.type_list_remove mt_remove (pv 4) (pa_cons (pv 5) pa_nil))) (pss_one (ps_set (i:=5) nd rfl (Or.inl rfl) (pe_callD O_first_to_go hr rfl (pa_cons (pv 0) (pa_cons (pv 1) (pa_cons (pv 2) (pa_cons (pv 4) pa_nil)))))))))) (pss_one (ps_ret (pe_tupG (pa_cons (pe_callTy call_tupleG rfl T.z_tuple (by decide +kernel) (pa_cons (pv 3) pa_nil)) (pa_cons (pe_callTy call_tupleG rfl T.z_tuple (by decide +kernel) (pa_cons (pv 4) pa_nil)) pa_nil))))))))),?_⟩
 refine⟨(by show 0≤1000;decide),fun lo J0 S0 f0 e0=>?_⟩
 refine⟨_,rfl,g0,_,_,_,rfl,rfl,SqT.of (S0 _ _ hg0),rfl,_,rfl,fun r hr'=>⟨r,n,rfl,upd_same,by omega,by omega,fun ll hll=>?_⟩⟩
 have S1:Same J0 (upd J0 r (.rng 0 n)):=same_new hr'
 have S2:Same (upd J0 r (.rng 0 n)) (upd (upd J0 r (.rng 0 n)) ll (.lst ((List.range n.toNat).map fun i:Nat=>V.int (i:Int)))):=same_new hll
 generalize hJ2:upd (upd J0 r (.rng 0 n)) ll (.lst ((List.range n.toNat).map fun i:Nat=>V.int (i:Int)))=J2 at S2
 have e2:J2 ll=some (.lst (natV (leftN n.toNat []))):=by rw[← hJ2,upd_same,left_nil];rfl
 have S02:=S0.trans (S1.trans S2)
 have elo:J2 lo=some (.lst (natV [])):=S2 _ _ (S1 _ _ e0)
 have nl:lo≠ll:=fun z=>by rw[← z,S1 _ _ e0] at hll;cases hll
 have fl:H ll=none:=(S0.trans S1).free hll
 refine⟨_,rfl,_,rfl,_,rfl,_,rfl,n,ts,ks,_,kv,d,ll,_,rfl,wk.same S02,e2,fun J3 S3=>?_⟩
 rw[next_left ok ko.2 [] d]
 refine⟨fun m σ J=>∃ g:List Nat,σ=[some (.ref g0),some kv,some (.int d),some (.ref lo),some (.ref ll),some (oa (Peel.next n.toNat (t2s ts ks) d g))]∧Same H J∧J lo=some (.lst (natV g))∧J ll=some (.lst (natV (leftN n.toNat g)))∧Peel.Good n.toNat g∧Peel.run n.toNat (t2s ts ks) d (n.toNat - g.length) g=Peel.gone n.toNat (t2s ts ks) d∧m=n.toNat - g.length,
  ⟨_,[],rfl,S02.trans S3,S3 _ _ elo,S3 _ _ e2,.nil,rfl,rfl⟩,?_⟩
 rintro m σ J ⟨g,rfl,sm,h1,h2,gd,er,rfl⟩
 refine⟨_,rfl,rfl,_,rfl,?_⟩
 cases en:Peel.next n.toNat (t2s ts ks) d g with
 | none =>
  refine iteF ?_
  have eg:=Peel.gone_of en er
  refine⟨_,rfl,lo,_,rfl,h1,fun ta K1 T1 u1 v1=>⟨_,rfl,ll,_,rfl,T1 _ _ h2,fun tb K2 T2 u2 v2=>⟨(by show 2≤1000;decide),fun p K3 T3 u3 v3=>?_⟩⟩⟩
  rw[eg] at v1 v2
  exact q p ta tb K3 (sm.trans (T1.trans (T2.trans T3))) v3 (T3 _ _ (T2 _ _ v1)) (T3 _ _ v2)
 | some p =>
  obtain⟨pn,pg,pd⟩:=Peel.next_some en
  have gl:=gd.len
  refine iteT ⟨fun σ' J'=>∃ m',m' < n.toNat - g.length∧∃ g:List Nat,σ'=[some (.ref g0),some kv,some (.int d),some (.ref lo),some (.ref ll),some (oa (Peel.next n.toNat (t2s ts ks) d g))]∧Same H J'∧J' lo=some (.lst (natV g))∧J' ll=some (.lst (natV (leftN n.toNat g)))∧Peel.Good n.toNat g∧Peel.run n.toNat (t2s ts ks) d (n.toNat - g.length) g=Peel.gone n.toNat (t2s ts ks) d∧m'=n.toNat - g.length,fun _ _ h=>h,?_⟩
  have lg:(natV g).length=g.length:=by unfold natV;rw[List.length_map]
  refine⟨_,rfl,.inl ⟨rfl,_,SqL.of h1⟩,_,rfl,lo,_,_,rfl,rfl,h1,by omega,fun K1 b1 v1=>?_⟩
  have h2':K1 ll=some (.lst ((keepI (leftN n.toNat g)).map V.int)):=by rw[← natV_keep];exact b1 _ _ nl.symm h2
  have pm:(p:Int) ∈ keepI (leftN n.toNat g):=by
   unfold keepI leftN
   exact List.mem_map.mpr ⟨p,List.mem_filter.mpr ⟨List.mem_range.mpr pn,by simpa using pg⟩,rfl⟩
  refine⟨_,rfl,.inl ⟨rfl,_,SqL.of h2'⟩,_,rfl,ll,_,_,rfl,rfl,h2',pm,fun K2 b2 v2=>?_⟩
  rw[keepI_erase,left_next,← natV_keep] at v2
  have v1':K2 lo=some (.lst (natV (g++[p]))):=by
   rw[b2 _ _ nl v1];unfold natV;rw[List.map_append];rfl
  have s2:Same H K2:=fun b o e=>b2 _ _ (ne_of_none e fl) (b1 _ _ (ne_of_none e f0) (sm _ _ e))
  refine⟨_,rfl,_,rfl,_,rfl,_,rfl,n,ts,ks,_,kv,d,ll,_,rfl,wk.same s2,v2,fun K3 T3=>?_⟩
  rw[next_left ok ko.2 (g++[p]) d]
  have gd':=gd.snoc pn pg
  have gl':=gd'.len
  rw[List.length_append,List.length_singleton] at gl'
  exact⟨n.toNat - (g++[p]).length,by rw[List.length_append,List.length_singleton];omega,g++[p],rfl,s2.trans T3,T3 _ _ v1',T3 _ _ v2,gd',by rw[← Peel.run_next gd en];exact er,rfl⟩
def spSpr:Sp:=fun vs H Q _=>∃ d k:Nat,vs=[.int (d:Int),.int (k:Int)]∧d≤1000∧k≤1000∧Q (.int ((Shr.spr d k:Nat):Int)) H
def spShare:Sp:=fun vs H Q _=>∃ n k:Nat,vs=[.int (n:Int),.int (k:Int)]∧n≤100∧1≤k∧k≤1000∧∀ d:Nat,Shr.Share n k d->Q (.int (d:Int)) H
theorem ok_spread (T:Bi mg) (D:DefOk K mg "spread" s_spread ["d","k"]):Ok P w K mg base 1 "spread" ["d","k"] spSpr:=by
 refine mk_ok (k:=0) D sc_spread (fun vs H Q E h=>?_) (fun f cdv A outer s H vs Q E hr h=>?_)
 ·obtain⟨d,k,rfl,_⟩:=h
  rfl
 obtain⟨d,k,rfl,hd,hk,q⟩:=h
 have nd:=sc_spread.nd
 refine⟨_,(pss_cons (ps_set (i:=2) nd rfl (Or.inl rfl) pe_int) (pss_cons (ps_set (i:=3) nd rfl (Or.inl rfl) (pe_op op_add (pv 0) pe_int)) (pss_cons (ps_for PassesOwn.never rfl (pi_range1 rfl T.z_range (pa_cons (pv 1) pa_nil)) (pg_name (i:=4) nd rfl (Or.inl rfl)) (pss_cons (ps_set (i:=2) nd rfl (Or.inl rfl) (pe_op op_add (pv 2) (pv 3))) (pss_one (ps_set (i:=3) nd rfl (Or.inl rfl) (pe_op op_mul (pv 3) (pv 0)))))) (pss_one (ps_ret (pv 2)))))),?_⟩
 refine⟨_,rfl,_,_,rfl,rfl,_,rfl,_,rfl,by omega,by omega,?_⟩
 refine for_range (n:=((k:Nat):Int).toNat) (fun i σ J=>∃ x:Option V,J=H∧σ=[some (.int (d:Int)),some (.int (k:Int)),some (.int ((Shr.spr d i:Nat):Int)),some (.int (((d + 1) * d ^ i:Nat):Int)),x]) ⟨none,rfl,?_⟩ (fun i σ J hi ⟨x,eJ,e⟩=>?_) (fun σ J ⟨x,eJ,e⟩=>?_)
 ·have e1:((Shr.spr d 0:Nat):Int)=1:=by simp [Shr.spr,Shr.geo]
  have e2:(((d + 1) * d ^ 0:Nat):Int)=(d:Int) + 1:=by simp
  rw[e1,e2];rfl
 ·subst eJ e
  refine⟨_,rfl,_,rfl,_,_,rfl,rfl,_,rfl,_,rfl,_,_,rfl,rfl,.inr ⟨by omega,by omega⟩,some (.int (0 + (i:Int))),rfl,?_⟩
  have e1:((Shr.spr d (i + 1):Nat):Int)=((Shr.spr d i:Nat):Int) + (((d + 1) * d ^ i:Nat):Int):=by rw[Shr.spr_next];omega
  have e2:(((d + 1) * d ^ (i + 1):Nat):Int)=(((d + 1) * d ^ i:Nat):Int) * (d:Int):=by rw[Nat.pow_succ,← Nat.mul_assoc];exact Int.natCast_mul _ _
  rw[e1,e2];rfl
 ·subst eJ e
  exact⟨_,rfl,q⟩
theorem ok_share_of (T:Bi mg) (D:DefOk K mg "share_of" s_share_of ["n","k"]) (O_spread:Ok P w K mg base 1 "spread" ["d","k"] spSpr):Ok P w K mg base 2 "share_of" ["n","k"] spShare:=by
 refine mk_ok (k:=1) D sc_share_of (fun vs H Q E h=>?_) (fun f cdv A outer s H vs Q E hr h=>?_)
 ·obtain⟨n,k,rfl,_⟩:=h
  rfl
 obtain⟨n,k,rfl,hn,k1,hk,q⟩:=h
 have nd:=sc_share_of.nd
 refine⟨_,(pss_cons (ps_set (i:=2) nd rfl (Or.inl rfl) pe_int) (pss_cons (ps_while PassesOwn.never (pt_cmpR op_le (pe_callD O_spread hr rfl (pa_cons (pv 2) (pa_cons (pv 1) pa_nil))) (pv 0) (nomark _)) (pss_one (ps_set (i:=2) nd rfl (Or.inl rfl) (pe_op op_add (pv 2) pe_int)))) (pss_one (ps_ret (pv 2))))),?_⟩
 refine⟨fun m σ J=>∃ d:Nat,J=H∧σ=[some (.int (n:Int)),some (.int (k:Int)),some (.int (d:Int))]∧d≤n∧(∀ e,e < d->Shr.spr e k≤n)∧m=n + 1 - d,⟨_,0,rfl,rfl,by omega,fun e h=>by omega,rfl⟩,?_⟩
 rintro m σ J ⟨d,rfl,rfl,hd,hle,rfl⟩
 refine⟨_,rfl,_,rfl,d,k,rfl,by omega,hk,_,rfl,_,_,rfl,rfl,_,rfl,ite2 (fun c=>?_) (fun c=>?_)⟩
 ·have c':=of_decide_eq_true c
  have big:=Shr.spr_big d k k1
  refine⟨fun σ' J'=>∃ m',m' < n + 1 - d∧∃ d':Nat,J'=J∧σ'=[some (.int (n:Int)),some (.int (k:Int)),some (.int (d':Int))]∧d'≤n∧(∀ e,e < d'->Shr.spr e k≤n)∧m'=n + 1 - d',fun _ _ h=>h,?_⟩
  refine⟨_,rfl,_,_,rfl,rfl,n + 1 - (d + 1),by omega,d + 1,rfl,rfl,by omega,fun e he=>?_,rfl⟩
  rcases Nat.lt_or_ge e d with h | h
  ·exact hle e h
  ·have:e=d:=by omega
   subst this;omega
 ·have c':=of_decide_eq_false (Bool.eq_false_iff.mpr c)
  exact⟨_,rfl,q d ⟨by omega,hle⟩⟩
theorem ok__law_fan (T:Bi mg) (D:DefOk K mg "_law_fan" s__law_fan ["d","k"]):Ok P w K mg base 1 "_law_fan" ["d","k"] spSpr:=by
 refine mk_ok (k:=0) D sc__law_fan (fun vs H Q E h=>?_) (fun f cdv A outer s H vs Q E hr h=>?_)
 ·obtain⟨d,k,rfl,_⟩:=h
  rfl
 obtain⟨d,k,rfl,hd,hk,q⟩:=h
 have nd:=sc__law_fan.nd
 refine⟨_,(pss_cons (ps_set (i:=2) nd rfl (Or.inl rfl) pe_int) (pss_cons (ps_for PassesOwn.never rfl (pi_range1 rfl T.z_range (pa_cons (pv 1) pa_nil)) (pg_name (i:=3) nd rfl (Or.inl rfl)) (pss_one (ps_set (i:=2) nd rfl (Or.inl rfl) (pe_op op_add (pe_op op_mul (pv 2) (pv 0)) pe_int)))) (pss_one (ps_ret (pe_op op_add pe_int (pe_op op_mul (pe_op op_add (pv 0) pe_int) (pv 2))))))),?_⟩
 refine⟨_,rfl,_,rfl,by omega,by omega,?_⟩
 refine for_range (n:=((k:Nat):Int).toNat) (fun i σ J=>∃ x:Option V,J=H∧σ=[some (.int (d:Int)),some (.int (k:Int)),some (.int ((Shr.geo d i:Nat):Int)),x]) ⟨none,rfl,rfl⟩ (fun i σ J hi ⟨x,eJ,e⟩=>?_) (fun σ J ⟨x,eJ,e⟩=>?_)
 ·subst eJ e
  refine⟨_,rfl,_,rfl,_,_,rfl,rfl,.inr ⟨by omega,by omega⟩,_,_,rfl,rfl,some (.int (0 + (i:Int))),rfl,?_⟩
  have e1:((Shr.geo d (i + 1):Nat):Int)=((Shr.geo d i:Nat):Int) * (d:Int) + 1:=by
   show ((Shr.geo d i * d + 1:Nat):Int)=_
   rw[Int.natCast_add,Int.natCast_mul];rfl
  rw[e1];rfl
 ·subst eJ e
  refine⟨_,rfl,_,_,rfl,rfl,_,rfl,_,_,rfl,rfl,.inl ⟨by omega,by omega⟩,_,_,rfl,rfl,?_⟩
  have e1:((Shr.spr d k:Nat):Int)=1 + ((d:Int) + 1) * ((Shr.geo d ((k:Nat):Int).toNat:Nat):Int):=by
   rw[Int.toNat_natCast];show ((1 + (d + 1) * Shr.geo d k:Nat):Int)=_
   rw[Int.natCast_add,Int.natCast_mul,Int.natCast_add];rfl
  rw[e1] at q;exact q
def bump (cs:List Int) (k:Nat) (v:Int):List Int:=cs.set k (cs.getD k 0 + v)
theorem bump_len (cs:List Int) (k:Nat) (v:Int):(bump cs k v).length=cs.length:=by unfold bump;rw[List.length_set]
theorem bump_at {cs:List Int} {k:Nat} (h:k < cs.length) (v:Int) (q:Nat):(bump cs k v).getD q 0=cs.getD q 0 + (if k=q then v else 0):=by
 unfold bump
 rw[List.getD_eq_getElem?_getD,List.getElem?_set]
 by_cases e:k=q
 ·subst e
  rw[if_pos rfl,if_pos h,if_pos rfl];rfl
 ·rw[if_neg e,if_neg e,Int.add_zero,List.getD_eq_getElem?_getD]
theorem int_at {cs:List Int} {i:Int} (h0:0≤i) (h:i.toNat < cs.length):atI (cs.map V.int) i=some (.int (cs.getD i.toNat 0)):=by
 refine atI_toNat h0 ?_
 rw[List.getElem?_map,List.getElem?_eq_getElem h,List.getD_eq_getElem?_getD,List.getElem?_eq_getElem h];rfl
theorem set_bump (cs:List Int) (k:Nat) (v:Int):(cs.map V.int).set k (.int (cs.getD k 0 + v))=(bump cs k v).map V.int:=by unfold bump;rw[List.map_set]
theorem set_bumpN (cs:List Int) (k:Nat) (v:Int):(cs.map V.int).set k (.int (cs.getD k 0 - v))=(bump cs k (-v)).map V.int:=by rw[Int.sub_eq_add_neg];exact set_bump cs k (-v)
theorem t2s_at {ts:List Tie} {ks:List Nat} {i k:Nat} (h:ks[i]?=some k):(t2s ts ks).take (i + 1)=(t2s ts ks).take i++[((tieAt ts k).1.toNat,(tieAt ts k).2.1.toNat)]:=by
 refine take_next ?_
 unfold t2s
 rw[List.getElem?_map,h];rfl
theorem t2s_ne {n:Int} {ts:List Tie} {ks:List Nat} (ok:WebOk n ts) (ko:∀ k ∈ ks,k < ts.length):∀ t ∈ t2s ts ks,t.1≠t.2:=fun t ht=>by
 unfold t2s at ht
 obtain⟨k,hk,rfl⟩:=List.mem_map.mp ht
 have:=ok.tie _ (tieAt_in (ko k hk)).2
 show (tieAt ts k).1.toNat≠(tieAt ts k).2.1.toNat
 omega
/-- ties between q and p -/
def btw (p q:Nat) (t:Peel.T2):Bool:=(t.1 == q && t.2 == p) || (t.2 == q && t.1 == p)
theorem cnt_step {a b p q:Nat} (ne:a≠b) (x:Int) (c:Nat):x - (c:Int) + (if a=q then -(if (b == p)=true then 1 else 0) else 0) + (if b=q then -(if (a == p)=true then 1 else 0) else 0)=x - ((c + (0 + if btw p q (a,b)=true then 1 else 0):Nat):Int):=by
 have e1:(a=q)=((a == q)=true):=by simp
 have e2:(b=q)=((b == q)=true):=by simp
 have hn:((a == q) && (b == q))=false:=by
  by_cases z:a=q
  ·have:¬ b=q:=by omega
   simp [this]
  ·simp [z]
 unfold btw
 simp only [e1,e2]
 revert hn
 cases (a == q) <;> cases (b == q) <;> cases (a == p) <;> cases (b == p) <;> simp <;> omega
theorem ok__law_peel (T:Bi mg) (D:DefOk K mg "_law_peel" s__law_peel ["web","keep","d"]):Ok P w K mg base 1 "_law_peel" ["web","keep","d"] (spPeeled K):=by
 refine mk_ok (k:=0) D sc__law_peel (fun vs H Q E h=>?_) (fun f cdv A outer s H vs Q E hr h=>?_)
 ·obtain⟨n,ts,ks,wv,kv,d,rfl,_⟩:=h
  rfl
 obtain⟨n,ts,ks,wv,kv,d,rfl,wk,q⟩:=h
 have nd:=sc__law_peel.nd
 have ok:=wk.2.1
 have ko:=wk.2.2.2
 have n1:=ok.n1
 have n24:=ok.n24
 obtain⟨g0,g,ws,rfl,hg0,hg,hall,hlw⟩:=web_parts wk.1
 obtain⟨kp,rfl,hkp⟩:=keep_parts wk.2.2.1
 obtain⟨N,hN⟩:∃ N:Nat,N=n.toNat:=⟨_,rfl⟩
 have ne2:=t2s_ne ok ko.2
 refine⟨_,(pss_cons (ps_set (i:=3) nd rfl (Or.inl rfl) (pe_op op_rep1 (pe_lstG (pa_cons pe_int pa_nil)) (pe_ix ix_tup (pv 0) pe_int (fun _ _=>rfl)))) (pss_cons (ps_for PassesOwn.never rfl (pi_tup (pv 1)) (pg_name (i:=4) nd rfl (Or.inl rfl)) (pss_cons (ps_asg (pe_op op_add (pe_ix ix_list (pv 3) (pe_ix ix_tup (pe_ix ix_tup (pe_ix ix_tup (pv 0) pe_int (fun _ _=>rfl)) (pv 4) (fun _ _=>rfl)) pe_int (fun _ _=>rfl)) (fun _ _=>rfl)) pe_int) (pg_sub (pv 3) (pe_ix ix_tup (pe_ix ix_tup (pe_ix ix_tup (pv 0) pe_int (fun _ _=>rfl)) (pv 4) (fun _ _=>rfl)) pe_int (fun _ _=>rfl)) set_list)) (pss_one (ps_asg (pe_op op_add (pe_ix ix_list (pv 3) (pe_ix ix_tup (pe_ix ix_tup (pe_ix ix_tup (pv 0) pe_int (fun _ _=>rfl)) (pv 4) (fun _ _=>rfl)) pe_int (fun _ _=>rfl)) (fun _ _=>rfl)) pe_int) (pg_sub (pv 3) (pe_ix ix_tup (pe_ix ix_tup (pe_ix ix_tup (pv 0) pe_int (fun _ _=>rfl)) (pv 4) (fun _ _=>rfl)) pe_int (fun _ _=>rfl)) set_list))))) (pss_cons (ps_set (i:=5) nd rfl (Or.inr rfl) (pe_lstG pa_nil)) (pss_cons (ps_set (i:=6) nd rfl (Or.inl rfl) pe_int) (pss_cons (ps_while PassesOwn.never (pt_cmpR op_lt (pv 6) (pe_ix ix_tup (pv 0) pe_int (fun _ _=>rfl)) (nomark _)) (pss_one (ps_if (PW.pt (pw_or (pt_cmpR op_in_seq (pv 6) (pv 5) (by with_unfolding_all rfl)) (pw_or1 (pt_cmpR op_gt (pe_ix ix_list (pv 3) (pv 6) (fun _ _=>rfl)) (pv 2) (nomark _))))) (pss_one (ps_set (i:=6) nd rfl (Or.inl rfl) (pe_op op_add (pv 6) pe_int))) (pss_cons (ps_expr (pe_bm PySem.F.plainAttrs_list PySem.F.slot_list_append PySem.F.type_list_append mt_appendG (pv 5) (pa_cons (pv 6) pa_nil))) (pss_cons (ps_for PassesOwn.never rfl (pi_tup (pv 1)) (pg_name (i:=4) nd rfl (Or.inl rfl)) (pss_cons (ps_asg (pe_ix ix_tup (pe_ix ix_tup (pv 0) pe_int (fun _ _=>rfl)) (pv 4) (fun _ _=>rfl)) (pg_tup (n:=3) rfl (pgs_cons (pg_name (i:=7) nd rfl (Or.inl rfl)) (pgs_cons (pg_name (i:=8) nd rfl (Or.inl rfl)) (pgs_cons (pg_name (i:=9) nd rfl (Or.inl rfl)) pgs_nil))))) (pss_cons (ps_asg (pe_op op_sub (pe_ix ix_list (pv 3) (pv 7) (fun _ _=>rfl)) (pe_callTy call_int1 rfl T.z_int (by decide +kernel) (pa_cons (pe_cmpR op_eq (pv 8) (pv 6) (nomark _)) pa_nil))) (pg_sub (pv 3) (pv 7) set_list)) (pss_one (ps_asg (pe_op op_sub (pe_ix ix_list (pv 3) (pv 8) (fun _ _=>rfl)) (pe_callTy call_int1 rfl T.z_int (by decide +kernel) (pa_cons (pe_cmpR op_eq (pv 7) (pv 6) (nomark _)) pa_nil))) (pg_sub (pv 3) (pv 8) set_list)))))) (pss_one (ps_set (i:=6) nd rfl (Or.inl rfl) pe_int))))))) (pss_one (ps_ret (pe_tupG (pa_cons (pe_callTy call_tupleG rfl T.z_tuple (by decide +kernel) (pa_cons (pv 5) pa_nil)) (pa_cons (pe_callTy call_tupleG rfl T.z_tuple (by decide +kernel) (pa_cons (pe_comp (N:=["web","keep","d","counts","number","gone","at","one","other","length"]) (sc0:=defScope s__law_peel) (own:=["place"]) (fr:=["gone"]) (js:=[5]) rfl (pi_range1 rfl T.z_range (pa_cons (pe_ix ix_tup (pv 0) pe_int (fun _ _=>rfl)) pa_nil)) (fun _ _ _ _=>(pg_name (i:=0) (by show List.Nodup [("place":Str),("gone":Str)];decide +kernel) rfl (Or.inl rfl))) (fun _ _ _ _=>(pts_one (pt_cmpR op_notIn_seqC (pv 0) (pv 1) (by with_unfolding_all rfl)))) (fun _ _ _ _=>(pv 0))) pa_nil)) pa_nil)))))))))),?_⟩
 refine⟨(by show 1≤1000;decide),fun t0 J1 S1 f1 e1=>⟨_,rfl,g0,_,_,_,rfl,rfl,SqT.of (S1 _ _ hg0),rfl,t0,n,_,rfl,rfl,e1,by omega,by omega,fun lc J2 S2 f2 e2=>?_⟩⟩
 have S12:=S1.trans S2
 have fc:H lc=none:=S1.free f2
 have e2':J2 lc=some (.lst ((List.replicate N (0:Int)).map V.int)):=by rw[e2,List.map_replicate,hN]
 refine⟨_,rfl,kp,rfl,⟨_,SqT.of (S12 _ _ hkp)⟩,?_⟩
 refine for_tup (xs:=(keepI ks).map V.int) (fun i σ J=>∃ (cs:List Int) (y4 y5 y6 y7 y8 y9:Option V),σ=[some (.ref g0),some (.ref kp),some (.int d),some (.ref lc),y4,y5,y6,y7,y8,y9]∧Same H J∧J lc=some (.lst (cs.map V.int))∧cs.length=N∧∀ q,q < N->cs.getD q 0=((Peel.deg ((t2s ts ks).take i) [] q:Nat):Int)) ⟨_,none,none,none,none,none,none,rfl,S12,e2',List.length_replicate,fun q hq=>?_⟩ (fun i σ J _ h=>?_) (fun i x σ J hx h=>?_) (fun σ J h=>?_)
 ·rw[List.getD_eq_getElem?_getD,List.getElem?_replicate,if_pos hq];rfl
 ·obtain⟨cs,y4,y5,y6,y7,y8,y9,rfl,sm,_⟩:=h
  exact SqT.of (sm _ _ hkp)
 ·obtain⟨cs,y4,y5,y6,y7,y8,y9,rfl,sm,hc,lc',hd⟩:=h
  obtain⟨k,hk,rfl⟩:=keep_at hx
  have hkl:k < ts.length:=ko.2 k (List.mem_of_getElem? hk)
  obtain⟨ta,hta,htie⟩:=tie_val hall hkl
  have tk:=ok.tie _ (tieAt_in hkl).2
  obtain⟨t,et⟩:∃ t,t=tieAt ts k:=⟨_,rfl⟩
  rw[← et] at htie tk
  have at_:=fun {i:Int}=>int_at (cs:=cs) (i:=i)
    -- counts[a] + 1
  refine⟨_,rfl,_,rfl,g0,_,_,_,rfl,rfl,SqT.of (sm _ _ hg0),rfl,_,rfl,g,_,_,_,rfl,rfl,SqT.of (sm _ _ hg),atI_toNat (Int.natCast_nonneg _) hta,ta,_,_,_,rfl,rfl,SqT.of (sm _ _ htie),rfl,lc,_,_,_,rfl,rfl,SqL.of hc,at_ (by omega) (by omega),_,_,rfl,rfl,?_⟩
  refine⟨_,rfl,_,rfl,g0,_,_,_,rfl,rfl,SqT.of (sm _ _ hg0),rfl,_,rfl,g,_,_,_,rfl,rfl,SqT.of (sm _ _ hg),atI_toNat (Int.natCast_nonneg _) hta,ta,_,_,_,rfl,rfl,SqT.of (sm _ _ htie),rfl,lc,_,t.1,t.1.toNat,rfl,rfl,hc,ixN_nat (by omega) (by rw[List.length_map];omega),?_⟩
  rw[set_bump]
  have sm2:Same H (upd J lc (.lst ((bump cs t.1.toNat 1).map V.int))):=fun b o e=>by rw[upd_ne (ne_of_none e fc)];exact sm _ _ e
  have hc2:upd J lc (.lst ((bump cs t.1.toNat 1).map V.int)) lc=some (.lst ((bump cs t.1.toNat 1).map V.int)):=upd_same
  generalize upd J lc (.lst ((bump cs t.1.toNat 1).map V.int))=J' at sm2 hc2
  have lc2:=bump_len cs t.1.toNat 1
  refine⟨_,rfl,_,rfl,g0,_,_,_,rfl,rfl,SqT.of (sm2 _ _ hg0),rfl,_,rfl,g,_,_,_,rfl,rfl,SqT.of (sm2 _ _ hg),atI_toNat (Int.natCast_nonneg _) hta,ta,_,_,_,rfl,rfl,SqT.of (sm2 _ _ htie),rfl,lc,_,_,_,rfl,rfl,SqL.of hc2,int_at (by omega) (by omega),_,_,rfl,rfl,?_⟩
  refine⟨_,rfl,_,rfl,g0,_,_,_,rfl,rfl,SqT.of (sm2 _ _ hg0),rfl,_,rfl,g,_,_,_,rfl,rfl,SqT.of (sm2 _ _ hg),atI_toNat (Int.natCast_nonneg _) hta,ta,_,_,_,rfl,rfl,SqT.of (sm2 _ _ htie),rfl,lc,_,t.2.1,t.2.1.toNat,rfl,rfl,hc2,ixN_nat (by omega) (by rw[List.length_map];omega),?_⟩
  rw[set_bump]
  refine⟨bump (bump cs t.1.toNat 1) t.2.1.toNat 1,_,_,_,_,_,_,rfl,fun b o e=>by rw[upd_ne (ne_of_none e fc)];exact sm2 _ _ e,upd_same,by rw[bump_len,bump_len];exact lc',fun q hq=>?_⟩
  rw[bump_at (by rw[bump_len];omega),bump_at (by omega),hd q hq,t2s_at hk,← et]
  unfold Peel.deg
  rw[List.countP_append,List.countP_cons,List.countP_nil]
  have hh:Peel.hit [] q (t.1.toNat,t.2.1.toNat)=((t.1.toNat == q) || (t.2.1.toNat == q)):=by unfold Peel.hit;simp
  rw[hh]
  by_cases z1:t.1.toNat=q
  ·have z2:¬ t.2.1.toNat=q:=by omega
   rw[if_pos z1,if_neg z2,if_pos (by simp [z1])];omega
  ·by_cases z2:t.2.1.toNat=q
   ·rw[if_neg z1,if_pos z2,if_pos (by simp [z2])];omega
   ·rw[if_neg z1,if_neg z2,if_neg (by simp [z1,z2])];omega
 obtain⟨cs,y4,y5,y6,y7,y8,y9,rfl,sm,hc,lc',hd⟩:=h
 have lk:((keepI ks).map V.int).length=(t2s ts ks).length:=by unfold keepI t2s;rw[List.length_map,List.length_map,List.length_map]
 rw[lk,List.take_length] at hd
 refine⟨(by show 0≤1000;decide),fun lg J4 S4 f4 e4=>?_⟩
 have nlg:lg≠lc:=fun z=>by rw[z,hc] at f4;cases f4
 have fg:H lg=none:=sm.free f4
 refine ⟨fun m σ J => ∃ (gn : List Nat) (at' : Nat) (cs : List Int) (y4 y7 y8 y9 : Option V), σ = [some (.ref g0), some (.ref kp), some (.int d), some (.ref lc), y4, some (.ref lg), some (.int (at' : Int)), y7, y8, y9] ∧ Same H J ∧ J lc = some (.lst (cs.map V.int)) ∧ J lg = some (.lst (natV gn)) ∧ cs.length = N ∧ (∀ q, q < N → cs.getD q 0 = ((Peel.deg (t2s ts ks) gn q : Nat) : Int)) ∧
     Peel.Good N gn∧Peel.run N (t2s ts ks) d (N - gn.length) gn=Peel.gone N (t2s ts ks) d∧at'≤N∧(∀ q,q < at'->Peel.may (t2s ts ks) d gn q=false)∧m=(N - gn.length) * (N + 1) + (N - at'),
  ⟨_,[],0,cs,_,_,_,_,rfl,sm.trans S4,S4 _ _ hc,e4,lc',hd,.nil,rfl,Nat.zero_le _,fun q h=>by omega,rfl⟩,?_⟩
 rintro m σ J ⟨gn,at',cs,y4,y7,y8,y9,rfl,sm,hc,hgn,lc',hd,gd,er,aN,low,rfl⟩
 refine⟨_,rfl,_,rfl,g0,_,_,_,rfl,rfl,SqT.of (sm _ _ hg0),rfl,_,_,rfl,rfl,_,rfl,ite2 (fun c=>?_) (fun c=>?_)⟩
 ·have aN':at' < N:=by have:=of_decide_eq_true c;omega
  refine⟨fun σ' J'=>∃ m',m' < (N - gn.length) * (N + 1) + (N - at')∧∃ (gn:List Nat) (at':Nat) (cs:List Int) (y4 y7 y8 y9:Option V),σ'=[some (.ref g0),some (.ref kp),some (.int d),some (.ref lc),y4,some (.ref lg),some (.int (at':Int)),y7,y8,y9]∧Same H J'∧J' lc=some (.lst (cs.map V.int))∧J' lg=some (.lst (natV gn))∧cs.length=N∧(∀ q,q < N->cs.getD q 0=((Peel.deg (t2s ts ks) gn q:Nat):Int)) ∧
   Peel.Good N gn∧Peel.run N (t2s ts ks) d (N - gn.length) gn=Peel.gone N (t2s ts ks) d∧at'≤N∧(∀ q,q < at'->Peel.may (t2s ts ks) d gn q=false)∧m'=(N - gn.length) * (N + 1) + (N - at'),fun _ _ h=>h,?_⟩
    -- one place on
  have on:Peel.may (t2s ts ks) d gn at'=false->∃ m',m' < (N - gn.length) * (N + 1) + (N - at')∧∃ (gn':List Nat) (a2:Nat) (cs:List Int) (z4 z7 z8 z9:Option V),[some (V.ref g0),some (.ref kp),some (.int d),some (.ref lc),y4,some (.ref lg),some (.int ((at':Int) + 1)),y7,y8,y9]=[some (V.ref g0),some (.ref kp),some (.int d),some (.ref lc),z4,some (.ref lg),some (.int (a2:Int)),z7,z8,z9]∧Same H J∧J lc=some (.lst (cs.map V.int))∧J lg=some (.lst (natV gn'))∧cs.length=N∧(∀ q,q < N->cs.getD q 0=((Peel.deg (t2s ts ks) gn' q:Nat):Int)) ∧
   Peel.Good N gn'∧Peel.run N (t2s ts ks) d (N - gn'.length) gn'=Peel.gone N (t2s ts ks) d∧a2≤N∧(∀ q,q < a2->Peel.may (t2s ts ks) d gn' q=false)∧m'=(N - gn'.length) * (N + 1) + (N - a2):=fun hm=>by
   refine⟨(N - gn.length) * (N + 1) + (N - (at' + 1)),by omega,gn,at' + 1,cs,y4,y7,y8,y9,rfl,sm,hc,hgn,lc',hd,gd,er,aN',fun q hq=>?_,rfl⟩
   rcases Nat.lt_or_ge q at' with z | z
   ·exact low q z
   ·have:q=at':=by omega
    subst this;exact hm
  refine⟨_,rfl,_,rfl,lg,_,rfl,.inl (SqL.of hgn),rfl,flat_nat gn,_,rfl,?_⟩
  show if inV (V.int (at':Int)) (natV gn)=true then _ else _
  rw[inV_nat (Int.natCast_nonneg _),Int.toNat_natCast]
  refine ite2 (fun c1=>?_) (fun c1=>?_)
  ·refine⟨_,rfl,_,_,rfl,rfl,on ?_⟩
   have:=of_decide_eq_true c1
   unfold Peel.may;simp [this]
  ·have na:at' ∉ gn:=of_decide_eq_false (Bool.eq_false_iff.mpr c1)
   refine⟨_,rfl,_,rfl,lc,_,_,_,rfl,rfl,SqL.of hc,int_at (Int.natCast_nonneg _) (by omega),_,rfl,_,_,rfl,rfl,_,rfl,ite2 (fun c2=>?_) (fun c2=>?_)⟩
   ·refine⟨_,rfl,_,_,rfl,rfl,on ?_⟩
    have z:=of_decide_eq_true c2
    rw[Int.toNat_natCast,hd at' aN'] at z
    unfold Peel.may
    rw[decide_eq_false (by omega),Bool.and_false]
   ·have z:=of_decide_eq_false (Bool.eq_false_iff.mpr c2)
    rw[Int.toNat_natCast,hd at' aN'] at z
    have my:Peel.may (t2s ts ks) d gn at'=true:=by
     unfold Peel.may
     rw[decide_eq_true (by omega),Bool.and_true];simpa using na
    have nx:=Peel.next_of aN' my low
    have lg':(natV gn).length=gn.length:=by unfold natV;rw[List.length_map]
    have gl:=gd.len
    refine⟨_,rfl,.inl ⟨rfl,_,SqL.of hgn⟩,_,rfl,lg,_,_,rfl,rfl,hgn,by omega,fun K1 b1 v1=>?_⟩
    have s1:Same H K1:=fun b o e=>b1 _ _ (ne_of_none e fg) (sm _ _ e)
    have hc1:=b1 _ _ nlg.symm hc
    have v1':K1 lg=some (.lst (natV (gn++[at']))):=by rw[v1];unfold natV;rw[List.map_append];rfl
    refine⟨_,rfl,kp,rfl,⟨_,SqT.of (s1 _ _ hkp)⟩,?_⟩
    refine for_tup (xs:=(keepI ks).map V.int) (fun i σ J=>∃ (cs:List Int) (y4 y7 y8 y9:Option V),σ=[some (.ref g0),some (.ref kp),some (.int d),some (.ref lc),y4,some (.ref lg),some (.int (at':Int)),y7,y8,y9]∧Same H J∧J lc=some (.lst (cs.map V.int))∧J lg=some (.lst (natV (gn++[at'])))∧cs.length=N∧∀ q,q < N->cs.getD q 0=((Peel.deg (t2s ts ks) gn q:Nat):Int) - ((((t2s ts ks).take i).countP (btw at' q):Nat):Int)) ⟨cs,_,_,_,_,rfl,s1,hc1,v1',lc',fun q hq=>by rw[hd q hq];simp⟩ (fun i σ J _ h=>?_) (fun i x σ J hx h=>?_) (fun σ J h=>?_)
    ·obtain⟨cs,y4,y7,y8,y9,rfl,sm,_⟩:=h
     exact SqT.of (sm _ _ hkp)
    ·obtain⟨cs,y4,y7,y8,y9,rfl,sm,hc,hgn,lc',hd⟩:=h
     obtain⟨k,hk,rfl⟩:=keep_at hx
     have hkl:k < ts.length:=ko.2 k (List.mem_of_getElem? hk)
     obtain⟨ta,hta,htie⟩:=tie_val hall hkl
     have tk:=ok.tie _ (tieAt_in hkl).2
     obtain⟨t,et⟩:∃ t,t=tieAt ts k:=⟨_,rfl⟩
     rw[← et] at htie tk
     refine⟨_,rfl,g0,_,_,_,rfl,rfl,SqT.of (sm _ _ hg0),rfl,_,rfl,g,_,_,_,rfl,rfl,SqT.of (sm _ _ hg),atI_toNat (Int.natCast_nonneg _) hta,ta,_,rfl,SqT.of (sm _ _ htie),rfl,_,_,rfl,_,_,rfl,_,_,rfl,rfl,?_⟩
     have dec:∀ (x y:Int),decide (V.int x=V.int y)=decide (x=y):=fun x y=>by
      by_cases e:x=y
      ·rw[decide_eq_true e,decide_eq_true (by rw[e])]
      ·rw[decide_eq_false e,decide_eq_false fun h=>e (by injection h)]
     refine⟨_,rfl,_,rfl,lc,_,_,_,rfl,rfl,SqL.of hc,int_at (by omega) (by omega),_,rfl,_,rfl,rfl,.inr ⟨_,rfl,_,_,rfl,rfl,_,rfl,_,rfl,lc,_,t.1,t.1.toNat,rfl,rfl,hc,ixN_nat (by omega) (by rw[List.length_map];omega),?_⟩⟩
     rw[set_bumpN]
     have sm2:Same H (upd J lc (.lst ((bump cs t.1.toNat (-(if decide (V.int t.2.1=V.int (at':Int))=true then 1 else 0))).map V.int))):=fun b o e=>by rw[upd_ne (ne_of_none e fc)];exact sm _ _ e
     have hc2:upd J lc (.lst ((bump cs t.1.toNat (-(if decide (V.int t.2.1=V.int (at':Int))=true then 1 else 0))).map V.int)) lc=some _:=upd_same
     have hgn2:upd J lc (.lst ((bump cs t.1.toNat (-(if decide (V.int t.2.1=V.int (at':Int))=true then 1 else 0))).map V.int)) lg=some (.lst (natV (gn++[at']))):=by rw[upd_ne nlg];exact hgn
     generalize upd J lc (.lst ((bump cs t.1.toNat (-(if decide (V.int t.2.1=V.int (at':Int))=true then 1 else 0))).map V.int))=J' at sm2 hc2 hgn2
     have lc2:=bump_len cs t.1.toNat (-(if decide (V.int t.2.1=V.int (at':Int))=true then 1 else 0))
     refine⟨_,rfl,_,rfl,lc,_,_,_,rfl,rfl,SqL.of hc2,int_at (by omega) (by omega),_,rfl,_,rfl,rfl,.inr ⟨_,rfl,_,_,rfl,rfl,_,rfl,_,rfl,lc,_,t.2.1,t.2.1.toNat,rfl,rfl,hc2,ixN_nat (by omega) (by rw[List.length_map];omega),?_⟩⟩
     rw[set_bumpN]
     refine⟨_,_,_,_,_,rfl,fun b o e=>by rw[upd_ne (ne_of_none e fc)];exact sm2 _ _ e,upd_same,by rw[upd_ne nlg];exact hgn2,by rw[bump_len,bump_len];exact lc',fun q hq=>?_⟩
     rw[bump_at (by rw[bump_len];omega),bump_at (by omega),hd q hq,t2s_at hk,← et,dec,dec]
     rw[List.countP_append,List.countP_cons,List.countP_nil]
     have c3:decide (t.1=(at':Int))=(t.1.toNat == at'):=by rw[Bool.eq_iff_iff];simp;omega
     have c4:decide (t.2.1=(at':Int))=(t.2.1.toNat == at'):=by rw[Bool.eq_iff_iff];simp;omega
     rw[c3,c4]
     exact cnt_step (by omega) _ _
    ·obtain⟨cs,y4,y7,y8,y9,rfl,sm,hc,hgn,lc',hd⟩:=h
     rw[lk,List.take_length] at hd
     have gd':=gd.snoc aN' na
     have gl':=gd'.len
     rw[List.length_append,List.length_singleton] at gl'
     refine⟨(N - (gn++[at']).length) * (N + 1) + (N - 0),?_,gn++[at'],0,cs,_,_,_,_,rfl,sm,hc,hgn,lc',fun q hq=>?_,gd',by rw[← Peel.run_next gd nx];exact er,Nat.zero_le _,fun q h=>by omega,rfl⟩
     ·rw[List.length_append,List.length_singleton]
      have:N - gn.length=(N - (gn.length + 1)) + 1:=by omega
      rw[this,Nat.add_mul];omega
     ·rw[hd q hq]
      have:=Peel.deg_next ne2 na q (t2s ts ks) ne2
      rw[this]
      show (((_ + (t2s ts ks).countP (btw at' q):Nat)):Int) - _=_
      omega
 ·have aN2:at'=N:=by have:=of_decide_eq_false (Bool.eq_false_iff.mpr c);omega
  have nn:=Peel.next_none (n:=N) (ts:=t2s ts ks) (d:=d) (g:=gn) (by rw[← aN2];exact low)
  have eg:=Peel.gone_of nn er
  refine⟨_,rfl,lg,_,rfl,hgn,fun ta K1 T1 u1 v1=>?_⟩
  refine⟨_,rfl,g0,_,_,_,rfl,rfl,SqT.of (T1 _ _ (sm _ _ hg0)),rfl,n,rfl,by omega,by omega,?_⟩
  refine comp_selR (n:=n.toNat) (lo:=0) (fun σ'=>∃ o,σ'=[o,some (.ref lg)]) (fun i=>if (!gn.contains i)=true then some (V.int (i:Int)) else none) (by omega) (by exact⟨none,rfl⟩) (fun i σ' H' hi s2 sg C M hC hM=>?_) (fun L H2 hL s2 hH=>?_)
  ·obtain⟨o,rfl⟩:=sg
   refine⟨_,rfl,_,rfl,lg,_,rfl,.inl (SqL.of (s2 _ _ (T1 _ _ hgn))),rfl,flat_nat gn,_,rfl,?_⟩
   show if (!inV (V.int (0 + (i:Int))) (natV gn))=true then _ else _
   rw[inV_nat (by omega),show (0 + (i:Int)).toNat=i by omega]
   have ec:decide (i ∈ gn)=gn.contains i:=by rw[List.contains_eq_mem]
   rw[ec]
   refine ite2 (fun c1=>⟨_,rfl,hC _ _ _ ⟨_,rfl⟩ (Same.refl _) ?_⟩) (fun c1=>hM _ _ ⟨_,rfl⟩ (Same.refl _) (by rw[if_neg c1]))
   rw[if_pos c1];congr 2;omega
  ·rw[sel_nats] at hH
   refine⟨L,_,rfl,hH,fun tb K2 T2 u2 v2=>⟨(by show 2≤1000;decide),fun p K3 T3 u3 v3=>?_⟩⟩
   rw[eg] at v1
   have v2':K2 tb=some (.tup (natV (leftN n.toNat (Peel.gone N (t2s ts ks) d)))):=by rw[v2,← eg];rfl
   rw[hN] at v1 v2'
   exact q p ta tb K3 (sm.trans (T1.trans (s2.trans (T2.trans T3)))) v3 (T3 _ _ (T2 _ _ (s2 _ _ v1))) (T3 _ _ v2')
theorem ok_tie_between (T:Bi mg) (D:DefOk K mg "tie_between" s_tie_between ["web","a","b"]):Ok P w K mg base 1 "tie_between" ["web","a","b"] (spTB K):=by
 refine mk_ok (k:=0) D sc_tie_between (fun vs H Q E h=>?_) (fun f cdv A outer s H vs Q E hr h=>?_)
 ·obtain⟨n,ts,wv,u,v,rfl,_⟩:=h
  rfl
 obtain⟨n,ts,wv,u,v,rfl,isw,few60,q⟩:=h
 have nd:=sc_tie_between.nd
 have units:∀ {x:Nat},x≤3->(A.deeper (envOfC "tie_between" (defScope s_tie_between) s.heap.objs.size f cdv)).units + x < cLine:=fun {x} hu=>by have:=hr.units;omega
 obtain⟨g0,g,ws,rfl,hg0,hg,hall,hlw⟩:=web_parts isw
 refine⟨_,(pss_cons (ps_set (i:=3) nd rfl (Or.inl rfl) (pe_tupG (pa_cons (pe_callB (call_min2 rfl) rfl T.z_min (by decide +kernel) (pa_cons (pv 1) (pa_cons (pv 2) pa_nil))) (pa_cons (pe_callB (call_max2 rfl) rfl T.z_max (by decide +kernel) (pa_cons (pv 1) (pa_cons (pv 2) pa_nil))) pa_nil)))) (pss_cons (ps_for PassesOwn.never rfl (pi_enum true rfl T.z_enumerate (pa_cons (pe_ix ix_tup (pv 0) pe_int (fun _ _=>rfl)) pa_nil)) (pg_tup (n:=2) rfl (pgs_cons (pg_name (i:=4) nd rfl (Or.inl rfl)) (pgs_cons (pg_name (i:=5) nd rfl (Or.inl rfl)) pgs_nil))) (pss_one (ps_if (pt_cmpR op_eqD (pe_slice sl_tupA (pv 5) po_none (po_some pe_int)) (pv 3) (nomark _)) (pss_one (ps_ret (pv 4))) pss_nil))) (pss_one (ps_ret pe_non)))),?_⟩
 refine⟨_,rfl,_,rfl,_,_,rfl,_,rfl,_,rfl,_,_,rfl,(by show 2≤1000;decide),fun te J1 S1 f1 e1=>?_⟩
 have eMin:(if (v:Int) < (u:Int) then (v:Int) else u)=min (u:Int) v:=by split <;> omega
 have eMax:(if (v:Int) > (u:Int) then (v:Int) else u)=max (u:Int) v:=by split <;> omega
 rw[eMin,eMax] at e1
 refine⟨_,rfl,g0,_,_,_,rfl,rfl,SqT.of (S1 _ _ hg0),rfl,g,rfl,⟨ws,SqX.of (S1 _ _ hg)⟩,?_⟩
 refine⟨fun i m σ J=>m=ts.length - i∧i≤ts.length∧(∃ y4 y5:Option V,σ=[some (.ref g0),some (.int (u:Int)),some (.int (v:Int)),some (.ref te),y4,y5])∧Same J1 J∧∀ k,k < i->isTB ts u v k=false,⟨_,rfl,Nat.zero_le _,⟨none,none,rfl⟩,Same.refl _,fun k hk=>(by omega)⟩,?_⟩
 rintro i m σ J ⟨rfl,hi,⟨y4,y5,rfl⟩,sm,pre⟩
 have sH:=S1.trans sm
 have sq:SqX true K J g ws:=SqX.of (sH _ _ hg)
 by_cases hlt:i < ts.length
 ·refine .inr ⟨⟨ws,ws[i]'(by omega),sq,by simp [show i < ws.length by omega]⟩,fun σ' J'=>∃ m',m' < ts.length - i∧(m'=ts.length - (i + 1)∧i + 1≤ts.length∧(∃ y4 y5:Option V,σ'=[some (.ref g0),some (.int (u:Int)),some (.int (v:Int)),some (.ref te),y4,y5])∧Same J1 J'∧∀ k,k < i + 1->isTB ts u v k=false),fun _ _ h=>h,fun x J' hy=>?_⟩
  obtain⟨T',y,hT,rfl,rfl,ey⟩:=hy
  have hyi:=ey ws sq
  obtain⟨ta,hta,htie⟩:=tie_val hall hlt
  rw[hta] at hyi
  cases hyi
  have S2:=same_new (o:=.tup [.int (i:Nat),.ref ta]) hT
  have htie':=S2 _ _ (sH _ _ htie)
  refine⟨T',_,rfl,SqT.of upd_same,rfl,_,_,rfl,_,_,rfl,rfl,?_⟩
  refine⟨_,rfl,_,rfl,ta,_,rfl,htie',fun tc J3 S3 e3=>?_⟩
  have e3':J3 tc=some (.tup (([(tieAt ts i).1,(tieAt ts i).2.1]:List Int).map V.int)):=e3
  have e1':J3 te=some (.tup (([min (u:Int) v,max (u:Int) v]:List Int).map V.int)):=S3 _ _ (S2 _ _ (sm _ _ e1))
  refine⟨_,rfl,.tuple (([(tieAt ts i).1,(tieAt ts i).2.1]:List Int).map .int),.tuple (([min (u:Int) v,max (u:Int) v]:List Int).map .int),⟨tc,_,rfl,e3',IsAll.ints _⟩,⟨te,_,rfl,e1',IsAll.ints _⟩,lay_ints _,lay_ints _,?_,_,rfl,?_⟩
  ·have d1:=deep_ints [(tieAt ts i).1,(tieAt ts i).2.1]
   have d2:PyData.depth (.tuple (([(tieAt ts i).1,(tieAt ts i).2.1]:List Int).map .int))=PyData.depthAll (([(tieAt ts i).1,(tieAt ts i).2.1]:List Int).map .int) + 1:=rfl
   exact units (Nat.le_trans (Nat.min_le_left _ _) (by rw[d2];omega))
  have eq:PyData.eqv (.tuple (([(tieAt ts i).1,(tieAt ts i).2.1]:List Int).map .int)) (.tuple (([min (u:Int) v,max (u:Int) v]:List Int).map .int))=isTB ts u v i:=pair_eqv _ _ _ _
  rw[eq]
  have SS:=S2.trans S3
  refine ite2 (fun c=>?_) (fun c=>?_)
  ·have et:tbN ts u v=some i:=by
    unfold tbN
    refine List.find?_range_eq_some.mpr ⟨c,List.mem_range.mpr hlt,fun j hj=>?_⟩
    rw[pre j hj];rfl
   have q1:=q J3 (sH.trans SS)
   rw[et] at q1
   exact⟨_,rfl,q1⟩
  ·refine⟨ts.length - (i + 1),by omega,rfl,hlt,⟨_,_,rfl⟩,sm.trans SS,fun k hk=>?_⟩
   by_cases z:k=i
   ·rw[z];exact Bool.eq_false_iff.mpr c
   ·exact pre k (by omega)
 ·have e:i=ts.length:=by omega
  subst e
  refine .inl ⟨⟨ws,sq,by omega⟩,?_⟩
  have et:tbN ts u v=none:=by
   unfold tbN
   refine List.find?_eq_none.mpr fun k hk=>?_
   rw[pre k (List.mem_range.mp hk)];exact Bool.false_ne_true
  have q1:=q J sH
  rw[et] at q1
  exact q1
def spPlace (K:PySem.W.Frag):Sp:=fun vs H Q _=>∃ (n:Int) (ts:List Tie) (wv:V) (i:Int),vs=[wv,.int i]∧Is K H (webD n ts) wv∧∀ H',Same H H'->Q (.bl (decide (0≤i) && decide (i < n))) H'
def placesB (n:Int) (ns:List Int):Bool:=ns.all fun i=>decide (0≤i) && decide (i < n)
def spUnlike (K:PySem.W.Frag):Sp:=fun vs H Q _=>∃ (n:Int) (ts:List Tie) (wv:V) (p:Addr) (ns:List Int),vs=[wv,.ref p]∧Is K H (webD n ts) wv∧IntT H p ns∧∀ H',Same H H'->Q (.bl (placesB n ns && decide ns.Nodup)) H'
theorem ok_is_place (T:Bi mg) (D:DefOk K mg "is_place" s_is_place ["web","thing"]) (O_is_whole:Ok P w K mg base 1 "is_whole" ["thing"] (spD1 K (fun _=>True) wholeB)):Ok P w K mg base 2 "is_place" ["web","thing"] (spPlace K):=by
 refine mk_ok (k:=1) D sc_is_place (fun vs H Q E h=>?_) (fun f cdv A outer s H vs Q E hr h=>?_)
 ·obtain⟨n,ts,wv,i,rfl,_⟩:=h
  rfl
 obtain⟨n,ts,wv,i,rfl,isw,q⟩:=h
 have nd:=sc_is_place.nd
 obtain⟨g0,g,ws,rfl,hg0,_⟩:=web_parts isw
 refine⟨_,(pss_one (ps_ret (pe_and (pe_callD O_is_whole hr rfl (pa_cons (pv 1) pa_nil)) (pe_one (pe_chain op_le op_lt pe_int (pv 1) (pe_ix ix_tup (pv 0) pe_int (fun _ _=>rfl))))))),?_⟩
 refine⟨_,rfl,.int i,.int i,rfl,rfl,trivial,fun H1 s1=>⟨_,rfl,iteT ?_⟩⟩
 have q0:=q H1 s1
 refine⟨_,rfl,_,_,rfl,rfl,_,rfl,ite2 (fun c=>?_) (fun c=>?_)⟩
 ·rw[show decide (0≤i)=true from c,Bool.true_and] at q0
  exact⟨_,rfl,g0,_,_,_,rfl,rfl,SqT.of (s1 _ _ hg0),rfl,_,_,rfl,rfl,q0⟩
 ·rw[show decide (0≤i)=false from Bool.eq_false_iff.mpr c,Bool.false_and] at q0
  exact q0
theorem ok_are_unlike_places (T:Bi mg) (D:DefOk K mg "are_unlike_places" s_are_unlike_places ["web","thing"]) (O_is_place:Ok P w K mg base 2 "is_place" ["web","thing"] (spPlace K)):Ok P w K mg base 3 "are_unlike_places" ["web","thing"] (spUnlike K):=by
 refine mk_ok (k:=2) D sc_are_unlike_places (fun vs H Q E h=>?_) (fun f cdv A outer s H vs Q E hr h=>?_)
 ·obtain⟨n,ts,wv,p,ns,rfl,_⟩:=h
  rfl
 obtain⟨n,ts,wv,p,ns,rfl,isw,it,q⟩:=h
 have nd:=sc_are_unlike_places.nd
 have lm:(ns.map V.int).length=ns.length:=List.length_map _
 have l1000:=it.2
 refine⟨_,(pss_cons (ps_if (PW.pt (pw_or (pt_not (pt_val (pe_callB (call_isi (n:="tuple")) rfl T.z_isinstance (by decide +kernel) (pa_cons (pv 1) (pa_cons (pe_bltn (v:=.ty "tuple") rfl T.z_tuple (by decide +kernel) rfl) pa_nil))))) (pw_or1 (pt_not (pt_val (pe_callB (call_all rfl) rfl T.z_all (by decide +kernel) (pa_cons (pe_comp (N:=["web","thing"]) (sc0:=defScope s_are_unlike_places) (own:=["part"]) (fr:=["web"]) (js:=[0]) rfl (pi_tup (pv 1)) (fun _ _ _ _=>(pg_name (i:=0) (by show List.Nodup [("part":Str),("web":Str)];decide +kernel) rfl (Or.inl rfl))) (fun _ _ _ _=>pts_nil) (fun _ _ _ _=>(pe_callD O_is_place hr rfl (pa_cons (pv 1) (pa_cons (pv 0) pa_nil))))) pa_nil))))))) (pss_one (ps_ret pe_bl)) pss_nil) (pss_one (ps_ret (pe_cmpR op_eq (pe_callB call_lenS rfl T.z_len (by decide +kernel) (pa_cons (pe_callTy (call_setT rfl) rfl T.z_set (by decide +kernel) (pa_cons (pv 1) pa_nil)) pa_nil)) (pe_callB call_len_seq rfl T.z_len (by decide +kernel) (pa_cons (pv 1) pa_nil)) (nomark _))))),?_⟩
 refine⟨_,rfl,_,_,_,rfl,TyOf.tup it.1,rfl,_,rfl,iteF ?_⟩
 refine⟨_,rfl,p,rfl,⟨_,SqT.of it.1⟩,?_⟩
 refine comp_tup it.1 (fun σ'=>∃ o,σ'=[o,some wv]) (fun i v _=>v=.bl ((fun i=>decide (0≤ns.getD i 0) && decide (ns.getD i 0 < n)) i)) (by omega) (by exact⟨none,rfl⟩) (fun _ _ _ _ _ h=>h) (fun i x σ' H' hx s2 sg C hC=>?_) (fun L ys H2 hL s2 hH hly hys=>?_)
 ·obtain⟨o,rfl⟩:=sg
  rw[List.getElem?_map] at hx
  obtain⟨j,hj,rfl⟩:=Option.map_eq_some_iff.mp hx
  have ej:ns.getD i 0=j:=by rw[List.getD_eq_getElem?_getD,hj];rfl
  refine⟨_,rfl,_,rfl,n,ts,wv,j,rfl,Is.same s2 _ isw,fun H5 s5=>hC _ _ _ ⟨_,rfl⟩ s5 ?_⟩
  show V.bl (decide (0≤j) && decide (j < n))=V.bl (decide (0≤ns.getD i 0) && decide (ns.getD i 0 < n))
  rw[ej]
 ·refine⟨L,_,rfl,SqL.of (by rw[hH,bools_of (hly.trans lm) hys]),_,rfl,?_⟩
  have eall:((List.range ns.length).map fun i=>decide (0≤ns.getD i 0) && decide (ns.getD i 0 < n)).all id=placesB n ns:=by
   have z:=congrArg (List.map fun j:Int=>decide (0≤j) && decide (j < n)) (L3.range_getD ns 0)
   rw[List.map_map] at z
   have z':((List.range ns.length).map fun i=>decide (0≤ns.getD i 0) && decide (ns.getD i 0 < n))=ns.map fun j=>decide (0≤j) && decide (j < n):=z
   rw[z',List.all_map];rfl
  have q1:∀ {J:Hp},Same H2 J->Q (.bl (placesB n ns && decide ns.Nodup)) J:=fun S=>q _ (s2.trans S)
  refine iteB2 (fun c=>?_) (fun c=>?_)
  ·rw[eall] at c
   refine⟨_,rfl,p,ns,rfl,s2 _ _ it.1,l1000,fun u J S f e=>?_⟩
   refine⟨u,_,_,rfl,e,_,rfl,p,_,rfl,.inr (SqT.of (S _ _ (s2 _ _ it.1))),rfl,?_⟩
   have q2:=q1 S
   rw[c,Bool.true_and] at q2
   have ed:decide (V.int ((HT.setN ns ns.length:Nat):Int)=V.int (((ns.map V.int).length:Nat):Int))=decide ns.Nodup:=by
    rw[lm]
    by_cases z:ns.Nodup
    ·rw[decide_eq_true z,(setN_nodup ns).mpr z,decide_eq_true rfl]
    ·rw[decide_eq_false z]
     exact decide_eq_false fun y=>z ((setN_nodup ns).mp (by injection y with y;omega))
   rw[ed];exact q2
  ·rw[eall] at c
   have q2:=q1 (Same.refl _)
   rw[c,Bool.false_and] at q2
   exact q2
theorem inV_non (ks:List Nat):inV .non (natV ks)=false:=by
 unfold inV natV
 induction ks with
 | nil=>rfl
 | cons k ks ih=>rw[List.map_cons,List.any_cons,ih];rfl
theorem ok_ties_alongO (T:Bi mg) (D:DefOk K mg "ties_along" s_ties_along ["web","places"]) (O_tie_between:Ok P w K mg base 1 "tie_between" ["web","a","b"] (spTB K)):Ok P w K mg base 2 "ties_along" ["web","places"] (spAlongO K):=by
 refine mk_ok (k:=1) D sc_ties_along (fun vs H Q E h=>?_) (fun f cdv A outer s H vs Q E hr h=>?_)
 ·obtain⟨n,ts,wv,t,ws,rfl,_⟩:=h
  rfl
 obtain⟨n,ts,wv,t,ws,rfl,isw,few60,ht,l24,q⟩:=h
 have nd:=sc_ties_along.nd
 have lenW:(natV ws).length=ws.length:=by unfold natV;rw[List.length_map]
 have ecut:cutV (natV ws) (some 1) none=natV (ws.drop 1):=by
  unfold cutV
  have h1:HT.sIx (natV ws).length (natV ws).length none=(natV ws).length:=rfl
  rw[h1]
  by_cases z:ws=[]
  ·subst z;rfl
  ·have pos:=List.length_pos_iff.mpr z
   have h0:HT.sIx (natV ws).length 0 (some 1)=1:=by
    unfold HT.sIx
    simp
    omega
   rw[h0,List.take_of_length_le (by rw[List.length_drop];exact Nat.le_refl _)]
   unfold natV
   rw[List.map_drop]
 refine⟨_,(pss_one (ps_ret (pe_comp (N:=["web","places"]) (sc0:=defScope s_ties_along) (own:=["one","other"]) (fr:=["web"]) (js:=[0]) rfl (pi_zip true true rfl T.z_zip (pa_cons (pv 1) (pa_cons (pe_slice sl_tupA (pv 1) (po_some pe_int) po_none) pa_nil))) (fun _ _ _ _=>(pg_tupC (n:=2) rfl (pgs_cons (pg_name (i:=0) (by show List.Nodup [("one":Str),("other":Str),("web":Str)];decide +kernel) rfl (Or.inl rfl)) (pgs_cons (pg_name (i:=1) (by show List.Nodup [("one":Str),("other":Str),("web":Str)];decide +kernel) rfl (Or.inl rfl)) pgs_nil)))) (fun _ _ _ _=>pts_nil) (fun _ _ _ _=>(pe_callD O_tie_between hr rfl (pa_cons (pv 2) (pa_cons (pv 0) (pa_cons (pv 1) pa_nil)))))))),?_⟩
 refine⟨_,rfl,_,rfl,_,rfl,t,_,rfl,ht,fun t2 J1 S1 e1=>?_⟩
 rw[ecut] at e1
 refine⟨t,t2,rfl,⟨_,SqX.of (t:=true) (S1 _ _ ht)⟩,⟨_,SqX.of (t:=true) e1⟩,?_⟩
 have lenD:(natV (ws.drop 1)).length=ws.length - 1:=by unfold natV;rw[List.length_map,List.length_drop]
 refine comp_zip (t1:=true) (t2:=true) (xs:=natV ws) (zs:=natV (ws.drop 1)) (S1 _ _ ht) e1 (fun σ'=>∃ o1 o2,σ'=[o1,o2,some wv]) (fun i x _=>x=oa (tbN ts (ws.getD i 0) (ws.getD (i + 1) 0))) (by omega) (by exact⟨none,none,rfl⟩) (fun _ _ _ _ _ h=>h) (fun i x z U σ' H' hxi hzi s2 hU sg C hC=>?_) (fun L ys H2 hL s2 hH hly hys=>?_)
 ·obtain⟨o1,o2,rfl⟩:=sg
  obtain⟨u,hu,rfl⟩:=nat_at hxi
  obtain⟨v,hv,rfl⟩:=nat_at hzi
  rw[List.getElem?_drop,Nat.add_comm] at hv
  have eu:ws.getD i 0=u:=by rw[List.getD_eq_getElem?_getD,hu];rfl
  have ev:ws.getD (i + 1) 0=v:=by rw[List.getD_eq_getElem?_getD,hv];rfl
  refine⟨U,_,rfl,SqT.of upd_same,rfl,_,_,rfl,_,_,rfl,rfl,?_⟩
  have SU:=same_new (o:=.tup [V.int (u:Int),.int (v:Int)]) hU
  refine⟨_,rfl,_,rfl,_,rfl,n,ts,wv,u,v,rfl,Is.same (S1.trans (s2.trans SU)) _ isw,few60,fun H5 s5=>hC _ _ _ ⟨_,_,rfl⟩ (SU.trans s5) ?_⟩
  rw[eu,ev]
 ·refine q L H2 (S1.trans s2) ?_
  rw[hH]
  refine congrArg (fun z=>some (HO.lst z)) (List.ext_getElem? fun i=>?_)
  have hl2:ys.length=ws.length - 1:=by rw[hly,lenW,lenD];omega
  unfold alongO
  rw[List.getElem?_map]
  by_cases hi:i < ws.length - 1
  ·have e:ys[i]?=some ys[i]:=List.getElem?_eq_getElem (by omega)
   rw[e,hys i _ e,List.getElem?_range hi];rfl
  ·rw[List.getElem?_eq_none (by omega),List.getElem?_eq_none (by rw[List.length_range];omega)];rfl
theorem ok_ring_rightB (T:Bi mg) (D:DefOk K mg "ring_right" s_ring_right ["web","keep","ring"]) (O_are_unlike_places:Ok P w K mg base 3 "are_unlike_places" ["web","thing"] (spUnlike K)) (O_ties_along:Ok P w K mg base 3 "ties_along" ["web","places"] (spAlongO K)):Ok P w K mg base 4 "ring_right" ["web","keep","ring"] (spRingB K):=by
 refine mk_ok (k:=3) D sc_ring_right (fun vs H Q E h=>?_) (fun f cdv A outer s H vs Q E hr h=>?_)
 ·obtain⟨n,ts,ks,wv,kv,t,ns,rfl,_⟩:=h
  rfl
 obtain⟨n,ts,ks,wv,kv,t,ns,rfl,wk,ht,l60,q⟩:=h
 have nd:=sc_ring_right.nd
 obtain⟨isw,ok,isk,ko⟩:=wk
 obtain⟨kp,rfl,hkp⟩:=keep_parts isk
 rw[← natV_keep] at hkp
 refine⟨_,(pss_cons (ps_if (PW.pt (pw_or (pt_not (pt_val (pe_callD O_are_unlike_places hr rfl (pa_cons (pv 0) (pa_cons (pv 2) pa_nil))))) (pw_or1 (pt_cmpR op_lt (pe_callB call_len_seq rfl T.z_len (by decide +kernel) (pa_cons (pv 2) pa_nil)) pe_int (nomark _))))) (pss_one (ps_ret pe_bl)) pss_nil) (pss_cons (ps_if (PW.pt (pw_or (pt_cmpR op_ne (pe_ix ix_tup (pv 2) pe_int (fun _ _=>rfl)) (pe_callB (call_minTu rfl) rfl T.z_min (by decide +kernel) (pa_cons (pv 2) pa_nil)) (nomark _)) (pw_or1 (pt_cmpR op_gt (pe_ix ix_tup (pv 2) pe_int (fun _ _=>rfl)) (pe_ix ix_tup (pv 2) (pe_un un_neg pe_int) (fun _ _=>rfl)) (nomark _))))) (pss_one (ps_ret pe_bl)) pss_nil) (pss_one (ps_ret (pe_callB (call_all rfl) rfl T.z_all (by decide +kernel) (pa_cons (pe_comp (N:=["web","keep","ring"]) (sc0:=defScope s_ring_right) (own:=["tie"]) (fr:=["keep"]) (js:=[1]) rfl (pi_list (pe_callD O_ties_along hr rfl (pa_cons (pv 0) (pa_cons (pe_op op_catA (pv 2) (pe_slice sl_tupA (pv 2) po_none (po_some pe_int))) pa_nil)))) (fun _ _ _ _=>(pg_name (i:=0) (by show List.Nodup [("tie":Str),("keep":Str)];decide +kernel) rfl (Or.inl rfl))) (fun _ _ _ _=>pts_nil) (fun _ _ _ _=>(pe_cmpR op_in_seqC (pv 0) (pv 1) (by with_unfolding_all rfl)))) pa_nil)))))),?_⟩
 refine⟨_,rfl,_,rfl,n,ts,wv,t,ns,rfl,isw,⟨ht,by omega⟩,fun H1 s1=>?_⟩
 have pl:placesB n ns=inB n ns:=rfl
 rw[pl]
 by_cases c1:(inB n ns && decide ns.Nodup)=true
 ·rw[c1]
  refine⟨_,rfl,iteF ⟨_,rfl,t,_,rfl,.inr (SqT.of (s1 _ _ ht)),_,_,rfl,rfl,_,rfl,ite2 (fun c=>?_) (fun c=>?_)⟩⟩
  ·have:=of_decide_eq_true c
   rw[List.length_map] at this
   have e:ringB n ts ks ns=false:=by unfold ringB;rw[c1,decide_eq_false (by omega)];rfl
   rw[← e];exact q H1 s1
  have len3:3≤ns.length:=by
   have z:¬ (((ns.map V.int).length:Nat):Int) < 3:=fun z=>c (decide_eq_true z)
   rw[List.length_map] at z;omega
  obtain⟨cI,cN⟩:=(Bool.and_eq_true _ _).mp c1
  have ndn:=of_decide_eq_true cN
  have inn:∀ i ∈ ns,0≤i∧i < n:=fun i hi=>by
   have:=List.all_eq_true.mp cI i hi
   obtain⟨z1,z2⟩:=(Bool.and_eq_true _ _).mp this
   exact⟨of_decide_eq_true z1,of_decide_eq_true z2⟩
  have g:∀ i,i < ns.length->(ns.map V.int)[i]?=some (.int (ns.getD i 0)):=fun i hi=>by
   rw[List.getElem?_map,List.getD_eq_getElem?_getD,List.getElem?_eq_getElem hi];rfl
  have at0:atI (ns.map V.int) 0=some (.int (ns.getD 0 0)):=atI_toNat (Int.le_refl 0) (g 0 (by omega))
  have at1:atI (ns.map V.int) 1=some (.int (ns.getD 1 0)):=atI_toNat (by decide) (g 1 (by omega))
  have at9:atI (ns.map V.int) (-1)=some (.int (ns.getD (ns.length - 1) 0)):=by
   unfold atI ixN
   rw[if_neg (by decide),if_pos (by rw[List.length_map];omega)]
   show (ns.map V.int)[(-1 + ((ns.map V.int).length:Int)).toNat]?=_
   rw[show (-1 + ((ns.map V.int).length:Int)).toNat=ns.length - 1 by rw[List.length_map];omega]
   exact g _ (by omega)
  have no:turnB ns=false->ringB n ts ks ns=false:=fun z=>by unfold ringB;rw[c1,decide_eq_true len3,z];rfl
  refine⟨_,rfl,t,_,_,_,rfl,rfl,SqT.of (s1 _ _ ht),at0,_,rfl,t,ns,rfl,s1 _ _ ht,(fun z=>by rw[z] at len3;simp at len3),fun b hb least=>⟨rfl,_,rfl,?_⟩⟩
  by_cases z:ns.getD 0 0=b
  ·have mn:ns.all (fun x=>decide (ns.getD 0 0≤x))=true:=List.all_eq_true.mpr fun x hx=>decide_eq_true (by rw[z];exact least x hx)
   refine iteNS (by rw[z]) ?_
   refine⟨_,rfl,t,_,_,_,rfl,rfl,SqT.of (s1 _ _ ht),at1,_,rfl,_,rfl,t,_,_,_,rfl,rfl,SqT.of (s1 _ _ ht),at9,_,_,rfl,rfl,_,rfl,ite2 (fun c=>?_) (fun c=>?_)⟩
   ·have c':=of_decide_eq_true c
    rw[← no (by unfold turnB;rw[mn,decide_eq_false (by omega)];rfl)]
    exact q H1 s1
   have tr:turnB ns=true:=by
    have z:¬ (ns.getD 1 0 > ns.getD (ns.length - 1) 0):=fun z=>c (decide_eq_true z)
    unfold turnB;rw[mn,decide_eq_true (by omega)];rfl
   have eR:ringB n ts ks ns=roundB ts ks ns:=by unfold ringB;rw[c1,decide_eq_true len3,tr];rfl
   obtain⟨ws,ew⟩:∃ ws,ws=ns.map Int.toNat:=⟨_,rfl⟩
   have lw:ws.length=ns.length:=by rw[ew,List.length_map]
   have en:ns=keepI ws:=by
    rw[ew];unfold keepI;rw[List.map_map]
    refine (List.map_id ns).symm.trans (List.map_congr_left fun x hx=>?_)
    have:=(inn x hx).1
    show x=((x.toNat:Nat):Int)
    omega
   have nv:ns.map V.int=natV ws:=by rw[natV_keep,← en]
   have wnd:ws.Nodup:=by
    rw[en] at ndn
    unfold keepI at ndn
    exact (List.pairwise_map.mp ndn).imp fun h e=>h (by rw[e])
   have w24:ws.length≤24:=by
    have:=nodup_few (n:=n.toNat) wnd fun p hp=>by
     have hm:(p:Int) ∈ ns:=by rw[en];unfold keepI;exact List.mem_map.mpr ⟨p,hp,rfl⟩
     have:=(inn _ hm).2;omega
    have:=ok.n24;omega
   rw[nv] at ht
   have c4:cutV (natV ws) none (some 1)=natV (ws.take 1):=by
    unfold cutV
    rw[HT.sIx_none,show HT.sIx (natV ws).length (natV ws).length (some 1)=min 1 (natV ws).length from HT.sIx_nat _ _ 1]
    unfold natV
    rw[List.length_map,Nat.min_eq_left (by omega),Nat.sub_zero,List.drop_zero,List.map_take]
   refine⟨_,rfl,_,rfl,_,rfl,_,rfl,t,_,rfl,s1 _ _ ht,fun p4 J4 S4 e4=>?_⟩
   rw[c4] at e4
   have s14:=s1.trans S4
   have lenN:∀ W:List Nat,(natV W).length=W.length:=fun W=>by unfold natV;rw[List.length_map]
   have t1:(ws.take 1).length=1:=by rw[List.length_take];omega
   refine⟨t,p4,_,_,rfl,rfl,s14 _ _ ht,e4,Nat.le_trans (show _≤1000 by rw[lenN,lenN];omega) (by decide),fun p5 J5 S5 e5=>?_⟩
   have e5':J5 p5=some (.tup (natV (ws++ws.take 1))):=by rw[e5];unfold natV;rw[← List.map_append]
   have s15:=s14.trans S5
   refine⟨n,ts,_,p5,ws++ws.take 1,rfl,Is.same s15 _ isw,ok.few,e5',by rw[List.length_append];omega,fun l J6 S6 e6=>?_⟩
   refine⟨l,rfl,⟨_,SqL.of e6⟩,?_⟩
   have lenA:(alongO ts (ws++ws.take 1)).length=ws.length:=by unfold alongO;rw[List.length_map,List.length_range,List.length_append];omega
   have s16:=s15.trans S6
   have vals:∀ i,i < ws.length->ns.getD i 0=((ws.getD i 0:Nat):Int)∧(ns++ns.take 1).getD (i + 1) 0=(((ws++ws.take 1).getD (i + 1) 0:Nat):Int):=fun i hi=>by
    have ga:∀ (W:List Nat) (j:Nat),j < W.length->(keepI W).getD j 0=((W.getD j 0:Nat):Int):=fun W j hj=>by
     unfold keepI
     rw[List.getD_eq_getElem?_getD,List.getElem?_map,List.getD_eq_getElem?_getD,List.getElem?_eq_getElem hj];rfl
    have ea:ns++ns.take 1=keepI (ws++ws.take 1):=by rw[en];unfold keepI;rw[← List.map_take,← List.map_append]
    exact⟨by rw[en];exact ga ws i hi,by rw[ea];exact ga _ _ (by rw[List.length_append];omega)⟩
   refine comp_lst e6 (fun σ'=>∃ o,σ'=[o,some (.ref kp)]) (fun i v _=>v=.bl ((fun i=>tiedB ts ks (ns.getD i 0) ((ns++ns.take 1).getD (i + 1) 0)) i)) (by omega) (by exact⟨none,rfl⟩) (fun _ _ _ _ _ h=>h) (fun i x σ' H' hx s2 sg C hC=>?_) (fun L ys H2 hL s2 hH hly hys=>?_)
   ·obtain⟨o,rfl⟩:=sg
    have hi:i < ws.length:=by rw[← lenA];exact (List.getElem?_eq_some_iff.mp hx).1
    have ex:x=oa (tbN ts (ws.getD i 0) ((ws++ws.take 1).getD (i + 1) 0)):=by
     have wa:(ws++ws.take 1).getD i 0=ws.getD i 0:=by rw[List.getD_eq_getElem?_getD,List.getElem?_append_left hi,List.getD_eq_getElem?_getD]
     unfold alongO at hx
     rw[List.getElem?_map,List.getElem?_range (by rw[List.length_append];omega)] at hx
     rw[← wa];exact (Option.some.inj hx).symm
    obtain⟨v1,v2⟩:=vals i hi
    refine⟨_,rfl,_,rfl,kp,_,rfl,.inr (SqT.of (s2 _ _ (s16 _ _ hkp))),(by rw[ex];cases tbN ts (ws.getD i 0) ((ws++ws.take 1).getD (i + 1) 0) <;> rfl),flat_nat ks,hC _ _ _ ⟨_,rfl⟩ (Same.refl _) ?_⟩
    show V.bl (inV x (natV ks))=V.bl _
    dsimp only
    rw[ex,v1,v2]
    unfold tiedB
    rw[Int.toNat_natCast,Int.toNat_natCast]
    cases tbN ts (ws.getD i 0) ((ws++ws.take 1).getD (i + 1) 0) with
    | none=>exact congrArg V.bl (inV_non ks)
    | some k=>show V.bl (inV (V.int (k:Int)) (natV ks))=_;rw[inV_nat (Int.natCast_nonneg _),Int.toNat_natCast]
   refine⟨L,_,rfl,SqL.of (by rw[hH,bools_of hly hys]),?_⟩
   rw[lenA,lw,List.all_map]
   have:=q H2 (s16.trans s2)
   rw[eR] at this
   exact this
  ·have ne:decide (V.int (ns.getD 0 0)=V.int b)=false:=decide_eq_false fun y=>z (by injection y)
   rw[ne]
   refine iteT ?_
   rw[← no ?_]
   ·exact q H1 s1
   unfold turnB
   have:ns.all (fun x=>decide (ns.getD 0 0≤x))=false:=by
    refine Bool.eq_false_iff.mpr fun y=>z ?_
    have h1:=of_decide_eq_true (List.all_eq_true.mp y b hb)
    have h2:=least (ns.getD 0 0) (by rw[List.getD_eq_getElem?_getD,List.getElem?_eq_getElem (by omega)];exact List.getElem_mem _)
    omega
   rw[this];rfl
 ·have e:ringB n ts ks ns=false:=by unfold ringB;rw[Bool.eq_false_iff.mpr c1];rfl
  rw[Bool.eq_false_iff.mpr c1]
  refine⟨_,rfl,iteT ?_⟩
  rw[← e]
  exact q H1 s1
theorem ok_by_steps (T:Bi mg) (D:DefOk K mg "by_steps" s_by_steps ["web"]):Ok P w K mg base 1 "by_steps" ["web"] (spSteps K):=by
 refine mk_ok (k:=0) D sc_by_steps (fun vs H Q E h=>?_) (fun f cdv A outer s H vs Q E hr h=>?_)
 ·obtain⟨n,ts,wv,rfl,_⟩:=h
  rfl
 obtain⟨n,ts,wv,rfl,isw,ok,q⟩:=h
 have nd:=sc_by_steps.nd
 have few60:=ok.few
 obtain⟨g0,g,ws,rfl,hg0,hg,hall,hlw⟩:=web_parts isw
 refine⟨_,(pss_one (ps_ret (pe_tupG (pa_cons (pe_ix ix_tup (pv 0) pe_int (fun _ _=>rfl)) (pa_cons (pe_callTy call_tupleG rfl T.z_tuple (by decide +kernel) (pa_cons (pe_comp (N:=["web"]) (sc0:=defScope s_by_steps) (own:=["a","b","length"]) (fr:=[]) (js:=[]) rfl (pi_tup (pe_ix ix_tup (pv 0) pe_int (fun _ _=>rfl))) (fun _ _ _ _=>(pg_tupC (n:=3) rfl (pgs_cons (pg_name (i:=0) (by show List.Nodup [("a":Str),("b":Str),("length":Str)];decide +kernel) rfl (Or.inl rfl)) (pgs_cons (pg_name (i:=1) (by show List.Nodup [("a":Str),("b":Str),("length":Str)];decide +kernel) rfl (Or.inl rfl)) (pgs_cons (pg_name (i:=2) (by show List.Nodup [("a":Str),("b":Str),("length":Str)];decide +kernel) rfl (Or.inl rfl)) pgs_nil))))) (fun _ _ _ _=>pts_nil) (fun _ _ _ _=>(pe_tupG (pa_cons (pv 0) (pa_cons (pv 1) (pa_cons pe_int pa_nil)))))) pa_nil)) pa_nil))))),?_⟩
 refine⟨_,rfl,g0,_,_,_,rfl,rfl,SqT.of hg0,rfl,?_⟩
 refine⟨_,rfl,g0,_,_,_,rfl,rfl,SqT.of hg0,rfl,g,rfl,⟨_,SqT.of hg⟩,?_⟩
 refine comp_tup hg (fun σ'=>σ'.length=3) (fun i x H'=>∃ t,x=.ref t∧H' t=some (.tup ([(tieAt ts i).1,(tieAt ts i).2.1,(1:Int)].map V.int))) (by omega) (by rfl) (fun i x H H' k h=>by obtain⟨t,e1,e2⟩:=h;exact⟨t,e1,k _ _ e2⟩) (fun i x σ' H' hx s2 sg C hC=>?_) (fun L ys H2 hL s2 hH hly hys=>?_)
 ·match σ',sg with
  | [o1,o2,o3],_ =>
   have hi:i < ts.length:=by have:=(List.getElem?_eq_some_iff.mp hx).1;omega
   obtain⟨ta,hta,htie⟩:=tie_val hall hi
   rw[hta] at hx
   cases hx
   refine⟨ta,_,rfl,SqT.of (s2 _ _ htie),rfl,_,_,rfl,_,_,rfl,_,_,rfl,rfl,?_⟩
   exact⟨_,rfl,_,rfl,(by show 3≤1000;decide),fun t J S f e=>hC _ _ _ rfl S ⟨t,rfl,e⟩⟩
 ·refine⟨L,_,rfl,hH,fun p J S f e=>⟨(by show 2≤1000;decide),fun r J2 S2 f2 e2=>?_⟩⟩
  refine q _ J2 (s2.trans (S.trans S2)) ⟨r,_,rfl,e2,.int n,_,rfl,rfl,.ref p,[],rfl,⟨p,ys,rfl,S2 _ _ e,?_⟩,rfl⟩
  have l1:((ones ts).map tieD).length=ts.length:=by rw[List.length_map,ones_len]
  refine IsAll.of (by rw[hly,hlw,l1]) fun i d v hd hv=>?_
  have hi:i < ts.length:=by have:=(List.getElem?_eq_some_iff.mp hd).1;omega
  have ed:d=tieD ((tieAt ts i).1,(tieAt ts i).2.1,1):=by
   rw[List.getElem?_map,(tieAt_in (ts:=ones ts) (k:=i) (by rw[ones_len];exact hi)).1,ones_at hi] at hd
   exact (Option.some.inj hd).symm
  obtain⟨t,rfl,e3⟩:=hys i v hv
  rw[ed]
  exact⟨t,_,rfl,(S.trans S2) _ _ e3,IsAll.ints _⟩
theorem ok_first_by_steps (T:Bi mg) (D:DefOk K mg "first_by_steps" s_first_by_steps ["steps","keep","start","end"]) (O_fars_from:Ok P w K mg base 3 "fars_from" ["web","keep","root"] (spFars K)) (O_neighbours:Ok P w K mg base 3 "neighbours" ["web","keep","place"] (spNeigh K)):Ok P w K mg base 4 "first_by_steps" ["steps","keep","start","end"] (spFBS K):=by
 refine mk_ok (k:=3) D sc_first_by_steps (fun vs H Q E h=>?_) (fun f cdv A outer s H vs Q E hr h=>?_)
 ·obtain⟨n,ts,ks,sv,kv,a,b,rfl,_⟩:=h
  rfl
 obtain⟨n,ts,ks,sv,kv,a,b,rfl,wk,ok,ha,hb,⟨l0,c0,la0⟩,q⟩:=h
 have nd:=sc_first_by_steps.nd
 have ko:KeepOk ts.length ks:=by have:=wk.2.2.2;rw[ones_len] at this;exact this
 have n24:=ok.n24
 refine⟨_,(pss_cons (ps_set (i:=4) nd rfl (Or.inr rfl) (pe_callD O_fars_from hr rfl (pa_cons (pv 0) (pa_cons (pv 1) (pa_cons (pv 3) pa_nil))))) (pss_cons (ps_set (i:=5) nd rfl (Or.inr rfl) (pe_lstG (pa_cons (pv 2) pa_nil))) (pss_cons (ps_while PassesOwn.never (pt_cmpR op_ne (pe_ix ix_list (pv 5) (pe_un un_neg pe_int) (fun _ _=>rfl)) (pv 3) (nomark _)) (pss_cons (ps_setcomp (i:=6) (N:=["steps","keep","start","end","left","way","nearer"]) (sc0:=defScope s_first_by_steps) (own:=["place"]) (fr:=["left","way"]) (js:=[4,5]) rfl (pi_list (pe_callD O_neighbours hr rfl (pa_cons (pv 0) (pa_cons (pv 1) (pa_cons (pe_ix ix_list (pv 5) (pe_un un_neg pe_int) (fun _ _=>rfl)) pa_nil))))) (fun _ _ _ _=>(pg_name (i:=0) (by show List.Nodup [("place":Str),("left":Str),("way":Str)];decide +kernel) rfl (Or.inl rfl))) (fun _ _ _ _=>(pts_one (pt_cmpR op_eq (pe_ix ix_listC (pv 1) (pv 0) (fun _ _=>rfl)) (pe_op op_sub (pe_ix ix_listC (pv 1) (pe_ix ix_listC (pv 2) (pe_un un_neg pe_int) (fun _ _=>rfl)) (fun _ _=>rfl)) pe_int) (nomark _)))) (fun _ _ _ _=>(pv 0)) nd rfl (Or.inl rfl)) (pss_one (ps_expr (pe_bm PySem.F.plainAttrs_list PySem.F.slot_list_append PySem.F.type_list_append mt_appendG (pv 5) (pa_cons (pe_callB (call_minL rfl) rfl T.z_min (by decide +kernel) (pa_cons (pv 6) pa_nil)) pa_nil)))))) (pss_one (ps_ret (pv 5)))))),?_⟩
 refine⟨_,rfl,_,rfl,_,rfl,n,ones ts,ks,sv,kv,_,rfl,wk,by omega,by omega,fun lD DD H1 S1 f1 e1 lenD dst=>?_⟩
 rw[Int.toNat_natCast] at dst
 have ds:Lr.Ds (Adj ts ks) a (dN n DD):=dst_ds ok ko ha dst
 refine⟨_,rfl,(by show 1≤1000;decide),fun lw H2 S2 f2 e2=>?_⟩
 have fw:H lw=none:=S1.free f2
 have nlw:lD≠lw:=fun z=>by rw[← z,e1] at f2;cases f2
 have rng:∀ v m,dN n DD v=some m->v < n.toNat∧Far.get DD v=some ((m:Nat):Int):=fun v m e=>by
  unfold dN at e
  by_cases hv:v < n.toNat
  ·rw[if_pos hv] at e
   obtain⟨x,ex,em⟩:=Option.map_eq_some_iff.mp e
   obtain⟨l,_,_,len⟩:=(dst_chn ko (dst v hv)).1 x ex
   refine⟨hv,?_⟩
   rw[ex]
   have:x=(m:Int):=by omega
   rw[this]
  ·rw[if_neg hv] at e;cases e
 obtain⟨m0,em0,_⟩:=(ds b).2 l0 c0 la0
 have m0n:m0 + 1≤n.toNat:=by
  obtain⟨l1,c1,la1,len1⟩:=(ds b).1 m0 em0
  have:=sh_len ok ko hb ((ds.sh em0 c1 la1).mpr len1)
  rw[List.length_cons,len1] at this
  exact this
 refine⟨fun m σ J=>∃ (p:List Nat) (v:Nat) (y6:Option V),σ=[some sv,some kv,some (.int (b:Int)),some (.int (a:Int)),some (.ref lD),some (.ref lw),y6]∧But lw H2 J∧J lw=some (.lst (natV (p++[v])))∧(p++[v])[0]?=some b∧Far.chn (Lr.Nx (Adj ts ks) (dN n DD)) (p++[v])∧dN n DD v=some m∧p.length + m=m0,⟨m0,[],b,none,rfl,But.refl,e2,rfl,trivial,em0,by simp⟩,?_⟩
 rintro m σ J ⟨p,v,y6,rfl,bt,hw,h0,ch,em,lp⟩
 have lw_:(natV (p++[v])).length=p.length + 1:=by unfold natV;rw[List.length_map,List.length_append];rfl
 have at9:atI (natV (p++[v])) (-1)=some (.int (v:Int)):=by
  unfold atI ixN
  rw[if_neg (by omega),if_pos (by rw[lw_];omega),Option.bind_some,lw_]
  have e:(-1 + ((p.length + 1:Nat):Int)).toNat=p.length:=by omega
  rw[e]
  unfold natV
  rw[List.getElem?_map,List.getElem?_append_right (Nat.le_refl _),Nat.sub_self];rfl
 refine⟨_,rfl,_,rfl,lw,_,_,_,rfl,rfl,SqL.of hw,at9,_,rfl,rfl,_,rfl,?_⟩
 have sJ:Same H J:=fun b o e=>bt _ _ (ne_of_none e fw) (S2 _ _ (S1 _ _ e))
 by_cases va:v=a
 ·refine iteNS (by rw[va]) ⟨_,rfl,?_⟩
  obtain⟨l,el⟩:∃ l,p++[v]=b::l:=by
   cases p with
   | nil=>simp at h0;exact⟨[],by simp [h0]⟩
   | cons b' p'=>simp at h0;exact⟨p'++[v],by simp [h0]⟩
  rw[el] at ch hw
  obtain⟨sh,lx⟩:=Lr.greedy ds ch (by rw[← el,va];simp)
  exact q lw l J sJ fw hw sh lx (by have:=sh_len ok ko hb sh;omega)
 ·have ne:decide (V.int (v:Int)=V.int (a:Int))=false:=decide_eq_false fun z=>va (by injection z with z;omega)
  rw[ne]
  refine iteT ?_
  obtain⟨hvn,gv⟩:=rng v m em
  obtain⟨lv,cv,lav,lenv⟩:=(ds v).1 m em
  obtain⟨m',em'⟩:∃ m',m=m' + 1:=by
   cases lv with
   | nil=>exact absurd (by simpa using lav) va
   | cons u t=>exact⟨t.length,by rw[← lenv];rfl⟩
  subst em'
  have shv:=(ds.sh em cv lav).mpr lenv
  have one:∀ u',Adj ts ks v u'->∃ mu,dN n DD u'=some mu∧u' < n.toNat∧Far.get DD u'=some ((mu:Nat):Int):=fun u' au=>by
   obtain⟨mu,eu,_⟩:=(ds u').2 (v::lv) ⟨adj_sy _ _ au,cv⟩ (by rw[Lr.last_cons];exact lav)
   obtain⟨h1,h2⟩:=rng u' mu eu
   exact⟨mu,eu,h1,h2⟩
  have hD:J lD=some (.lst (DD.map ov)):=bt _ _ nlw (S2 _ _ e1)
  have atD:∀ {u':Nat} {x:Int},u' < n.toNat->Far.get DD u'=some x->atI (DD.map ov) (u':Int)=some (.int x):=fun {u' x} hu gu=>by
   refine atI_toNat (Int.natCast_nonneg _) ?_
   rw[Int.toNat_natCast,List.getElem?_map]
   unfold Far.get at gu
   rw[List.getD_eq_getElem?_getD,List.getElem?_eq_getElem (by omega)] at gu
   rw[List.getElem?_eq_getElem (by omega)]
   exact congrArg (fun z=>some (ov z)) gu
  refine⟨fun σ' J'=>∃ (p:List Nat) (v:Nat) (y6:Option V),σ'=[some sv,some kv,some (.int (b:Int)),some (.int (a:Int)),some (.ref lD),some (.ref lw),y6]∧But lw H2 J'∧J' lw=some (.lst (natV (p++[v])))∧(p++[v])[0]?=some b∧Far.chn (Lr.Nx (Adj ts ks) (dN n DD)) (p++[v])∧dN n DD v=some m'∧p.length + m'=m0,fun σ' J' z=>⟨m',Nat.lt_succ_self _,z⟩,?_⟩
  refine⟨_,rfl,_,rfl,_,rfl,_,rfl,lw,_,_,_,rfl,rfl,SqL.of hw,at9,n,ones ts,ks,sv,kv,_,rfl,wk.same sJ,fun ln J1 T1 g1 e3=>⟨ln,rfl,⟨_,SqL.of e3⟩,?_⟩⟩
  have nbm:∀ u',u' ∈ nbN (ones ts) ks (v:Int)↔Adj ts ks v u':=fun u'=>(nb_mem (ones_ok ok) wk.2.2.2 v u').trans (adj_ones ko)
  obtain⟨nb,enb⟩:∃ nb,nb=nbN (ones ts) ks (v:Int):=⟨_,rfl⟩
  rw[← enb] at e3 nbm
  have few60:=ok.few
  have lks:=ko.len
  have lnb:nb.length≤120:=by
   rw[enb]
   unfold nbN
   rw[List.length_append]
   have h1:=List.length_filterMap_le (nb1 (ones ts) (v:Int)) ks
   have h2:=List.length_filterMap_le (nb2 (ones ts) (v:Int)) ks
   omega
  have lnN:(natV nb).length=nb.length:=by unfold natV;rw[List.length_map]
  have S3:=sJ.trans T1
  refine comp_selL e3 (fun σ'=>∃ o,σ'=[o,some (.ref lD),some (.ref lw)]) (fun i=>if decide (dN n DD (nb.getD i 0)=some m')=true then some (V.int ((nb.getD i 0:Nat):Int)) else none) (by omega) (by exact⟨none,rfl⟩) (fun i x σ' H' hx s3 sg C L hC hL=>?_) (fun L J2 hL s3 hH=>?_)
  ·obtain⟨o,rfl⟩:=sg
   obtain⟨u',hu',rfl⟩:=nat_at hx
   have eu:nb.getD i 0=u':=by rw[List.getD_eq_getElem?_getD,hu'];rfl
   rw[eu] at hC hL
   obtain⟨mu,emu,hun,gu⟩:=one u' ((nbm u').mp (List.mem_of_getElem? hu'))
   have hD':=s3 _ _ (T1 _ _ hD)
   have hw':=s3 _ _ (T1 _ _ hw)
   refine⟨_,rfl,_,rfl,lD,_,_,_,rfl,rfl,SqL.of hD',atD hun gu,_,rfl,_,rfl,_,rfl,lw,_,_,_,rfl,rfl,SqL.of hw',at9,lD,_,_,_,rfl,rfl,SqL.of hD',atD hvn gv,_,_,rfl,rfl,rfl,_,rfl,?_⟩
   have ed:decide (V.int ((mu:Nat):Int)=V.int (((m' + 1:Nat):Int) - 1))=decide (dN n DD u'=some m'):=by
    rw[emu]
    by_cases z:mu=m'
    ·rw[decide_eq_true (by rw[z];congr 1;omega),decide_eq_true (by rw[z])]
    ·rw[decide_eq_false (fun y=>z (by injection y with y;omega)),decide_eq_false (fun y=>z (by injection y))]
   rw[ed]
   refine ite2 (fun c=>⟨_,rfl,hC _ _ _ ⟨_,rfl⟩ (Same.refl _) ?_⟩) (fun c=>hL _ _ ⟨_,rfl⟩ (Same.refl _) ?_)
   ·rw[if_pos c]
   ·rw[if_neg c]
  rw[lnN,sel_list (fun j=>decide (dN n DD j=some m')) nb,natV_keep] at hH
  obtain⟨u0,hu0⟩:∃ u0,u0 ∈ nb.filter fun j=>decide (dN n DD j=some m'):=by
   cases lv with
   | nil=>cases lenv
   | cons u t =>
    have au:=cv.1
    have st:=shv.tail
    obtain⟨mu,emu,_⟩:=(ds u).2 t st.ch st.last
    have:=(ds.sh emu st.ch st.last).mp st
    simp at lenv
    exact⟨u,List.mem_filter.mpr ⟨(nbm u).mpr au,decide_eq_true (by rw[emu];congr 1;omega)⟩⟩
  have hw2:=s3 _ _ (T1 _ _ hw)
  refine⟨_,rfl,.inl ⟨rfl,_,SqL.of hw2⟩,_,rfl,L,_,rfl,hH,(fun z=>?_),fun bm hbm mbm=>?_⟩
  ·unfold keepI at z
   rw[List.map_eq_nil_iff] at z
   rw[z] at hu0;cases hu0
  obtain⟨u,hu,rfl⟩:=List.mem_map.mp hbm
  obtain⟨hu1,hu2⟩:=List.mem_filter.mp hu
  have au:=(nbm u).mp hu1
  have du:=of_decide_eq_true hu2
  refine⟨lw,_,_,rfl,rfl,hw2,by rw[lw_];omega,fun J3 b3 e5=>?_⟩
  refine⟨p++[v],u,_,rfl,fun b o z e=>b3 _ _ z (s3 _ _ (T1 _ _ (bt _ _ z e))),?_,?_,?_,du,by rw[List.length_append];show p.length + 1 + m'=m0;omega⟩
  ·rw[e5];unfold natV;rw[List.map_append (l₁:=p++[v])];rfl
  ·rw[List.getElem?_append_left (by simp)];exact h0
  ·refine Far.chn_join (m:=[]) ch ⟨au,⟨m',du,em⟩,fun u' au' ⟨m2,e2,e2'⟩=>?_⟩ trivial
   rw[em] at e2'
   have e2m:m2=m':=by injection e2' with e2';omega
   rw[e2m] at e2
   have:=mbm (u':Int) (List.mem_map.mpr ⟨u',List.mem_filter.mpr ⟨(nbm u').mpr au',decide_eq_true e2⟩,rfl⟩)
   omega
def Cy (ts:List Tie) (ks:List Nat) (k:Nat) (l:List Nat):Prop:=Far.chn (Adj ts (but ks k)) ((en ts k).2::l)∧((en ts k).2::l).getLast?=some (en ts k).1
/-- the best so far: its size in steps, and its tie -/
def BestT (ts:List Tie) (ks:List Nat) (i:Nat):Option (Nat × Nat)->Prop
 | none=>∀ k ∈ ks.take i,∀ l,¬ Cy ts ks k l
 | some (d,k0)=>k0 ∈ ks.take i∧(∃ l,Cy ts ks k0 l∧l.length=d)∧∀ k ∈ ks.take i,∀ l,Cy ts ks k l->d≤l.length∧(k < k0->d < l.length)
theorem best_step {ts:List Tie} {ks:List Nat} {i k:Nat} {P:Nat->Prop} (tn:ks.take (i + 1)=ks.take i++[k]) (h:∀ j ∈ ks.take i,P j) (hk:P k):∀ j ∈ ks.take (i + 1),P j:=fun j hj=>by
 rw[tn] at hj
 rcases List.mem_append.mp hj with z | z
 ·exact h j z
 ·rw[List.mem_singleton.mp z];exact hk
theorem best_none {ts:List Tie} {ks:List Nat} {i k:Nat} {bo:Option (Nat × Nat)} (tn:ks.take (i + 1)=ks.take i++[k]) (bt:BestT ts ks i bo) (no:∀ l,¬ Cy ts ks k l):BestT ts ks (i + 1) bo:=by
 cases bo with
 | none=>exact best_step (ts:=ts) tn bt no
 | some b =>
  obtain⟨d,k0⟩:=b
  obtain⟨h1,h2,h3⟩:=bt
  exact⟨by rw[tn];exact List.mem_append_left _ h1,h2,best_step (ts:=ts) (P:=fun k=>∀ l,Cy ts ks k l->d≤l.length∧(k < k0->d < l.length)) tn h3 fun l c=>absurd c (no l)⟩
theorem best_new {ts:List Tie} {ks:List Nat} {i k:Nat} {bo:Option (Nat × Nat)} {l:List Nat} (tn:ks.take (i + 1)=ks.take i++[k]) (bt:BestT ts ks i bo) (c:Cy ts ks k l) (mn:∀ l',Cy ts ks k l'->l.length≤l'.length) (lt:∀ d k0,bo=some (d,k0)->l.length < d):BestT ts ks (i + 1) (some (l.length,k)):=by
 refine⟨by rw[tn];simp,⟨l,c,rfl⟩,best_step (ts:=ts) (P:=fun j=>∀ l',Cy ts ks j l'->l.length≤l'.length∧(j < k->l.length < l'.length)) tn (fun j hj l' c'=>?_) fun l' c'=>⟨mn l' c',fun z=>absurd z (Nat.lt_irrefl _)⟩⟩
 cases bo with
 | none=>exact absurd c' (bt j hj l')
 | some b =>
  obtain⟨d,k0⟩:=b
  have h1:=lt d k0 rfl
  have h2:=(bt.2.2 j hj l' c').1
  exact⟨by omega,fun _=>by omega⟩
theorem best_keep {ts:List Tie} {ks:List Nat} {i k d k0:Nat} {l:List Nat} (tn:ks.take (i + 1)=ks.take i++[k]) (up:k0 < k) (bt:BestT ts ks i (some (d,k0))) (mn:∀ l',Cy ts ks k l'->l.length≤l'.length) (le:d≤l.length):BestT ts ks (i + 1) (some (d,k0)):=by
 obtain⟨h1,h2,h3⟩:=bt
 refine⟨by rw[tn];exact List.mem_append_left _ h1,h2,best_step (ts:=ts) (P:=fun k=>∀ l,Cy ts ks k l->d≤l.length∧(k < k0->d < l.length)) tn h3 fun l' c'=>⟨Nat.le_trans le (mn l' c'),fun z=>by omega⟩⟩
def bV1:Option (Nat × Nat)->V
 | none=>.non
 | some (d,_)=>.int (d:Int)
def bV2:Option (Nat × Nat)->V
 | none=>.non
 | some (_,k)=>.int (k:Int)
theorem ok_least_ring (T:Bi mg) (D:DefOk K mg "least_ring" s_least_ring ["web","keep"]) (O_by_steps:Ok P w K mg base 4 "by_steps" ["web"] (spSteps K)) (O_far:Ok P w K mg base 4 "far" ["web","keep","a","b"] (spFar K)) (O_without:Ok P w K mg base 4 "without" ["keep","tie"] (spWithout K)) (O_first_by_steps:Ok P w K mg base 4 "first_by_steps" ["steps","keep","start","end"] (spFBS K)):Ok P w K mg base 5 "least_ring" ["web","keep"] (spLR K):=by
 refine mk_ok (k:=4) D sc_least_ring (fun vs H Q E h=>?_) (fun f cdv A outer s H vs Q E hr h=>?_)
 ·obtain⟨n,ts,ks,wv,kv,rfl,_⟩:=h
  rfl
 obtain⟨n,ts,ks,wv,kv,rfl,wk,q⟩:=h
 have nd:=sc_least_ring.nd
 obtain⟨isw,ok,isk,ko⟩:=wk
 have few60:=ok.few
 have lks:=ko.len
 have n24:=ok.n24
 refine⟨_,(pss_cons (ps_set (i:=2) nd rfl (Or.inl rfl) (pe_callD O_by_steps hr rfl (pa_cons (pv 0) pa_nil))) (pss_cons (ps_set (i:=3) nd rfl (Or.inl rfl) pe_non) (pss_cons (ps_set (i:=4) nd rfl (Or.inl rfl) pe_non) (pss_cons (ps_for PassesOwn.never rfl (pi_tup (pv 1)) (pg_name (i:=5) nd rfl (Or.inl rfl)) (pss_cons (ps_asg (pe_ix ix_tup (pe_ix ix_tup (pv 0) pe_int (fun _ _=>rfl)) (pv 5) (fun _ _=>rfl)) (pg_tup (n:=3) rfl (pgs_cons (pg_name (i:=6) nd rfl (Or.inl rfl)) (pgs_cons (pg_name (i:=7) nd rfl (Or.inl rfl)) (pgs_cons (pg_name (i:=8) nd rfl (Or.inl rfl)) pgs_nil))))) (pss_cons (ps_set (i:=9) nd rfl (Or.inl rfl) (pe_callD O_far hr rfl (pa_cons (pv 2) (pa_cons (pe_callD O_without hr rfl (pa_cons (pv 1) (pa_cons (pv 5) pa_nil))) (pa_cons (pv 6) (pa_cons (pv 7) pa_nil)))))) (pss_one (ps_if (PW.pt (pw_and (pt_cmpR op_notN (pv 9) pe_non (nomark _)) (pw_and1 (PW.pt (pw_or (pt_cmpR op_isN (pv 3) pe_non (nomark _)) (pw_or1 (pt_cmpR op_lt (pv 9) (pv 3) (nomark _)))))))) (pss_cons (ps_set (i:=3) nd rfl (Or.inl rfl) (pv 9)) (pss_one (ps_set (i:=4) nd rfl (Or.inl rfl) (pv 5)))) pss_nil))))) (pss_cons (ps_if (pt_cmpR op_isN (pv 4) pe_non (nomark _)) (pss_one (ps_ret pe_non)) pss_nil) (pss_cons (ps_asg (pe_ix ix_tup (pe_ix ix_tup (pv 0) pe_int (fun _ _=>rfl)) (pv 4) (fun _ _=>rfl)) (pg_tup (n:=3) rfl (pgs_cons (pg_name (i:=6) nd rfl (Or.inl rfl)) (pgs_cons (pg_name (i:=7) nd rfl (Or.inl rfl)) (pgs_cons (pg_name (i:=8) nd rfl (Or.inl rfl)) pgs_nil))))) (pss_one (ps_ret (pe_op op_catA (pe_tupG (pa_cons (pv 6) pa_nil)) (pe_callTy call_tupleG rfl T.z_tuple (by decide +kernel) (pa_cons (pe_slice sl_list (pe_callD O_first_by_steps hr rfl (pa_cons (pv 2) (pa_cons (pe_callD O_without hr rfl (pa_cons (pv 1) (pa_cons (pv 4) pa_nil))) (pa_cons (pv 7) (pa_cons (pv 6) pa_nil))))) po_none (po_some (pe_un un_neg pe_int))) pa_nil))))))))))),?_⟩
 refine⟨_,rfl,n,ts,wv,rfl,isw,ok,fun sv H1 S1 is1=>?_⟩
 obtain⟨g0,g,ws,rfl,hg0,hg,hall,hlw⟩:=web_parts isw
 have isk':=isk
 obtain⟨kp,rfl,hkp⟩:=keep_parts isk
 rw[← natV_keep] at hkp
 have lenK:(natV ks).length=ks.length:=by unfold natV;rw[List.length_map]
 have kob:∀ k,KeepOk ts.length (but ks k):=fun k=>but_ok ko
 have rm:∀ k ∈ ks,Adj ts (but ks k)=Lr.Rm (Adj ts ks) (en ts k).1 (en ts k).2:=fun k hk=>funext fun u=>funext fun v=>propext (adj_rm ok ko hk u v)
 refine⟨_,rfl,kp,rfl,⟨_,SqT.of (S1 _ _ hkp)⟩,?_⟩
 refine for_tup (xs:=natV ks) (fun i σ J=>∃ (bo:Option (Nat × Nat)) (y5 y6 y7 y8 y9:Option V),σ=[some (.ref g0),some (.ref kp),some sv,some (bV1 bo),some (bV2 bo),y5,y6,y7,y8,y9]∧Same H1 J∧BestT ts ks i bo) ⟨none,none,none,none,none,none,rfl,Same.refl _,fun k hk=>(by cases hk)⟩ (fun i σ J _ h=>?_) (fun i x σ J hx h=>?_) (fun σ J h=>?_)
 ·obtain⟨bo,y5,y6,y7,y8,y9,rfl,sm,_⟩:=h
  exact SqT.of (sm _ _ (S1 _ _ hkp))
 ·obtain⟨bo,y5,y6,y7,y8,y9,rfl,sm,bt⟩:=h
  obtain⟨k,hk,rfl⟩:=nat_at hx
  have hkm:=List.mem_of_getElem? hk
  have hkl:=ko.2 k hkm
  obtain⟨ta,hta,htie⟩:=tie_val hall hkl
  obtain⟨e1,e2,e3,e4⟩:=en_lt ok hkl
  have tk:=ok.tie _ (tieAt_in hkl).2
  have S0:=S1.trans sm
  have tn:ks.take (i + 1)=ks.take i++[k]:=by rw[List.take_add_one,hk];rfl
  refine⟨_,rfl,g0,_,_,_,rfl,rfl,SqT.of (S0 _ _ hg0),rfl,_,rfl,g,_,_,_,rfl,rfl,SqT.of (S0 _ _ hg),atI_toNat (Int.natCast_nonneg _) hta,ta,_,rfl,SqT.of (S0 _ _ htie),rfl,_,_,rfl,_,_,rfl,_,_,rfl,rfl,?_⟩
  refine⟨_,rfl,_,rfl,_,rfl,_,ks,_,k,rfl,Is.same S0 _ isk',ko,few60,fun p J2 S2 e5=>?_⟩
  refine⟨_,rfl,_,rfl,n,ones ts,but ks k,sv,.ref p,_,_,rfl,⟨Is.same (sm.trans S2) _ is1,ones_ok ok,is_nkeepL e5,by rw[ones_len];exact kob k⟩,by omega,by omega,by omega,by omega,fun o J3 S3 dst=>?_⟩
  have dc:=dst_chn (kob k) dst
  have S03:=sm.trans (S2.trans S3)
  cases o with
  | none =>
   refine⟨_,rfl,rfl,_,rfl,iteNS rfl ⟨bo,_,_,_,_,_,rfl,S03,best_none tn bt fun l c=>?_⟩⟩
   obtain⟨x,e,_⟩:=dc.2 l c.1 c.2
   cases e
  | some x =>
   obtain⟨l,c1,c2,len⟩:=dc.1 x rfl
   have cy:Cy ts ks k l:=⟨c1,c2⟩
   have mn:∀ l',Cy ts ks k l'->l.length≤l'.length:=fun l' c'=>by
    obtain⟨x',e,le⟩:=dc.2 l' c'.1 c'.2
    cases e
    omega
   subst len
   refine⟨_,rfl,rfl,_,rfl,iteT ?_⟩
   cases bo with
   | none =>
    refine⟨_,rfl,rfl,_,rfl,iteT ⟨_,rfl,_,rfl,some (l.length,k),_,_,_,_,_,rfl,S03,best_new tn bt cy mn fun d k0 e=>(by cases e)⟩⟩
   | some b =>
    obtain⟨d,k0⟩:=b
    refine⟨_,rfl,rfl,_,rfl,iteF ⟨_,rfl,_,rfl,_,_,rfl,rfl,_,rfl,?_⟩⟩
    by_cases lt:(l.length:Int) < (d:Int)
    ·rw[decide_eq_true lt]
     refine iteT ⟨_,rfl,_,rfl,some (l.length,k),_,_,_,_,_,rfl,S03,best_new tn bt cy mn fun d' k0' e=>?_⟩
     cases e;omega
    ·rw[decide_eq_false lt]
     have up:k0 < k:=by
      have e:ks=ks.take i++k::ks.drop (i + 1):=by
       have:=(List.take_append_drop i ks).symm
       obtain⟨h1,e1⟩:=List.getElem?_eq_some_iff.mp hk
       rw[List.drop_eq_getElem_cons h1,e1] at this
       exact this
      have pw:=ko.1
      rw[e] at pw
      exact (List.pairwise_append.mp pw).2.2 k0 bt.1 k List.mem_cons_self
     exact iteF ⟨some (d,k0),_,_,_,_,_,rfl,S03,best_keep tn up bt mn (by omega)⟩
 ·obtain⟨bo,y5,y6,y7,y8,y9,rfl,sm,bt⟩:=h
  have S0:=S1.trans sm
  rw[lenK] at bt
  have tl:ks.take ks.length=ks:=List.take_length
  have TT:=adj_ties ok ko
  cases bo with
  | none =>
   refine⟨_,rfl,rfl,_,rfl,iteT ?_⟩
   refine q _ J S0 (.inl ⟨rfl,TT.none fun k hk l c la=>?_⟩)
   have bt':∀ k ∈ ks.take ks.length,∀ l,¬ Cy ts ks k l:=bt
   rw[tl] at bt'
   exact bt' k hk l ⟨by rw[rm k hk];exact c,la⟩
  | some b =>
   obtain⟨d,k0⟩:=b
   obtain⟨hk0,⟨l1,cy1,len1⟩,hm⟩:=bt
   rw[tl] at hk0 hm
   have hkl:=ko.2 k0 hk0
   obtain⟨ta,hta,htie⟩:=tie_val hall hkl
   obtain⟨e1,e2,e3,e4⟩:=en_lt ok hkl
   refine⟨_,rfl,rfl,_,rfl,iteF ?_⟩
   refine⟨_,rfl,g0,_,_,_,rfl,rfl,SqT.of (S0 _ _ hg0),rfl,_,rfl,g,_,_,_,rfl,rfl,SqT.of (S0 _ _ hg),atI_toNat (Int.natCast_nonneg _) hta,ta,_,rfl,SqT.of (S0 _ _ htie),rfl,_,_,rfl,_,_,rfl,_,_,rfl,rfl,?_⟩
   refine⟨_,rfl,(by show 1≤1000;decide),fun t1 J1 T1 g1 h1=>?_⟩
   have S01:=S0.trans T1
   refine⟨_,rfl,_,rfl,_,rfl,_,ks,_,k0,rfl,Is.same S01 _ isk',ko,few60,fun p J2 S2 e5=>?_⟩
   refine⟨_,rfl,_,rfl,n,ts,but ks k0,sv,.ref p,(en ts k0).1,(en ts k0).2,by rw[e3,e4];rfl,⟨Is.same ((sm.trans T1).trans S2) _ is1,ones_ok ok,is_nkeepL e5,by rw[ones_len];exact kob k0⟩,ok,by omega,e2,⟨l1,cy1.1,cy1.2⟩,fun lw l J3 S3 f3 e6 sh lx l24=>?_⟩
   rw[rm k0 hk0] at sh lx
   obtain⟨m,em,rg,cn,h2,h3⟩:=TT.least hk0 sh lx fun k hk l' c la=>by
    have:=hm k hk l' ⟨by rw[rm k hk];exact c,la⟩
    have ld:l.length=d:=by
     rw[← len1]
     have c1:=cy1.1
     rw[rm k0 hk0] at c1
     have a1:=sh.min l1 c1 cy1.2
     have a2:=(hm k0 hk0 l ⟨by rw[rm k0 hk0];exact sh.ch,sh.last⟩).1
     omega
    rw[ld];exact this
   have dl:((en ts k0).2::l).dropLast=(en ts k0).2::m:=by rw[em,← List.cons_append,List.dropLast_concat]
   refine⟨_,rfl,_,rfl,lw,_,rfl,SqL.of e6,fun p2 hp2=>⟨p2,_,rfl,upd_same,fun t4 J4 S4 f4 e7=>?_⟩⟩
   rw[cut_last (by simp),dl] at e7
   have S34:=(same_new (o:=.lst (cutV (natV ((en ts k0).2::l)) none (some (-1)))) hp2).trans S4
   have lm:m.length≤23:=by rw[em] at l24;simp at l24;omega
   refine⟨t1,t4,_,_,rfl,rfl,S34 _ _ (S3 _ _ (S2 _ _ h1)),e7,?_,fun t5 J5 S5 e8=>?_⟩
   ·have l1:(natV ((en ts k0).2::m)).length=m.length + 1:=by unfold natV;rw[List.length_map];rfl
    exact Nat.le_trans (show _≤1000 by rw[l1];show 1 + (m.length + 1)≤1000;omega) (by decide)
   refine q _ J5 (S01.trans (S2.trans (S3.trans (S34.trans S5)))) (.inr ⟨t5,(en ts k0).1,(en ts k0).2::m,rfl,?_,rg,cn,h2,h3⟩)
   rw[e8]
   unfold natV
   rw[List.map_cons (l:=(en ts k0).2::m),e3];rfl
def nbr (ts:List Tie) (j k:Nat):Option Nat:=if (en ts k).1=j then some (en ts k).2 else if (en ts k).2=j then some (en ts k).1 else none
def rowsN (ts:List Tie) (ks:List Nat) (j:Nat):List Nat:=ks.filterMap (nbr ts j)
theorem rows_mem {n:Int} {ts:List Tie} {ks:List Nat} (ok:WebOk n ts) (ko:KeepOk ts.length ks) (j c:Nat):c ∈ rowsN ts ks j↔Adj ts ks j c:=by
 unfold rowsN
 rw[List.mem_filterMap]
 constructor
 ·rintro ⟨k,hk,e⟩
  refine⟨k,hk,a2_iff.mpr ?_⟩
  unfold nbr at e
  by_cases z:(en ts k).1=j
  ·rw[if_pos z] at e
   exact .inl ⟨z.symm,(Option.some.inj e).symm⟩
  ·rw[if_neg z] at e
   by_cases y:(en ts k).2=j
   ·rw[if_pos y] at e
    exact .inr ⟨y.symm,(Option.some.inj e).symm⟩
   ·rw[if_neg y] at e;cases e
 ·rintro ⟨k,hk,m⟩
  have lt:=(en_lt ok (ko.2 k hk)).1
  refine⟨k,hk,?_⟩
  unfold nbr
  rcases a2_iff.mp m with ⟨z1,z2⟩ | ⟨z1,z2⟩
  ·rw[if_pos (show (en ts k).1=j from z1.symm),z2];rfl
  ·have z1':(en ts k).2=j:=z1.symm
   rw[if_neg (by omega),if_pos z1',z2];rfl
theorem rows_nodup {n:Int} {ts:List Tie} {ks:List Nat} (ok:WebOk n ts) (ko:KeepOk ts.length ks) (j:Nat):(rowsN ts ks j).Nodup:=by
 unfold rowsN
 rw[List.Nodup,List.pairwise_filterMap]
 refine List.Pairwise.imp_of_mem ?_ ko.1
 intro k k' hk hk' lt c hc c' hc' e
 subst e
 have arc:∀ {k},k ∈ ks->nbr ts j k=some c->(j,c,(tieAt ts k).2.2) ∈ arcs2 (tieAt ts k):=fun {k} hk e=>by
  refine a2_iff.mpr ?_
  unfold nbr at e
  by_cases z:(en ts k).1=j
  ·rw[if_pos z] at e;exact .inl ⟨z.symm,(Option.some.inj e).symm⟩
  ·rw[if_neg z] at e
   by_cases y:(en ts k).2=j
   ·rw[if_pos y] at e;exact .inr ⟨y.symm,(Option.some.inj e).symm⟩
   ·rw[if_neg y] at e;cases e
 exact Nat.ne_of_lt lt (tie_oneB ok (ko.2 k hk) (ko.2 k' hk') (arc hk hc) (arc hk' hc'))
theorem rows_snoc {ts:List Tie} {ks:List Nat} {k j:Nat}:rowsN ts (ks++[k]) j=rowsN ts ks j++(nbr ts j k).toList:=by
 unfold rowsN
 rw[List.filterMap_append]
 cases e:nbr ts j k <;> simp [e]
theorem ok__law_besideS (T:Bi mg) (D:DefOk K mg "_law_beside" s__law_beside ["web","keep"]):Ok P w K mg base 1 "_law_beside" ["web","keep"] (spBesS K):=by
 refine mk_ok (k:=0) D sc__law_beside (fun vs H Q E h=>?_) (fun f cdv A outer s H vs Q E hr h=>?_)
 ·obtain⟨n,ts,ks,wv,kv,rfl,_⟩:=h
  rfl
 obtain⟨n,ts,ks,wv,kv,rfl,wk,q⟩:=h
 have nd:=sc__law_beside.nd
 have ok:=wk.2.1
 have ko:=wk.2.2.2
 have n1:=ok.n1
 have n24:=ok.n24
 have few60:=ok.few
 have kl:=ko.len
 obtain⟨g0,g,ws,rfl,hg0,hg,hall,hlw⟩:=web_parts wk.1
 obtain⟨kp,rfl,hkp⟩:=keep_parts wk.2.2.1
 rw[← natV_keep] at hkp
 have lenK:(natV ks).length=ks.length:=by unfold natV;rw[List.length_map]
 have N24:n.toNat≤24:=by omega
 refine⟨_,(pss_cons (ps_setcomp (i:=2) (N:=["web","keep","found","number"]) (sc0:=defScope s__law_beside) (own:=["place"]) (fr:=[]) (js:=[]) rfl (pi_range1 rfl T.z_range (pa_cons (pe_ix ix_tup (pv 0) pe_int (fun _ _=>rfl)) pa_nil)) (fun _ _ _ _=>(pg_name (i:=0) (by show List.Nodup [("place":Str)];decide +kernel) rfl (Or.inl rfl))) (fun _ _ _ _=>pts_nil) (fun _ _ _ _=>(pe_lstG pa_nil)) nd rfl (Or.inl rfl)) (pss_cons (ps_for PassesOwn.never rfl (pi_tup (pv 1)) (pg_name (i:=3) nd rfl (Or.inl rfl)) (pss_cons (ps_expr (pe_bm PySem.F.plainAttrs_list PySem.F.slot_list_append PySem.F.type_list_append mt_appendG (pe_ix ix_list (pv 2) (pe_ix ix_tup (pe_ix ix_tup (pe_ix ix_tup (pv 0) pe_int (fun _ _=>rfl)) (pv 3) (fun _ _=>rfl)) pe_int (fun _ _=>rfl)) (fun _ _=>rfl)) (pa_cons (pe_ix ix_tup (pe_ix ix_tup (pe_ix ix_tup (pv 0) pe_int (fun _ _=>rfl)) (pv 3) (fun _ _=>rfl)) pe_int (fun _ _=>rfl)) pa_nil))) (pss_one (ps_expr (pe_bm PySem.F.plainAttrs_list PySem.F.slot_list_append PySem.F.type_list_append mt_appendG (pe_ix ix_list (pv 2) (pe_ix ix_tup (pe_ix ix_tup (pe_ix ix_tup (pv 0) pe_int (fun _ _=>rfl)) (pv 3) (fun _ _=>rfl)) pe_int (fun _ _=>rfl)) (fun _ _=>rfl)) (pa_cons (pe_ix ix_tup (pe_ix ix_tup (pe_ix ix_tup (pv 0) pe_int (fun _ _=>rfl)) (pv 3) (fun _ _=>rfl)) pe_int (fun _ _=>rfl)) pa_nil)))))) (pss_one (ps_ret (pe_comp (N:=["web","keep","found","number"]) (sc0:=defScope s__law_beside) (own:=["row"]) (fr:=[]) (js:=[]) rfl (pi_list (pv 2)) (fun _ _ _ _=>(pg_name (i:=0) (by show List.Nodup [("row":Str)];decide +kernel) rfl (Or.inl rfl))) (fun _ _ _ _=>pts_nil) (fun _ _ _ _=>(pe_callB call_sortedIC rfl T.z_sorted (by decide +kernel) (pa_cons (pv 0) pa_nil)))))))),?_⟩
 refine⟨_,rfl,g0,_,_,_,rfl,rfl,SqT.of hg0,rfl,n,rfl,by omega,by omega,?_⟩
 refine comp_rangeD (n:=n.toNat) (lo:=0) (fun σ'=>σ'.length=1) (by omega) (by rfl) (fun i σ' H' hi s6 sg C hC=>?_) (fun L as J1 hL S1 hH las ndA noA new=>?_)
 ·match σ',sg with
  | [o],_=>exact⟨(by show 0≤1000;decide),fun l H5 s5 f5 e5=>hC _ _ _ rfl s5 f5 e5⟩
 have B1:=Bes.new hH ndA noA fun a ha=>(new a ha).2
 have fas:∀ a ∈ as,H a=none:=fun a ha=>(new a ha).1
 refine⟨_,rfl,kp,rfl,⟨_,SqT.of (S1 _ _ hkp)⟩,?_⟩
 refine for_tup (xs:=natV ks) (fun i σ J=>∃ (y3:Option V),σ=[some (.ref g0),some (.ref kp),some (.ref L),y3]∧Same H J∧Bes J L as fun j=>natV (rowsN ts (ks.take i) j)) ⟨none,rfl,S1,B1⟩ (fun i σ J _ h=>?_) (fun i x σ J hx h=>?_) (fun σ J h=>?_)
 ·obtain⟨y3,rfl,sm,_⟩:=h
  exact SqT.of (sm _ _ hkp)
 ·obtain⟨y3,rfl,sm,B⟩:=h
  obtain⟨k,hk,rfl⟩:=nat_at hx
  have hkm:=List.mem_of_getElem? hk
  have hkl:k < ts.length:=ko.2 k hkm
  obtain⟨ta,hta,htie⟩:=tie_val hall hkl
  obtain⟨e1,e2,e3,e4⟩:=en_lt ok hkl
  rw[← e3,← e4] at htie
  have tn:ks.take (i + 1)=ks.take i++[k]:=by rw[List.take_add_one,hk];rfl
  have lrV:∀ j,(natV (rowsN ts (ks.take i) j)).length≤60:=fun j=>by
   unfold natV rowsN
   rw[List.length_map]
   have h1:=List.length_filterMap_le (nbr ts j) (ks.take i)
   have h3:(ks.take i).length≤ks.length:=by rw[List.length_take];omega
   omega
  obtain⟨a1,i1,v1,r1⟩:=B.ix (i:=(en ts k).1) (by omega)
  refine⟨_,rfl,_,rfl,g0,_,_,_,rfl,rfl,SqT.of (sm _ _ hg0),rfl,_,rfl,g,_,_,_,rfl,rfl,SqT.of (sm _ _ hg),atI_toNat (Int.natCast_nonneg _) hta,ta,_,_,_,rfl,rfl,SqT.of (sm _ _ htie),rfl,L,_,_,.ref a1,rfl,rfl,SqL.of B.top,atI_toNat (Int.natCast_nonneg _) v1,.inl ⟨rfl,_,SqL.of r1⟩,?_⟩
  refine⟨_,rfl,g0,_,_,_,rfl,rfl,SqT.of (sm _ _ hg0),rfl,_,rfl,g,_,_,_,rfl,rfl,SqT.of (sm _ _ hg),atI_toNat (Int.natCast_nonneg _) hta,ta,_,_,_,rfl,rfl,SqT.of (sm _ _ htie),rfl,?_⟩
  refine⟨a1,_,_,rfl,rfl,r1,by have:=lrV (en ts k).1;omega,fun J3 b3 h3=>?_⟩
  have ma1:=List.mem_of_getElem? i1
  have B3:=B.put i1 b3 h3
  have sm3:Same H J3:=fun b o e=>b3 _ _ (ne_of_none e (fas a1 ma1)) (sm _ _ e)
  have nab:(en ts k).2≠(en ts k).1:=by omega
  obtain⟨a2,i2,v2,r2⟩:=B3.ix (i:=(en ts k).2) (by omega)
  rw[if_neg nab] at r2
  have htie3:J3 ta=_:=b3 _ _ (fun z=>by have e:=sm _ _ htie;rw[z,r1] at e;cases e) (sm _ _ htie)
  refine⟨_,rfl,_,rfl,g0,_,_,_,rfl,rfl,SqT.of (sm3 _ _ hg0),rfl,_,rfl,g,_,_,_,rfl,rfl,SqT.of (sm3 _ _ hg),atI_toNat (Int.natCast_nonneg _) hta,ta,_,_,_,rfl,rfl,SqT.of htie3,rfl,L,_,_,.ref a2,rfl,rfl,SqL.of B3.top,atI_toNat (Int.natCast_nonneg _) v2,.inl ⟨rfl,_,SqL.of r2⟩,?_⟩
  refine⟨_,rfl,g0,_,_,_,rfl,rfl,SqT.of (sm3 _ _ hg0),rfl,_,rfl,g,_,_,_,rfl,rfl,SqT.of (sm3 _ _ hg),atI_toNat (Int.natCast_nonneg _) hta,ta,_,_,_,rfl,rfl,SqT.of htie3,rfl,?_⟩
  refine⟨a2,_,_,rfl,rfl,r2,by have:=lrV (en ts k).2;omega,fun J5 b5 h5=>?_⟩
  have ma2:=List.mem_of_getElem? i2
  have B5:=B3.put i2 b5 h5
  have ef:(fun j=>if j=(en ts k).2 then natV (rowsN ts (ks.take i) (en ts k).2)++[V.int (((en ts k).1:Nat):Int)] else if j=(en ts k).1 then natV (rowsN ts (ks.take i) (en ts k).1)++[V.int (((en ts k).2:Nat):Int)] else natV (rowsN ts (ks.take i) j))=fun j=>natV (rowsN ts (ks.take (i + 1)) j):=funext fun j=>by
   rw[tn,rows_snoc]
   unfold nbr
   by_cases z:j=(en ts k).2
   ·subst z
    rw[if_pos rfl,if_neg (Ne.symm nab),if_pos rfl]
    unfold natV;rw[List.map_append];rfl
   ·rw[if_neg z]
    by_cases y:j=(en ts k).1
    ·subst y
     rw[if_pos rfl,if_pos rfl]
     unfold natV;rw[List.map_append];rfl
    ·rw[if_neg y,if_neg (Ne.symm y),if_neg (Ne.symm z)]
     unfold natV;rw[List.map_append];simp
  rw[ef] at B5
  exact⟨_,rfl,fun b o e=>b5 _ _ (ne_of_none e (fas a2 ma2)) (sm3 _ _ e),B5⟩
 ·obtain⟨y3,rfl,sm,B⟩:=h
  rw[lenK,List.take_length] at B
  refine⟨_,rfl,L,rfl,⟨_,SqL.of B.top⟩,?_⟩
  have lr24:∀ j,(rowsN ts ks j).length≤24:=fun j=>by
   have:=Peel.len_below n.toNat _ (rows_nodup ok ko j) fun c hc=>adj_lt ok ko _ _ ((rows_mem ok ko j c).mp hc)
   omega
  have las':(as.map V.ref).length=n.toNat:=by rw[List.length_map];exact las
  refine comp_lstF B.top (fun σ'=>σ'.length=1) (fun i xs=>∃ rs,xs=natV rs∧RowS ts ks i rs) (by omega) (by rfl) (fun i z σ' H' hz s2 sg C hC=>?_) (fun L2 ys J2 hL2 s2 hH2 ly hys=>?_)
  ·match σ',sg with
   | [o],_ =>
    rw[List.getElem?_map] at hz
    obtain⟨a,ha,rfl⟩:=Option.map_eq_some_iff.mp hz
    have hr1:=s2 _ _ (B.row i a ha)
    rw[natV_keep] at hr1
    refine⟨_,rfl,a,_,rfl,SqL.of hr1,by unfold keepI;rw[List.length_map];have:=lr24 i;omega,fun ms pm pw l3 f3=>?_⟩
    have e:ms=keepI (ms.map Int.toNat):=by
     unfold keepI
     rw[List.map_map]
     refine ((List.map_congr_left fun x hx=>?_).trans (List.map_id _)).symm
     obtain⟨j,_,rfl⟩:=List.mem_map.mp (pm.mem_iff.mp hx)
     rfl
    obtain⟨rs,ers⟩:∃ rs,rs=ms.map Int.toNat:=⟨_,rfl⟩
    rw[← ers] at e
    subst e
    have pm2:rs.Perm (rowsN ts ks i):=by
     have:=pm.map Int.toNat
     unfold keepI at this
     rw[List.map_map,List.map_map] at this
     have z:∀ l:List Nat,l.map (Int.toNat ∘ fun k:Nat=>(k:Int))=l:=fun l=>(List.map_congr_left fun _ _=>rfl).trans (List.map_id _)
     rw[z,z] at this
     exact this
    refine hC _ l3 _ _ rfl (same_new f3) f3 upd_same ⟨rs,by rw[natV_keep],?_,fun c=>pm2.mem_iff.trans (rows_mem ok ko i c)⟩
    have le:rs.Pairwise (·≤·):=by
     unfold keepI at pw
     rw[List.pairwise_map] at pw
     exact pw.imp fun h=>by omega
    have ne:rs.Pairwise (·≠·):=pm2.nodup_iff.mpr (rows_nodup ok ko i)
    exact (le.and ne).imp fun h=>by omega
  ·refine q L2 J2 (sm.trans s2) ⟨ys,hH2,by rw[ly,las'],fun j hj=>?_⟩
   have hv:ys[j]?=some ys[j]:=List.getElem?_eq_getElem (by omega)
   obtain⟨l,xs,e1,_,_,e4,rs,rfl,e6⟩:=hys j _ hv
   exact⟨l,rs,by rw[hv,e1],e4,e6⟩
def spRonTo (M:Nat):Sp:=fun vs H Q E=>∃ m,m≤M∧spRon m vs H Q E
theorem ron_step {M j:Nat} (T:Bi mg) (D:DefOk K mg "_law_ring_on" s__law_ring_on ["beside","row","size"]) {sp:Sp} (O__law_ring_on:Ok P w K mg base j "_law_ring_on" ["beside","row","size"] sp) (hsp:∀ m',m' + 1≤M->∀ vs H Q E,spRon m' vs H Q E->sp vs H Q E):Ok P w K mg base (j + 1) "_law_ring_on" ["beside","row","size"] (spRonTo M):=by
 refine mk_ok (k:=j) D sc__law_ring_on (fun vs H Q E h=>?_) (fun f cdv A outer s0 H vs Q E hr h=>?_)
 ·obtain⟨m,_,n,ts,ks,l,p,w,size,rfl,_⟩:=h
  rfl
 obtain⟨m,hmM,n,ts,ks,l,p,w,size,rfl,ok,ko,bs,hp,pw,s3,s24,len,q⟩:=h
 have nd:=sc__law_ring_on.nd
 have lw:(natV w).length=w.length:=by unfold natV;rw[List.length_map]
 have pos:=List.length_pos_iff.mpr pw.ne
 have atW:∀ {m:Nat},m < w.length->atI (natV w) (m:Int)=some (.int ((w.getD m 0:Nat):Int)):=fun {m} hm=>by
  refine atI_toNat (Int.natCast_nonneg _) ?_
  rw[Int.toNat_natCast]
  unfold natV
  rw[List.getElem?_map,List.getD_eq_getElem?_getD,List.getElem?_eq_getElem hm];rfl
 have at9:atI (natV w) (-1)=some (.int ((w.getLast?.getD 0:Nat):Int)):=by
  unfold atI ixN
  rw[if_neg (by omega),if_pos (by rw[lw];omega),Option.bind_some,lw]
  have e:(-1 + ((w.length:Nat):Int)).toNat=w.length - 1:=by omega
  rw[e]
  unfold natV
  rw[List.getElem?_map,List.getLast?_eq_getElem?,List.getElem?_eq_getElem (by omega)];rfl
 have e0:w.getD 0 0=w.headD 0:=by cases w with
  | nil=>rfl
  | cons _ _=>rfl
 have ln:w.getLast?.getD 0 < n.toNat:=by
  have e:w.getLast?=some (w.getLast pw.ne):=List.getLast?_eq_some_getLast pw.ne
  rw[e]
  exact pw.lt _ (List.getLast_mem pw.ne)
 have bs':=bs
 obtain⟨bv,hbv,lbv,hrow⟩:=bs'
 obtain⟨a,rs,va,ha,up,hrs⟩:=hrow _ ln
 refine⟨_,(pss_cons (ps_if (PW.pt (pw_and (pt_cmpR op_eq (pe_callB call_len_seq rfl T.z_len (by decide +kernel) (pa_cons (pv 1) pa_nil)) (pv 2) (nomark _)) (pw_and (pt_cmpR op_in_seq (pe_ix ix_list (pv 1) pe_int (fun _ _=>rfl)) (pe_ix ix_list (pv 0) (pe_ix ix_list (pv 1) (pe_un un_neg pe_int) (fun _ _=>rfl)) (fun _ _=>rfl)) (by with_unfolding_all rfl)) (pw_and1 (pt_cmpR op_lt (pe_ix ix_list (pv 1) pe_int (fun _ _=>rfl)) (pe_ix ix_list (pv 1) (pe_un un_neg pe_int) (fun _ _=>rfl)) (nomark _)))))) (pss_one (ps_ret (pe_callTy call_tupleG rfl T.z_tuple (by decide +kernel) (pa_cons (pv 1) pa_nil)))) pss_nil) (pss_cons (ps_for PassesOwn.never rfl (pi_list (pe_ix ix_list (pv 0) (pe_ix ix_list (pv 1) (pe_un un_neg pe_int) (fun _ _=>rfl)) (fun _ _=>rfl))) (pg_name (i:=3) nd rfl (Or.inl rfl)) (pss_one (ps_if (PW.pt (pw_and (pt_cmpR op_lt (pe_callB call_len_seq rfl T.z_len (by decide +kernel) (pa_cons (pv 1) pa_nil)) (pv 2) (nomark _)) (pw_and (pt_cmpR op_gt (pv 3) (pe_ix ix_list (pv 1) pe_int (fun _ _=>rfl)) (nomark _)) (pw_and1 (pt_cmpR op_notIn_seq (pv 3) (pv 1) (by with_unfolding_all rfl)))))) (pss_cons (ps_set (i:=4) nd rfl (Or.inl rfl) (pe_callD O__law_ring_on hr rfl (pa_cons (pv 0) (pa_cons (pe_op op_catL (pv 1) (pe_lstG (pa_cons (pv 3) pa_nil))) (pa_cons (pv 2) pa_nil))))) (pss_one (ps_if (pt_cmpR op_notN (pv 4) pe_non (nomark _)) (pss_one (ps_ret (pv 4))) pss_nil))) pss_nil))) (pss_one (ps_ret pe_non)))),?_⟩
 apply brT (A:=m=0->∀ r,¬ RgP ts ks w size r)
 case main =>
  intro tail
  refine⟨_,rfl,p,_,rfl,.inl (SqL.of hp),_,rfl,rfl,_,rfl,?_⟩
  by_cases m0:m=0
  ·have ls:w.length=size:=by omega
   rw[decide_eq_true (show V.int (((natV w).length:Nat):Int)=V.int (size:Int) by rw[lw,ls])]
   refine iteT ?_
   have self:∀ r,RgP ts ks w size r->r=w:=fun r ⟨h0,tl,er,rg,cn,lr,t,et⟩=>by
    have:=congrArg List.length et
    rw[List.length_append,lr] at this
    have:t=[]:=List.length_eq_zero_iff.mp (by omega)
    rw[this,List.append_nil] at et
    exact et.symm
   have rself:RgP ts ks w size w↔Lr.isRing (rowsN ts ks) w=true:=by
    have rm:=Lr.ring_mem adj_sy (rows_mem ok ko) (adj_lt ok ko) (size - 1) w
    constructor
    ·rintro ⟨h0,tl,er,rg,cn,lr,_⟩
     exact (rm.mpr ⟨h0,tl,er,by rw[er] at lr;simp at lr;omega,rg,cn⟩).2
    ·intro z
     obtain⟨h0,tl,er,lt,rg,cn⟩:=rm.mp ⟨(Lr.ways_mem (rows_mem ok ko) (adj_lt ok ko) _ w).mpr ⟨by omega,pw⟩,z⟩
     exact⟨h0,tl,er,rg,cn,ls,List.prefix_refl _⟩
   have isr:Lr.isRing (rowsN ts ks) w=true↔w.getD 1 0 < w.getLast?.getD 0∧w.getD 0 0 ∈ rs:=by
    unfold Lr.isRing
    rw[Bool.and_eq_true,Bool.and_eq_true,decide_eq_true_iff,decide_eq_true_iff,decide_eq_true_iff]
    rw[(rows_mem ok ko _ _).trans (hrs _).symm]
    exact⟨fun z=>z.2,fun z=>⟨by omega,z⟩⟩
   refine⟨_,rfl,p,_,_,_,rfl,rfl,SqL.of hp,atW (m:=0) (by omega),_,rfl,_,rfl,_,rfl,p,_,_,_,rfl,rfl,SqL.of hp,at9,l,_,_,_,rfl,rfl,SqL.of hbv,atI_toNat (Int.natCast_nonneg _) va,a,_,rfl,.inl (SqL.of ha),rfl,flat_nat _,_,rfl,?_⟩
   show if inV (V.int ((w.getD 0 0:Nat):Int)) (natV rs)=true then _ else _
   rw[inV_nat (Int.natCast_nonneg _),Int.toNat_natCast]
   by_cases c1:w.getD 0 0 ∈ rs
   ·rw[decide_eq_true c1]
    refine iteT ⟨_,rfl,p,_,_,_,rfl,rfl,SqL.of hp,atW (m:=1) (by omega),_,rfl,_,rfl,p,_,_,_,rfl,rfl,SqL.of hp,at9,_,_,rfl,rfl,_,rfl,?_⟩
    by_cases c2:w.getD 1 0 < w.getLast?.getD 0
    ·rw[decide_eq_true (show ((w.getD 1 0:Nat):Int) < ((w.getLast?.getD 0:Nat):Int) by omega)]
     refine iteT ⟨_,rfl,p,_,rfl,hp,fun t J S f e=>q _ J S (.inr ⟨t,w,rfl,e,rself.mpr (isr.mpr ⟨c2,c1⟩),fun r' h'=>?_⟩)⟩
     rw[self r' h'];exact lle_refl _
    ·rw[decide_eq_false (show ¬ ((w.getD 1 0:Nat):Int) < ((w.getLast?.getD 0:Nat):Int) by omega)]
     refine iteF (tail fun _ r hr=>?_)
     rw[self r hr] at hr
     exact c2 (isr.mp (rself.mp hr)).1
   ·rw[decide_eq_false c1]
    refine iteF (iteF (tail fun _ r hr=>?_))
    rw[self r hr] at hr
    exact c1 (isr.mp (rself.mp hr)).2
  ·rw[decide_eq_false (show ¬ V.int (((natV w).length:Nat):Int)=V.int (size:Int) from fun z=>by injection z with z;rw[lw] at z;omega)]
   exact iteF (iteF (tail fun z=>absurd z m0))
 case tail =>
  intro nor
  have lrs:(natV rs).length=rs.length:=by unfold natV;rw[List.length_map]
  refine⟨_,rfl,_,rfl,_,rfl,p,_,_,_,rfl,rfl,SqL.of hp,at9,l,_,_,_,rfl,rfl,SqL.of hbv,atI_toNat (Int.natCast_nonneg _) va,a,rfl,⟨_,SqL.of ha⟩,?_⟩
  refine for_list (xs:=natV rs) (fun i σ J=>∃ y3 y4:Option V,σ=[some (.ref l),some (.ref p),some (.int (size:Int)),y3,y4]∧Same H J∧∀ c ∈ rs.take i,∀ r,¬ RgP ts ks (w++[c]) size r) ⟨none,none,rfl,Same.refl _,fun c hc=>(by cases hc)⟩ (fun i σ J _ h=>?_) (fun i x σ J hx h=>?_) (fun σ J h=>?_)
  ·obtain⟨y3,y4,rfl,sm,_⟩:=h
   exact SqL.of (sm _ _ ha)
  ·obtain⟨y3,y4,rfl,sm,no⟩:=h
   obtain⟨c,hc,rfl⟩:=nat_at hx
   have hp':=sm _ _ hp
   have tn:rs.take (i + 1)=rs.take i++[c]:=by rw[List.take_add_one,hc];rfl
   have go:(∀ r,¬ RgP ts ks (w++[c]) size r)->∀ c' ∈ rs.take (i + 1),∀ r,¬ RgP ts ks (w++[c']) size r:=fun h c' hc'=>by
    rw[tn] at hc'
    rcases List.mem_append.mp hc' with z | z
    ·exact no c' z
    ·rw[List.mem_singleton.mp z];exact h
   refine⟨_,rfl,p,_,rfl,.inl (SqL.of hp'),_,rfl,_,_,rfl,rfl,_,rfl,?_⟩
   by_cases m0:m=0
   ·rw[decide_eq_false (show ¬ (((natV w).length:Nat):Int) < (size:Int) by rw[lw];omega)]
    refine iteF (iteF ⟨_,_,rfl,sm,go fun r hr=>?_⟩)
    have:=(hr.new pw.ne).2.2
    omega
   ·rw[decide_eq_true (show (((natV w).length:Nat):Int) < (size:Int) by rw[lw];omega)]
    refine iteT ⟨_,rfl,_,rfl,p,_,_,_,rfl,rfl,SqL.of hp',atW (m:=0) (by omega),_,_,rfl,rfl,_,rfl,?_⟩
    rw[e0]
    by_cases c1:w.headD 0 < c
    ·rw[decide_eq_true (show ((c:Nat):Int) > ((w.headD 0:Nat):Int) by omega)]
     refine iteT ⟨_,rfl,_,rfl,p,_,rfl,.inl (SqL.of hp'),rfl,flat_nat _,_,rfl,?_⟩
     show if (!inV (V.int (c:Int)) (natV w))=true then _ else _
     rw[inV_nat (Int.natCast_nonneg _),Int.toNat_natCast]
     by_cases c2:c ∈ w
     ·rw[decide_eq_true c2]
      refine iteF ⟨_,_,rfl,sm,go fun r hr=>?_⟩
      exact (hr.new pw.ne).2.1 c2
     ·rw[decide_eq_false c2]
      refine iteT ?_
      have adj:=(hrs c).mp (List.mem_of_getElem? hc)
      obtain⟨m',em⟩:∃ m',m=m' + 1:=⟨m - 1,by omega⟩
      have pw2:Lr.PW (Adj ts ks) n.toNat (w++[c]):=by
       refine⟨by simp,?_,?_,fun v hv=>?_,fun h t e v hv=>?_⟩
       ·refine List.nodup_append.mpr ⟨pw.nd,by simp,fun x hx y hy=>?_⟩
        rw[List.mem_singleton.mp hy]
        exact fun z=>c2 (z ▸ hx)
       ·obtain⟨p',y,ep⟩:=Lr.snoc_parts pw.ne
        have ch:=pw.ch
        rw[ep] at ch adj ⊢
        exact Far.chn_join (m:=[]) ch (by simpa using adj) trivial
       ·rcases List.mem_append.mp hv with z | z
        ·exact pw.lt v z
        ·rw[List.mem_singleton.mp z];exact adj_lt ok ko _ _ adj
       ·cases w with
        | nil=>exact absurd rfl pw.ne
        | cons b w =>
         injection e with e1 e2
         subst e1;subst e2
         rcases List.mem_append.mp hv with z | z
         ·exact pw.up _ _ rfl v z
         ·rw[List.mem_singleton.mp z];exact c1
      refine⟨_,rfl,_,rfl,_,rfl,(by show 1≤1000;decide),fun l1 J1 S1 f1 h1=>?_⟩
      refine⟨p,l1,_,_,rfl,rfl,S1 _ _ hp',h1,by rw[lw];show w.length + 1≤1000;omega,fun p2 J2 S2 f2 h2=>⟨_,rfl,?_⟩⟩
      have S12:=sm.trans (S1.trans S2)
      refine hsp m' (by omega) _ _ _ _ ⟨n,ts,ks,l,p2,w++[c],size,rfl,ok,ko,bs.same S12,by rw[h2];unfold natV;rw[List.map_append];rfl,pw2,s3,s24,by rw[List.length_append];show w.length + 1 + m'=size;omega,fun v J3 S3 rv=>?_⟩
      have S03:=S12.trans S3
      rcases rv with ⟨rfl,none⟩ | ⟨t,r,rfl,ht,rg,mn⟩
      ·exact⟨_,rfl,rfl,_,rfl,iteNS rfl ⟨_,_,rfl,S03,go none⟩⟩
      ·refine⟨_,rfl,rfl,_,rfl,iteT ⟨_,rfl,q _ J3 S03 (.inr ⟨t,r,rfl,ht,rg.less,fun r' h'=>?_⟩)⟩⟩
       obtain⟨c',hc',adj',_,_⟩:=h'.next pw.ne (by omega)
       have hm':=(hrs c').mpr adj'
       have rg':RgP ts ks (w++[c']) size r':=by
        obtain⟨h0,tl,e1,e2,e3,e4,_⟩:=h'
        exact⟨h0,tl,e1,e2,e3,e4,hc'⟩
       obtain⟨i',hi',ei'⟩:=List.getElem_of_mem hm'
       obtain⟨hic,eic⟩:=List.getElem?_eq_some_iff.mp hc
       rcases Nat.lt_trichotomy i' i with z | z | z
       ·exfalso
        refine no c' ?_ r' rg'
        refine List.mem_of_getElem? (i:=i') ?_
        rw[List.getElem?_take_of_lt z,List.getElem?_eq_getElem hi',ei']
       ·subst z
        have:c'=c:=ei'.symm.trans eic
        rw[this] at rg'
        exact mn r' rg'
       ·have lt:=List.pairwise_iff_getElem.mp up i i' hic hi' z
        rw[eic,ei'] at lt
        obtain⟨_,_,_,_,_,_,pre⟩:=rg
        exact lle_next lt pre hc'
    ·rw[decide_eq_false (show ¬ ((c:Nat):Int) > ((w.headD 0:Nat):Int) by omega)]
     refine iteF (iteF ⟨_,_,rfl,sm,go fun r hr=>?_⟩)
     exact c1 (hr.new pw.ne).1
  ·obtain⟨y3,y4,rfl,sm,no⟩:=h
   refine q _ J sm (.inl ⟨rfl,fun r hr=>?_⟩)
   by_cases m0:m=0
   ·exact nor m0 r hr
   ·obtain⟨c',hc',adj',_,_⟩:=hr.next pw.ne (by omega)
    have hm':=(hrs c').mpr adj'
    rw[lrs,List.take_length] at no
    obtain⟨h0,tl,e1,e2,e3,e4,_⟩:=hr
    exact no c' hm' r ⟨h0,tl,e1,e2,e3,e4,hc'⟩
theorem ok__law_ring_on (T:Bi mg) (D:DefOk K mg "_law_ring_on" s__law_ring_on ["beside","row","size"]):∀ M:Nat,Ok P w K mg base (M + 1) "_law_ring_on" ["beside","row","size"] (spRonTo M)
 | 0=>by
  have O:Ok P w K mg base 0 "_law_ring_on" ["beside","row","size"] (fun _ _ _ _=>False):=by
   obtain⟨f,fd,F,b,m⟩:=D
   exact⟨f,fd,⟨fun _ _ _ _ h=>h.elim,fun _ _ _ _ _ _ _ _ _ _ _ _ _ h=>h.elim⟩,b,F.kp,m⟩
  exact ron_step (P:=P) (w:=w) (base:=base) T D O fun m' e=>by omega
 | M + 1=>ron_step (P:=P) (w:=w) (base:=base) T D (ok__law_ring_on T D M) fun m' e vs H Q E z=>⟨m',by omega,z⟩
theorem ok__law_least_ringS (T:Bi mg) (D:DefOk K mg "_law_least_ring" s__law_least_ring ["web","keep"]) (O__law_beside:Ok P w K mg base 24 "_law_beside" ["web","keep"] (spBesS K)) (O__law_ring_on:Ok P w K mg base 24 "_law_ring_on" ["beside","row","size"] (spRonTo 23)):Ok P w K mg base 25 "_law_least_ring" ["web","keep"] (spLR K):=by
 refine mk_ok (k:=24) D sc__law_least_ring (fun vs H Q E h=>?_) (fun f cdv A outer s H vs Q E hr h=>?_)
 ·obtain⟨n,ts,ks,wv,kv,rfl,_⟩:=h
  rfl
 obtain⟨n,ts,ks,wv,kv,rfl,wk,q⟩:=h
 have nd:=sc__law_least_ring.nd
 have ok:=wk.2.1
 have ko:=wk.2.2.2
 have n1:=ok.n1
 have n24:=ok.n24
 obtain⟨g0,g,ws,rfl,hg0,hg,hall,hlw⟩:=web_parts wk.1
 refine⟨_,(pss_cons (ps_set (i:=2) nd rfl (Or.inl rfl) (pe_callD O__law_beside hr rfl (pa_cons (pv 0) (pa_cons (pv 1) pa_nil)))) (pss_cons (ps_for PassesOwn.never rfl (pi_range2 rfl T.z_range (pa_cons pe_int (pa_cons (pe_op op_add (pe_ix ix_tup (pv 0) pe_int (fun _ _=>rfl)) pe_int) pa_nil))) (pg_name (i:=3) nd rfl (Or.inl rfl)) (pss_one (ps_for PassesOwn.never rfl (pi_range1 rfl T.z_range (pa_cons (pe_ix ix_tup (pv 0) pe_int (fun _ _=>rfl)) pa_nil)) (pg_name (i:=4) nd rfl (Or.inl rfl)) (pss_cons (ps_set (i:=5) nd rfl (Or.inl rfl) (pe_callD O__law_ring_on hr rfl (pa_cons (pv 2) (pa_cons (pe_lstG (pa_cons (pv 4) pa_nil)) (pa_cons (pv 3) pa_nil))))) (pss_one (ps_if (pt_cmpR op_notN (pv 5) pe_non (nomark _)) (pss_one (ps_ret (pv 5))) pss_nil)))))) (pss_one (ps_ret pe_non)))),?_⟩
 refine⟨_,rfl,_,rfl,n,ts,ks,_,_,rfl,wk,fun lb H1 S1 bs=>?_⟩
 refine⟨_,rfl,g0,_,_,_,rfl,rfl,SqT.of (S1 _ _ hg0),rfl,_,_,rfl,rfl,?_⟩
 refine⟨3,n + 1,rfl,⟨by decide,by decide,by omega,by omega⟩,?_⟩
 have rlen:∀ h tl,Lr.Rg (Adj ts ks) h tl->3≤(h::tl).length∧(h::tl).length≤n.toNat∧h < n.toNat:=fun h tl r=>by
  have c:Far.chn (Adj ts ks) (h::tl):=Lr.chn_left (m:=[h]) (by simpa using r.ch)
  have hn:h < n.toNat:=by
   obtain⟨x0,m0,y0,e0⟩:=Lr.two_ends r.len
   have:=r.ch
   rw[e0] at this
   exact adj_lt ok ko _ _ (adj_sy _ _ this.1)
  exact⟨by have:=r.len;simp;omega,Peel.len_below n.toNat _ r.nd (chn_below ok ko hn c),hn⟩
 have rgp:∀ h tl,Lr.Rg (Adj ts ks) h tl->Lr.Cano h tl->RgP ts ks [h] (h::tl).length (h::tl):=fun h tl r cn=>⟨h,tl,rfl,r,cn,rfl,tl,rfl⟩
 refine for_range (lo:=3) (n:=(n + 1 - 3).toNat) (fun i σ J=>∃ (y3 y4 y5:Option V),σ=[some (.ref g0),some kv,some (.ref lb),y3,y4,y5]∧Same H1 J∧∀ h tl,Lr.Rg (Adj ts ks) h tl->Lr.Cano h tl->i + 3≤(h::tl).length) ⟨none,none,none,rfl,Same.refl _,fun h tl r _=>by have:=(rlen h tl r).1;omega⟩ (fun i σ J hi h=>?_) (fun σ J h=>?_)
 ·obtain⟨y3,y4,y5,rfl,sm,no⟩:=h
  refine⟨_,rfl,g0,_,_,_,rfl,rfl,SqT.of (sm _ _ (S1 _ _ hg0)),rfl,n,rfl,by omega,by omega,?_⟩
  have size3:(3 + (i:Int))=((i + 3:Nat):Int):=by omega
  refine for_range (lo:=0) (n:=n.toNat) (fun v σ J'=>∃ (y4 y5:Option V),σ=[some (.ref g0),some kv,some (.ref lb),some (.int (3 + (i:Int))),y4,y5]∧Same H1 J'∧∀ h,h < v->∀ r,¬ RgP ts ks [h] (i + 3) r) ⟨_,_,rfl,sm,fun h z=>by omega⟩ (fun v σ J' hv h=>?_) (fun σ J' h=>?_)
  ·obtain⟨y4,y5,rfl,sm2,no2⟩:=h
   refine⟨_,rfl,_,rfl,(by show 1≤1000;decide),fun l1 J1 T1 f1 h1=>⟨_,rfl,?_⟩⟩
   have S1':=sm2.trans T1
   have pw:Lr.PW (Adj ts ks) n.toNat [v]:=⟨by simp,by simp,trivial,fun u hu=>by rw[List.mem_singleton.mp hu];exact hv,fun h t e u hu=>by injection e with _ e;subst e;cases hu⟩
   refine⟨i + 2,by omega,n,ts,ks,lb,l1,[v],i + 3,by rw[size3];rfl,ok,ko,bs.same S1',by rw[h1,Int.zero_add];rfl,pw,by omega,by omega,by show 1 + (i + 2)=i + 3;omega,fun u J2 S2 rv=>?_⟩
   have S02:=S1'.trans S2
   rcases rv with ⟨rfl,none⟩ | ⟨t,r,rfl,ht,rg,mn⟩
   ·refine⟨_,rfl,rfl,_,rfl,iteNS rfl ⟨_,_,rfl,S02,fun h hh r hr=>?_⟩⟩
    rcases Nat.lt_or_eq_of_le (Nat.le_of_lt_succ hh) with z | z
    ·exact no2 h z r hr
    ·rw[z] at hr;exact none r hr
   ·refine⟨_,rfl,rfl,_,rfl,iteT ⟨_,rfl,?_⟩⟩
    obtain⟨h0,tl,er,rr,cn,lr,pre⟩:=rg
    subst er
    refine q _ J2 (S1.trans S02) (.inr ⟨t,h0,tl,rfl,ht,rr,cn,fun h' tl' r'=>?_,fun h' tl' r' cn' el=>?_⟩)
    ·obtain⟨h2,tl2,r2,cn2,len2,_⟩:=r'.cano adj_sy
     have:=no h2 tl2 r2 cn2
     rw[List.length_cons] at this lr
     omega
    ·have ev:h0=v:=by
      obtain⟨t',et⟩:=pre
      injection et with e _
      exact e.symm
     have rg':=rgp h' tl' r' cn'
     have le':(h'::tl').length=i + 3:=by rw[List.length_cons,el,← List.length_cons (a:=h0),lr]
     rw[le'] at rg'
     rcases Nat.lt_trichotomy h' v with z | z | z
     ·exact absurd rg' (no2 h' z _)
     ·subst z
      exact mn _ rg'
     ·exact .inl (by omega)
  ·obtain⟨y4,y5,rfl,sm2,no2⟩:=h
   refine⟨_,_,_,rfl,sm2,fun h tl r cn=>?_⟩
   have:=no h tl r cn
   rcases Nat.eq_or_lt_of_le this with z | z
   ·exfalso
    have rg':=rgp h tl r cn
    rw[← z] at rg'
    exact no2 h (rlen h tl r).2.2 _ rg'
   ·omega
 ·obtain⟨y3,y4,y5,rfl,sm,no⟩:=h
  refine q _ J (S1.trans sm) (.inl ⟨rfl,fun h tl r=>?_⟩)
  obtain⟨h2,tl2,r2,cn2,len2,_⟩:=r.cano adj_sy
  have a1:=no h2 tl2 r2 cn2
  have a2:=rlen h2 tl2 r2
  omega
theorem ok__law_share (T:Bi mg) (D:DefOk K mg "_law_share" s__law_share ["n","k"]) (O__law_fan:Ok P w K mg base 1 "_law_fan" ["d","k"] spSpr):Ok P w K mg base 2 "_law_share" ["n","k"] spShare:=by
 refine mk_ok (k:=1) D sc__law_share (fun vs H Q E h=>?_) (fun f cdv A outer s H vs Q E hr h=>?_)
 ·obtain⟨n,k,rfl,_⟩:=h
  rfl
 obtain⟨n,k,rfl,hn,k1,hk,q⟩:=h
 have nd:=sc__law_share.nd
 refine⟨_,(pss_cons (ps_set (i:=2) nd rfl (Or.inl rfl) pe_int) (pss_cons (ps_while PassesOwn.never (pt_cmpR op_le (pe_callD O__law_fan hr rfl (pa_cons (pv 2) (pa_cons (pv 1) pa_nil))) (pv 0) (nomark _)) (pss_one (ps_set (i:=2) nd rfl (Or.inl rfl) (pe_op op_add (pv 2) pe_int)))) (pss_one (ps_ret (pv 2))))),?_⟩
 refine⟨fun m σ J=>∃ d:Nat,J=H∧σ=[some (.int (n:Int)),some (.int (k:Int)),some (.int (d:Int))]∧d≤n∧(∀ e,e < d->Shr.spr e k≤n)∧m=n + 1 - d,⟨_,0,rfl,rfl,by omega,fun e h=>by omega,rfl⟩,?_⟩
 rintro m σ J ⟨d,rfl,rfl,hd,hle,rfl⟩
 refine⟨_,rfl,_,rfl,d,k,rfl,by omega,hk,_,rfl,_,_,rfl,rfl,_,rfl,ite2 (fun c=>?_) (fun c=>?_)⟩
 ·have c':=of_decide_eq_true c
  have big:=Shr.spr_big d k k1
  refine⟨fun σ' J'=>∃ m',m' < n + 1 - d∧∃ d':Nat,J'=J∧σ'=[some (.int (n:Int)),some (.int (k:Int)),some (.int (d':Int))]∧d'≤n∧(∀ e,e < d'->Shr.spr e k≤n)∧m'=n + 1 - d',fun _ _ h=>h,?_⟩
  refine⟨_,rfl,_,_,rfl,rfl,n + 1 - (d + 1),by omega,d + 1,rfl,rfl,by omega,fun e he=>?_,rfl⟩
  rcases Nat.lt_or_ge e d with h | h
  ·exact hle e h
  ·have:e=d:=by omega
   subst this;omega
 ·have c':=of_decide_eq_false (Bool.eq_false_iff.mpr c)
  exact⟨_,rfl,q d ⟨by omega,hle⟩⟩
theorem ok_is_tuple_of2 (T:Bi mg) (D:DefOk K mg "is_tuple_of" s_is_tuple_of ["thing","many"]):Ok P w K mg base 1 "is_tuple_of" ["thing","many"] spTupOf2:=by
 refine mk_ok (k:=0) D sc_is_tuple_of (fun vs H Q E h=>?_) (fun f cdv A outer s H vs Q E hr h=>?_)
 ·obtain⟨t,xs,rfl,_⟩:=h
  rfl
 obtain⟨t,xs,rfl,ht,lx,q⟩:=h
 have nd:=sc_is_tuple_of.nd
 refine⟨_,(pss_one (ps_ret (pe_and (pe_callB (call_isi (n:="tuple")) rfl T.z_isinstance (by decide +kernel) (pa_cons (pv 0) (pa_cons (pe_bltn (v:=.ty "tuple") rfl T.z_tuple (by decide +kernel) rfl) pa_nil))) (pe_one (pe_cmpR op_eq (pe_callB call_len_seq rfl T.z_len (by decide +kernel) (pa_cons (pv 0) pa_nil)) (pv 1) (nomark _)))))),?_⟩
 refine⟨_,rfl,_,_,_,rfl,TyOf.tup ht,rfl,_,rfl,iteT ?_⟩
 refine⟨_,rfl,t,_,rfl,.inr (SqT.of ht),_,rfl,rfl,?_⟩
 have e:decide (V.int ((xs.length:Nat):Int)=V.int 2)=true:=decide_eq_true (by rw[lx];rfl)
 rw[e]
 exact q
theorem ok_is_told2 (T:Bi mg) (D:DefOk K mg "is_told" s_is_told ["thing","word","many"]) (O_is_tuple_of:Ok P w K mg base 1 "is_tuple_of" ["thing","many"] spTupOf2):Ok P w K mg base 2 "is_told" ["thing","word","many"] (spTold2 K):=by
 refine mk_ok (k:=1) D sc_is_told (fun vs H Q E h=>?_) (fun f cdv A outer s H vs Q E hr h=>?_)
 ·obtain⟨p,x,y,v,rfl,_⟩:=h
  rfl
 obtain⟨p,x,y,v,rfl,hp,q⟩:=h
 have nd:=sc_is_told.nd
 refine⟨_,(pss_one (ps_ret (pe_and (pe_callD O_is_tuple_of hr rfl (pa_cons (pv 0) (pa_cons (pv 2) pa_nil))) (pe_one (pe_cmpR op_eq (pe_ix ix_tup (pv 0) pe_int (fun _ _=>rfl)) (pv 1) (nomark _)))))),?_⟩
 refine⟨_,rfl,_,rfl,p,_,rfl,hp,rfl,_,rfl,iteT ?_⟩
 refine⟨_,rfl,p,_,_,_,rfl,rfl,SqT.of hp,rfl,_,rfl,rfl,?_⟩
 have e:decide (V.str x=V.str y)=decide (x=y):=by
  by_cases z:x=y
  ·rw[decide_eq_true z,decide_eq_true (by rw[z])]
  ·rw[decide_eq_false z,decide_eq_false (fun h=>z (by injection h))]
 rw[e]
 exact q H (Same.refl H)
theorem ok_few_told (T:Bi mg) (D:DefOk K mg "few_told" s_few_told ["web","keep","k"]) (O_peeled:Ok P w K mg base 5 "peeled" ["web","keep","d"] (spPeeled K)) (O_share_of:Ok P w K mg base 5 "share_of" ["n","k"] spShare) (O_least_ring:Ok P w K mg base 5 "least_ring" ["web","keep"] (spLR K)):Ok P w K mg base (5 + 1) "few_told" ["web","keep","k"] (spFewT K):=by
 refine mk_ok (k:=5) D sc_few_told (fun vs H Q E h=>?_) (fun f cdv A outer s H vs Q E hr h=>?_)
 ·obtain⟨n,ts,ks,wv,kv,k,rfl,_⟩:=h
  rfl
 obtain⟨n,ts,ks,wv,kv,k,rfl,wk,k1,k1000,q⟩:=h
 have nd:=sc_few_told.nd
 have units:∀ {u:Nat},u≤3->(A.deeper (envOfC "few_told" (defScope s_few_told) s.heap.objs.size f cdv)).units + u < cLine:=fun {u} hu=>by have:=hr.units;omega
 have ok:=wk.2.1
 have ko:=wk.2.2.2
 have n1:=ok.n1
 have n24:=ok.n24
 obtain⟨g0,g,ws,rfl,hg0,hg,hall,hlw⟩:=web_parts wk.1
 have en:n=((n.toNat:Nat):Int):=by omega
 refine⟨_,(pss_cons (ps_asg (pe_callD O_peeled hr rfl (pa_cons (pv 0) (pa_cons (pv 1) (pa_cons (pe_callD O_share_of hr rfl (pa_cons (pe_ix ix_tup (pv 0) pe_int (fun _ _=>rfl)) (pa_cons (pv 2) pa_nil))) pa_nil)))) (pg_tup (n:=2) rfl (pgs_cons (pg_name (i:=3) nd rfl (Or.inl rfl)) (pgs_cons (pg_name (i:=4) nd rfl (Or.inl rfl)) pgs_nil)))) (pss_cons (ps_if (pt_cmpR op_eqD (pv 4) (pe_tupG pa_nil) (nomark _)) (pss_one (ps_ret (pe_tupG (pa_cons pe_str (pa_cons (pv 3) pa_nil))))) pss_nil) (pss_one (ps_ret (pe_tupG (pa_cons pe_str (pa_cons (pe_callD O_least_ring hr rfl (pa_cons (pv 0) (pa_cons (pv 1) pa_nil))) pa_nil))))))),?_⟩
 refine⟨_,rfl,_,rfl,_,rfl,g0,_,_,_,rfl,rfl,SqT.of hg0,rfl,_,rfl,n.toNat,k,by rw[← en];rfl,by omega,k1,k1000,fun d sh=>?_⟩
 refine⟨n,ts,ks,_,_,_,rfl,wk,fun p a b J S hp ha hb=>?_⟩
 refine⟨p,_,rfl,SqT.of hp,rfl,_,_,rfl,_,_,rfl,rfl,?_⟩
 have lb:(natV (leftN n.toNat (Peel.gone n.toNat (t2s ts ks) (d:Int)))).length=(leftN n.toNat (Peel.gone n.toNat (t2s ts ks) (d:Int))).length:=by unfold natV;rw[List.length_map]
 refine⟨_,rfl,(by show 0≤1000;decide),fun te J1 S1 f1 e1=>?_⟩
 have S0:=S.trans S1
 refine⟨keepD (leftN n.toNat (Peel.gone n.toNat (t2s ts ks) (d:Int))),.tuple [],is_nkeepL (S1 _ _ hb),⟨te,_,rfl,e1,rfl⟩,lay_ints _,rfl,?_,_,rfl,?_⟩
 ·exact units (Nat.le_trans (Nat.min_le_right _ _) (by show 1≤3;decide))
 by_cases c:leftN n.toNat (Peel.gone n.toNat (t2s ts ks) (d:Int))=[]
 ·rw[c]
  refine iteT ⟨_,rfl,(by show 2≤1000;decide),fun r J3 S3 f3 e3=>q r a "few" _ J3 (S0.trans S3) e3 ((S1.trans S3) _ _ ha) ⟨d,sh,.inl ⟨rfl,rfl,left_none.mp c⟩⟩⟩
 ·have ef:PyData.eqv (keepD (leftN n.toNat (Peel.gone n.toNat (t2s ts ks) (d:Int)))) (.tuple [])=false:=by
   cases e:leftN n.toNat (Peel.gone n.toNat (t2s ts ks) (d:Int)) with
   | nil=>exact absurd e c
   | cons x r=>rfl
  rw[ef]
  refine iteF ?_
  refine⟨_,rfl,_,rfl,n,ts,ks,_,_,rfl,wk.same S0,fun v J2 S2 lv=>?_⟩
  obtain⟨x,hx,nx⟩:=left_cons c
  obtain⟨t,h,tl,rfl,ht,lr,le⟩:=core_least ok ko sh k1 hx nx lv
  refine⟨(by show 2≤1000;decide),fun r J3 S3 f3 e3=>q r t "ring" (h::tl) J3 ((S0.trans S2).trans S3) e3 (S3 _ _ ht) ⟨d,sh,.inr ⟨rfl,⟨x,hx,nx⟩,h,tl,rfl,lr,le⟩⟩⟩
def spMost31:Sp:=fun vs H Q _=>∃ p k,vs=[.ref p,.int k]∧Pot H p∧∀ m H',1≤m->m≤24->But p H H'->Pot H' p->Q (.int m) H'
theorem ok__law_most31 (T:Bi mg) (D:DefOk K mg "_law_most" s__law_most ["pot","k"]) (O__law_take:Ok P w K mg base 1 "_law_take" ["pot","many"] spTake):Ok P w K mg base 2 "_law_most" ["pot","k"] spMost31:=by
 refine mk_ok (k:=1) D sc__law_most (fun vs H Q E h=>?_) (fun f cdv A outer s H vs Q E hr h=>?_)
 ·obtain⟨p,k,rfl,_⟩:=h
  rfl
 obtain⟨p,k,rfl,hp,q⟩:=h
 have nd:=sc__law_most.nd
 have fin:∀ (J:Hp),But p H J->Pot J p->∀ (l0:Addr) (J1:Hp),Same J J1->J l0=none->J1 l0=some (.lst [.int 8,.int 12])->∀ (r:Int) (J2:Hp),0≤r->r < 2->But p J1 J2->Pot J2 p->l0≠p->∃ m,atI [V.int 8,V.int 12] r=some (.int m)∧J2 l0=some (.lst [.int 8,.int 12])∧Q (.int m) J2:=by
  intro J b hP l0 J1 S1 f1 e1 r J2 r0 r1 b2 p2 n0
  have e2:=b2 _ _ n0 e1
  have bb:But p H J2:=b.trans ((Same.but S1).trans b2)
  have:r=0∨r=1:=by omega
  rcases this with rfl | rfl
  ·exact⟨8,rfl,e2,q 8 J2 (by decide) (by decide) bb p2⟩
  ·exact⟨12,rfl,e2,q 12 J2 (by decide) (by decide) bb p2⟩
 refine⟨_,(pss_cons (ps_if (PW.pt (pw_and (pt_cmpR op_eq (pv 1) pe_int (nomark _)) (pw_and1 (pt_cmpR op_eq (pe_callD O__law_take hr rfl (pa_cons (pv 0) (pa_cons pe_int pa_nil))) pe_int (nomark _))))) (pss_one (ps_ret pe_int)) pss_nil) (pss_one (ps_ret (pe_ix ix_list (pe_lstG (pa_cons pe_int (pa_cons pe_int pa_nil))) (pe_callD O__law_take hr rfl (pa_cons (pv 0) (pa_cons pe_int pa_nil))) (fun _ _=>rfl))))),?_⟩
 refine⟨_,rfl,rfl,_,rfl,ite2 (fun c=>?_) (fun c=>?_)⟩
 ·refine⟨_,rfl,p,8,rfl,hp,by decide,by decide,fun r J r0 r1 b1 p1=>⟨rfl,_,rfl,ite2 (fun c2=>?_) (fun c2=>?_)⟩⟩
  ·exact q 24 J (by decide) (by decide) b1 p1
  ·refine⟨by decide,fun l0 J1 S1 f1 e1=>⟨_,rfl,p,2,rfl,p1.same S1,by decide,by decide,fun r J2 r0 r1 b2 p2=>?_⟩⟩
   have n0:l0≠p:=fun z=>by
    obtain⟨a',b',e',_⟩:=p1
    rw[z,e'] at f1;cases f1
   obtain⟨m,h1,h2,h3⟩:=fin J b1 p1 l0 J1 S1 f1 e1 r J2 r0 r1 b2 p2 n0
   exact⟨l0,_,r,_,rfl,rfl,SqL.of h2,h1,h3⟩
 ·refine⟨by decide,fun l0 J1 S1 f1 e1=>⟨_,rfl,p,2,rfl,hp.same S1,by decide,by decide,fun r J2 r0 r1 b2 p2=>?_⟩⟩
  have n0:l0≠p:=fun z=>by
   obtain⟨a',b',e',_⟩:=hp
   rw[z,e'] at f1;cases f1
  obtain⟨m,h1,h2,h3⟩:=fin H But.refl hp l0 J1 S1 f1 e1 r J2 r0 r1 b2 p2 n0
  exact⟨l0,_,r,_,rfl,rfl,SqL.of h2,h1,h3⟩
theorem cut_mid (ns:List Int) (k:Nat) (m:Nat):∃ ms:List Int,cutV (ns.map V.int) (some (k:Int)) (some ((k:Int) + m))=ms.map V.int∧ms.length≤m∧ms.length≤ns.length - k:=by
 refine⟨(ns.drop (min k ns.length)).take (min (k + m) ns.length - min k ns.length),?_,?_,?_⟩
 ·unfold cutV
  rw[show (k:Int) + m=((k + m:Nat):Int) by omega,HT.sIx_nat,HT.sIx_nat,List.length_map,List.map_take,List.map_drop]
 ·rw[List.length_take,List.length_drop];omega
 ·rw[List.length_take,List.length_drop];omega
theorem cutI_A (is:List Int) (k:Nat):cutV (is.map V.int) none (some (k:Int))=(is.take k).map V.int:=by rw[cut_toK,List.map_take]
theorem cutI_B (is:List Int) (k:Nat):cutV (is.map V.int) (some (k:Int)) none=(is.drop k).map V.int:=by rw[cut_fromK,List.map_drop]
theorem cutI_C (is:List Int) (k:Nat):cutV (is.map V.int) (some ((k:Int) + 1)) none=(is.drop (k + 1)).map V.int:=by rw[show (k:Int) + 1=((k + 1:Nat):Int) from rfl,cut_fromK,List.map_drop]
theorem cut_mid1 (ns:List Int) (k:Nat):∃ ms:List Int,cutV (ns.map V.int) (some (k:Int)) (some ((k:Int) + 1))=ms.map V.int∧ms.length≤1∧ms.length≤ns.length - k:=cut_mid ns k 1
/-- an order of all places with at most d ties to those behind -/
def peelB (n:Int) (ts:List Tie) (ks:List Nat) (d:Nat) (ns:List Int):Bool:=(placesB n ns && decide ns.Nodup) && (decide (ns.length=n.toNat) && (List.range ns.length).all fun i=>decide ((nbN ts ks (ns.getD i 0)).countP (fun q=>((ns.drop (i + 1)).map Int.toNat).contains q)≤d))
def spPeelB (K:PySem.W.Frag):Sp:=fun vs H Q _=>∃ n ts ks wv kv,∃ (d:Nat) (t:Addr) (ns:List Int),vs=[wv,kv,.int (d:Int),.ref t]∧WK K H n ts ks wv kv∧H t=some (.tup (ns.map V.int))∧ns.length≤60∧∀ H',Same H H'->Q (.bl (peelB n ts ks d ns)) H'
theorem nats_in {n:Int} {ns:List Int} (h:placesB n ns=true):ns=keepI (ns.map Int.toNat):=by
 unfold keepI;rw[List.map_map]
 refine (List.map_id ns).symm.trans (List.map_congr_left fun x hx=>?_)
 have:=(Bool.and_eq_true _ _).mp (List.all_eq_true.mp h x hx)
 have:=of_decide_eq_true this.1
 show x=((x.toNat:Nat):Int)
 omega
theorem iteNSf {c A B:Prop} [Decidable c] (hc:¬ c) (h:A):if (!decide c)=true then A else B:=by
 rw[decide_eq_false hc]
 exact iteT h
theorem ok_peelsB (T:Bi mg) (D:DefOk K mg "peels" s_peels ["web","keep","d","order"]) (O_are_unlike_places:Ok P w K mg base 3 "are_unlike_places" ["web","thing"] (spUnlike K)) (O_ties_among:Ok P w K mg base 3 "ties_among" ["web","keep","place","others"] (spAmong K)):Ok P w K mg base 4 "peels" ["web","keep","d","order"] (spPeelB K):=by
 refine mk_ok (k:=3) D sc_peels (fun vs H Q E h=>?_) (fun f cdv A outer s H vs Q E hr h=>?_)
 ·obtain⟨n,ts,ks,wv,kv,d,t,ns,rfl,_⟩:=h
  rfl
 obtain⟨n,ts,ks,wv,kv,d,t,ns,rfl,wk,ht,l60,q⟩:=h
 have nd:=sc_peels.nd
 have ok:=wk.2.1
 have n1:=ok.n1
 obtain⟨g0,g,ws,rfl,hg0,hg,hall,hlw⟩:=web_parts wk.1
 refine⟨_,(pss_cons (ps_if (PW.pt (pw_or (pt_not (pt_val (pe_callD O_are_unlike_places hr rfl (pa_cons (pv 0) (pa_cons (pv 3) pa_nil))))) (pw_or1 (pt_cmpR op_ne (pe_callB call_len_seq rfl T.z_len (by decide +kernel) (pa_cons (pv 3) pa_nil)) (pe_ix ix_tup (pv 0) pe_int (fun _ _=>rfl)) (nomark _))))) (pss_one (ps_ret pe_bl)) pss_nil) (pss_one (ps_ret (pe_callB (call_all rfl) rfl T.z_all (by decide +kernel) (pa_cons (pe_comp (N:=["web","keep","d","order"]) (sc0:=defScope s_peels) (own:=["turn","place"]) (fr:=["web","keep","order","d"]) (js:=[0,1,3,2]) rfl (pi_enum true rfl T.z_enumerate (pa_cons (pv 3) pa_nil)) (fun _ _ _ _=>(pg_tupC (n:=2) rfl (pgs_cons (pg_name (i:=0) (by show List.Nodup [("turn":Str),("place":Str),("web":Str),("keep":Str),("order":Str),("d":Str)];decide +kernel) rfl (Or.inl rfl)) (pgs_cons (pg_name (i:=1) (by show List.Nodup [("turn":Str),("place":Str),("web":Str),("keep":Str),("order":Str),("d":Str)];decide +kernel) rfl (Or.inl rfl)) pgs_nil)))) (fun _ _ _ _=>pts_nil) (fun _ _ _ _=>(pe_cmpR op_le (pe_callD O_ties_among hr rfl (pa_cons (pv 2) (pa_cons (pv 3) (pa_cons (pv 1) (pa_cons (pe_slice sl_tupA (pv 4) (po_some (pe_op op_add (pv 0) pe_int)) po_none) pa_nil))))) (pv 5) (nomark _)))) pa_nil))))),?_⟩
 unfold peelB at q
 refine⟨_,rfl,_,rfl,n,ts,_,t,ns,rfl,wk.1,⟨ht,by omega⟩,fun H1 s1=>?_⟩
 cases e1:(placesB n ns && decide ns.Nodup) with
 | false =>
  rw[e1] at q
  exact⟨_,rfl,iteT (q H1 s1)⟩
 | true =>
 rw[e1] at q
 have lM:(ns.map V.int).length=ns.length:=List.length_map _
 refine⟨_,rfl,iteF ⟨_,rfl,t,_,rfl,.inr (SqT.of (s1 _ _ ht)),_,rfl,g0,_,_,_,rfl,rfl,SqT.of (s1 _ _ hg0),rfl,rfl,_,rfl,?_⟩⟩
 rw[lM]
 by_cases el:ns.length=n.toNat
 case neg =>
  rw[decide_eq_false el] at q
  exact iteNSf (fun z=>el (by injection z with z;omega)) (q H1 s1)
 rw[decide_eq_true el] at q
 refine iteNS (by congr 1;omega) ?_
 have ht1:=s1 _ _ ht
 have pl:=((Bool.and_eq_true _ _).mp e1).1
 have en:=nats_in pl
 refine⟨_,rfl,t,rfl,⟨_,SqX.of (t:=true) ht1⟩,?_⟩
 let f1:Nat->Bool:=fun i=>decide ((nbN ts ks (ns.getD i 0)).countP (fun q=>((ns.drop (i + 1)).map Int.toNat).contains q)≤d)
 refine comp_selE (t:=true) (xs:=ns.map V.int) ht1 (fun σ'=>∃ o1 o2,σ'=[o1,o2,some (.ref g0),some kv,some (.ref t),some (.int (d:Int))]) (fun i=>some (.bl (f1 i))) (by omega) (by exact⟨none,none,rfl⟩) (fun i x U σ' H' hx s2 hU sg C L hC hL=>?_) (fun L H2 hL s2 hH=>?_)
 ·obtain⟨o1,o2,rfl⟩:=sg
  rw[List.getElem?_map,Option.map_eq_some_iff] at hx
  obtain⟨p,hp,rfl⟩:=hx
  have ep:ns.getD i 0=p:=by rw[List.getD_eq_getElem?_getD,hp];rfl
  have SU:=same_new (o:=.tup [.int (i:Nat),.int p]) hU
  have S3:=(s1.trans s2).trans SU
  refine⟨U,_,rfl,SqT.of upd_same,rfl,_,_,rfl,_,_,rfl,rfl,?_⟩
  have ht3:=SU _ _ (s2 _ _ ht1)
  refine⟨_,rfl,_,rfl,_,rfl,_,rfl,_,rfl,_,_,rfl,rfl,_,rfl,t,_,rfl,ht3,fun t2 J3 S4 e4=>?_⟩
  rw[en,← natV_keep,show ((i:Int) + 1)=((i + 1:Nat):Int) by omega,cut_from,← List.map_drop] at e4
  refine⟨n,ts,ks,_,kv,_,t2,(ns.drop (i + 1)).map Int.toNat,rfl,wk.same (S3.trans S4),.inr e4,fun J5 S5=>⟨_,rfl,_,_,rfl,rfl,hC _ _ _ ⟨_,_,rfl⟩ (SU.trans (S4.trans S5)) ?_⟩⟩
  show some (V.bl (decide ((nbN ts ks (ns.getD i 0)).countP (fun q=>((ns.drop (i + 1)).map Int.toNat).contains q)≤d)))=some (V.bl (decide (_≤_)))
  rw[ep]
  congr 2
  exact decide_eq_decide.mpr ⟨fun h=>by omega,fun h=>by omega⟩
 ·have e:(List.range (ns.map V.int).length).filterMap (fun i=>some (V.bl (f1 i)))=((List.range ns.length).map f1).map V.bl:=by rw[List.map_map,lM];exact congrFun List.filterMap_eq_map' _
  refine⟨L,_,rfl,SqL.of (by rw[hH,e]),?_⟩
  rw[List.all_map]
  exact q H2 (s1.trans s2)
def fewB (n:Int) (ts:List Tie) (ks:List Nat) (k d:Nat) (x:Str) (ns:List Int):Bool:=if x="few" then peelB n ts ks d ns else ringB n ts ks ns && decide (ns.length≤2 * k)
def spFewB (K:PySem.W.Frag):Sp:=fun vs H Q _=>∃ n ts ks wv kv,∃ (k d:Nat) (p t:Addr) (x:Str) (ns:List Int),vs=[wv,kv,.int (k:Int),.ref p]∧WK K H n ts ks wv kv∧1≤k∧k≤1000∧Shr.Share n.toNat k d∧H p=some (.tup [.str x,.ref t])∧H t=some (.tup (ns.map V.int))∧ns.length≤60∧(x="few"∨x="ring")∧∀ H',Same H H'->Q (.bl (fewB n ts ks k d x ns)) H'
theorem ok_few_rightB (T:Bi mg) (D:DefOk K mg "few_right" s_few_right ["web","keep","k","told"]) (O_is_told:Ok P w K mg base 4 "is_told" ["thing","word","many"] (spTold2 K)) (O_peels:Ok P w K mg base 4 "peels" ["web","keep","d","order"] (spPeelB K)) (O_share_of:Ok P w K mg base 4 "share_of" ["n","k"] spShare) (O_ring_right:Ok P w K mg base 4 "ring_right" ["web","keep","ring"] (spRingB K)):Ok P w K mg base 5 "few_right" ["web","keep","k","told"] (spFewB K):=by
 refine mk_ok (k:=4) D sc_few_right (fun vs H Q E h=>?_) (fun f cdv A outer s H vs Q E hr h=>?_)
 ·obtain⟨n,ts,ks,wv,kv,k,d,p,t,x,ns,rfl,_⟩:=h
  rfl
 obtain⟨n,ts,ks,wv,kv,k,d,p,t,x,ns,rfl,wk,k1,k1000,sh,hp,ht,l60,hx,q⟩:=h
 have nd:=sc_few_right.nd
 have ok:=wk.2.1
 have n1:=ok.n1
 have n24:=ok.n24
 obtain⟨g0,g,ws,rfl,hg0,hg,hall,hlw⟩:=web_parts wk.1
 have en:n=((n.toNat:Nat):Int):=by omega
 refine⟨_,(pss_cons (ps_if (pt_val (pe_callD O_is_told hr rfl (pa_cons (pv 3) (pa_cons pe_str (pa_cons pe_int pa_nil))))) (pss_one (ps_ret (pe_callD O_peels hr rfl (pa_cons (pv 0) (pa_cons (pv 1) (pa_cons (pe_callD O_share_of hr rfl (pa_cons (pe_ix ix_tup (pv 0) pe_int (fun _ _=>rfl)) (pa_cons (pv 2) pa_nil))) (pa_cons (pe_ix ix_tup (pv 3) pe_int (fun _ _=>rfl)) pa_nil))))))) pss_nil) (pss_cons (ps_if (pt_val (pe_callD O_is_told hr rfl (pa_cons (pv 3) (pa_cons pe_str (pa_cons pe_int pa_nil))))) (pss_one (ps_ret (pe_and (pe_callD O_ring_right hr rfl (pa_cons (pv 0) (pa_cons (pv 1) (pa_cons (pe_ix ix_tup (pv 3) pe_int (fun _ _=>rfl)) pa_nil)))) (pe_one (pe_cmpR op_le (pe_callB call_len_seq rfl T.z_len (by decide +kernel) (pa_cons (pe_ix ix_tup (pv 3) pe_int (fun _ _=>rfl)) pa_nil)) (pe_op op_mul pe_int (pv 2)) (nomark _)))))) pss_nil) (pss_one (ps_ret pe_bl)))),?_⟩
 refine⟨_,rfl,p,x,"few",_,rfl,hp,fun H1 s1=>⟨_,rfl,?_⟩⟩
 unfold fewB at q
 rcases hx with rfl | rfl
 ·refine iteT ?_
  refine⟨_,rfl,_,rfl,_,rfl,g0,_,_,_,rfl,rfl,SqT.of (s1 _ _ hg0),rfl,_,rfl,n.toNat,k,by rw[← en];rfl,by omega,k1,k1000,fun d' sh'=>?_⟩
  have:=sh.one sh'
  subst this
  rw[if_pos rfl] at q
  exact⟨_,rfl,p,_,_,_,rfl,rfl,SqT.of (s1 _ _ hp),rfl,n,ts,ks,_,kv,d,t,ns,rfl,wk.same s1,s1 _ _ ht,l60,fun J S=>q J (s1.trans S)⟩
 ·refine iteF ?_
  rw[if_neg (by decide)] at q
  refine⟨_,rfl,p,"ring","ring",_,rfl,s1 _ _ hp,fun H2 s2=>⟨_,rfl,iteT ?_⟩⟩
  have s12:=s1.trans s2
  refine⟨_,rfl,_,rfl,_,rfl,p,_,_,_,rfl,rfl,SqT.of (s12 _ _ hp),rfl,n,ts,ks,_,kv,t,ns,rfl,wk.same s12,s12 _ _ ht,l60,fun H3 s3=>?_⟩
  have s13:=s12.trans s3
  cases er:ringB n ts ks ns with
  | false =>
   rw[er] at q
   exact⟨_,rfl,iteF (q H3 s13)⟩
  | true =>
   rw[er] at q
   refine⟨_,rfl,iteT ?_⟩
   have lt:(ns.map V.int).length=ns.length:=List.length_map _
   refine⟨_,rfl,p,_,_,_,rfl,rfl,SqT.of (s13 _ _ hp),rfl,t,_,rfl,.inr (SqT.of (s13 _ _ ht)),?_⟩
   refine⟨_,rfl,_,_,rfl,rfl,.inl ⟨by decide,by decide⟩,_,_,rfl,rfl,?_⟩
   have q3:=q H3 s13
   have e:decide ((((ns.map V.int).length:Nat):Int)≤2 * (k:Int))=decide (ns.length≤2 * k):=by
    rw[lt]
    by_cases z:ns.length≤2 * k
    ·rw[decide_eq_true z,decide_eq_true (by omega)]
    ·rw[decide_eq_false z,decide_eq_false (by omega)]
   show Q (V.bl (decide ((((ns.map V.int).length:Nat):Int)≤2 * (k:Int)))) H3
   rw[e]
   exact q3
def spIs34:Sp:=fun vs H Q _=>∃ a:Bool,vs=[.bl a,.bl a]∧Q (.bl true) H
theorem ok__law_is34 (T:Bi mg) (D:DefOk K mg "_law_is" s__law_is ["found","due"]):Ok P w K mg base 1 "_law_is" ["found","due"] spIs34:=by
 refine mk_ok (k:=0) D sc__law_is (fun vs H Q E h=>?_) (fun f cdv A outer s H vs Q E hr h=>?_)
 ·obtain⟨a,rfl,_⟩:=h
  rfl
 obtain⟨a,rfl,q⟩:=h
 have nd:=sc__law_is.nd
 refine⟨_,(pss_one (ps_ret (pe_and (pe_callB (call_isi (n:="bool")) rfl T.z_isinstance (by decide +kernel) (pa_cons (pv 0) (pa_cons (pe_bltn (v:=.ty "bool") rfl T.z_bool (by decide +kernel) rfl) pa_nil))) (pe_one (pe_cmpR op_eq (pv 0) (pv 1) (nomark _)))))),?_⟩
 refine⟨_,rfl,_,_,_,rfl,TyOf.bl a,rfl,_,rfl,iteT ⟨_,rfl,_,rfl,rfl,?_⟩⟩
 rw[decide_eq_true rfl]
 exact q
theorem ord_iff {n:Int} {ns ms:List Int} (pm:ms.Perm ns) (srt:ms.Pairwise (·≤·)) (n0:0≤n):ms=(List.range n.toNat).map (fun i:Nat=>(i:Int))↔(placesB n ns && decide ns.Nodup)=true∧ns.length=n.toNat:=by
 have ndR:((List.range n.toNat).map (fun i:Nat=>(i:Int))).Nodup:=List.Pairwise.map _ (fun a b h z=>h (by omega)) List.nodup_range
 constructor
 ·intro e
  have p2:ns.Perm ((List.range n.toNat).map (fun i:Nat=>(i:Int))):=e ▸ pm.symm
  refine⟨?_,by rw[p2.length_eq,List.length_map,List.length_range]⟩
  rw[decide_eq_true (p2.nodup_iff.mpr ndR),Bool.and_true]
  refine List.all_eq_true.mpr fun i hi=>?_
  obtain⟨z,hz,rfl⟩:=List.mem_map.mp (p2.mem_iff.mp hi)
  have:=List.mem_range.mp hz
  rw[decide_eq_true (Int.natCast_nonneg _),decide_eq_true (by omega)];rfl
 ·intro ⟨e,el⟩
  obtain⟨e1,e2⟩:=(Bool.and_eq_true _ _).mp e
  have nd:=of_decide_eq_true e2
  have sub:∀ x ∈ ns,x ∈ (List.range n.toNat).map (fun i:Nat=>(i:Int)):=fun x hx=>by
   have:=(Bool.and_eq_true _ _).mp (List.all_eq_true.mp e1 x hx)
   have h0:=of_decide_eq_true this.1
   have h1:=of_decide_eq_true this.2
   exact List.mem_map.mpr ⟨x.toNat,List.mem_range.mpr (by omega),by omega⟩
  have p2:ns.Perm ((List.range n.toNat).map (fun i:Nat=>(i:Int))):=(perm_of_len nd sub (by rw[List.length_map,List.length_range];omega)).symm
  refine (pm.trans p2).eq_of_pairwise (fun a b _ _ h1 h2=>Int.le_antisymm h1 h2) srt ?_
  exact List.Pairwise.map _ (fun a b h=>by omega) List.pairwise_lt_range
theorem row_count {n:Int} {ts:List Tie} {ks:List Nat} {p:Nat} {rs:List Nat} (ok:WebOk n ts) (ko:KeepOk ts.length ks) (h:RowS ts ks p rs) (f:Nat->Bool):rs.countP f=(nbN ts ks (p:Int)).countP f:=by
 refine List.Perm.countP_eq f ?_
 refine (List.perm_ext_iff_of_nodup (h.1.imp fun h=>Nat.ne_of_lt h) (nbN_nodup ok ko p)).mpr fun q=>?_
 rw[h.2 q,nb_mem ok ko p q]
def spOrdB (K:PySem.W.Frag):Sp:=fun vs H Q _=>∃ n ts ks wv kv,∃ (k d:Nat) (t:Addr) (ns:List Int),vs=[wv,kv,.int (k:Int),.ref t]∧WK K H n ts ks wv kv∧1≤k∧k≤1000∧Shr.Share n.toNat k d∧H t=some (.tup (ns.map V.int))∧ns.length≤60∧∀ H',Same H H'->Q (.bl (peelB n ts ks d ns)) H'
theorem ok__law_is_order34 (T:Bi mg) (D:DefOk K mg "_law_is_order" s__law_is_order ["web","keep","steps","row"]) (O__law_beside:Ok P w K mg base 2 "_law_beside" ["web","keep"] (spBesS K)) (O__law_share:Ok P w K mg base 2 "_law_share" ["n","k"] spShare):Ok P w K mg base 3 "_law_is_order" ["web","keep","steps","row"] (spOrdB K):=by
 refine mk_ok (k:=2) D sc__law_is_order (fun vs H Q E h=>?_) (fun f cdv A outer s H vs Q E hr h=>?_)
 ·obtain⟨n,ts,ks,wv,kv,k,d,t,ns,rfl,_⟩:=h
  rfl
 obtain⟨n,ts,ks,wv,kv,k,d,t,ns,rfl,wk,k1,k1000,sh,ht,l60,q⟩:=h
 have nd:=sc__law_is_order.nd
 have units:∀ {x:Nat},x≤3->(A.deeper (envOfC "_law_is_order" (defScope s__law_is_order) s.heap.objs.size f cdv)).units + x < cLine:=fun {x} hu=>by have:=hr.units;omega
 have ok:=wk.2.1
 have n1:=ok.n1
 have n24:=ok.n24
 obtain⟨g0,g,ws,rfl,hg0,hg,hall,hlw⟩:=web_parts wk.1
 have en:n=((n.toNat:Nat):Int):=by omega
 refine⟨_,(BSs.h (bss_cons (bs_if (pt_cmpR op_neD (pe_callB call_sortedIT rfl T.z_sorted (by decide +kernel) (pa_cons (pv 3) pa_nil)) (pe_callTy (call_list_rng rfl) rfl T.z_list (by decide +kernel) (pa_cons (pe_callTy call_range rfl T.z_range (by decide +kernel) (pa_cons (pe_ix ix_tup (pv 0) pe_int (fun _ _=>rfl)) pa_nil)) pa_nil)) (nomark _)) (bss_one (bs_ret (BE.mk pe_bl))) bss_nil) (bss_cons (bs_set (i:=4) nd rfl (Or.inl rfl) (BE.mk (pe_callD O__law_beside hr rfl (pa_cons (pv 0) (pa_cons (pv 1) pa_nil))))) (bss_cons (bs_set (i:=5) nd rfl (Or.inl rfl) (BE.mk (pe_callD O__law_share hr rfl (pa_cons (pe_ix ix_tup (pv 0) pe_int (fun _ _=>rfl)) (pa_cons (pv 2) pa_nil))))) (bss_cons (bs_forB PassesOwn.never rfl (pi_range1 rfl T.z_range (pa_cons (pe_callB call_len_seq rfl T.z_len (by decide +kernel) (pa_cons (pv 3) pa_nil)) pa_nil)) (pg_name (i:=6) nd rfl (Or.inl rfl)) (bss_cons (bs_set (i:=7) nd rfl (Or.inr rfl) (BE.mk (pe_slice sl_tupA (pv 3) (po_some (pe_op op_add (pv 6) pe_int)) po_none))) (bss_one (bs_if (pt_cmpR op_gt (pe_callB call_len_seq rfl T.z_len (by decide +kernel) (pa_cons (pe_comp (N:=["web","keep","steps","row","beside","share","at","rest"]) (sc0:=defScope s__law_is_order) (own:=["place"]) (fr:=["rest"]) (js:=[7]) rfl (pi_list (pe_ix ix_list (pv 4) (pe_ix ix_tup (pv 3) (pv 6) (fun _ _=>rfl)) (fun _ _=>rfl))) (fun _ _ _ _=>(pg_name (i:=0) (by show List.Nodup [("place":Str),("rest":Str)];decide +kernel) rfl (Or.inl rfl))) (fun _ _ _ _=>(pts_one (pt_cmpR op_in_seqC (pv 0) (pv 1) (by with_unfolding_all rfl)))) (fun _ _ _ _=>(pv 0))) pa_nil)) (pv 5) (nomark _)) (bss_one (bs_ret (BE.mk pe_bl))) bss_nil)))) (bss_one (bs_ret (BE.mk pe_bl)))))))),?_⟩
 refine⟨_,rfl,t,ns,rfl,ht,by omega,fun ms pm srt l1 J1 S1 f1 e1=>?_⟩
 refine⟨_,rfl,g0,_,_,_,rfl,rfl,SqT.of (S1 _ _ hg0),rfl,n,rfl,fun ga hga=>⟨ga,n,rfl,upd_same,by omega,by omega,fun l2 hl2=>?_⟩⟩
 have S2:Same J1 (upd (upd J1 ga (.rng 0 n)) l2 (.lst ((List.range n.toNat).map fun i:Nat=>V.int (i:Int)))):=(same_new hga).trans (same_new hl2)
 have eL:((List.range n.toNat).map fun i:Nat=>V.int (i:Int))=((List.range n.toNat).map (fun i:Nat=>(i:Int))).map V.int:=by rw[List.map_map];rfl
 have e2:upd (upd J1 ga (.rng 0 n)) l2 (.lst ((List.range n.toNat).map fun i:Nat=>V.int (i:Int))) l2=some (.lst (((List.range n.toNat).map (fun i:Nat=>(i:Int))).map V.int)):=by rw[← eL];exact upd_same
 generalize upd (upd J1 ga (.rng 0 n)) l2 (.lst ((List.range n.toNat).map fun i:Nat=>V.int (i:Int)))=J2 at *
 have s2:=S1.trans S2
 have dep:∀ l:List Int,PyData.depth (.list (l.map .int))≤2:=fun l=>Nat.succ_le_succ (deep_ints l)
 refine⟨.list (ms.map .int),.list (((List.range n.toNat).map (fun i:Nat=>(i:Int))).map .int),⟨l1,_,rfl,S2 _ _ e1,IsAll.ints ms⟩,⟨l2,_,rfl,e2,IsAll.ints _⟩,lay_ints _,lay_ints _,units (Nat.le_trans (Nat.min_le_left _ _) (Nat.le_succ_of_le (dep ms))),_,rfl,?_⟩
 rw[eqv_list]
 have oi:=ord_iff pm srt (show 0≤n by omega)
 unfold peelB at q
 by_cases em:ms=(List.range n.toNat).map (fun i:Nat=>(i:Int))
 case neg =>
  rw[decide_eq_false em]
  refine iteT ?_
  have e:((placesB n ns && decide ns.Nodup) && (decide (ns.length=n.toNat) && (List.range ns.length).all fun i=>decide ((nbN ts ks (ns.getD i 0)).countP (fun q=>((ns.drop (i + 1)).map Int.toNat).contains q)≤d)))=false:=by
   refine Bool.eq_false_iff.mpr fun z=>em (oi.mpr ?_)
   obtain⟨z1,z2⟩:=(Bool.and_eq_true _ _).mp z
   exact⟨z1,of_decide_eq_true ((Bool.and_eq_true _ _).mp z2).1⟩
  rw[e] at q
  exact q J2 s2
 rw[decide_eq_true em]
 refine iteF ?_
 obtain⟨e1',el⟩:=oi.mp em
 rw[e1',decide_eq_true el] at q
 have pl:=((Bool.and_eq_true _ _).mp e1').1
 have enn:=nats_in pl
 refine⟨_,rfl,_,rfl,n,ts,ks,_,kv,rfl,wk.same s2,fun lb J3 S3 bes=>?_⟩
 have s3:=s2.trans S3
 refine⟨_,rfl,g0,_,_,_,rfl,rfl,SqT.of (s3 _ _ hg0),rfl,_,rfl,n.toNat,k,by rw[← en];rfl,by omega,k1,k1000,fun d' sh'=>?_⟩
 have:=sh.one sh'
 subst this
 have lM:(ns.map V.int).length=ns.length:=List.length_map _
 refine⟨_,rfl,t,_,rfl,.inr (SqT.of (s3 _ _ ht)),_,rfl,by omega,by rw[lM];omega,?_⟩
 refine for_range (n:=(ns.map V.int).length) (fun i σ J=>∃ y6 y7:Option V,σ=[some (.ref g0),some kv,some (.int (k:Int)),some (.ref t),some (.ref lb),some (.int (d:Int)),y6,y7]∧Same J3 J∧∀ j,j < i->decide ((nbN ts ks (ns.getD j 0)).countP (fun q=>((ns.drop (j + 1)).map Int.toNat).contains q)≤d)=true) ⟨none,none,rfl,Same.refl _,fun j hj=>by omega⟩ (fun i σ J hi hinv=>?_) (fun σ J hinv=>?_)
 ·obtain⟨y6,y7,rfl,S4,al⟩:=hinv
  rw[lM] at hi
  have s4:=s3.trans S4
  have hp:ns[i]?=some ns[i]:=List.getElem?_eq_getElem hi
  have ep:ns.getD i 0=ns[i]:=by rw[List.getD_eq_getElem?_getD,hp];rfl
  have hin:0≤ns[i]∧ns[i] < n:=by
   have:=(Bool.and_eq_true _ _).mp (List.all_eq_true.mp pl ns[i] (List.getElem_mem hi))
   exact⟨of_decide_eq_true this.1,of_decide_eq_true this.2⟩
  have zi:(0:Int) + (i:Int)=(i:Int):=by omega
  rw[zi]
  refine⟨_,rfl,_,rfl,_,_,rfl,rfl,_,rfl,t,_,rfl,s4 _ _ ht,fun t2 J5 S5 e5=>?_⟩
  rw[enn,← natV_keep,show ((i:Int) + 1)=((i + 1:Nat):Int) by omega,cut_from,← List.map_drop] at e5
  have s5:=s4.trans S5
  obtain⟨vs,h1,h2,h3⟩:=BesS.same (S4.trans S5) bes
  obtain⟨a,rs,e6,e7,e8⟩:=h3 ns[i].toNat (by omega)
  have at1:atI (ns.map V.int) (i:Int)=some (.int ns[i]):=atI_toNat (Int.natCast_nonneg _) (by rw[Int.toNat_natCast,List.getElem?_map,hp];rfl)
  have at2:atI vs ns[i]=some (.ref a):=atI_toNat hin.1 e6
  have len:(natV rs).length=rs.length:=natV_length _
  have lrs:rs.length≤n.toNat:=Peel.len_below _ _ (e8.1.imp fun h=>Nat.ne_of_lt h) fun c hc=>adj_lt ok wk.2.2.2 _ _ ((e8.2 c).mp hc)
  refine⟨_,rfl,_,rfl,_,rfl,t,_,_,_,rfl,rfl,SqT.of (s5 _ _ ht),at1,lb,_,_,_,rfl,rfl,SqL.of h1,at2,a,rfl,⟨_,SqL.of e7⟩,?_⟩
  refine comp_selL e7 (fun σ'=>∃ u,σ'=[u,some (.ref t2)]) (fun i'=>if ((ns.drop (i + 1)).map Int.toNat).contains (rs.getD i' 0)=true then some (V.int ((rs.getD i' 0:Nat):Int)) else none) (by omega) (by exact⟨none,rfl⟩) (fun i' x σ' H' hx s6 sg C M hC hM=>?_) (fun L3 H3 hL3 s6 hH3=>?_)
  ·obtain⟨u,rfl⟩:=sg
   obtain⟨c,hc,rfl⟩:=nat_at hx
   have ec0:rs.getD i' 0=c:=by rw[List.getD_eq_getElem?_getD,hc];rfl
   rw[ec0] at hC hM
   refine⟨_,rfl,_,rfl,t2,_,rfl,.inr (SqT.of (s6 _ _ e5)),rfl,flat_nat _,_,rfl,?_⟩
   show if inV (V.int (c:Int)) (natV ((ns.drop (i + 1)).map Int.toNat))=true then _ else _
   rw[inV_nat (Int.natCast_nonneg _),Int.toNat_natCast]
   have ec:decide (c ∈ (ns.drop (i + 1)).map Int.toNat)=((ns.drop (i + 1)).map Int.toNat).contains c:=by rw[List.contains_eq_mem]
   rw[ec]
   exact ite2 (fun c=>⟨_,rfl,hC _ _ _ ⟨_,rfl⟩ (Same.refl _) (by rw[if_pos c])⟩) (fun c=>hM _ _ ⟨_,rfl⟩ (Same.refl _) (by rw[if_neg c]))
  ·rw[len,sel_list (fun j=>((ns.drop (i + 1)).map Int.toNat).contains j)] at hH3
   refine⟨L3,_,rfl,.inl (SqL.of hH3),?_⟩
   have el2:(natV (rs.filter fun j=>((ns.drop (i + 1)).map Int.toNat).contains j)).length=(nbN ts ks ns[i]).countP fun j=>((ns.drop (i + 1)).map Int.toNat).contains j:=by
    rw[natV_length,← List.countP_eq_length_filter,row_count ok wk.2.2.2 e8,Int.toNat_of_nonneg hin.1]
   rw[el2]
   refine⟨_,rfl,_,_,rfl,rfl,_,rfl,ite2 (fun c=>?_) (fun c=>?_)⟩
   ·have c':=of_decide_eq_true c
    have e:(true && (true && (List.range ns.length).all fun i=>decide ((nbN ts ks (ns.getD i 0)).countP (fun q=>((ns.drop (i + 1)).map Int.toNat).contains q)≤d)))=false:=by
     refine Bool.eq_false_iff.mpr fun z=>?_
     have z:=List.all_eq_true.mp z i (List.mem_range.mpr hi)
     rw[ep] at z
     have:=of_decide_eq_true z
     omega
    rw[e] at q
    exact q H3 (s5.trans s6)
   ·refine⟨_,_,rfl,S4.trans (S5.trans s6),fun j hj=>?_⟩
    by_cases z:j=i
    ·rw[z,ep]
     exact decide_eq_true (Nat.le_of_not_lt fun z=>c (decide_eq_true (by omega)))
    ·exact al j (by omega)
 ·obtain⟨y6,y7,rfl,S4,al⟩:=hinv
  have e:(true && (true && (List.range ns.length).all fun i=>decide ((nbN ts ks (ns.getD i 0)).countP (fun q=>((ns.drop (i + 1)).map Int.toNat).contains q)≤d)))=true:=List.all_eq_true.mpr fun j hj=>al j (by rw[lM];exact List.mem_range.mp hj)
  rw[e] at q
  exact q J (s3.trans S4)
def prevI (l i:Nat):Nat:=if i=0 then l - 1 else i - 1
theorem round_prev {ts:List Tie} {ks:List Nat} {ns:List Int} (l1:1≤ns.length):roundB ts ks ns=true↔∀ i,i < ns.length->tiedB ts ks (ns.getD (prevI ns.length i) 0) (ns.getD i 0)=true:=by
 have nx:∀ i,i < ns.length->(ns++ns.take 1).getD (i + 1) 0=ns.getD (if i + 1=ns.length then 0 else i + 1) 0:=fun i hi=>by
  split
  ·rename_i e
   rw[List.getD_eq_getElem?_getD,List.getD_eq_getElem?_getD,e,List.getElem?_append_right (Nat.le_refl _),Nat.sub_self,List.getElem?_take_of_lt (by omega)]
  ·rw[List.getD_eq_getElem?_getD,List.getD_eq_getElem?_getD,List.getElem?_append_left (by omega)]
 constructor
 ·intro h i hi
  have:=List.all_eq_true.mp h (prevI ns.length i) (List.mem_range.mpr (by unfold prevI;split <;> omega))
  rw[nx _ (by unfold prevI;split <;> omega)] at this
  have e:(if prevI ns.length i + 1=ns.length then 0 else prevI ns.length i + 1)=i:=by unfold prevI;split <;> split <;> omega
  rw[e] at this
  exact this
 ·intro h
  refine List.all_eq_true.mpr fun i hi=>?_
  have hi:=List.mem_range.mp hi
  rw[nx i hi]
  have:=h (if i + 1=ns.length then 0 else i + 1) (by split <;> omega)
  have e:prevI ns.length (if i + 1=ns.length then 0 else i + 1)=i:=by unfold prevI;split <;> split <;> omega
  rw[e] at this
  exact this
theorem tied_adj {n:Int} {ts:List Tie} {ks:List Nat} (ok:WebOk n ts) (ko:KeepOk ts.length ks) {x y:Int} (hx:0≤x) (hy:0≤y):tiedB ts ks x y=true↔Adj ts ks x.toNat y.toNat:=by
 have ex:x=((x.toNat:Nat):Int):=by omega
 have ey:y=((y.toNat:Nat):Int):=by omega
 rw[ex,ey,tiedB_iff,Int.toNat_natCast,Int.toNat_natCast]
 exact⟨adjK_adj,adj_adjK ok ko⟩
theorem ok__law_is_ring34 (T:Bi mg) (D:DefOk K mg "_law_is_ring" s__law_is_ring ["web","keep","row"]) (O__law_beside:Ok P w K mg base 1 "_law_beside" ["web","keep"] (spBesS K)):Ok P w K mg base 2 "_law_is_ring" ["web","keep","row"] (spRingB K):=by
 refine mk_ok (k:=1) D sc__law_is_ring (fun vs H Q E h=>?_) (fun f cdv A outer s H vs Q E hr h=>?_)
 ·obtain⟨n,ts,ks,wv,kv,t,ns,rfl,_⟩:=h
  rfl
 obtain⟨n,ts,ks,wv,kv,t,ns,rfl,wk,ht,l60,q⟩:=h
 have nd:=sc__law_is_ring.nd
 have ok:=wk.2.1
 have ko:=wk.2.2.2
 obtain⟨g0,g,ws,rfl,hg0,hg,hall,hlw⟩:=web_parts wk.1
 refine⟨_,(BSs.h (bss_cons (bs_if (PW.pt (pw_or (pt_cmpR op_lt (pe_callB call_len_seq rfl T.z_len (by decide +kernel) (pa_cons (pv 2) pa_nil)) pe_int (nomark _)) (pw_or (pt_cmpR op_lt (pe_callB call_lenS rfl T.z_len (by decide +kernel) (pa_cons (pe_callTy (call_setT rfl) rfl T.z_set (by decide +kernel) (pa_cons (pv 2) pa_nil)) pa_nil)) (pe_callB call_len_seq rfl T.z_len (by decide +kernel) (pa_cons (pv 2) pa_nil)) (nomark _)) (pw_or (pt_cmpR op_lt (pe_callB (call_minTu rfl) rfl T.z_min (by decide +kernel) (pa_cons (pv 2) pa_nil)) pe_int (nomark _)) (pw_or1 (pt_cmpR op_ge (pe_callB (call_maxTu rfl) rfl T.z_max (by decide +kernel) (pa_cons (pv 2) pa_nil)) (pe_ix ix_tup (pv 0) pe_int (fun _ _=>rfl)) (nomark _))))))) (bss_one (bs_ret (BE.mk pe_bl))) bss_nil) (bss_cons (bs_set (i:=3) nd rfl (Or.inl rfl) (BE.mk (pe_callD O__law_beside hr rfl (pa_cons (pv 0) (pa_cons (pv 1) pa_nil))))) (bss_cons (bs_forB PassesOwn.never rfl (pi_range1 rfl T.z_range (pa_cons (pe_callB call_len_seq rfl T.z_len (by decide +kernel) (pa_cons (pv 2) pa_nil)) pa_nil)) (pg_name (i:=4) nd rfl (Or.inl rfl)) (bss_one (bs_if (pt_cmpR op_notIn_seq (pe_ix ix_tup (pv 2) (pv 4) (fun _ _=>rfl)) (pe_ix ix_list (pv 3) (pe_ix ix_tup (pv 2) (pe_op op_sub (pv 4) pe_int) (fun _ _=>rfl)) (fun _ _=>rfl)) (by with_unfolding_all rfl)) (bss_one (bs_ret (BE.mk pe_bl))) bss_nil))) (bss_one (bs_ret (BE.mk (pe_and (pe_cmpR op_eq (pe_ix ix_tup (pv 2) pe_int (fun _ _=>rfl)) (pe_callB (call_minTu rfl) rfl T.z_min (by decide +kernel) (pa_cons (pv 2) pa_nil)) (nomark _)) (pe_one (pe_cmpR op_lt (pe_ix ix_tup (pv 2) pe_int (fun _ _=>rfl)) (pe_ix ix_tup (pv 2) (pe_un un_neg pe_int) (fun _ _=>rfl)) (nomark _))))))))))),?_⟩
 refine⟨_,rfl,t,_,rfl,.inr (SqT.of ht),_,_,rfl,rfl,_,rfl,ite2 (fun c=>?_) (fun c=>?_)⟩
 ·have z:=of_decide_eq_true c
  rw[List.length_map] at z
  have e:ringB n ts ks ns=false:=by unfold ringB;rw[decide_eq_false (show ¬ 3≤ns.length by omega)];simp
  rw[← e];exact q H (Same.refl _)
 have len3:3≤ns.length:=by
  have z:¬ (((ns.map V.int).length:Nat):Int) < 3:=fun z=>c (decide_eq_true z)
  rw[List.length_map] at z;omega
 refine⟨_,rfl,t,ns,rfl,ht,by omega,fun q1 J1 S1 f1 e1=>⟨q1,_,_,rfl,e1,_,rfl,t,_,rfl,.inr (SqT.of (S1 _ _ ht)),_,_,rfl,rfl,_,rfl,ite2 (fun c=>?_) (fun c=>?_)⟩⟩
 ·have z:=of_decide_eq_true c
  rw[List.length_map] at z
  have cn:¬ ns.Nodup:=fun y=>by
   have:=(setN_nodup ns).mpr y
   omega
  have e:ringB n ts ks ns=false:=by unfold ringB;rw[decide_eq_false cn];simp
  rw[← e];exact q J1 S1
 have cn:ns.Nodup:=by
  have z:¬ ((HT.setN ns ns.length:Nat):Int) < (((ns.map V.int).length:Nat):Int):=fun z=>c (decide_eq_true z)
  rw[List.length_map] at z
  have le:HT.setN ns ns.length≤ns.length:=firstMet_length_le _ _
  exact (setN_nodup ns).mp (by omega)
 have ne:ns≠[]:=fun z=>by rw[z] at len3;simp at len3
 have no:inB n ns=false->ringB n ts ks ns=false:=fun z=>by unfold ringB;rw[z];rfl
 refine⟨_,rfl,t,ns,rfl,S1 _ _ ht,ne,fun b hb least=>⟨_,_,rfl,rfl,_,rfl,ite2 (fun c=>?_) (fun c0=>?_)⟩⟩
 ·have c':=of_decide_eq_true c
  rw[← no ?_]
  ·exact q J1 S1
  refine Bool.eq_false_iff.mpr fun z=>?_
  have:=(Bool.and_eq_true _ _).mp (List.all_eq_true.mp z b hb)
  have:=of_decide_eq_true this.1
  omega
 refine⟨_,rfl,t,ns,rfl,S1 _ _ ht,ne,fun b2 hb2 most=>⟨_,rfl,g0,_,_,_,rfl,rfl,SqT.of (S1 _ _ hg0),rfl,_,_,rfl,rfl,_,rfl,ite2 (fun c=>?_) (fun c1=>?_)⟩⟩
 ·have c':=of_decide_eq_true c
  rw[← no ?_]
  ·exact q J1 S1
  refine Bool.eq_false_iff.mpr fun z=>?_
  have:=(Bool.and_eq_true _ _).mp (List.all_eq_true.mp z b2 hb2)
  have:=of_decide_eq_true this.2
  omega
 have lo:∀ x ∈ ns,0≤x:=fun x hx=>by
  have h1:¬ b < 0:=fun z=>c0 (decide_eq_true z)
  have:=least x hx;omega
 have hi9:∀ x ∈ ns,x < n:=fun x hx=>by
  have h1:¬ n≤b2:=fun z=>c1 (decide_eq_true z)
  have:=most x hx;omega
 have cI:inB n ns=true:=List.all_eq_true.mpr fun x hx=>by rw[decide_eq_true (lo x hx),decide_eq_true (hi9 x hx)];rfl
 have gm:∀ i,i < ns.length->ns.getD i 0 ∈ ns:=fun i hi=>by rw[List.getD_eq_getElem?_getD,List.getElem?_eq_getElem hi];exact List.getElem_mem _
 have gv:∀ i,i < ns.length->(ns.map V.int)[i]?=some (.int (ns.getD i 0)):=fun i hi=>by
  rw[List.getElem?_map,List.getD_eq_getElem?_getD,List.getElem?_eq_getElem hi];rfl
 have at0:atI (ns.map V.int) 0=some (.int (ns.getD 0 0)):=atI_toNat (Int.le_refl 0) (gv 0 (by omega))
 have at1:atI (ns.map V.int) 1=some (.int (ns.getD 1 0)):=atI_toNat (by decide) (gv 1 (by omega))
 have at9:atI (ns.map V.int) (-1)=some (.int (ns.getD (ns.length - 1) 0)):=by
  unfold atI ixN
  rw[if_neg (by decide),if_pos (by rw[List.length_map];omega)]
  show (ns.map V.int)[(-1 + ((ns.map V.int).length:Int)).toNat]?=_
  rw[show (-1 + ((ns.map V.int).length:Int)).toNat=ns.length - 1 by rw[List.length_map];omega]
  exact gv _ (by omega)
 refine⟨_,rfl,_,rfl,n,ts,ks,_,kv,rfl,wk.same S1,fun lb J2 S2 bes=>?_⟩
 have s2:=S1.trans S2
 have lM:(ns.map V.int).length=ns.length:=List.length_map _
 refine⟨_,rfl,t,_,rfl,.inr (SqT.of (s2 _ _ ht)),_,rfl,by omega,by rw[lM];omega,?_⟩
 have rp:=round_prev (ts:=ts) (ks:=ks) (ns:=ns) (by omega)
 refine for_range (n:=(ns.map V.int).length) (fun i σ J=>∃ y4:Option V,σ=[some (.ref g0),some kv,some (.ref t),some (.ref lb),y4]∧Same J2 J∧∀ j,j < i->tiedB ts ks (ns.getD (prevI ns.length j) 0) (ns.getD j 0)=true) ⟨none,rfl,Same.refl _,fun j hj=>by omega⟩ (fun i σ J hi hinv=>?_) (fun σ J hinv=>?_)
 ·obtain⟨y4,rfl,S3,al⟩:=hinv
  rw[lM] at hi
  have s3:=s2.trans S3
  have zi:(0:Int) + (i:Int)=(i:Int):=by omega
  rw[zi]
  have hpv:prevI ns.length i < ns.length:=by unfold prevI;split <;> omega
  have ati:atI (ns.map V.int) (i:Int)=some (.int (ns.getD i 0)):=atI_toNat (Int.natCast_nonneg _) (by rw[Int.toNat_natCast];exact gv i hi)
  have atp:atI (ns.map V.int) ((i:Int) - 1)=some (.int (ns.getD (prevI ns.length i) 0)):=by
   unfold prevI
   by_cases z:i=0
   ·rw[z,if_pos rfl];exact at9
   ·rw[if_neg z,show (i:Int) - 1=((i - 1:Nat):Int) by omega]
    exact atI_toNat (Int.natCast_nonneg _) (by rw[Int.toNat_natCast];exact gv (i - 1) (by omega))
  obtain⟨vs,h1,h2,h3⟩:=BesS.same S3 bes
  have p0:=lo _ (gm _ hpv)
  have p1:=hi9 _ (gm _ hpv)
  have x0:=lo _ (gm _ hi)
  obtain⟨a,rs,e6,e7,e8⟩:=h3 (ns.getD (prevI ns.length i) 0).toNat (by omega)
  have at2:atI vs (ns.getD (prevI ns.length i) 0)=some (.ref a):=atI_toNat p0 e6
  refine⟨_,rfl,_,rfl,t,_,_,_,rfl,rfl,SqT.of (s3 _ _ ht),ati,_,rfl,_,rfl,_,rfl,_,_,rfl,rfl,t,_,_,_,rfl,rfl,SqT.of (s3 _ _ ht),atp,lb,_,_,_,rfl,rfl,SqL.of h1,at2,a,_,rfl,.inl (SqL.of e7),rfl,flat_nat rs,_,rfl,?_⟩
  show if (!inV (V.int (ns.getD i 0)) (natV rs))=true then _ else _
  rw[inV_nat x0]
  have ta:=tied_adj ok ko p0 x0
  by_cases m:(ns.getD i 0).toNat ∈ rs
  ·rw[decide_eq_true m]
   refine iteF ⟨_,rfl,S3,fun j hj=>?_⟩
   by_cases z:j=i
   ·rw[z];exact ta.mpr ((e8.2 _).mp m)
   ·exact al j (by omega)
  ·rw[decide_eq_false m]
   refine iteT ?_
   have e:ringB n ts ks ns=false:=by
    have:roundB ts ks ns=false:=Bool.eq_false_iff.mpr fun z=>m ((e8.2 _).mpr (ta.mp (rp.mp z i hi)))
    unfold ringB;rw[this];simp
   rw[e] at q
   exact q J s3
 ·obtain⟨y4,rfl,S3,al⟩:=hinv
  have s3:=s2.trans S3
  have rd:roundB ts ks ns=true:=rp.mpr fun i hi=>al i (by rw[lM];exact hi)
  have eR:ringB n ts ks ns=turnB ns:=by
   unfold ringB;rw[cI,decide_eq_true cn,decide_eq_true len3,rd];simp
  rw[eR] at q
  unfold turnB at q
  refine⟨_,rfl,t,_,_,_,rfl,rfl,SqT.of (s3 _ _ ht),at0,_,rfl,t,ns,rfl,s3 _ _ ht,ne,fun b hb least=>⟨rfl,_,rfl,?_⟩⟩
  by_cases z:ns.getD 0 0=b
  case neg =>
   have ne:decide (V.int (ns.getD 0 0)=V.int b)=false:=decide_eq_false fun y=>z (by injection y)
   rw[ne]
   refine iteF ?_
   have:ns.all (fun x=>decide (ns.getD 0 0≤x))=false:=by
    refine Bool.eq_false_iff.mpr fun y=>z ?_
    have h1:=of_decide_eq_true (List.all_eq_true.mp y b hb)
    have h2:=least (ns.getD 0 0) (gm 0 (by omega))
    omega
   rw[this] at q
   exact q J s3
  have mn:ns.all (fun x=>decide (ns.getD 0 0≤x))=true:=List.all_eq_true.mpr fun x hx=>decide_eq_true (by rw[z];exact least x hx)
  rw[mn,Bool.true_and] at q
  rw[show decide (V.int (ns.getD 0 0)=V.int b)=true from decide_eq_true (by rw[z])]
  refine iteT ⟨_,rfl,t,_,_,_,rfl,rfl,SqT.of (s3 _ _ ht),at1,_,rfl,_,rfl,t,_,_,_,rfl,rfl,SqT.of (s3 _ _ ht),at9,_,_,rfl,rfl,?_⟩
  have e:decide (ns.getD 1 0 < ns.getD (ns.length - 1) 0)=decide (ns.getD 1 0≤ns.getD (ns.length - 1) 0):=by
   have dn:ns.getD 1 0≠ns.getD (ns.length - 1) 0:=fun y=>by
    rw[List.getD_eq_getElem?_getD,List.getD_eq_getElem?_getD,List.getElem?_eq_getElem (show 1 < ns.length by omega),List.getElem?_eq_getElem (show ns.length - 1 < ns.length by omega)] at y
    have:=(List.getElem_inj cn).mp y
    omega
   exact decide_eq_decide.mpr ⟨fun h=>by omega,fun h=>by omega⟩
  show Q (.bl (decide (ns.getD 1 0 < ns.getD (ns.length - 1) 0))) J
  rw[e]
  exact q J s3
def spDraw34 (K:PySem.W.Frag):Sp:=fun vs H Q _=>∃ (p:Addr) (n:Int) (ts:List Tie) (wv:V),vs=[.ref p,wv]∧Pot H p∧Is K H (webD n ts) wv∧WebOk n ts∧∀ (t:Addr) (ns:List Int) H',But p H H'->Pot H' p->H' t=some (.tup (ns.map V.int))->ns.length≤24->Q (.ref t) H'
theorem ok__law_drawn_ring34 (T:Bi mg) (D:DefOk K mg "_law_drawn_ring" s__law_drawn_ring ["pot","web"]) (O__law_take:Ok P w K mg base 2 "_law_take" ["pot","many"] spTake) (O__law_order:Ok P w K mg base 2 "_law_order" ["pot","many"] spOrder):Ok P w K mg base 3 "_law_drawn_ring" ["pot","web"] (spDraw34 K):=by
 refine mk_ok (k:=2) D sc__law_drawn_ring (fun vs H Q E h=>?_) (fun f cdv A outer s H vs Q E hr h=>?_)
 ·obtain⟨p,n,ts,wv,rfl,_⟩:=h
  rfl
 obtain⟨p,n,ts,wv,rfl,hp,isw,ok,q⟩:=h
 have nd:=sc__law_drawn_ring.nd
 have n1:=ok.n1
 have n24:=ok.n24
 obtain⟨g0,g,ws,rfl,hg0,hg,hall,hlw⟩:=web_parts isw
 have npot:∀ {J:Hp} {b:Addr},Pot J p->J b=none->b≠p:=fun pp hb z=>by
  obtain⟨xs,e⟩:=pp.lst
  rw[z,e] at hb;cases hb
 have tkb:∀ {J J':Hp},But p J J'->Pot J p->TupKeep J J':=fun b pp=>by
  obtain⟨xs,e⟩:=pp.lst
  exact fun a ys h=>b _ _ (fun z=>by rw[z,e] at h;cases h) h
 refine⟨_,(BSs.h (bss_cons (bs_set (i:=2) nd rfl (Or.inl rfl) (BE.mk (pe_slice sl_list (pe_callD O__law_order hr rfl (pa_cons (pv 0) (pa_cons (pe_ix ix_tup (pv 1) pe_int (fun _ _=>rfl)) pa_nil))) po_none (po_some (pe_op op_add pe_int (pe_callD O__law_take hr rfl (pa_cons (pv 0) (pa_cons (pe_ix ix_tup (pv 1) pe_int (fun _ _=>rfl)) pa_nil)))))))) (bss_cons (bs_set (i:=3) nd rfl (Or.inl rfl) (BE.mk (pe_bm PySem.F.plainAttrs_list PySem.F.slot_list_index PySem.F.type_list_index mt_lindex (pv 2) (pa_cons (pe_callB (call_minL rfl) rfl T.z_min (by decide +kernel) (pa_cons (pv 2) pa_nil)) pa_nil)))) (bss_cons (bs_set (i:=2) nd rfl (Or.inl rfl) (be_op op_catL (BE.mk (pe_slice sl_list (pv 2) (po_some (pv 3)) po_none)) (BE.mk (pe_slice sl_list (pv 2) po_none (po_some (pv 3)))))) (bss_cons (bs_if (PW.pt (pw_and (pt_cmpR op_gt (pe_callB call_len_seq rfl T.z_len (by decide +kernel) (pa_cons (pv 2) pa_nil)) pe_int (nomark _)) (pw_and1 (pt_cmpR op_gt (pe_ix ix_list (pv 2) pe_int (fun _ _=>rfl)) (pe_ix ix_list (pv 2) (pe_un un_neg pe_int) (fun _ _=>rfl)) (nomark _))))) (bss_one (bs_set (i:=2) nd rfl (Or.inl rfl) (be_op op_catL (BE.mk (pe_slice sl_list (pv 2) po_none (po_some pe_int))) (BE.mk (pe_sliceB sb_list (pe_slice sl_list (pv 2) (po_some pe_int) po_none) po_none (pe_un un_neg pe_int)))))) bss_nil) (bss_one (bs_ret (BE.mk (pe_callTy call_tupleG rfl T.z_tuple (by decide +kernel) (pa_cons (pv 2) pa_nil)))))))))),?_⟩
 refine⟨_,rfl,_,rfl,g0,_,_,_,rfl,rfl,SqT.of hg0,rfl,p,n,rfl,hp,by omega,by omega,fun lo J1 ms b1 p1 f1 nl1 e1 pm=>?_⟩
 have hg1:=tkb b1 hp _ _ hg0
 refine⟨_,rfl,_,rfl,g0,_,_,_,rfl,rfl,SqT.of hg1,rfl,p,n,rfl,p1,by omega,by omega,fun r J2 r0 r1 b2 p2=>?_⟩
 have lms:ms.length=n.toNat:=by rw[pm.length_eq,List.length_map,List.length_range]
 have e2:=b2 _ _ nl1 e1
 refine⟨_,_,rfl,rfl,_,rfl,lo,_,rfl,SqL.of e2,fun l3 f3=>?_⟩
 have ek:(3:Int) + r=((3 + r.toNat:Nat):Int):=by omega
 have e3:upd J2 l3 (.lst (cutV (ms.map V.int) none (some (3 + r)))) l3=some (.lst ((ms.take (3 + r.toNat)).map V.int)):=by rw[ek,cutI_A];exact upd_same
 have S3:Same J2 (upd J2 l3 (.lst (cutV (ms.map V.int) none (some (3 + r))))):=same_new f3
 obtain⟨J3,eJ3⟩:∃ J3,J3=upd J2 l3 (.lst (cutV (ms.map V.int) none (some (3 + r)))):=⟨_,rfl⟩
 rw[← eJ3] at e3 S3
 show tSeq _ _ _ _ (upd J2 l3 (.lst (cutV (ms.map V.int) none (some (3 + r)))))
 rw[← eJ3]
 have R1:1≤(ms.take (3 + r.toNat)).length:=by rw[List.length_take];omega
 have R24:(ms.take (3 + r.toNat)).length≤24:=by rw[List.length_take];omega
 generalize ms.take (3 + r.toNat)=R at *
 have b3:But p H J3:=b1.trans (b2.trans (Same.but S3))
 have p3:=p2.same S3
 have ne:R≠[]:=fun z=>by rw[z] at R1;simp at R1
 refine⟨_,rfl,.inl ⟨rfl,_,SqL.of e3⟩,_,rfl,l3,R,rfl,e3,ne,fun b hb least=>⟨l3,R,b,rfl,rfl,e3,by omega,hb,fun k hk=>?_⟩⟩
 refine⟨_,rfl,_,rfl,_,rfl,l3,_,rfl,SqL.of e3,fun x1 f4=>?_⟩
 have e4:upd J3 x1 (.lst (cutV (R.map V.int) (some (k:Int)) none)) x1=some (.lst ((R.drop k).map V.int)):=by rw[cutI_B];exact upd_same
 have S4:Same J3 (upd J3 x1 (.lst (cutV (R.map V.int) (some (k:Int)) none))):=same_new f4
 generalize upd J3 x1 (.lst (cutV (R.map V.int) (some (k:Int)) none))=J4 at *
 refine⟨_,rfl,_,rfl,_,rfl,l3,_,rfl,SqL.of (S4 _ _ e3),fun x2 f5=>?_⟩
 have e5:upd J4 x2 (.lst (cutV (R.map V.int) none (some (k:Int)))) x2=some (.lst ((R.take k).map V.int)):=by rw[cutI_A];exact upd_same
 have S5:Same J4 (upd J4 x2 (.lst (cutV (R.map V.int) none (some (k:Int))))):=same_new f5
 generalize upd J4 x2 (.lst (cutV (R.map V.int) none (some (k:Int))))=J5 at *
 have lR:(R.drop k++R.take k).length=R.length:=by rw[List.length_append,List.length_drop,List.length_take];omega
 refine⟨x1,x2,_,_,rfl,rfl,S5 _ _ e4,e5,by rw[List.length_map,List.length_map,← List.length_append,lR];omega,fun x3 J6 S6 f6 e6=>?_⟩
 rw[← List.map_append] at e6
 generalize R.drop k++R.take k=U at *
 have b6:But p H J6:=b3.trans (Same.but (S4.trans (S5.trans S6)))
 have p6:=p3.same (S4.trans (S5.trans S6))
 have lU:(U.map V.int).length=U.length:=List.length_map _
 have gv:∀ i,i < U.length->(U.map V.int)[i]?=some (.int (U.getD i 0)):=fun i hi=>by
  rw[List.getElem?_map,List.getD_eq_getElem?_getD,List.getElem?_eq_getElem hi];rfl
 refine⟨_,rfl,x3,_,rfl,.inl (SqL.of e6),_,_,rfl,rfl,_,rfl,ite2 (fun c=>?_) (fun c=>?_)⟩
 ·have c':=of_decide_eq_true c
  rw[lU] at c'
  have at1:atI (U.map V.int) 1=some (.int (U.getD 1 0)):=atI_toNat (by decide) (gv 1 (by omega))
  have at9:atI (U.map V.int) (-1)=some (.int (U.getD (U.length - 1) 0)):=by
   unfold atI ixN
   rw[if_neg (by decide),if_pos (by rw[lU];omega)]
   show (U.map V.int)[(-1 + ((U.map V.int).length:Int)).toNat]?=_
   rw[show (-1 + ((U.map V.int).length:Int)).toNat=U.length - 1 by rw[lU];omega]
   exact gv _ (by omega)
  refine⟨_,rfl,x3,_,_,_,rfl,rfl,SqL.of e6,at1,_,rfl,_,rfl,x3,_,_,_,rfl,rfl,SqL.of e6,at9,_,_,rfl,rfl,_,rfl,ite2 (fun c=>?_) (fun c=>?_)⟩
  ·refine⟨_,rfl,_,rfl,x3,_,rfl,SqL.of e6,fun y1 h1=>?_⟩
   have g1:upd J6 y1 (.lst (cutV (U.map V.int) none (some 1))) y1=some (.lst ((U.take 1).map V.int)):=by rw[← cutI_A];exact upd_same
   have T1:Same J6 (upd J6 y1 (.lst (cutV (U.map V.int) none (some 1)))):=same_new h1
   generalize upd J6 y1 (.lst (cutV (U.map V.int) none (some 1)))=K1 at *
   refine⟨_,rfl,_,rfl,x3,_,rfl,SqL.of (T1 _ _ e6),fun y2 h2=>?_⟩
   have g2:upd K1 y2 (.lst (cutV (U.map V.int) (some 1) none)) y2=some (.lst ((U.drop 1).map V.int)):=by rw[← cutI_B];exact upd_same
   have T2:Same K1 (upd K1 y2 (.lst (cutV (U.map V.int) (some 1) none))):=same_new h2
   generalize upd K1 y2 (.lst (cutV (U.map V.int) (some 1) none))=K2 at *
   refine⟨_,rfl,rfl,y2,_,0,rfl,g2,.inl ⟨rfl,rfl⟩,fun y3 K3 T3 h3 g3=>?_⟩
   rw[List.drop_zero,← List.map_reverse] at g3
   refine⟨y1,y3,_,_,rfl,rfl,T3 _ _ (T2 _ _ g1),g3,by rw[List.length_map,List.length_map,List.length_reverse,List.length_take,List.length_drop];omega,fun y4 K4 T4 h4 g4=>?_⟩
   rw[← List.map_append] at g4
   refine⟨_,rfl,y4,_,rfl,g4,fun t K5 T5 h5 g5=>?_⟩
   have U5:=T1.trans (T2.trans (T3.trans (T4.trans T5)))
   exact q t _ K5 (b6.trans (Same.but U5)) (p6.same U5) g5 (by rw[List.length_append,List.length_reverse,List.length_take,List.length_drop];omega)
  ·exact⟨_,rfl,x3,_,rfl,e6,fun t K5 T5 h5 g5=>q t _ K5 (b6.trans (Same.but T5)) (p6.same T5) g5 (by omega)⟩
 ·exact⟨_,rfl,x3,_,rfl,e6,fun t K5 T5 h5 g5=>q t _ K5 (b6.trans (Same.but T5)) (p6.same T5) g5 (by omega)⟩
def spSpoilt34:Sp:=fun vs H Q _=>∃ (p t:Addr) (n:Int) (ns:List Int),vs=[.ref p,.int n,.ref t]∧Pot H p∧1≤n∧n≤24∧H t=some (.tup (ns.map V.int))∧ns.length≤24∧∀ v H',But p H H'->Pot H' p->RowV 0 60 H' v->Q v H'
theorem ok__law_spoilt34 (T:Bi mg) (D:DefOk K mg "_law_spoilt" s__law_spoilt ["pot","n","row"]) (O__law_take:Ok P w K mg base 1 "_law_take" ["pot","many"] spTake):Ok P w K mg base 2 "_law_spoilt" ["pot","n","row"] spSpoilt34:=by
 refine mk_ok (k:=1) D sc__law_spoilt (fun vs H Q E h=>?_) (fun f cdv A outer s H vs Q E hr h=>?_)
 ·obtain⟨p,t,n,ns,rfl,_⟩:=h
  rfl
 obtain⟨p,t,n,ns,rfl,hp,n1,n24,ht,l24,q⟩:=h
 have nd:=sc__law_spoilt.nd
 have tp:∀ {J J':Hp},But p J J'->Pot J p->TupKeep J J':=fun b pp=>by
  obtain⟨xs,e⟩:=pp.lst
  exact fun a ys h=>b _ _ (fun z=>by rw[z,e] at h;cases h) h
 have npot:∀ {J:Hp} {b:Addr},Pot J p->J b=none->b≠p:=fun pp hb z=>by
  obtain⟨xs,e⟩:=pp.lst
  rw[z,e] at hb;cases hb
 have lM:∀ l:List Int,(l.map V.int).length=l.length:=fun l=>List.length_map ..
 have line:∀ a b:List Int,a.length≤60->b.length≤60->(a.map V.int).length + (b.map V.int).length≤sizeLine:=fun a b h1 h2=>Nat.le_trans (show _≤1000 by rw[lM,lM];omega) (by decide)
 refine⟨_,(BSs.h (bss_cons (bs_set (i:=3) nd rfl (Or.inl rfl) (BE.mk (pe_callD O__law_take hr rfl (pa_cons (pv 0) (pa_cons (pe_callB (call_max2 rfl) rfl T.z_max (by decide +kernel) (pa_cons pe_int (pa_cons (pe_callB call_len_seq rfl T.z_len (by decide +kernel) (pa_cons (pv 2) pa_nil)) pa_nil))) pa_nil))))) (bss_cons (bs_set (i:=4) nd rfl (Or.inr rfl) (BE.mk (pe_slice sl_tupA (pv 2) po_none (po_some (pv 3))))) (bss_cons (bs_set (i:=5) nd rfl (Or.inr rfl) (BE.mk (pe_slice sl_tupA (pv 2) (po_some (pe_op op_add (pv 3) pe_int)) po_none))) (bss_cons (bs_set (i:=6) nd rfl (Or.inl rfl) (be_lstG (ba_consN (BE.mk (pv 2)) (ba_consN (BE.mk (pv 2)) (ba_consN (BE.mk (pv 2)) (ba_consS (BE.mk (pe_sliceB sb_tup (pv 2) po_none (pe_un un_neg pe_int))) (ba_consB (be_op op_catA (BE.mk (pe_slice sl_tupA (pv 2) (po_some pe_int) po_none)) (BE.mk (pe_slice sl_tupA (pv 2) po_none (po_some pe_int)))) (ba_consB (be_op op_catA (BE.mk (pv 4)) (BE.mk (pv 5))) (ba_consB (be_op op_catA (be_op op_catA (BE.mk (pv 4)) (BE.mk (pe_slice sl_tupA (pv 2) (po_some (pv 3)) (po_some (pe_op op_add (pv 3) pe_int))))) (BE.mk (pe_slice sl_tupA (pv 2) (po_some (pv 3)) po_none))) ba_nil))))))))) (bss_cons (BS.mk (ps_expr (pe_bm PySem.F.plainAttrs_list PySem.F.slot_list_append PySem.F.type_list_append mt_appendG (pv 6) (pa_cons (pe_op op_catA (pe_op op_catA (pe_op op_catA (pv 4) (pe_slice sl_tupA (pv 5) po_none (po_some pe_int))) (pe_slice sl_tupA (pv 2) (po_some (pv 3)) (po_some (pe_op op_add (pv 3) pe_int)))) (pe_slice sl_tupA (pv 5) (po_some pe_int) po_none)) pa_nil)))) (bss_cons (bs_set (i:=7) nd rfl (Or.inl rfl) (be_lstG (ba_consN (BE.mk (pv 1)) (ba_consB (BE.mk (pe_op op_pow pe_int pe_int)) (ba_consB (BE.mk (pe_op op_sub (pe_op op_sub pe_int pe_int) (pe_callD O__law_take hr rfl (pa_cons (pv 0) (pa_cons (pv 1) pa_nil))))) (ba_consK (BE.mk (pe_callD O__law_take hr rfl (pa_cons (pv 0) (pa_cons (pv 1) pa_nil)))) ba_nil)))))) (bss_cons (BS.mk (ps_expr (pe_bm PySem.F.plainAttrs_list PySem.F.slot_list_extend PySem.F.type_list_extend mt_extendG (pv 6) (pa_cons (pe_comp (N:=["pot","n","row","at","ahead","rest","some","others"]) (sc0:=defScope s__law_spoilt) (own:=["one"]) (fr:=["ahead","rest"]) (js:=[4,5]) rfl (pi_list (pv 7)) (fun _ _ _ _=>(pg_name (i:=0) (by show List.Nodup [("one":Str),("ahead":Str),("rest":Str)];decide +kernel) rfl (Or.inl rfl))) (fun _ _ _ _=>pts_nil) (fun _ _ _ _=>(pe_op op_catA (pe_op op_catA (pv 1) (pe_tupG (pa_cons (pv 0) pa_nil))) (pv 2)))) pa_nil)))) (bss_one (bs_ret (be_ix ix_list (BE.mk (pv 6)) (BE.mk (pe_callD O__law_take hr rfl (pa_cons (pv 0) (pa_cons pe_int pa_nil)))) (fun _ _=>rfl)))))))))))),?_⟩
 refine⟨_,rfl,_,rfl,t,_,rfl,.inr (SqT.of ht),_,_,rfl,p,_,rfl,hp,(by rw[lM];split <;> omega),(by rw[lM];split <;> omega),fun at0 J1 a0 a1 b1 p1=>?_⟩
 obtain⟨k,rfl⟩:∃ k:Nat,at0=k:=⟨at0.toNat,by omega⟩
 have t1:=tp b1 hp _ _ ht
 obtain⟨m8,c8,h8,_⟩:=cut_mid1 ns k
 obtain⟨m4,c4,h4⟩:=cut_row ns (some 1) none
 obtain⟨m5,c5,h5⟩:=cut_row ns none (some 1)
 have lA:(ns.take k).length≤24:=by rw[List.length_take];omega
 have lB:(ns.drop (k + 1)).length≤24:=by rw[List.length_drop];omega
 have lC:(ns.drop k).length≤24:=by rw[List.length_drop];omega
 refine⟨_,rfl,_,rfl,_,rfl,t,_,rfl,t1,fun x1 K1 T1 g1=>?_⟩
 rw[cutI_A] at g1
 refine⟨_,rfl,_,rfl,_,_,rfl,rfl,_,rfl,t,_,rfl,T1 _ _ t1,fun x2 K2 T2 g2=>?_⟩
 rw[cutI_C] at g2
 generalize ns.take k=A1 at *
 generalize ns.drop (k + 1)=B1 at *
 have U2:=T1.trans T2
 refine⟨_,rfl,_,rfl,_,rfl,_,rfl,_,rfl,rfl,t,_,0,rfl,U2 _ _ t1,.inl ⟨rfl,rfl⟩,fun x3 K3 T3 _ g3=>?_⟩
 rw[List.drop_zero,← List.map_reverse] at g3
 have U3:=U2.trans T3
 refine⟨_,rfl,_,rfl,t,_,rfl,U3 _ _ t1,fun x4 K4 T4 g4=>?_⟩
 rw[c4] at g4
 have U4:=U3.trans T4
 refine⟨_,rfl,_,rfl,t,_,rfl,U4 _ _ t1,fun x5 K5 T5 g5=>?_⟩
 rw[c5] at g5
 refine⟨x4,x5,_,_,rfl,rfl,T5 _ _ g4,g5,line _ _ (by omega) (by omega),fun x6 K6 T6 g6=>?_⟩
 rw[← List.map_append] at g6
 have U6:=U4.trans (T5.trans T6)
 have T26:=T3.trans (T4.trans (T5.trans T6))
 have gA:=T26 _ _ (T2 _ _ g1)
 have gB:=T26 _ _ g2
 refine⟨_,rfl,_,rfl,x1,x2,_,_,rfl,rfl,gA,gB,line _ _ (by omega) (by omega),fun x7 K7 T7 g7=>?_⟩
 rw[← List.map_append] at g7
 refine⟨_,rfl,_,rfl,_,rfl,_,rfl,_,rfl,_,_,rfl,rfl,_,rfl,t,_,rfl,T7 _ _ (U6 _ _ t1),fun x8 K8 T8 g8=>?_⟩
 rw[c8] at g8
 have T68:=T7.trans T8
 refine⟨x1,x8,_,_,rfl,rfl,T68 _ _ gA,g8,line _ _ (by omega) (by omega),fun x9 K9 T9 g9=>?_⟩
 rw[← List.map_append] at g9
 have T69:=T68.trans T9
 refine⟨_,rfl,_,rfl,_,rfl,t,_,rfl,T69 _ _ (U6 _ _ t1),fun x10 K10 T10 g10=>?_⟩
 rw[cutI_B] at g10
 refine⟨x9,x10,_,_,rfl,rfl,T10 _ _ g9,g10,line _ _ (by rw[List.length_append];omega) (by omega),fun x11 K11 T11 g11=>?_⟩
 rw[← List.map_append] at g11
 have T611:=T69.trans (T10.trans T11)
 refine⟨(by show 7≤1000;decide),fun lS K12 T12 f12 g12=>?_⟩
 have T612:=T611.trans T12
 have U12:=U6.trans T612
 have gA2:=T612 _ _ gA
 have gB2:=T612 _ _ gB
 have t12:=U12 _ _ t1
 obtain⟨d1,c1,hd1⟩:=cut_row B1 (some 1) none
 have c2:cutV (B1.map V.int) none (some 1)=(B1.take 1).map V.int:=cutI_A B1 1
 have hd2:(B1.take 1).length≤1:=by rw[List.length_take];omega
 refine⟨_,rfl,.inl ⟨rfl,_,SqL.of g12⟩,_,rfl,_,rfl,_,rfl,x2,_,rfl,gB2,fun y1 L1 V1 h1=>?_⟩
 rw[c2] at h1
 refine⟨x1,y1,_,_,rfl,rfl,V1 _ _ gA2,h1,line _ _ (by omega) (by omega),fun y2 L2 V2 h2=>?_⟩
 rw[← List.map_append] at h2
 refine⟨_,rfl,_,rfl,_,rfl,_,rfl,_,_,rfl,rfl,_,rfl,t,_,rfl,V2 _ _ (V1 _ _ t12),fun y3 L3 V3 h3=>?_⟩
 rw[c8] at h3
 refine⟨y2,y3,_,_,rfl,rfl,V3 _ _ h2,h3,line _ _ (by rw[List.length_append];omega) (by omega),fun y4 L4 V4 h4'=>?_⟩
 rw[← List.map_append] at h4'
 have W4:=V1.trans (V2.trans (V3.trans V4))
 refine⟨_,rfl,_,rfl,x2,_,rfl,W4 _ _ gB2,fun y5 L5 V5 h5'=>?_⟩
 rw[c1] at h5'
 refine⟨y4,y5,_,_,rfl,rfl,V5 _ _ h4',h5',line _ _ (by rw[List.length_append,List.length_append];omega) (by omega),fun y6 L6 V6 h6=>?_⟩
 rw[← List.map_append] at h6
 have W6:=W4.trans (V5.trans V6)
 refine⟨lS,_,_,rfl,rfl,W6 _ _ g12,(by show 7 < 1000;decide),fun M1 bM1 eM1=>?_⟩
 have p6:Pot L6 p:=p1.same (U12.trans W6)
 have pS:lS≠p:=npot (p1.same (U6.trans T611)) f12
 have gS6:=W6 _ _ g12
 have tkM:TupKeep L6 M1:=fun a ys e=>bM1 _ _ (fun z=>by rw[z,gS6] at e;cases e) e
 have pM1:Pot M1 p:=by
  obtain⟨a,b,e,r⟩:=p6
  exact⟨a,b,bM1 _ _ (Ne.symm pS) e,r⟩
 refine⟨_,rfl,_,_,rfl,rfl,⟨by decide,by decide,by decide⟩,_,_,rfl,rfl,_,rfl,_,rfl,p,n,rfl,pM1,by omega,by omega,fun r1 M2 r10 r11 b2 p2=>⟨_,_,rfl,rfl,_,rfl,_,rfl,p,n,rfl,p2,by omega,by omega,fun r2 M3 r20 r21 b3 p3=>⟨(by show 4≤1000;decide),fun lO M4 S4 f4 e4=>?_⟩⟩⟩
 have eS4:=S4 _ _ (b3 _ _ pS (b2 _ _ pS eM1))
 have tk4:TupKeep L6 M4:=fun a ys e=>S4 _ _ (tp b3 p2 _ _ (tp b2 pM1 _ _ (tkM _ _ e)))
 have gA4:=tk4 _ _ (W6 _ _ gA2)
 have gB4:=tk4 _ _ (W6 _ _ gB2)
 refine⟨_,rfl,.inl ⟨rfl,_,SqL.of eS4⟩,_,rfl,lO,rfl,⟨_,SqL.of e4⟩,?_⟩
 refine comp_lst (xs:=[V.int n,.int ((10:Int) ^ (20:Int).toNat),.int (0 - 1 - r1),.int r2]) e4 (fun σ'=>∃ o,σ'=[o,some (.ref x1),some (.ref x2)]) (fun _ v J=>RowV 0 60 J v) (by show 4≤1000;decide) (by exact⟨none,rfl⟩) (fun _ _ _ _ k h=>h.tk k) (fun i x σ' H' hx s5 sg C hC=>?_) (fun D' ys M5 hD S5 eD ly hys=>?_)
 ·obtain⟨o,rfl⟩:=sg
  obtain⟨z,rfl⟩:∃ z:Int,x=.int z:=by
   have:=List.mem_of_getElem? hx
   simp only [List.mem_cons,List.not_mem_nil,or_false] at this
   rcases this with rfl | rfl | rfl | rfl <;> exact⟨_,rfl⟩
  refine⟨_,rfl,_,rfl,(by show 1≤1000;decide),fun z1 N1 X1 _ k1=>?_⟩
  have k1':N1 z1=some (.tup (([z]:List Int).map V.int)):=k1
  refine⟨x1,z1,_,_,rfl,rfl,X1 _ _ (s5 _ _ gA4),k1',line _ _ (by omega) (by simp),fun z2 N2 X2 k2=>?_⟩
  rw[← List.map_append] at k2
  refine⟨_,rfl,z2,x2,_,_,rfl,rfl,k2,X2 _ _ (X1 _ _ (s5 _ _ gB4)),line _ _ (by rw[List.length_append,List.length_singleton];omega) (by omega),fun z3 N3 X3 k3=>?_⟩
  rw[← List.map_append] at k3
  exact hC _ _ _ ⟨_,rfl⟩ (X1.trans (X2.trans X3)) ⟨z3,_,rfl,k3,Nat.zero_le _,by rw[List.length_append,List.length_append,List.length_singleton];omega⟩
 have ly4:ys.length=4:=ly
 have eS5:=S5 _ _ eS4
 refine⟨lS,D',_,_,rfl,rfl,eS5,eD,(by rw[ly4];show 8 + 4≤1000;decide),fun M6 b6 e6=>?_⟩
 have p5:Pot M5 p:=p3.same (S4.trans S5)
 have p6':Pot M6 p:=by
  obtain⟨a,b,e,r⟩:=p5
  exact⟨a,b,b6 _ _ (Ne.symm pS) e,r⟩
 refine⟨_,rfl,_,rfl,p,12,rfl,p6',by decide,by decide,fun r3 J5 r30 r31 b5 p5'=>?_⟩
 have tk56:TupKeep M5 J5:=fun a ys e=>tp b5 p6' _ _ (b6 _ _ (fun z=>by rw[z,eS5] at e;cases e) e)
 have tk65:TupKeep L6 J5:=fun a ys e=>tk56 _ _ (S5 _ _ (tk4 _ _ e))
 have row:∀ {K':Hp} {a:Addr} {l:List Int},K' a=some (.tup (l.map V.int))->Same K' L6->l.length≤60->RowV 0 60 J5 (.ref a):=fun e s hl=>⟨_,_,rfl,tk65 _ _ (s _ _ e),Nat.zero_le _,hl⟩
 have nS:∀ {a:Addr} {o:HO},K11 a=some o->a≠lS:=fun e z=>by rw[z,f12] at e;cases e
 have bb:But p H J5:=fun a o na e=>by
  have e11:=T611 _ _ (U6 _ _ (b1 _ _ na e))
  have na2:=nS e11
  exact b5 _ _ na (b6 _ _ na2 (S5 _ _ (S4 _ _ (b3 _ _ na (b2 _ _ na (bM1 _ _ na2 (W6 _ _ (T12 _ _ e11))))))))
 have S12:=T12.trans W6
 have r1':=row t1 (U12.trans W6) (by omega)
 have r3':=row g3 (T4.trans (T5.trans (T6.trans (T611.trans S12)))) (by rw[List.length_reverse];omega)
 have r6':=row g6 (T611.trans S12) (by rw[List.length_append];omega)
 have r7':=row g7 (T8.trans (T9.trans (T10.trans (T11.trans S12)))) (by rw[List.length_append];omega)
 have r11':=row g11 S12 (by rw[List.length_append,List.length_append];omega)
 have r16':=row h6 (Same.refl _) (by rw[List.length_append,List.length_append,List.length_append];omega)
 obtain⟨v,hv,ev⟩:=atI_in (xs:=([V.ref t,.ref t,.ref t,.ref x3,.ref x6,.ref x7,.ref x11]++[.ref y6])++ys) r30 (by rw[List.length_append,ly4];exact r31)
 refine⟨lS,_,r3,v,rfl,rfl,SqL.of (b5 _ _ pS e6),ev,q v J5 bb p5' ?_⟩
 rcases List.mem_append.mp hv with hv | hv
 ·simp only [List.cons_append,List.nil_append,List.mem_cons,List.not_mem_nil,or_false] at hv
  rcases hv with rfl | rfl | rfl | rfl | rfl | rfl | rfl | rfl
  ·exact r1'
  ·exact r1'
  ·exact r1'
  ·exact r3'
  ·exact r6'
  ·exact r7'
  ·exact r11'
  ·exact r16'
 ·obtain⟨i,hi⟩:=List.getElem?_of_mem hv
  exact (hys i v hi).tk tk56
theorem lr_len {n:Int} {ts:List Tie} {ks:List Nat} {h:Nat} {tl:List Nat} (ok:WebOk n ts) (ko:KeepOk ts.length ks) (lr:IsLR ts ks h tl):(h::tl).length≤n.toNat:=by
 have c:Far.chn (Adj ts ks) (h::tl):=Lr.chn_left (m:=[h]) (by simpa using lr.1.ch)
 have hn:h < n.toNat:=by
  obtain⟨x0,m0,y0,e0⟩:=Lr.two_ends lr.1.len
  have:=lr.1.ch
  rw[e0] at this
  exact adj_lt ok ko _ _ (adj_sy _ _ this.1)
 exact Peel.len_below n.toNat _ lr.1.nd (chn_below ok ko hn c)
theorem gone_left {n:Nat} {ts:List Peel.T2} {d:Int}:(Peel.gone n ts d).length≤n∧(Peel.gone n ts d).length + (leftN n (Peel.gone n ts d)).length≤n:=by
 have gd:=Peel.gone_good (n:=n) (ts:=ts) (d:=d)
 generalize Peel.gone n ts d=G at *
 have h1:=Peel.len_below n G gd.1 gd.2
 refine⟨h1,?_⟩
 rw[← List.length_append]
 refine Peel.len_below n _ (List.nodup_append.mpr ⟨gd.1,List.Pairwise.filter _ List.nodup_range,fun a ha b hb e=>?_⟩) fun p hp=>?_
 ·unfold leftN at hb
  have:=(List.mem_filter.mp hb).2
  rw[← e] at this
  simp [ha] at this
 ·rcases List.mem_append.mp hp with hp | hp
  ·exact gd.2 p hp
  ·unfold leftN at hp
   exact List.mem_range.mp (List.mem_filter.mp hp).1
theorem wkb34 {H H':Hp} {p:Addr} {n:Int} {ts:List Tie} {ks:List Nat} {wv kv:V} (wk:WK K H n ts ks wv kv) (b:But p H H') (pp:Pot H p):WK K H' n ts ks wv kv:=by
 obtain⟨xs,e⟩:=pp.lst
 exact⟨Is.but b e _ (tup_web n ts) wk.1,wk.2.1,Is.but b e _ (tup_keep ks) wk.2.2.1,wk.2.2.2⟩
def spRow34 (K:PySem.W.Frag):Sp:=fun vs H Q _=>∃ (p:Addr) (n:Int) (ts:List Tie) (ks:List Nat) (wv kv:V) (k:Nat),vs=[.ref p,wv,kv,.int (k:Int)]∧Pot H p∧WK K H n ts ks wv kv∧1≤k∧k≤1000∧∀ (t:Addr) (ns:List Int) H',But p H H'->Pot H' p->H' t=some (.tup (ns.map V.int))->ns.length≤24->Q (.ref t) H'
theorem ok__law_row34 (T:Bi mg) (D:DefOk K mg "_law_row" s__law_row ["pot","web","keep","steps"]) (O__law_take:Ok P w K mg base 25 "_law_take" ["pot","many"] spTake) (O__law_order:Ok P w K mg base 25 "_law_order" ["pot","many"] spOrder) (O_few_told:Ok P w K mg base 25 "few_told" ["web","keep","k"] (spFewT K)) (O__law_peel:Ok P w K mg base 25 "_law_peel" ["web","keep","d"] (spPeeled K)) (O__law_least_ring:Ok P w K mg base 25 "_law_least_ring" ["web","keep"] (spLR K)) (O__law_drawn_ring:Ok P w K mg base 25 "_law_drawn_ring" ["pot","web"] (spDraw34 K)):Ok P w K mg base 26 "_law_row" ["pot","web","keep","steps"] (spRow34 K):=by
 refine mk_ok (k:=25) D sc__law_row (fun vs H Q E h=>?_) (fun f cdv A outer s H vs Q E hr h=>?_)
 ·obtain⟨p,n,ts,ks,wv,kv,k,rfl,_⟩:=h
  rfl
 obtain⟨p,n,ts,ks,wv,kv,k,rfl,hp,wk,k1,k1000,q⟩:=h
 have nd:=sc__law_row.nd
 have ok:=wk.2.1
 have ko:=wk.2.2.2
 have n1:=ok.n1
 have n24:=ok.n24
 have tkb:∀ {J J':Hp},But p J J'->Pot J p->TupKeep J J':=fun b pp=>by
  obtain⟨xs,e⟩:=pp.lst
  exact fun a ys h=>b _ _ (fun z=>by rw[z,e] at h;cases h) h
 have lN:∀ l:List Nat,(keepI l).length=l.length:=fun l=>List.length_map _
 refine⟨_,(BSs.h (bss_cons (bs_set (i:=4) nd rfl (Or.inl rfl) (BE.mk (pe_callD O__law_take hr rfl (pa_cons (pv 0) (pa_cons pe_int pa_nil))))) (bss_cons (bs_if (pt_cmpR op_eq (pv 4) pe_int (nomark _)) (bss_one (bs_ret (be_ix ix_tup (BE.mk (pe_callD O_few_told hr rfl (pa_cons (pv 1) (pa_cons (pv 2) (pa_cons (pv 3) pa_nil))))) (BE.mk pe_int) (fun _ _=>rfl)))) bss_nil) (bss_cons (bs_if (pt_cmpR op_eq (pv 4) pe_int (nomark _)) (bss_cons (BS.mk (ps_asg (pe_callD O__law_peel hr rfl (pa_cons (pv 1) (pa_cons (pv 2) (pa_cons (pe_callD O__law_take hr rfl (pa_cons (pv 0) (pa_cons pe_int pa_nil))) pa_nil)))) (pg_tup (n:=2) rfl (pgs_cons (pg_name (i:=5) nd rfl (Or.inl rfl)) (pgs_cons (pg_name (i:=6) nd rfl (Or.inl rfl)) pgs_nil))))) (bss_one (bs_ret (be_op op_catA (BE.mk (pv 5)) (BE.mk (pv 6)))))) bss_nil) (bss_cons (bs_if (pt_cmpR op_eq (pv 4) pe_int (nomark _)) (bss_one (bs_ret (BE.mk (pe_callTy call_tupleG rfl T.z_tuple (by decide +kernel) (pa_cons (pe_callD O__law_order hr rfl (pa_cons (pv 0) (pa_cons (pe_ix ix_tup (pv 1) pe_int (fun _ _=>rfl)) pa_nil))) pa_nil))))) bss_nil) (bss_cons (bs_set (i:=7) nd rfl (Or.inl rfl) (BE.mk (pe_callD O__law_least_ring hr rfl (pa_cons (pv 1) (pa_cons (pv 2) pa_nil))))) (bss_cons (bs_if (PW.pt (pw_and (pt_cmpR op_eq (pv 4) pe_int (nomark _)) (pw_and1 (pt_cmpR op_notN (pv 7) pe_non (nomark _))))) (bss_one (bs_ret (BE.mk (pv 7)))) bss_nil) (bss_one (bs_ret (BE.mk (pe_callD O__law_drawn_ring hr rfl (pa_cons (pv 0) (pa_cons (pv 1) pa_nil))))))))))))),?_⟩
 refine⟨_,rfl,p,5,rfl,hp,by decide,by decide,fun r J1 r0 r1 b1 p1=>?_⟩
 have wk1:=wkb34 wk b1 hp
 have:r=0∨r=1∨r=2∨r=3∨r=4:=by omega
 rcases this with rfl | rfl | h2
 ·refine⟨_,rfl,rfl,_,rfl,iteT ?_⟩
  refine⟨_,rfl,_,rfl,_,rfl,n,ts,ks,wv,kv,k,rfl,wk1,k1,k1000,fun pa t x ns J2 S2 ep et fd=>?_⟩
  rw[natV_keep] at et
  refine⟨pa,_,_,_,rfl,rfl,SqT.of ep,rfl,q t (keepI ns) J2 (b1.trans (Same.but S2)) (p1.same S2) et ?_⟩
  rw[lN]
  obtain⟨d,sh,fd⟩:=fd
  rcases fd with ⟨_,rfl,_⟩ | ⟨_,_,h,tl,rfl,lr,_⟩
  ·have:=(gone_left (n:=n.toNat) (ts:=t2s ts ks) (d:=(d:Int))).1;omega
  ·have:=lr_len ok ko lr;omega
 ·refine⟨_,rfl,rfl,_,rfl,iteF ⟨_,rfl,rfl,_,rfl,iteT ?_⟩⟩
  refine⟨_,rfl,_,rfl,_,rfl,p,5,rfl,p1,by decide,by decide,fun r2 J2 r20 r21 b2 p2=>?_⟩
  refine⟨n,ts,ks,wv,kv,r2,rfl,wkb34 wk1 b2 p1,fun pa ga gb J3 S3 e3 ea eb=>?_⟩
  refine⟨pa,_,rfl,SqT.of e3,rfl,_,_,rfl,_,_,rfl,rfl,?_⟩
  rw[natV_keep] at ea eb
  have gl:=(gone_left (n:=n.toNat) (ts:=t2s ts ks) (d:=r2)).2
  generalize Peel.gone n.toNat (t2s ts ks) r2=G at *
  refine⟨_,rfl,_,rfl,ga,gb,_,_,rfl,rfl,ea,eb,Nat.le_trans (show _≤1000 by rw[List.length_map,List.length_map,lN,lN];omega) (by decide),fun t J4 S4 e4=>?_⟩
  rw[← List.map_append] at e4
  exact q t _ J4 (b1.trans (b2.trans (Same.but (S3.trans S4)))) (p2.same (S3.trans S4)) e4 (by rw[List.length_append,lN,lN];omega)
 ·rcases h2 with rfl | h3
  ·refine⟨_,rfl,rfl,_,rfl,iteF ⟨_,rfl,rfl,_,rfl,iteF ⟨_,rfl,rfl,_,rfl,iteT ?_⟩⟩⟩
   obtain⟨g0,g,ws,rfl,hg0,hg,hall,hlw⟩:=web_parts wk1.1
   refine⟨_,rfl,_,rfl,g0,_,_,_,rfl,rfl,SqT.of hg0,rfl,p,n,rfl,p1,by omega,by omega,fun lo J2 ms b2 p2 f2 nl2 e2 pm=>?_⟩
   refine⟨lo,_,rfl,e2,fun t J3 S3 f3 e3=>q t ms J3 (b1.trans (b2.trans (Same.but S3))) (p2.same S3) e3 ?_⟩
   rw[pm.length_eq,List.length_map,List.length_range];omega
  ·have n2:∀ c:Int,c≠r->decide (V.int r=V.int c)=false:=fun c z=>decide_eq_false fun y=>z (by injection y with y;exact y.symm)
   refine⟨_,rfl,rfl,_,rfl,?_⟩
   rw[n2 0 (by omega)]
   refine iteF ⟨_,rfl,rfl,_,rfl,?_⟩
   rw[n2 1 (by omega)]
   refine iteF ⟨_,rfl,rfl,_,rfl,?_⟩
   rw[n2 2 (by omega)]
   refine iteF ⟨_,rfl,_,rfl,n,ts,ks,wv,kv,rfl,wk1,fun v J2 S2 lv=>?_⟩
   have p2:=p1.same S2
   have b2:=b1.trans (Same.but S2)
   refine⟨_,rfl,rfl,_,rfl,ite2 (fun c=>?_) (fun c=>?_)⟩
   ·rcases lv with ⟨rfl,_⟩ | ⟨t,h,tl,rfl,et,lr⟩
    ·refine⟨_,rfl,rfl,_,rfl,iteF ?_⟩
     exact⟨_,rfl,_,rfl,p,n,ts,wv,rfl,p2,(wk1.same S2).1,ok,fun t ns J3 b3 p3 e3 l3=>q t ns J3 (b2.trans b3) p3 e3 l3⟩
    ·refine⟨_,rfl,rfl,_,rfl,iteT ?_⟩
     rw[natV_keep] at et
     exact⟨_,rfl,q t _ J2 b2 p2 et (by rw[lN];have:=lr_len ok ko lr;omega)⟩
   ·exact⟨_,rfl,_,rfl,p,n,ts,wv,rfl,p2,(wk1.same S2).1,ok,fun t ns J3 b3 p3 e3 l3=>q t ns J3 (b2.trans b3) p3 e3 l3⟩
def spSteps33:Sp:=fun vs H Q _=>∃ p:Addr,vs=[.ref p]∧Pot H p∧∀ (k:Nat) H',1≤k->k≤12->But p H H'->Pot H' p->Q (.int (k:Int)) H'
theorem ok__law_steps33 (T:Bi mg) (D:DefOk K mg "_law_steps" s__law_steps ["pot"]) (O__law_take:Ok P w K mg base 1 "_law_take" ["pot","many"] spTake):Ok P w K mg base 2 "_law_steps" ["pot"] spSteps33:=by
 refine mk_ok (k:=1) D sc__law_steps (fun vs H Q E h=>?_) (fun f cdv A outer s H vs Q E hr h=>?_)
 ·obtain⟨p,rfl,_⟩:=h
  rfl
 obtain⟨p,rfl,hp,q⟩:=h
 have nd:=sc__law_steps.nd
 have fin:∀ {J J':Hp} {r m:Int},But p H J->But p J J'->Pot J' p->0≤r->r < m->m≤12->Q (.int (1 + r)) J':=fun {J J' r m} b b' p' r0 r1 m12=>by
  have:=q (1 + r).toNat J' (by omega) (by omega) (b.trans b') p'
  rw[show (((1 + r).toNat:Nat):Int)=1 + r by omega] at this
  exact this
 refine⟨_,(pss_cons (ps_if (pt_cmpR op_eq (pe_callD O__law_take hr rfl (pa_cons (pv 0) (pa_cons pe_int pa_nil))) pe_int (nomark _)) (pss_one (ps_ret (pe_op op_add pe_int (pe_callD O__law_take hr rfl (pa_cons (pv 0) (pa_cons pe_int pa_nil)))))) pss_nil) (pss_one (ps_ret (pe_op op_add pe_int (pe_callD O__law_take hr rfl (pa_cons (pv 0) (pa_cons pe_int pa_nil))))))),?_⟩
 refine⟨_,rfl,p,2,rfl,hp,by decide,by decide,fun r J r0 r1 b1 p1=>⟨rfl,_,rfl,ite2 (fun c=>?_) (fun c=>?_)⟩⟩
 ·exact⟨_,rfl,p,3,rfl,p1,by decide,by decide,fun r' J' r0' r1' b' p'=>⟨_,_,rfl,rfl,fin b1 b' p' r0' r1' (by decide)⟩⟩
 ·exact⟨_,rfl,p,12,rfl,p1,by decide,by decide,fun r' J' r0' r1' b' p'=>⟨_,_,rfl,rfl,fin b1 b' p' r0' r1' (by decide)⟩⟩
def spLaw (K:PySem.W.Frag):Sp:=fun vs H Q _=>∃ (a:Addr) (ns:List Int),vs=[.ref a]∧SqL K H a (ns.map V.int)∧ns.length≤63∧∀ H',Q (.bl true) H'
theorem ok_law {f:Addr} {fd:FuncData} (T:Bi mg) (F:Fun K "law" "law" s_law f fd) (O__law_pot:Ok P w K mg base 26 "_law_pot" ["script","k"] (spPot K)) (O__law_most:Ok P w K mg base 26 "_law_most" ["pot","k"] spMost31) (O__law_web:Ok P w K mg base 26 "_law_web" ["pot","most"] (spWeb K))
  (O__law_keep:Ok P w K mg base 26 "_law_keep" ["pot","web"] (spKeep K)) (O__law_steps:Ok P w K mg base 26 "_law_steps" ["pot"] spSteps33) (O__law_row:Ok P w K mg base 26 "_law_row" ["pot","web","keep","steps"] (spRow34 K)) (O__law_spoilt:Ok P w K mg base 26 "_law_spoilt" ["pot","n","row"] spSpoilt34) (O_few_right:Ok P w K mg base 26 "few_right" ["web","keep","k","told"] (spFewB K)) (O__law_is:Ok P w K mg base 26 "_law_is" ["found","due"] spIs34) (O__law_is_order:Ok P w K mg base 26 "_law_is_order" ["web","keep","steps","row"] (spOrdB K)) (O__law_is_ring:Ok P w K mg base 26 "_law_is_ring" ["web","keep","row"] (spRingB K)):FnOk P w K mg base CX0 27 f fd ["script"] (spLaw K):=by
 refine F.ok (k:=26) sc_law (fun vs H Q E h=>?_) (fun cdv A outer s H vs Q E hr h=>?_)
 ·obtain⟨a,ns,rfl,_⟩:=h
  rfl
 obtain⟨a,ns,rfl,hS,h63,q⟩:=h
 have nd:=sc_law.nd
 have hl:(ns.map V.int).length=ns.length:=List.length_map _
 refine⟨_,(BSs.h (bss_cons (bs_forB PassesOwn.never rfl (pi_range1 rfl T.z_range (pa_cons (pe_callB (call_max2 rfl) rfl T.z_max (by decide +kernel) (pa_cons pe_int (pa_cons (pe_callB (call_min2 rfl) rfl T.z_min (by decide +kernel) (pa_cons pe_int (pa_cons (pe_callB call_len_seq rfl T.z_len (by decide +kernel) (pa_cons (pv 0) pa_nil)) pa_nil))) pa_nil))) pa_nil)) (pg_name (i:=1) nd rfl (Or.inl rfl)) (bss_cons (bs_set (i:=2) nd rfl (Or.inl rfl) (BE.mk (pe_callD O__law_pot hr rfl (pa_cons (pv 0) (pa_cons (pv 1) pa_nil))))) (bss_cons (bs_set (i:=3) nd rfl (Or.inl rfl) (BE.mk (pe_callD O__law_web hr rfl (pa_cons (pv 2) (pa_cons (pe_callD O__law_most hr rfl (pa_cons (pv 2) (pa_cons (pv 1) pa_nil))) pa_nil))))) (bss_cons (bs_set (i:=4) nd rfl (Or.inl rfl) (BE.mk (pe_callD O__law_keep hr rfl (pa_cons (pv 2) (pa_cons (pv 3) pa_nil))))) (bss_cons (bs_set (i:=5) nd rfl (Or.inl rfl) (BE.mk (pe_callD O__law_steps hr rfl (pa_cons (pv 2) pa_nil)))) (bss_one (bs_forB PassesOwn.never rfl (pi_range1 rfl T.z_range (pa_cons pe_int pa_nil)) (pg_name (i:=6) nd rfl (Or.inl rfl)) (bss_cons (bs_set (i:=7) nd rfl (Or.inl rfl) (BE.mk (pe_callD O__law_spoilt hr rfl (pa_cons (pv 2) (pa_cons (pe_ix ix_tup (pv 3) pe_int (fun _ _=>rfl)) (pa_cons (pe_callD O__law_row hr rfl (pa_cons (pv 2) (pa_cons (pv 3) (pa_cons (pv 4) (pa_cons (pv 5) pa_nil))))) pa_nil)))))) (bss_one (bs_forB PassesOwn.never rfl (pi_range1 rfl T.z_range (pa_cons pe_int pa_nil)) (pg_name (i:=8) nd rfl (Or.inl rfl)) (bss_cons (bs_if (pt_not (pt_val (pe_callD O__law_is hr rfl (pa_cons (pe_callD O_few_right hr rfl (pa_cons (pv 3) (pa_cons (pv 4) (pa_cons (pv 5) (pa_cons (pe_tupG (pa_cons pe_str (pa_cons (pv 7) pa_nil))) pa_nil))))) (pa_cons (pe_callD O__law_is_order hr rfl (pa_cons (pv 3) (pa_cons (pv 4) (pa_cons (pv 5) (pa_cons (pv 7) pa_nil))))) pa_nil))))) (bss_one (bs_ret (BE.mk pe_bl))) bss_nil) (bss_cons (bs_set (i:=9) nd rfl (Or.inl rfl) (BE.mk (pe_and (pe_cmpR op_le (pe_callB call_len_seq rfl T.z_len (by decide +kernel) (pa_cons (pv 7) pa_nil)) (pe_op op_mul pe_int (pv 5)) (nomark _)) (pe_one (pe_callD O__law_is_ring hr rfl (pa_cons (pv 3) (pa_cons (pv 4) (pa_cons (pv 7) pa_nil)))))))) (bss_one (bs_if (pt_not (pt_val (pe_callD O__law_is hr rfl (pa_cons (pe_callD O_few_right hr rfl (pa_cons (pv 3) (pa_cons (pv 4) (pa_cons (pv 5) (pa_cons (pe_tupG (pa_cons pe_str (pa_cons (pv 7) pa_nil))) pa_nil))))) (pa_cons (pv 9) pa_nil))))) (bss_one (bs_ret (BE.mk pe_bl))) bss_nil)))))))))))))) (bss_one (bs_ret (BE.mk pe_bl))))),?_⟩
 refine⟨_,rfl,a,_,rfl,.inl hS,_,_,rfl,_,_,rfl,_,rfl,?_,?_,?_⟩
 ·split <;> split <;> omega
 ·rw[hl];split <;> split <;> omega
 generalize hj:(if (if (((ns.map V.int).length:Nat):Int) < 8 then (((ns.map V.int).length:Nat):Int) else 8) > 2 then (if (((ns.map V.int).length:Nat):Int) < 8 then (((ns.map V.int).length:Nat):Int) else 8) else 2)=j
 have j12:j≤8:=by rw[← hj];split <;> split <;> omega
 refine for_range (n:=j.toNat) (fun i σ H'=>∃ x1 x2 x3 x4 x5 x6 x7 x8 x9:Option V,σ=[some (.ref a),x1,x2,x3,x4,x5,x6,x7,x8,x9]∧Same H H') ⟨none,none,none,none,none,none,none,none,none,rfl,Same.refl H⟩ ?turn (fun σ H' _=>q H')
 rintro i σ H0 hi ⟨x1,x2,x3,x4,x5,x6,x7,x8,x9,rfl,s0⟩
 refine⟨_,rfl,_,rfl,a,_,ns,rfl,s0.seq hS,by omega,by omega,fun l H1 s1 fl p1=>?_⟩
 have s01:Same H H1:=s0.trans s1
 have fl0:H l=none:=s0.free fl
 refine⟨_,rfl,_,rfl,_,rfl,l,_,rfl,p1,fun m H1' m1 m24 b2 p2=>⟨l,m,rfl,p2,m1,m24,fun wv H2 n ts b3 p3 ok _ isw=>?_⟩⟩
 have few60:=ok.few
 have n1:=ok.n1
 have n24:=ok.n24
 refine⟨_,rfl,_,rfl,l,n,ts,wv,rfl,p3,isw,few60,fun kv H4 ks b5 p5 kok isk=>?_⟩
 obtain⟨xs3,e3'⟩:=p3.lst
 have isw4:Is K H4 (webD n ts) wv:=Is.but b5 e3' _ (tup_web n ts) isw
 refine⟨_,rfl,l,rfl,p5,fun k H5 k1 k12 b6 p6=>?_⟩
 obtain⟨xs5,e5'⟩:=p5.lst
 have wk5:WK K H5 n ts ks wv kv:=⟨Is.but b6 e5' _ (tup_web n ts) isw4,ok,Is.but b6 e5' _ (tup_keep ks) isk,kok⟩
 have B5:But l H1 H5:=b2.trans (b3.trans (b5.trans b6))
 obtain⟨d,sh⟩:=Shr.share_ex n.toNat k k1
 refine⟨6,rfl,by decide,by decide,?_⟩
 refine for_range (n:=6) (fun i' σ J=>∃ y1 y6 y7 y8 y9:Option V,σ=[some (.ref a),y1,some (.ref l),some wv,some kv,some (.int (k:Int)),y6,y7,y8,y9]∧But l H5 J∧Pot J l) ⟨_,_,_,_,_,rfl,But.refl,p6⟩ (fun i' σ J hi' hinv=>?_) (fun σ J hinv=>?_)
 ·obtain⟨y1,y6,y7,y8,y9,rfl,b7,p7⟩:=hinv
  have wk7:=wkb34 wk5 b7 p6
  obtain⟨g0,g,ws,rfl,hg0,hg,hall,hlw⟩:=web_parts wk7.1
  refine⟨_,rfl,_,rfl,g0,_,_,_,rfl,rfl,SqT.of hg0,rfl,_,rfl,_,rfl,_,rfl,_,rfl,l,n,ts,ks,_,kv,k,rfl,p7,wk7,k1,by omega,fun t rs J8 b8 p8 e8 l8=>?_⟩
  refine⟨l,t,n,rs,rfl,p8,n1,n24,e8,l8,fun v J9 b9 p9 rv=>?_⟩
  obtain⟨tr,us,rfl,etr,_,lus⟩:=rv
  have wk9:=wkb34 (wkb34 wk7 b8 p7) b9 p8
  have lU:(us.map V.int).length=us.length:=List.length_map _
  have B9:But l H5 J9:=b7.trans (b8.trans b9)
  refine⟨2,rfl,by decide,by decide,?_⟩
  refine for_range (n:=2) (fun i3 σ J=>∃ y1 y6 y8 y9:Option V,σ=[some (.ref a),y1,some (.ref l),some (.ref g0),some kv,some (.int (k:Int)),y6,some (.ref tr),y8,y9]∧Same J9 J) ⟨_,_,_,_,rfl,Same.refl _⟩ (fun i3 σ J hi3 hinv=>?_) (fun σ J hinv=>?_)
  ·obtain⟨y1,y6,y8,y9,rfl,S⟩:=hinv
   have wkS:=wk9.same S
   have etS:=S _ _ etr
   refine⟨_,rfl,_,rfl,_,rfl,_,rfl,(by show 2≤1000;decide),fun pa J10 S10 f10 e10=>?_⟩
   refine⟨n,ts,ks,_,kv,k,d,pa,tr,"few",us,rfl,wkS.same S10,k1,by omega,sh,e10,S10 _ _ etS,lus,.inl rfl,fun J11 S11=>?_⟩
   have T11:=S10.trans S11
   refine⟨_,rfl,_,rfl,_,rfl,_,rfl,n,ts,ks,_,kv,k,d,tr,us,rfl,wkS.same T11,k1,by omega,sh,T11 _ _ etS,lus,fun J12 S12=>?_⟩
   have T12:=T11.trans S12
   have e1:fewB n ts ks k d "few" us=peelB n ts ks d us:=by unfold fewB;rw[if_pos rfl]
   rw[e1]
   refine⟨_,rfl,⟨_,rfl,iteF ?_⟩⟩
   have et12:=T12 _ _ etS
   have wk12:=wkS.same T12
   have e2:fewB n ts ks k d "ring" us=(ringB n ts ks us && decide (us.length≤2 * k)):=by unfold fewB;rw[if_neg (by decide)]
   refine⟨_,rfl,tr,_,rfl,.inr (SqT.of et12),_,rfl,_,_,rfl,rfl,.inl ⟨by decide,by decide⟩,_,_,rfl,rfl,_,rfl,ite2 (fun c=>?_) (fun c=>?_)⟩
   ·have c':=of_decide_eq_true c
    rw[lU] at c'
    refine⟨_,rfl,_,rfl,_,rfl,n,ts,ks,_,kv,tr,us,rfl,wk12,et12,lus,fun J13 S13=>?_⟩
    have T13:=T12.trans S13
    refine⟨_,rfl,_,rfl,_,rfl,_,rfl,(by show 2≤1000;decide),fun pb J14 S14 f14 e14=>?_⟩
    have T14:=T13.trans S14
    refine⟨n,ts,ks,_,kv,k,d,pb,tr,"ring",us,rfl,wkS.same T14,k1,by omega,sh,e14,T14 _ _ etS,lus,.inr rfl,fun J15 S15=>?_⟩
    rw[e2,decide_eq_true (show us.length≤2 * k by omega),Bool.and_true]
    exact⟨_,rfl,_,rfl,_,rfl,iteF ⟨_,_,_,_,rfl,S.trans (T14.trans S15)⟩⟩
   ·have c':¬ us.length≤2 * k:=fun z=>c (decide_eq_true (by rw[lU];omega))
    refine⟨_,rfl,_,rfl,_,rfl,_,rfl,(by show 2≤1000;decide),fun pb J14 S14 f14 e14=>?_⟩
    have T14:=T12.trans S14
    refine⟨n,ts,ks,_,kv,k,d,pb,tr,"ring",us,rfl,wkS.same T14,k1,by omega,sh,e14,T14 _ _ etS,lus,.inr rfl,fun J15 S15=>?_⟩
    rw[e2,decide_eq_false c',Bool.and_false]
    exact⟨_,rfl,_,rfl,_,rfl,iteF ⟨_,_,_,_,rfl,S.trans (T14.trans S15)⟩⟩
  ·obtain⟨y1,y6,y8,y9,rfl,S⟩:=hinv
   exact⟨_,_,_,_,_,rfl,B9.trans (Same.but S),p9.same S⟩
 ·obtain⟨y1,y6,y7,y8,y9,rfl,b7,p7⟩:=hinv
  have B:But l H1 J:=B5.trans b7
  exact⟨_,_,_,_,_,_,_,_,_,rfl,fun b o e=>B _ _ (fun x=>by rw[x,fl0] at e;cases e) (s01 _ _ e)⟩
end
end Me
namespace Me
open PySem PySem.Spec PyProof.Rows L2 L3
theorem def_mk {K:PySem.W.Frag} {h:Heap} {mg:Str->Option Value} {x:Str} {st:Stmt} {ps:List Str} {f:Addr} {od an:Option Addr} {sl:Array (Option Value)} {oc kV dc pm cd ct:Value} (X:K.In h) (G:h.Ns mainGlobals mg)
  (b:∀ (kV doc pm:Value) (an:Option Addr) (cdv ct:Value) (us:List Value),us.length=ps.length->bindArgs (PySem.W.fnOf x x (defArgs st) (defBody st) (defScope st) .none kV doc pm an cdv ct) ⟨us,[]⟩=pure (ps.zip us))
  (a:PySem.W.nsIn K mainGlobals x=some (some (.ref f))) (l:K.lookup f=some ⟨oc,od,.func (PySem.W.fnOf x x (defArgs st) (defBody st) (defScope st) .none kV dc pm an cd ct),sl⟩) (c:PySem.W.codeIn K cd x=true) (k:PySem.W.keepIn K (.ref f)=true):DefOk K mg x st ps:=by
 have F:=fun_mk (st:=st) l c k
 exact⟨f,_,F,F.binds b,PySem.W.mg_of X G a⟩
theorem dq {p:Program} {K:PySem.W.Frag} {h:Heap} {mg:Str->Option Value} {x:Str} {st:Stmt} {ps:List Str} (f c j u:Nat) (X:K.In h) (G:h.Ns mainGlobals mg)
  (b:∀ (kV doc pm:Value) (an:Option Addr) (cdv ct:Value) (us:List Value),us.length=ps.length->bindArgs (PySem.W.fnOf x x (defArgs st) (defBody st) (defScope st) .none kV doc pm an cdv ct) ⟨us,[]⟩=pure (ps.zip us))
  (a:PySem.W.nsIn K mainGlobals x=some (some (.ref f))) (l:K.lookup f=some ⟨.type "function",none,.func (PySem.W.fnOf x x (defArgs st) (defBody st) (defScope st) .none .none .none (Hx.mdV p ⟨0,0,0,j,u,0⟩) none (.ref c) .none),#[]⟩) (cc:PySem.W.codeIn K (.ref c) x=true) (k:PySem.W.keepIn K (.ref f)=true):DefOk K mg x st ps:=def_mk X G b a l cc k
theorem bd_is_whole (kV doc pm:Value) (an:Option Addr) (cdv ct:Value) (us:List Value) (hl:us.length=(["thing"]:List Str).length):bindArgs (PySem.W.fnOf "is_whole" "is_whole" (defArgs s_is_whole) (defBody s_is_whole) (defScope s_is_whole) .none kV doc pm an cdv ct) ⟨us,[]⟩=pure (List.zip (["thing"]:List Str) us):=match us,hl with | [_],_=>rfl
theorem bd_is_tuple_of (kV doc pm:Value) (an:Option Addr) (cdv ct:Value) (us:List Value) (hl:us.length=(["thing","many"]:List Str).length):bindArgs (PySem.W.fnOf "is_tuple_of" "is_tuple_of" (defArgs s_is_tuple_of) (defBody s_is_tuple_of) (defScope s_is_tuple_of) .none kV doc pm an cdv ct) ⟨us,[]⟩=pure (List.zip (["thing","many"]:List Str) us):=match us,hl with | [_,_],_=>rfl
theorem bd_is_told (kV doc pm:Value) (an:Option Addr) (cdv ct:Value) (us:List Value) (hl:us.length=(["thing","word","many"]:List Str).length):bindArgs (PySem.W.fnOf "is_told" "is_told" (defArgs s_is_told) (defBody s_is_told) (defScope s_is_told) .none kV doc pm an cdv ct) ⟨us,[]⟩=pure (List.zip (["thing","word","many"]:List Str) us):=match us,hl with | [_,_,_],_=>rfl
theorem bd_is_place (kV doc pm:Value) (an:Option Addr) (cdv ct:Value) (us:List Value) (hl:us.length=(["web","thing"]:List Str).length):bindArgs (PySem.W.fnOf "is_place" "is_place" (defArgs s_is_place) (defBody s_is_place) (defScope s_is_place) .none kV doc pm an cdv ct) ⟨us,[]⟩=pure (List.zip (["web","thing"]:List Str) us):=match us,hl with | [_,_],_=>rfl
theorem bd_tie_between (kV doc pm:Value) (an:Option Addr) (cdv ct:Value) (us:List Value) (hl:us.length=(["web","a","b"]:List Str).length):bindArgs (PySem.W.fnOf "tie_between" "tie_between" (defArgs s_tie_between) (defBody s_tie_between) (defScope s_tie_between) .none kV doc pm an cdv ct) ⟨us,[]⟩=pure (List.zip (["web","a","b"]:List Str) us):=match us,hl with | [_,_,_],_=>rfl
theorem bd_are_unlike_places (kV doc pm:Value) (an:Option Addr) (cdv ct:Value) (us:List Value) (hl:us.length=(["web","thing"]:List Str).length):bindArgs (PySem.W.fnOf "are_unlike_places" "are_unlike_places" (defArgs s_are_unlike_places) (defBody s_are_unlike_places) (defScope s_are_unlike_places) .none kV doc pm an cdv ct) ⟨us,[]⟩=pure (List.zip (["web","thing"]:List Str) us):=match us,hl with | [_,_],_=>rfl
theorem bd_ties_along (kV doc pm:Value) (an:Option Addr) (cdv ct:Value) (us:List Value) (hl:us.length=(["web","places"]:List Str).length):bindArgs (PySem.W.fnOf "ties_along" "ties_along" (defArgs s_ties_along) (defBody s_ties_along) (defScope s_ties_along) .none kV doc pm an cdv ct) ⟨us,[]⟩=pure (List.zip (["web","places"]:List Str) us):=match us,hl with | [_,_],_=>rfl
theorem bd_tie_weights (kV doc pm:Value) (an:Option Addr) (cdv ct:Value) (us:List Value) (hl:us.length=(["web"]:List Str).length):bindArgs (PySem.W.fnOf "tie_weights" "tie_weights" (defArgs s_tie_weights) (defBody s_tie_weights) (defScope s_tie_weights) .none kV doc pm an cdv ct) ⟨us,[]⟩=pure (List.zip (["web"]:List Str) us):=match us,hl with | [_],_=>rfl
theorem bd_cost_with (kV doc pm:Value) (an:Option Addr) (cdv ct:Value) (us:List Value) (hl:us.length=(["cost","length","weight"]:List Str).length):bindArgs (PySem.W.fnOf "cost_with" "cost_with" (defArgs s_cost_with) (defBody s_cost_with) (defScope s_cost_with) .none kV doc pm an cdv ct) ⟨us,[]⟩=pure (List.zip (["cost","length","weight"]:List Str) us):=match us,hl with | [_,_,_],_=>rfl
theorem bd_reached_from (kV doc pm:Value) (an:Option Addr) (cdv ct:Value) (us:List Value) (hl:us.length=(["web","keep","root"]:List Str).length):bindArgs (PySem.W.fnOf "reached_from" "reached_from" (defArgs s_reached_from) (defBody s_reached_from) (defScope s_reached_from) .none kV doc pm an cdv ct) ⟨us,[]⟩=pure (List.zip (["web","keep","root"]:List Str) us):=match us,hl with | [_,_,_],_=>rfl
theorem bd_fars_from (kV doc pm:Value) (an:Option Addr) (cdv ct:Value) (us:List Value) (hl:us.length=(["web","keep","root"]:List Str).length):bindArgs (PySem.W.fnOf "fars_from" "fars_from" (defArgs s_fars_from) (defBody s_fars_from) (defScope s_fars_from) .none kV doc pm an cdv ct) ⟨us,[]⟩=pure (List.zip (["web","keep","root"]:List Str) us):=match us,hl with | [_,_,_],_=>rfl
theorem bd_far (kV doc pm:Value) (an:Option Addr) (cdv ct:Value) (us:List Value) (hl:us.length=(["web","keep","a","b"]:List Str).length):bindArgs (PySem.W.fnOf "far" "far" (defArgs s_far) (defBody s_far) (defScope s_far) .none kV doc pm an cdv ct) ⟨us,[]⟩=pure (List.zip (["web","keep","a","b"]:List Str) us):=match us,hl with | [_,_,_,_],_=>rfl
theorem bd_without (kV doc pm:Value) (an:Option Addr) (cdv ct:Value) (us:List Value) (hl:us.length=(["keep","tie"]:List Str).length):bindArgs (PySem.W.fnOf "without" "without" (defArgs s_without) (defBody s_without) (defScope s_without) .none kV doc pm an cdv ct) ⟨us,[]⟩=pure (List.zip (["keep","tie"]:List Str) us):=match us,hl with | [_,_],_=>rfl
theorem bd_by_steps (kV doc pm:Value) (an:Option Addr) (cdv ct:Value) (us:List Value) (hl:us.length=(["web"]:List Str).length):bindArgs (PySem.W.fnOf "by_steps" "by_steps" (defArgs s_by_steps) (defBody s_by_steps) (defScope s_by_steps) .none kV doc pm an cdv ct) ⟨us,[]⟩=pure (List.zip (["web"]:List Str) us):=match us,hl with | [_],_=>rfl
theorem bd_ring_right (kV doc pm:Value) (an:Option Addr) (cdv ct:Value) (us:List Value) (hl:us.length=(["web","keep","ring"]:List Str).length):bindArgs (PySem.W.fnOf "ring_right" "ring_right" (defArgs s_ring_right) (defBody s_ring_right) (defScope s_ring_right) .none kV doc pm an cdv ct) ⟨us,[]⟩=pure (List.zip (["web","keep","ring"]:List Str) us):=match us,hl with | [_,_,_],_=>rfl
theorem bd_neighbours (kV doc pm:Value) (an:Option Addr) (cdv ct:Value) (us:List Value) (hl:us.length=(["web","keep","place"]:List Str).length):bindArgs (PySem.W.fnOf "neighbours" "neighbours" (defArgs s_neighbours) (defBody s_neighbours) (defScope s_neighbours) .none kV doc pm an cdv ct) ⟨us,[]⟩=pure (List.zip (["web","keep","place"]:List Str) us):=match us,hl with | [_,_,_],_=>rfl
theorem bd_first_by_steps (kV doc pm:Value) (an:Option Addr) (cdv ct:Value) (us:List Value) (hl:us.length=(["steps","keep","start","end"]:List Str).length):bindArgs (PySem.W.fnOf "first_by_steps" "first_by_steps" (defArgs s_first_by_steps) (defBody s_first_by_steps) (defScope s_first_by_steps) .none kV doc pm an cdv ct) ⟨us,[]⟩=pure (List.zip (["steps","keep","start","end"]:List Str) us):=match us,hl with | [_,_,_,_],_=>rfl
theorem bd_least_ring (kV doc pm:Value) (an:Option Addr) (cdv ct:Value) (us:List Value) (hl:us.length=(["web","keep"]:List Str).length):bindArgs (PySem.W.fnOf "least_ring" "least_ring" (defArgs s_least_ring) (defBody s_least_ring) (defScope s_least_ring) .none kV doc pm an cdv ct) ⟨us,[]⟩=pure (List.zip (["web","keep"]:List Str) us):=match us,hl with | [_,_],_=>rfl
theorem bd_ties_among (kV doc pm:Value) (an:Option Addr) (cdv ct:Value) (us:List Value) (hl:us.length=(["web","keep","place","others"]:List Str).length):bindArgs (PySem.W.fnOf "ties_among" "ties_among" (defArgs s_ties_among) (defBody s_ties_among) (defScope s_ties_among) .none kV doc pm an cdv ct) ⟨us,[]⟩=pure (List.zip (["web","keep","place","others"]:List Str) us):=match us,hl with | [_,_,_,_],_=>rfl
theorem bd_first_to_go (kV doc pm:Value) (an:Option Addr) (cdv ct:Value) (us:List Value) (hl:us.length=(["web","keep","d","left"]:List Str).length):bindArgs (PySem.W.fnOf "first_to_go" "first_to_go" (defArgs s_first_to_go) (defBody s_first_to_go) (defScope s_first_to_go) .none kV doc pm an cdv ct) ⟨us,[]⟩=pure (List.zip (["web","keep","d","left"]:List Str) us):=match us,hl with | [_,_,_,_],_=>rfl
theorem bd_peeled (kV doc pm:Value) (an:Option Addr) (cdv ct:Value) (us:List Value) (hl:us.length=(["web","keep","d"]:List Str).length):bindArgs (PySem.W.fnOf "peeled" "peeled" (defArgs s_peeled) (defBody s_peeled) (defScope s_peeled) .none kV doc pm an cdv ct) ⟨us,[]⟩=pure (List.zip (["web","keep","d"]:List Str) us):=match us,hl with | [_,_,_],_=>rfl
theorem bd_spread (kV doc pm:Value) (an:Option Addr) (cdv ct:Value) (us:List Value) (hl:us.length=(["d","k"]:List Str).length):bindArgs (PySem.W.fnOf "spread" "spread" (defArgs s_spread) (defBody s_spread) (defScope s_spread) .none kV doc pm an cdv ct) ⟨us,[]⟩=pure (List.zip (["d","k"]:List Str) us):=match us,hl with | [_,_],_=>rfl
theorem bd_share_of (kV doc pm:Value) (an:Option Addr) (cdv ct:Value) (us:List Value) (hl:us.length=(["n","k"]:List Str).length):bindArgs (PySem.W.fnOf "share_of" "share_of" (defArgs s_share_of) (defBody s_share_of) (defScope s_share_of) .none kV doc pm an cdv ct) ⟨us,[]⟩=pure (List.zip (["n","k"]:List Str) us):=match us,hl with | [_,_],_=>rfl
theorem bd_few_told (kV doc pm:Value) (an:Option Addr) (cdv ct:Value) (us:List Value) (hl:us.length=(["web","keep","k"]:List Str).length):bindArgs (PySem.W.fnOf "few_told" "few_told" (defArgs s_few_told) (defBody s_few_told) (defScope s_few_told) .none kV doc pm an cdv ct) ⟨us,[]⟩=pure (List.zip (["web","keep","k"]:List Str) us):=match us,hl with | [_,_,_],_=>rfl
theorem bd_peels (kV doc pm:Value) (an:Option Addr) (cdv ct:Value) (us:List Value) (hl:us.length=(["web","keep","d","order"]:List Str).length):bindArgs (PySem.W.fnOf "peels" "peels" (defArgs s_peels) (defBody s_peels) (defScope s_peels) .none kV doc pm an cdv ct) ⟨us,[]⟩=pure (List.zip (["web","keep","d","order"]:List Str) us):=match us,hl with | [_,_,_,_],_=>rfl
theorem bd_few_right (kV doc pm:Value) (an:Option Addr) (cdv ct:Value) (us:List Value) (hl:us.length=(["web","keep","k","told"]:List Str).length):bindArgs (PySem.W.fnOf "few_right" "few_right" (defArgs s_few_right) (defBody s_few_right) (defScope s_few_right) .none kV doc pm an cdv ct) ⟨us,[]⟩=pure (List.zip (["web","keep","k","told"]:List Str) us):=match us,hl with | [_,_,_,_],_=>rfl
theorem bd__law_pot (kV doc pm:Value) (an:Option Addr) (cdv ct:Value) (us:List Value) (hl:us.length=(["script","k"]:List Str).length):bindArgs (PySem.W.fnOf "_law_pot" "_law_pot" (defArgs s__law_pot) (defBody s__law_pot) (defScope s__law_pot) .none kV doc pm an cdv ct) ⟨us,[]⟩=pure (List.zip (["script","k"]:List Str) us):=match us,hl with | [_,_],_=>rfl
theorem bd__law_take (kV doc pm:Value) (an:Option Addr) (cdv ct:Value) (us:List Value) (hl:us.length=(["pot","many"]:List Str).length):bindArgs (PySem.W.fnOf "_law_take" "_law_take" (defArgs s__law_take) (defBody s__law_take) (defScope s__law_take) .none kV doc pm an cdv ct) ⟨us,[]⟩=pure (List.zip (["pot","many"]:List Str) us):=match us,hl with | [_,_],_=>rfl
theorem bd__law_length (kV doc pm:Value) (an:Option Addr) (cdv ct:Value) (us:List Value) (hl:us.length=(["pot","way"]:List Str).length):bindArgs (PySem.W.fnOf "_law_length" "_law_length" (defArgs s__law_length) (defBody s__law_length) (defScope s__law_length) .none kV doc pm an cdv ct) ⟨us,[]⟩=pure (List.zip (["pot","way"]:List Str) us):=match us,hl with | [_,_],_=>rfl
theorem bd__law_tied (kV doc pm:Value) (an:Option Addr) (cdv ct:Value) (us:List Value) (hl:us.length=(["pot","n","style","a","b"]:List Str).length):bindArgs (PySem.W.fnOf "_law_tied" "_law_tied" (defArgs s__law_tied) (defBody s__law_tied) (defScope s__law_tied) .none kV doc pm an cdv ct) ⟨us,[]⟩=pure (List.zip (["pot","n","style","a","b"]:List Str) us):=match us,hl with | [_,_,_,_,_],_=>rfl
theorem bd__law_order (kV doc pm:Value) (an:Option Addr) (cdv ct:Value) (us:List Value) (hl:us.length=(["pot","many"]:List Str).length):bindArgs (PySem.W.fnOf "_law_order" "_law_order" (defArgs s__law_order) (defBody s__law_order) (defScope s__law_order) .none kV doc pm an cdv ct) ⟨us,[]⟩=pure (List.zip (["pot","many"]:List Str) us):=match us,hl with | [_,_],_=>rfl
theorem bd__law_web (kV doc pm:Value) (an:Option Addr) (cdv ct:Value) (us:List Value) (hl:us.length=(["pot","most"]:List Str).length):bindArgs (PySem.W.fnOf "_law_web" "_law_web" (defArgs s__law_web) (defBody s__law_web) (defScope s__law_web) .none kV doc pm an cdv ct) ⟨us,[]⟩=pure (List.zip (["pot","most"]:List Str) us):=match us,hl with | [_,_],_=>rfl
theorem bd__law_keep (kV doc pm:Value) (an:Option Addr) (cdv ct:Value) (us:List Value) (hl:us.length=(["pot","web"]:List Str).length):bindArgs (PySem.W.fnOf "_law_keep" "_law_keep" (defArgs s__law_keep) (defBody s__law_keep) (defScope s__law_keep) .none kV doc pm an cdv ct) ⟨us,[]⟩=pure (List.zip (["pot","web"]:List Str) us):=match us,hl with | [_,_],_=>rfl
theorem bd__law_is (kV doc pm:Value) (an:Option Addr) (cdv ct:Value) (us:List Value) (hl:us.length=(["found","due"]:List Str).length):bindArgs (PySem.W.fnOf "_law_is" "_law_is" (defArgs s__law_is) (defBody s__law_is) (defScope s__law_is) .none kV doc pm an cdv ct) ⟨us,[]⟩=pure (List.zip (["found","due"]:List Str) us):=match us,hl with | [_,_],_=>rfl
theorem bd__law_peel (kV doc pm:Value) (an:Option Addr) (cdv ct:Value) (us:List Value) (hl:us.length=(["web","keep","d"]:List Str).length):bindArgs (PySem.W.fnOf "_law_peel" "_law_peel" (defArgs s__law_peel) (defBody s__law_peel) (defScope s__law_peel) .none kV doc pm an cdv ct) ⟨us,[]⟩=pure (List.zip (["web","keep","d"]:List Str) us):=match us,hl with | [_,_,_],_=>rfl
theorem bd__law_fan (kV doc pm:Value) (an:Option Addr) (cdv ct:Value) (us:List Value) (hl:us.length=(["d","k"]:List Str).length):bindArgs (PySem.W.fnOf "_law_fan" "_law_fan" (defArgs s__law_fan) (defBody s__law_fan) (defScope s__law_fan) .none kV doc pm an cdv ct) ⟨us,[]⟩=pure (List.zip (["d","k"]:List Str) us):=match us,hl with | [_,_],_=>rfl
theorem bd__law_share (kV doc pm:Value) (an:Option Addr) (cdv ct:Value) (us:List Value) (hl:us.length=(["n","k"]:List Str).length):bindArgs (PySem.W.fnOf "_law_share" "_law_share" (defArgs s__law_share) (defBody s__law_share) (defScope s__law_share) .none kV doc pm an cdv ct) ⟨us,[]⟩=pure (List.zip (["n","k"]:List Str) us):=match us,hl with | [_,_],_=>rfl
theorem bd__law_beside (kV doc pm:Value) (an:Option Addr) (cdv ct:Value) (us:List Value) (hl:us.length=(["web","keep"]:List Str).length):bindArgs (PySem.W.fnOf "_law_beside" "_law_beside" (defArgs s__law_beside) (defBody s__law_beside) (defScope s__law_beside) .none kV doc pm an cdv ct) ⟨us,[]⟩=pure (List.zip (["web","keep"]:List Str) us):=match us,hl with | [_,_],_=>rfl
theorem bd__law_ring_on (kV doc pm:Value) (an:Option Addr) (cdv ct:Value) (us:List Value) (hl:us.length=(["beside","row","size"]:List Str).length):bindArgs (PySem.W.fnOf "_law_ring_on" "_law_ring_on" (defArgs s__law_ring_on) (defBody s__law_ring_on) (defScope s__law_ring_on) .none kV doc pm an cdv ct) ⟨us,[]⟩=pure (List.zip (["beside","row","size"]:List Str) us):=match us,hl with | [_,_,_],_=>rfl
theorem bd__law_least_ring (kV doc pm:Value) (an:Option Addr) (cdv ct:Value) (us:List Value) (hl:us.length=(["web","keep"]:List Str).length):bindArgs (PySem.W.fnOf "_law_least_ring" "_law_least_ring" (defArgs s__law_least_ring) (defBody s__law_least_ring) (defScope s__law_least_ring) .none kV doc pm an cdv ct) ⟨us,[]⟩=pure (List.zip (["web","keep"]:List Str) us):=match us,hl with | [_,_],_=>rfl
theorem bd__law_steps (kV doc pm:Value) (an:Option Addr) (cdv ct:Value) (us:List Value) (hl:us.length=(["pot"]:List Str).length):bindArgs (PySem.W.fnOf "_law_steps" "_law_steps" (defArgs s__law_steps) (defBody s__law_steps) (defScope s__law_steps) .none kV doc pm an cdv ct) ⟨us,[]⟩=pure (List.zip (["pot"]:List Str) us):=match us,hl with | [_],_=>rfl
theorem bd__law_most (kV doc pm:Value) (an:Option Addr) (cdv ct:Value) (us:List Value) (hl:us.length=(["pot","k"]:List Str).length):bindArgs (PySem.W.fnOf "_law_most" "_law_most" (defArgs s__law_most) (defBody s__law_most) (defScope s__law_most) .none kV doc pm an cdv ct) ⟨us,[]⟩=pure (List.zip (["pot","k"]:List Str) us):=match us,hl with | [_,_],_=>rfl
theorem bd__law_drawn_ring (kV doc pm:Value) (an:Option Addr) (cdv ct:Value) (us:List Value) (hl:us.length=(["pot","web"]:List Str).length):bindArgs (PySem.W.fnOf "_law_drawn_ring" "_law_drawn_ring" (defArgs s__law_drawn_ring) (defBody s__law_drawn_ring) (defScope s__law_drawn_ring) .none kV doc pm an cdv ct) ⟨us,[]⟩=pure (List.zip (["pot","web"]:List Str) us):=match us,hl with | [_,_],_=>rfl
theorem bd__law_row (kV doc pm:Value) (an:Option Addr) (cdv ct:Value) (us:List Value) (hl:us.length=(["pot","web","keep","steps"]:List Str).length):bindArgs (PySem.W.fnOf "_law_row" "_law_row" (defArgs s__law_row) (defBody s__law_row) (defScope s__law_row) .none kV doc pm an cdv ct) ⟨us,[]⟩=pure (List.zip (["pot","web","keep","steps"]:List Str) us):=match us,hl with | [_,_,_,_],_=>rfl
theorem bd__law_spoilt (kV doc pm:Value) (an:Option Addr) (cdv ct:Value) (us:List Value) (hl:us.length=(["pot","n","row"]:List Str).length):bindArgs (PySem.W.fnOf "_law_spoilt" "_law_spoilt" (defArgs s__law_spoilt) (defBody s__law_spoilt) (defScope s__law_spoilt) .none kV doc pm an cdv ct) ⟨us,[]⟩=pure (List.zip (["pot","n","row"]:List Str) us):=match us,hl with | [_,_,_],_=>rfl
theorem bd__law_is_ring (kV doc pm:Value) (an:Option Addr) (cdv ct:Value) (us:List Value) (hl:us.length=(["web","keep","row"]:List Str).length):bindArgs (PySem.W.fnOf "_law_is_ring" "_law_is_ring" (defArgs s__law_is_ring) (defBody s__law_is_ring) (defScope s__law_is_ring) .none kV doc pm an cdv ct) ⟨us,[]⟩=pure (List.zip (["web","keep","row"]:List Str) us):=match us,hl with | [_,_,_],_=>rfl
theorem bd__law_is_order (kV doc pm:Value) (an:Option Addr) (cdv ct:Value) (us:List Value) (hl:us.length=(["web","keep","steps","row"]:List Str).length):bindArgs (PySem.W.fnOf "_law_is_order" "_law_is_order" (defArgs s__law_is_order) (defBody s__law_is_order) (defScope s__law_is_order) .none kV doc pm an cdv ct) ⟨us,[]⟩=pure (List.zip (["web","keep","steps","row"]:List Str) us):=match us,hl with | [_,_,_,_],_=>rfl
theorem law_all {P:Program} {w:World} {K:PySem.W.Frag} {mg:Str->Option Value} {base:Heap} {f:Addr} {fd:FuncData} (T:Bi mg)
  (D_is_whole:DefOk K mg "is_whole" s_is_whole ["thing"])
  (D_is_tuple_of:DefOk K mg "is_tuple_of" s_is_tuple_of ["thing","many"])
  (D_is_told:DefOk K mg "is_told" s_is_told ["thing","word","many"])
  (D_is_place:DefOk K mg "is_place" s_is_place ["web","thing"])
  (D_tie_between:DefOk K mg "tie_between" s_tie_between ["web","a","b"])
  (D_are_unlike_places:DefOk K mg "are_unlike_places" s_are_unlike_places ["web","thing"])
  (D_ties_along:DefOk K mg "ties_along" s_ties_along ["web","places"])
  (D_tie_weights:DefOk K mg "tie_weights" s_tie_weights ["web"])
  (D_cost_with:DefOk K mg "cost_with" s_cost_with ["cost","length","weight"])
  (D_reached_from:DefOk K mg "reached_from" s_reached_from ["web","keep","root"])
  (D_fars_from:DefOk K mg "fars_from" s_fars_from ["web","keep","root"])
  (D_far:DefOk K mg "far" s_far ["web","keep","a","b"])
  (D_without:DefOk K mg "without" s_without ["keep","tie"])
  (D_by_steps:DefOk K mg "by_steps" s_by_steps ["web"])
  (D_ring_right:DefOk K mg "ring_right" s_ring_right ["web","keep","ring"])
  (D_neighbours:DefOk K mg "neighbours" s_neighbours ["web","keep","place"])
  (D_first_by_steps:DefOk K mg "first_by_steps" s_first_by_steps ["steps","keep","start","end"])
  (D_least_ring:DefOk K mg "least_ring" s_least_ring ["web","keep"])
  (D_ties_among:DefOk K mg "ties_among" s_ties_among ["web","keep","place","others"])
  (D_first_to_go:DefOk K mg "first_to_go" s_first_to_go ["web","keep","d","left"])
  (D_peeled:DefOk K mg "peeled" s_peeled ["web","keep","d"])
  (D_spread:DefOk K mg "spread" s_spread ["d","k"])
  (D_share_of:DefOk K mg "share_of" s_share_of ["n","k"])
  (D_few_told:DefOk K mg "few_told" s_few_told ["web","keep","k"])
  (D_peels:DefOk K mg "peels" s_peels ["web","keep","d","order"])
  (D_few_right:DefOk K mg "few_right" s_few_right ["web","keep","k","told"])
  (D__law_pot:DefOk K mg "_law_pot" s__law_pot ["script","k"])
  (D__law_take:DefOk K mg "_law_take" s__law_take ["pot","many"])
  (D__law_length:DefOk K mg "_law_length" s__law_length ["pot","way"])
  (D__law_tied:DefOk K mg "_law_tied" s__law_tied ["pot","n","style","a","b"])
  (D__law_order:DefOk K mg "_law_order" s__law_order ["pot","many"])
  (D__law_web:DefOk K mg "_law_web" s__law_web ["pot","most"])
  (D__law_keep:DefOk K mg "_law_keep" s__law_keep ["pot","web"])
  (D__law_is:DefOk K mg "_law_is" s__law_is ["found","due"])
  (D__law_peel:DefOk K mg "_law_peel" s__law_peel ["web","keep","d"])
  (D__law_fan:DefOk K mg "_law_fan" s__law_fan ["d","k"])
  (D__law_share:DefOk K mg "_law_share" s__law_share ["n","k"])
  (D__law_beside:DefOk K mg "_law_beside" s__law_beside ["web","keep"])
  (D__law_ring_on:DefOk K mg "_law_ring_on" s__law_ring_on ["beside","row","size"])
  (D__law_least_ring:DefOk K mg "_law_least_ring" s__law_least_ring ["web","keep"])
  (D__law_steps:DefOk K mg "_law_steps" s__law_steps ["pot"])
  (D__law_most:DefOk K mg "_law_most" s__law_most ["pot","k"])
  (D__law_drawn_ring:DefOk K mg "_law_drawn_ring" s__law_drawn_ring ["pot","web"])
  (D__law_row:DefOk K mg "_law_row" s__law_row ["pot","web","keep","steps"])
  (D__law_spoilt:DefOk K mg "_law_spoilt" s__law_spoilt ["pot","n","row"])
  (D__law_is_ring:DefOk K mg "_law_is_ring" s__law_is_ring ["web","keep","row"])
  (D__law_is_order:DefOk K mg "_law_is_order" s__law_is_order ["web","keep","steps","row"])
  (F:Fun K "law" "law" s_law f fd):FnOk P w K mg base CX0 27 f fd ["script"] (spLaw K):=by
 have O__law_take:=ok__law_take (P:=P) (w:=w) (base:=base) T D__law_take
 have O__law_pot:=ok__law_pot (P:=P) (w:=w) (base:=base) T D__law_pot
 have O__law_length:=ok__law_length T D__law_length O__law_take
 have O__law_tied:=ok__law_tied T D__law_tied O__law_take
 have O__law_order:=ok__law_order T D__law_order O__law_take
 have O__law_web:=ok__law_web T D__law_web (O__law_take.mono (by decide)) O__law_order O__law_tied O__law_length
 have O__law_keep:=ok__law_keep T D__law_keep O__law_take
 have O__law_most:=ok__law_most31 T D__law_most O__law_take
 have O__law_steps:=ok__law_steps33 T D__law_steps O__law_take
 have O_tie_weights:=ok_tie_weights (P:=P) (w:=w) (base:=base) T D_tie_weights
 have O_cost_with:=ok_cost_with (P:=P) (w:=w) (base:=base) T D_cost_with
 have O_reached_from:=ok_reached_from T D_reached_from O_tie_weights O_cost_with
 have O_fars_from:=ok_fars_from T D_fars_from O_reached_from
 have O_far:=ok_far T D_far O_fars_from
 have O_without:=ok_without (P:=P) (w:=w) (base:=base) T D_without
 have O_by_steps:=ok_by_steps (P:=P) (w:=w) (base:=base) T D_by_steps
 have O_neighbours:=ok_neighbours (P:=P) (w:=w) (base:=base) T D_neighbours
 have O_first_by_steps:=ok_first_by_steps T D_first_by_steps O_fars_from (O_neighbours.mono (by decide))
 have O_least_ring:=ok_least_ring T D_least_ring (O_by_steps.mono (by decide)) O_far (O_without.mono (by decide)) O_first_by_steps
 have O_ties_among:=ok_ties_among T D_ties_among O_neighbours
 have O_first_to_go:=ok_first_to_go T D_first_to_go O_ties_among
 have O_peeled:=ok_peeled T D_peeled O_first_to_go
 have O_spread:=ok_spread (P:=P) (w:=w) (K:=K) (base:=base) T D_spread
 have O_share_of:=ok_share_of T D_share_of O_spread
 have O_few_told:=ok_few_told T D_few_told (O_peeled.mono (by decide)) (O_share_of.mono (by decide)) O_least_ring
 have O_is_whole:=ok_is_whole (P:=P) (w:=w) (base:=base) T D_is_whole
 have O_is_place:=ok_is_place T D_is_place O_is_whole
 have O_are_unlike_places:=ok_are_unlike_places T D_are_unlike_places O_is_place
 have O_tie_between:=ok_tie_between (P:=P) (w:=w) (base:=base) T D_tie_between
 have O_ties_along:=ok_ties_alongO T D_ties_along O_tie_between
 have O_ring_right:=ok_ring_rightB T D_ring_right O_are_unlike_places (O_ties_along.mono (by decide))
 have O_is_tuple_of:=ok_is_tuple_of2 (P:=P) (w:=w) (K:=K) (base:=base) T D_is_tuple_of
 have O_is_told:=ok_is_told2 T D_is_told O_is_tuple_of
 have O_peels:=ok_peelsB T D_peels O_are_unlike_places (O_ties_among.mono (by decide))
 have O_few_right:=ok_few_rightB T D_few_right (O_is_told.mono (by decide)) O_peels (O_share_of.mono (by decide)) O_ring_right
 have O__law_peel:=ok__law_peel (P:=P) (w:=w) (base:=base) T D__law_peel
 have O__law_fan:=ok__law_fan (P:=P) (w:=w) (K:=K) (base:=base) T D__law_fan
 have O__law_share:=ok__law_share T D__law_share O__law_fan
 have O__law_beside:=ok__law_besideS (P:=P) (w:=w) (base:=base) T D__law_beside
 have O__law_ring_on:=ok__law_ring_on (P:=P) (w:=w) (base:=base) T D__law_ring_on 23
 have O__law_least_ring:=ok__law_least_ringS T D__law_least_ring (O__law_beside.mono (by decide)) O__law_ring_on
 have O__law_is:=ok__law_is34 (P:=P) (w:=w) (K:=K) (base:=base) T D__law_is
 have O__law_is_order:=ok__law_is_order34 T D__law_is_order (O__law_beside.mono (by decide)) O__law_share
 have O__law_is_ring:=ok__law_is_ring34 T D__law_is_ring O__law_beside
 have O__law_drawn_ring:=ok__law_drawn_ring34 (K:=K) T D__law_drawn_ring (O__law_take.mono (by decide)) O__law_order
 have O__law_spoilt:=ok__law_spoilt34 T D__law_spoilt O__law_take
 have O__law_row:=ok__law_row34 T D__law_row (O__law_take.mono (by decide)) (O__law_order.mono (by decide)) (O_few_told.mono (by decide)) (O__law_peel.mono (by decide)) O__law_least_ring (O__law_drawn_ring.mono (by decide))
 exact ok_law T F (O__law_pot.mono (by decide)) (O__law_most.mono (by decide)) (O__law_web.mono (by decide)) (O__law_keep.mono (by decide)) (O__law_steps.mono (by decide)) O__law_row (O__law_spoilt.mono (by decide)) (O_few_right.mono (by decide)) (O__law_is.mono (by decide)) (O__law_is_order.mono (by decide)) (O__law_is_ring.mono (by decide))
theorem walk {l:PySem.W.OpenLaw} {q:Program} {loose:List Str} {XP:(Str->Option Value)->Heap->Prop} {YP:World->Heap->Prop} {d:DefRec} {K:Params->PySem.W.Frag} (hn:l.most=some 63) (hdf:d.params.defaults=[])
  (hY:∀ (w:World) (h:Heap),YP w h->(K w.params).In h)
  (F:∀ (w:World) (mg:Str->Option Value) (fa:Addr) (h:Heap),(K w.params).In h->h.Ns mainGlobals mg->mg d.name=some (.ref fa) ->
   ∃ fd:FuncData,(∀ (s:Shared) (u:Value),BindsTo s fd ⟨[u],[]⟩ [("script",u)])∧∀ base:Heap,(K w.params).In base->base.Ns mainGlobals mg->FnOk l.prog w (K w.params) mg base CX0 27 fa fd ["script"] (spLaw (K w.params))) :
  PySem.W.WalkO q loose XP YP l.row.toRowW d [] (fun f vs=>PySem.call f vs) :=
 L2.walk_of (n:=63) (k:=27) (x:="script") (CX:=fun _=>CX0) (sp:=fun w=>spLaw (K w.params)) hn (by decide) hdf ⟨rfl,by decide,by decide,rfl⟩ hY F (fun _ _ a ns hl _ hS=>⟨a,ns,rfl,hS,hl,fun _=>rfl⟩) fun _ _ _ _ _ z=>z
end Me
namespace Hy
open PySem PySem.W Hx
def cs:List Ch:=[⟨0,15,187,0,187,0⟩,⟨1,15,189,0,187,0⟩,⟨2,22,196,0,187,0⟩,⟨3,29,204,0,187,0⟩,⟨4,36,213,4,213,0⟩,⟨5,36,215,4,213,0⟩,⟨6,43,223,4,213,0⟩,⟨7,50,235,7,235,0⟩,⟨8,50,237,7,235,0⟩,⟨9,55,243,7,235,0⟩,⟨10,60,249,7,235,0⟩,⟨11,67,259,7,235,0⟩,⟨12,74,268,7,235,0⟩,⟨13,81,288,7,235,0⟩,⟨14,86,294,7,235,0⟩,⟨15,93,304,15,304,0⟩,⟨16,93,306,15,304,0⟩,⟨17,98,312,15,304,0⟩,⟨18,103,318,18,318,0⟩,⟨19,103,320,18,318,0⟩,⟨20,108,326,18,318,0⟩,⟨21,113,332,18,318,0⟩,⟨22,118,338,18,318,0⟩,⟨23,125,354,23,354,0⟩,⟨24,125,356,23,354,0⟩,⟨25,130,362,23,354,0⟩,⟨26,137,373,23,354,0⟩,⟨27,144,385,23,354,0⟩,⟨28,151,396,23,354,0⟩,⟨29,158,405,23,354,0⟩,⟨30,165,416,23,354,0⟩,⟨31,170,422,23,354,0⟩,⟨32,177,432,32,432,0⟩,⟨33,177,434,32,432,0⟩,⟨34,184,444,32,432,0⟩,⟨35,191,453,32,432,0⟩,⟨36,198,461,32,432,0⟩,⟨37,205,473,32,432,0⟩,⟨38,212,484,32,432,0⟩,⟨39,219,501,32,432,0⟩,⟨40,224,507,32,432,0⟩,⟨41,231,515,32,432,0⟩,⟨42,236,521,32,432,0⟩,⟨43,243,531,32,432,0⟩,⟨44,250,540,32,432,0⟩,⟨45,255,546,32,432,0⟩,⟨46,262,557,32,432,0⟩,⟨47,269,569,32,432,0⟩,⟨48,276,576,32,432,0⟩,⟨49,283,584,32,432,0⟩,⟨50,290,594,32,432,0⟩,⟨51,297,608,32,432,0⟩,⟨52,302,614,32,432,0⟩,⟨53,309,625,32,432,0⟩,⟨54,314,631,32,432,0⟩]
end Hy
lay_quick Hx.PieceT Hx.PreT Hx.BlockT Hx.LookA Hx.LookB Hx.LookC PySem.Challenge.pw_thinways_k34_few_judged
namespace Hy
open PySem PySem.W Hx
theorem pre:PreT PySem.Challenge.pw_thinways_k34_few_judged boots boot_drawn boot_heap boot_toks cs ⟨0,15,187⟩:=by
 rw[PySem.W.Fast.te16428918119715843241,PySem.W.Fast.te18318578778006278272];delta PySem.W.Fast.tw16428918119715843241;intro w;kernel_rfl
theorem pc0:PieceT PySem.Challenge.pw_thinways_k34_few_judged boots boot_drawn cs ⟨0,15,187⟩ ⟨15,93,304⟩ 397:=by
 rw[PySem.W.Fast.te4643275101561185336,PySem.W.Fast.te18318578778006278272];delta PySem.W.Fast.tw4643275101561185336;intro w;kernel_rfl
theorem pc1:PieceT PySem.Challenge.pw_thinways_k34_few_judged boots boot_drawn cs ⟨15,93,304⟩ ⟨30,165,416⟩ 386:=by
 rw[PySem.W.Fast.te4643275101561185336,PySem.W.Fast.te18318578778006278272];delta PySem.W.Fast.tw4643275101561185336;intro w;kernel_rfl
theorem pc2:PieceT PySem.Challenge.pw_thinways_k34_few_judged boots boot_drawn cs ⟨30,165,416⟩ ⟨43,243,531⟩ 381:=by
 rw[PySem.W.Fast.te4643275101561185336,PySem.W.Fast.te18318578778006278272];delta PySem.W.Fast.tw4643275101561185336;intro w;kernel_rfl
theorem pc3:PieceT PySem.Challenge.pw_thinways_k34_few_judged boots boot_drawn cs ⟨43,243,531⟩ ⟨55,321,647⟩ 375:=by
 rw[PySem.W.Fast.te4643275101561185336,PySem.W.Fast.te18318578778006278272];delta PySem.W.Fast.tw4643275101561185336;intro w;kernel_rfl
theorem blk:BlockT PySem.Challenge.pw_thinways_k34_few_judged :=by
 rw[PySem.W.Fast.te421534021395069552,PySem.W.Fast.te18318578778006278272];delta PySem.W.Fast.tw421534021395069552;intro w s;kernel_rfl
theorem run (w:World) (os:OsState):topRun treeTable PySem.Challenge.pw_thinways_k34_few_judged w 11 ann0 (12 + (1 + (397 + (386 + (381 + (375 + 2)))))) ⟨boot_heap w.params,Array.mk [],boot_drawn,boot_toks,os⟩ (topStub PySem.Challenge.pw_thinways_k34_few_judged)=some (stT PySem.Challenge.pw_thinways_k34_few_judged boots boot_drawn cs ⟨55,321,647⟩ w os).abs:=run_all pre blk (chain pc0 (by decide) (chain pc1 (by decide) (chain pc2 (by decide) (chain pc3 (by decide) (chain_end (by kernel_rfl))))))
theorem size (w:World):((boot_heap w.params).isNs mainGlobals && (Array.mk []:Array GenState).size == 0,(boot_heap w.params).objs.size,(boot_heap w.params).nsMap mainGlobals "__annotations__")=(true,11,ann0):=by kernel_rfl
theorem lkA:LookA PySem.Challenge.pw_thinways_k34_few_judged boots boot_drawn boot_heap cs ⟨55,321,647⟩:=by
 rw[PySem.W.Fast.te7818774390570169022,PySem.W.Fast.te18318578778006278272];delta PySem.W.Fast.tw7818774390570169022;intro w;kernel_rfl
theorem lkB:LookB PySem.Challenge.pw_thinways_k34_few_judged boots boot_drawn cs ⟨55,321,647⟩ [54] (OpenRow.toRowW (PySem.Challenge.rw_thinways_k34_few_judged).row).records:=by
 rw[PySem.W.Fast.te13889730532244352606,PySem.W.Fast.te18318578778006278272];delta PySem.W.Fast.tw13889730532244352606;intro w;kernel_rfl
theorem lkC:LookC PySem.Challenge.pw_thinways_k34_few_judged boots cs ⟨55,321,647⟩ [3,20,21,27,28,34,35,41,42,48,49,53,54,58,59,65,66,72,73,79,80,84,85,91,92,96,97,101,102,106,107,111,112,116,117,123,124,128,129,135,136,142,143,149,150,156,157,163,164,168,169,175,176,182,183,189,190,196,197,203,204,210,211,217,218,222,223,229,230,234,235,241,242,248,249,253,254,260,261,267,268,274,275,281,282,288,289,295,296,300,301,307,308,312,313,319,320]:=by
 rw[PySem.W.Fast.te6241646928739474683,PySem.W.Fast.te18318578778006278272];delta PySem.W.Fast.tw6241646928739474683;intro w;kernel_rfl
noncomputable abbrev K:=Kf PySem.Challenge.pw_thinways_k34_few_judged boots cs
theorem Kas (P:Params):[3,20,21,27,28,34,35,41,42,48,49,53,54,58,59,65,66,72,73,79,80,84,85,91,92,96,97,101,102,106,107,111,112,116,117,123,124,128,129,135,136,142,143,149,150,156,157,163,164,168,169,175,176,182,183,189,190,196,197,203,204,210,211,217,218,222,223,229,230,234,235,241,242,248,249,253,254,260,261,267,268,274,275,281,282,288,289,295,296,300,301,307,308,312,313,319,320]=(K P).map (·.1):=by kernel_rfl
noncomputable abbrev H:Hook:=kHook K [3,20,21,27,28,34,35,41,42,48,49,53,54,58,59,65,66,72,73,79,80,84,85,91,92,96,97,101,102,106,107,111,112,116,117,123,124,128,129,135,136,142,143,149,150,156,157,163,164,168,169,175,176,182,183,189,190,196,197,203,204,210,211,217,218,222,223,229,230,234,235,241,242,248,249,253,254,260,261,267,268,274,275,281,282,288,289,295,296,300,301,307,308,312,313,319,320] Kas
theorem opn:opening PySem.Challenge.pw_thinways_k34_few_judged=plainProg (PySem.Challenge.pw_thinways_k34_few_judged).main.scope.names:=by kernel_rfl
theorem fnc (s:Shared):fenceModules? PySem.Challenge.pw_thinways_k34_few_judged s=some s:=by kernel_rfl
theorem left:LeftO PySem.Challenge.pw_thinways_k34_few_judged (qv PySem.Challenge.pw_thinways_k34_few_judged [54]) (lz PySem.Challenge.pw_thinways_k34_few_judged [54] 55) (fun s=>xlAt (qv PySem.Challenge.pw_thinways_k34_few_judged [54]) [] s && recOk (OpenRow.toRowW (PySem.Challenge.rw_thinways_k34_few_judged).row).records s) (Hook.obs H) (Hook.val H) 3708 :=
 left_of (p:=PySem.Challenge.pw_thinways_k34_few_judged) (cs:=cs) (is:=[54]) (as:=[3,20,21,27,28,34,35,41,42,48,49,53,54,58,59,65,66,72,73,79,80,84,85,91,92,96,97,101,102,106,107,111,112,116,117,123,124,128,129,135,136,142,143,149,150,156,157,163,164,168,169,175,176,182,183,189,190,196,197,203,204,210,211,217,218,222,223,229,230,234,235,241,242,248,249,253,254,260,261,267,268,274,275,281,282,288,289,295,296,300,301,307,308,312,313,319,320]) (rc:=(OpenRow.toRowW (PySem.Challenge.rw_thinways_k34_few_judged).row).records) (c:=⟨55,321,647⟩) (M:=12 + (1 + (397 + (386 + (381 + (375 + 2)))))) (N:=3708) (e:=Kas) opn (by decide) fnc size run (by decide) lkA lkB lkC
end Hy
namespace Hy
open PySem PySem.W PyProof.Rows L2 L3 Hx Me
theorem all {w:World} {h:Heap} {mg:Str->Option Value} {fa:Addr} (X:(K w.params).In h) (G:h.Ns mainGlobals mg) (hfa:mg "law"=some (.ref fa)) :
  ∃ fd:FuncData,(∀ (s:Shared) (v:Value),BindsTo s fd ⟨[v],[]⟩ [("script",v)])∧∀ base:Heap,(K w.params).In base->base.Ns mainGlobals mg->FnOk (PySem.Challenge.rw_thinways_k34_few_judged).prog w (K w.params) mg base CX0 27 fa fd ["script"] (spLaw (K w.params)):=by
 have T:Bi mg:=⟨PySem.W.mg_none_of X G (show PySem.W.nsIn (K w.params) mainGlobals "len"=some none by kernel_rfl),PySem.W.mg_none_of X G (show PySem.W.nsIn (K w.params) mainGlobals "range"=some none by kernel_rfl),PySem.W.mg_none_of X G (show PySem.W.nsIn (K w.params) mainGlobals "zip"=some none by kernel_rfl),PySem.W.mg_none_of X G (show PySem.W.nsIn (K w.params) mainGlobals "all"=some none by kernel_rfl),PySem.W.mg_none_of X G (show PySem.W.nsIn (K w.params) mainGlobals "sorted"=some none by kernel_rfl),PySem.W.mg_none_of X G (show PySem.W.nsIn (K w.params) mainGlobals "isinstance"=some none by kernel_rfl),PySem.W.mg_none_of X G (show PySem.W.nsIn (K w.params) mainGlobals "min"=some none by kernel_rfl),PySem.W.mg_none_of X G (show PySem.W.nsIn (K w.params) mainGlobals "max"=some none by kernel_rfl),PySem.W.mg_none_of X G (show PySem.W.nsIn (K w.params) mainGlobals "tuple"=some none by kernel_rfl),PySem.W.mg_none_of X G (show PySem.W.nsIn (K w.params) mainGlobals "list"=some none by kernel_rfl),PySem.W.mg_none_of X G (show PySem.W.nsIn (K w.params) mainGlobals "int"=some none by kernel_rfl),PySem.W.mg_none_of X G (show PySem.W.nsIn (K w.params) mainGlobals "bool"=some none by kernel_rfl),PySem.W.mg_none_of X G (show PySem.W.nsIn (K w.params) mainGlobals "str"=some none by kernel_rfl),PySem.W.mg_none_of X G (show PySem.W.nsIn (K w.params) mainGlobals "enumerate"=some none by kernel_rfl),PySem.W.mg_none_of X G (show PySem.W.nsIn (K w.params) mainGlobals "sum"=some none by kernel_rfl),PySem.W.mg_none_of X G (show PySem.W.nsIn (K w.params) mainGlobals "abs"=some none by kernel_rfl),PySem.W.mg_none_of X G (show PySem.W.nsIn (K w.params) mainGlobals "set"=some none by kernel_rfl),PySem.W.mg_none_of X G (show PySem.W.nsIn (K w.params) mainGlobals "reversed"=some none by kernel_rfl),PySem.W.mg_none_of X G (show PySem.W.nsIn (K w.params) mainGlobals "any"=some none by kernel_rfl),PySem.W.mg_none_of X G (show PySem.W.nsIn (K w.params) mainGlobals "repr"=some none by kernel_rfl),PySem.W.mg_none_of X G (show PySem.W.nsIn (K w.params) mainGlobals "dict"=some none by kernel_rfl)⟩
 have D_is_whole:=dq (p:=PySem.Challenge.pw_thinways_k34_few_judged) (ps:=["thing"]) 21 20 0 187 X G bd_is_whole (by kernel_rfl) (by kernel_rfl) (by kernel_rfl) (by kernel_rfl)
 have D_is_tuple_of:=dq (p:=PySem.Challenge.pw_thinways_k34_few_judged) (ps:=["thing","many"]) 28 27 0 187 X G bd_is_tuple_of (by kernel_rfl) (by kernel_rfl) (by kernel_rfl) (by kernel_rfl)
 have D_is_told:=dq (p:=PySem.Challenge.pw_thinways_k34_few_judged) (ps:=["thing","word","many"]) 35 34 0 187 X G bd_is_told (by kernel_rfl) (by kernel_rfl) (by kernel_rfl) (by kernel_rfl)
 have D_is_place:=dq (p:=PySem.Challenge.pw_thinways_k34_few_judged) (ps:=["web","thing"]) 42 41 4 213 X G bd_is_place (by kernel_rfl) (by kernel_rfl) (by kernel_rfl) (by kernel_rfl)
 have D_tie_between:=dq (p:=PySem.Challenge.pw_thinways_k34_few_judged) (ps:=["web","a","b"]) 49 48 4 213 X G bd_tie_between (by kernel_rfl) (by kernel_rfl) (by kernel_rfl) (by kernel_rfl)
 have D_are_unlike_places:=dq (p:=PySem.Challenge.pw_thinways_k34_few_judged) (ps:=["web","thing"]) 54 53 7 235 X G bd_are_unlike_places (by kernel_rfl) (by kernel_rfl) (by kernel_rfl) (by kernel_rfl)
 have D_ties_along:=dq (p:=PySem.Challenge.pw_thinways_k34_few_judged) (ps:=["web","places"]) 59 58 7 235 X G bd_ties_along (by kernel_rfl) (by kernel_rfl) (by kernel_rfl) (by kernel_rfl)
 have D_tie_weights:=dq (p:=PySem.Challenge.pw_thinways_k34_few_judged) (ps:=["web"]) 66 65 7 235 X G bd_tie_weights (by kernel_rfl) (by kernel_rfl) (by kernel_rfl) (by kernel_rfl)
 have D_cost_with:=dq (p:=PySem.Challenge.pw_thinways_k34_few_judged) (ps:=["cost","length","weight"]) 73 72 7 235 X G bd_cost_with (by kernel_rfl) (by kernel_rfl) (by kernel_rfl) (by kernel_rfl)
 have D_reached_from:=dq (p:=PySem.Challenge.pw_thinways_k34_few_judged) (ps:=["web","keep","root"]) 80 79 7 235 X G bd_reached_from (by kernel_rfl) (by kernel_rfl) (by kernel_rfl) (by kernel_rfl)
 have D_fars_from:=dq (p:=PySem.Challenge.pw_thinways_k34_few_judged) (ps:=["web","keep","root"]) 85 84 7 235 X G bd_fars_from (by kernel_rfl) (by kernel_rfl) (by kernel_rfl) (by kernel_rfl)
 have D_far:=dq (p:=PySem.Challenge.pw_thinways_k34_few_judged) (ps:=["web","keep","a","b"]) 92 91 7 235 X G bd_far (by kernel_rfl) (by kernel_rfl) (by kernel_rfl) (by kernel_rfl)
 have D_without:=dq (p:=PySem.Challenge.pw_thinways_k34_few_judged) (ps:=["keep","tie"]) 97 96 15 304 X G bd_without (by kernel_rfl) (by kernel_rfl) (by kernel_rfl) (by kernel_rfl)
 have D_by_steps:=dq (p:=PySem.Challenge.pw_thinways_k34_few_judged) (ps:=["web"]) 102 101 15 304 X G bd_by_steps (by kernel_rfl) (by kernel_rfl) (by kernel_rfl) (by kernel_rfl)
 have D_ring_right:=dq (p:=PySem.Challenge.pw_thinways_k34_few_judged) (ps:=["web","keep","ring"]) 107 106 18 318 X G bd_ring_right (by kernel_rfl) (by kernel_rfl) (by kernel_rfl) (by kernel_rfl)
 have D_neighbours:=dq (p:=PySem.Challenge.pw_thinways_k34_few_judged) (ps:=["web","keep","place"]) 112 111 18 318 X G bd_neighbours (by kernel_rfl) (by kernel_rfl) (by kernel_rfl) (by kernel_rfl)
 have D_first_by_steps:=dq (p:=PySem.Challenge.pw_thinways_k34_few_judged) (ps:=["steps","keep","start","end"]) 117 116 18 318 X G bd_first_by_steps (by kernel_rfl) (by kernel_rfl) (by kernel_rfl) (by kernel_rfl)
 have D_least_ring:=dq (p:=PySem.Challenge.pw_thinways_k34_few_judged) (ps:=["web","keep"]) 124 123 18 318 X G bd_least_ring (by kernel_rfl) (by kernel_rfl) (by kernel_rfl) (by kernel_rfl)
 have D_ties_among:=dq (p:=PySem.Challenge.pw_thinways_k34_few_judged) (ps:=["web","keep","place","others"]) 129 128 23 354 X G bd_ties_among (by kernel_rfl) (by kernel_rfl) (by kernel_rfl) (by kernel_rfl)
 have D_first_to_go:=dq (p:=PySem.Challenge.pw_thinways_k34_few_judged) (ps:=["web","keep","d","left"]) 136 135 23 354 X G bd_first_to_go (by kernel_rfl) (by kernel_rfl) (by kernel_rfl) (by kernel_rfl)
 have D_peeled:=dq (p:=PySem.Challenge.pw_thinways_k34_few_judged) (ps:=["web","keep","d"]) 143 142 23 354 X G bd_peeled (by kernel_rfl) (by kernel_rfl) (by kernel_rfl) (by kernel_rfl)
 have D_spread:=dq (p:=PySem.Challenge.pw_thinways_k34_few_judged) (ps:=["d","k"]) 150 149 23 354 X G bd_spread (by kernel_rfl) (by kernel_rfl) (by kernel_rfl) (by kernel_rfl)
 have D_share_of:=dq (p:=PySem.Challenge.pw_thinways_k34_few_judged) (ps:=["n","k"]) 157 156 23 354 X G bd_share_of (by kernel_rfl) (by kernel_rfl) (by kernel_rfl) (by kernel_rfl)
 have D_few_told:=dq (p:=PySem.Challenge.pw_thinways_k34_few_judged) (ps:=["web","keep","k"]) 164 163 23 354 X G bd_few_told (by kernel_rfl) (by kernel_rfl) (by kernel_rfl) (by kernel_rfl)
 have D_peels:=dq (p:=PySem.Challenge.pw_thinways_k34_few_judged) (ps:=["web","keep","d","order"]) 169 168 23 354 X G bd_peels (by kernel_rfl) (by kernel_rfl) (by kernel_rfl) (by kernel_rfl)
 have D_few_right:=dq (p:=PySem.Challenge.pw_thinways_k34_few_judged) (ps:=["web","keep","k","told"]) 176 175 23 354 X G bd_few_right (by kernel_rfl) (by kernel_rfl) (by kernel_rfl) (by kernel_rfl)
 have D__law_pot:=dq (p:=PySem.Challenge.pw_thinways_k34_few_judged) (ps:=["script","k"]) 183 182 32 432 X G bd__law_pot (by kernel_rfl) (by kernel_rfl) (by kernel_rfl) (by kernel_rfl)
 have D__law_take:=dq (p:=PySem.Challenge.pw_thinways_k34_few_judged) (ps:=["pot","many"]) 190 189 32 432 X G bd__law_take (by kernel_rfl) (by kernel_rfl) (by kernel_rfl) (by kernel_rfl)
 have D__law_length:=dq (p:=PySem.Challenge.pw_thinways_k34_few_judged) (ps:=["pot","way"]) 197 196 32 432 X G bd__law_length (by kernel_rfl) (by kernel_rfl) (by kernel_rfl) (by kernel_rfl)
 have D__law_tied:=dq (p:=PySem.Challenge.pw_thinways_k34_few_judged) (ps:=["pot","n","style","a","b"]) 204 203 32 432 X G bd__law_tied (by kernel_rfl) (by kernel_rfl) (by kernel_rfl) (by kernel_rfl)
 have D__law_order:=dq (p:=PySem.Challenge.pw_thinways_k34_few_judged) (ps:=["pot","many"]) 211 210 32 432 X G bd__law_order (by kernel_rfl) (by kernel_rfl) (by kernel_rfl) (by kernel_rfl)
 have D__law_web:=dq (p:=PySem.Challenge.pw_thinways_k34_few_judged) (ps:=["pot","most"]) 218 217 32 432 X G bd__law_web (by kernel_rfl) (by kernel_rfl) (by kernel_rfl) (by kernel_rfl)
 have D__law_keep:=dq (p:=PySem.Challenge.pw_thinways_k34_few_judged) (ps:=["pot","web"]) 223 222 32 432 X G bd__law_keep (by kernel_rfl) (by kernel_rfl) (by kernel_rfl) (by kernel_rfl)
 have D__law_is:=dq (p:=PySem.Challenge.pw_thinways_k34_few_judged) (ps:=["found","due"]) 230 229 32 432 X G bd__law_is (by kernel_rfl) (by kernel_rfl) (by kernel_rfl) (by kernel_rfl)
 have D__law_peel:=dq (p:=PySem.Challenge.pw_thinways_k34_few_judged) (ps:=["web","keep","d"]) 235 234 32 432 X G bd__law_peel (by kernel_rfl) (by kernel_rfl) (by kernel_rfl) (by kernel_rfl)
 have D__law_fan:=dq (p:=PySem.Challenge.pw_thinways_k34_few_judged) (ps:=["d","k"]) 242 241 32 432 X G bd__law_fan (by kernel_rfl) (by kernel_rfl) (by kernel_rfl) (by kernel_rfl)
 have D__law_share:=dq (p:=PySem.Challenge.pw_thinways_k34_few_judged) (ps:=["n","k"]) 249 248 32 432 X G bd__law_share (by kernel_rfl) (by kernel_rfl) (by kernel_rfl) (by kernel_rfl)
 have D__law_beside:=dq (p:=PySem.Challenge.pw_thinways_k34_few_judged) (ps:=["web","keep"]) 254 253 32 432 X G bd__law_beside (by kernel_rfl) (by kernel_rfl) (by kernel_rfl) (by kernel_rfl)
 have D__law_ring_on:=dq (p:=PySem.Challenge.pw_thinways_k34_few_judged) (ps:=["beside","row","size"]) 261 260 32 432 X G bd__law_ring_on (by kernel_rfl) (by kernel_rfl) (by kernel_rfl) (by kernel_rfl)
 have D__law_least_ring:=dq (p:=PySem.Challenge.pw_thinways_k34_few_judged) (ps:=["web","keep"]) 268 267 32 432 X G bd__law_least_ring (by kernel_rfl) (by kernel_rfl) (by kernel_rfl) (by kernel_rfl)
 have D__law_steps:=dq (p:=PySem.Challenge.pw_thinways_k34_few_judged) (ps:=["pot"]) 275 274 32 432 X G bd__law_steps (by kernel_rfl) (by kernel_rfl) (by kernel_rfl) (by kernel_rfl)
 have D__law_most:=dq (p:=PySem.Challenge.pw_thinways_k34_few_judged) (ps:=["pot","k"]) 282 281 32 432 X G bd__law_most (by kernel_rfl) (by kernel_rfl) (by kernel_rfl) (by kernel_rfl)
 have D__law_drawn_ring:=dq (p:=PySem.Challenge.pw_thinways_k34_few_judged) (ps:=["pot","web"]) 289 288 32 432 X G bd__law_drawn_ring (by kernel_rfl) (by kernel_rfl) (by kernel_rfl) (by kernel_rfl)
 have D__law_row:=dq (p:=PySem.Challenge.pw_thinways_k34_few_judged) (ps:=["pot","web","keep","steps"]) 296 295 32 432 X G bd__law_row (by kernel_rfl) (by kernel_rfl) (by kernel_rfl) (by kernel_rfl)
 have D__law_spoilt:=dq (p:=PySem.Challenge.pw_thinways_k34_few_judged) (ps:=["pot","n","row"]) 301 300 32 432 X G bd__law_spoilt (by kernel_rfl) (by kernel_rfl) (by kernel_rfl) (by kernel_rfl)
 have D__law_is_ring:=dq (p:=PySem.Challenge.pw_thinways_k34_few_judged) (ps:=["web","keep","row"]) 308 307 32 432 X G bd__law_is_ring (by kernel_rfl) (by kernel_rfl) (by kernel_rfl) (by kernel_rfl)
 have D__law_is_order:=dq (p:=PySem.Challenge.pw_thinways_k34_few_judged) (ps:=["web","keep","steps","row"]) 313 312 32 432 X G bd__law_is_order (by kernel_rfl) (by kernel_rfl) (by kernel_rfl) (by kernel_rfl)
 have e:=hfa.symm.trans (PySem.W.mg_of X G (show PySem.W.nsIn (K w.params) mainGlobals "law"=some (some (.ref 320)) by kernel_rfl))
 cases e
 have F:=fun_mk (x:="law") (qual:="law") (st:=s_law) (K:=K w.params) (f:=320) (oc:=.type "function") (od:=none) (an:=none) (osl:=#[]) (kV:=.none) (doc:=.none) (pm:=Hx.mdV PySem.Challenge.pw_thinways_k34_few_judged ⟨0,0,0,32,432,0⟩) (cdv:=.ref 319) (ct:=.none) (by kernel_rfl) (by kernel_rfl) (by kernel_rfl)
 exact⟨_,fun s v=>.of_eq rfl,fun base _ _=>law_all (P:=(PySem.Challenge.rw_thinways_k34_few_judged).prog) (w:=w) (base:=base) T D_is_whole D_is_tuple_of D_is_told D_is_place D_tie_between D_are_unlike_places D_ties_along D_tie_weights D_cost_with D_reached_from D_fars_from D_far D_without D_by_steps D_ring_right D_neighbours D_first_by_steps D_least_ring D_ties_among D_first_to_go D_peeled D_spread D_share_of D_few_told D_peels D_few_right D__law_pot D__law_take D__law_length D__law_tied D__law_order D__law_web D__law_keep D__law_is D__law_peel D__law_fan D__law_share D__law_beside D__law_ring_on D__law_least_ring D__law_steps D__law_most D__law_drawn_ring D__law_row D__law_spoilt D__law_is_ring D__law_is_order F⟩
end Hy
open PySem PySem.W PyProof.Rows
set_option maxRecDepth 100000 in
set_option maxHeartbeats 0 in
theorem PySem.Challenge.cw_thinways_k34_few_judged_holds : PySem.Challenge.rw_thinways_k34_few_judged.Holds := by
 w_on;o_law
 refine holds_open (q:=(Hx.qv PySem.Challenge.pw_thinways_k34_few_judged [54])) (loose:=Hx.lz PySem.Challenge.pw_thinways_k34_few_judged [54] 55) (Xt:=fun s=>xlAt (Hx.qv PySem.Challenge.pw_thinways_k34_few_judged [54]) [] s && recOk (OpenRow.toRowW (PySem.Challenge.rw_thinways_k34_few_judged).row).records s) (XP:=XL (Hx.qv PySem.Challenge.pw_thinways_k34_few_judged [54]) []) (Yf:=Hook.obs Hy.H) (Ya:=Hook.val Hy.H) (YP:=Hook.says Hy.H) (N:=3708) Hy.left (Hook.of Hy.H) (Hook.keeps Hy.H) (fun s e=>xl_of s (Bool.and_eq_true_iff.mp e).1) XL.keeps (by rfl) (by rfl) (by rfl) (fun s e=>recFacts_of (Bool.and_eq_true_iff.mp e).2) (by rfl) (by first | assumption | decide +kernel) (by decide +kernel) ⟨rfl,rfl,rfl,rfl,rfl,by decide +kernel⟩ ?hw ?hc
 case hw=>w_witness2
 case hc =>
  refine Me.walk (l:=PySem.Challenge.rw_thinways_k34_few_judged) rfl rfl (fun w h Y=>PySem.W.kIn_of Y) fun w mg fa h KX G hmg=>Hy.all KX G hmg
