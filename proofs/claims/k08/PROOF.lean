import PyProof.Rows.All
import Wide.All
import OpenK.AllK
import Wide.FinOn
import Lean
import PyProof.EqAt
import PyProof.EqKinds
import PyProof.TupleCall
import KE.KSortTup
import PyProof.ZipIter
import PyProof.TupleIter
import PyProof.WalksMore
import PyProof.Rows.TupIter
import PyProof.EnumIter
import PyProof.EnumFor
import PyProof.EnumStmt
import PyProof.ReprRoads
import PyProof.Rows.SeqMore
import PyProof.ListMulRoad
import PyProof.FactsAll.tuple_2
import PyProof.FactsAll.tuple_3
import PyProof.Rows.Tup
import PyProof.ListRange
import PyProof.TupleOfSeq
import PyProof.SumAny
import PyProof.ConsumeS
import PyProof.Rows.CallKwBuiltin
import KE.KLam
import KE.KSortKey
import PyProof.AutoSeq1
import KE.KListMore
import PyProof.FactsAll.subtypes_4
import PyProof.SetRoads
import PyProof.Rows.SetFrom
import PyProof.WalkInts
import PyProof.DictDisplay
import PyProof.ReprBulk
import PyProof.DictWalks
import PySem.SetTable
import PyProof.FactsAll.set_2
import PySem.Challenge.RW_thinways_k08_the_way
set_option Elab.async false
set_option linter.all false
set_option maxRecDepth 100000
namespace L2
open PySem PySem.Spec PyProof.Rows
/-- a key: an int or a str -/
abbrev Key:=Sum Int Str
def keyIs:Key->Value->Bool
 | .inl k,v=>Value.isInt k v
 | .inr x,v=>Value.isStrOf x v
def keyH (w:World):Key->Int
 | .inl k=>hashInt k
 | .inr x=>hashStr w x
theorem keyIs_shape:∀ {k:Key} {v:Value},keyIs k v=true->(∃ i t,k=Sum.inl i∧v=Value.int i t)∨(∃ x t,k=Sum.inr x∧v=Value.str x t)
 | .inl i,v,h=>by
  obtain⟨t,e⟩:=Value.isInt_shape (k:=i) (v:=v) h
  exact .inl ⟨i,t,rfl,e⟩
 | .inr x,v,h=>by
  obtain⟨t,e⟩:=Value.isStrOf_shape (x:=x) (v:=v) h
  exact .inr ⟨x,t,rfl,e⟩
theorem key_ll (a b:Int):decide ((Sum.inl a:Key)=Sum.inl b)=(a == b):=by
 by_cases e:a=b
 ·subst e;simp
 ·have h:¬ (Sum.inl a:Key)=Sum.inl b:=fun q=>e (Sum.inl.inj q)
  rw[decide_eq_false h]
  exact (beq_eq_false_iff_ne.mpr e).symm
theorem key_rr (a b:Str):decide ((Sum.inr a:Key)=Sum.inr b)=decide (a=b):=by
 by_cases e:a=b
 ·subst e;simp
 ·have h:¬ (Sum.inr a:Key)=Sum.inr b:=fun q=>e (Sum.inr.inj q)
  rw[decide_eq_false h,decide_eq_false e]
theorem key_lr (a:Int) (b:Str):decide ((Sum.inl a:Key)=Sum.inr b)=false:=decide_eq_false (fun q=>nomatch q)
theorem key_rl (a:Str) (b:Int):decide ((Sum.inr a:Key)=Sum.inl b)=false:=decide_eq_false (fun q=>nomatch q)
def mixKind (prog:Program) (w:World):PySem.KeyKind prog w Key where
 is:=keyIs
 hash:=keyH w
 inj:=fun v a b ha hb=>by
  rcases keyIs_shape ha with ⟨i,t,rfl,rfl⟩ | ⟨x,t,rfl,rfl⟩
  ·rcases keyIs_shape hb with ⟨j,u,rfl,e⟩ | ⟨y,u,rfl,e⟩
   ·injection e with e1 _;rw[e1]
   ·exact nomatch e
  ·rcases keyIs_shape hb with ⟨j,u,rfl,e⟩ | ⟨y,u,rfl,e⟩
   ·exact nomatch e
   ·injection e with e1 _;rw[e1]
 byValue:=fun k v h=>by
  rcases keyIs_shape h with ⟨i,t,rfl,rfl⟩ | ⟨x,t,rfl,rfl⟩ <;> rfl
 pyHash:=fun hv h=>by
  rcases keyIs_shape hv with ⟨i,t,rfl,rfl⟩ | ⟨x,t,rfl,rfl⟩
  ·exact wpAny_pyHash_int h
  ·exact wpAny_pyHash_str h
 eqBool:=fun hu hv h=>by
  rcases keyIs_shape hu with ⟨i,t,rfl,rfl⟩ | ⟨x,t,rfl,rfl⟩
  ·rcases keyIs_shape hv with ⟨j,u,rfl,rfl⟩ | ⟨y,u,rfl,rfl⟩
   ·rw[key_ll] at h;exact wpAny_eqBool_int h
   ·rw[key_lr] at h;exact SeqAt.EqAt.int_str i t y u _ _ _ _ h
  ·rcases keyIs_shape hv with ⟨j,u,rfl,rfl⟩ | ⟨y,u,rfl,rfl⟩
   ·rw[key_rl] at h;exact SeqAt.EqAt.str_int x t j u _ _ _ _ h
   ·rw[key_rr] at h;exact wpAny_eqBool_str h
 «strs»:=fun k x t v h=>by
  rcases keyIs_shape h with ⟨i,u,rfl,e⟩ | ⟨y,u,rfl,e⟩
  ·exact nomatch e
  ·injection e with e1 _
   subst e1
   cases v <;> rfl
end L2
namespace L2
open PySem PySem.Spec PyProof.Rows
/-- a value, without the heap -/
inductive V where
 | non | bl (b:Bool) | int (i:Int) | str (x:Str) | byt (b:Array UInt8) | flt (b:UInt64) | ref (a:Addr) | ty (n:String)
 deriving DecidableEq
def RelV:V->Value->Prop
 | .non,u=>u=Value.none
 | .bl b,u=>u=Value.bool b
 | .int i,u=>∃ t,u=Value.int i t
 | .str x,u=>∃ t,u=Value.str x t
 | .byt b,u=>∃ t,u=Value.bytes b t
 | .flt b,u=>∃ t,u=Value.float b t
 | .ref a,u=>u=Value.ref a
 | .ty n,u=>u=Value.type n
abbrev Vals:List V->List Value->Prop:=Paired RelV
theorem Vals.length {xs:List V} {us:List Value} (r:Vals xs us):xs.length=us.length:=Paired.length r
theorem Vals.get:∀ {xs:List V} {us:List Value} {i:Nat} {x:V},Vals xs us->xs[i]?=some x->∃ u,us[i]?=some u∧RelV x u
 | _,_,_,_,.nil,e=>by simp at e
 | _,_,0,_,.cons r _,e=>by simp at e;subst e;exact⟨_,rfl,r⟩
 | _,_,i + 1,x,.cons _ t,e=>by
  obtain⟨u,h1,h2⟩:=Vals.get (i:=i) (x:=x) t (by simpa using e)
  exact⟨u,by simpa using h1,h2⟩
theorem Vals.set {x:V} {u:Value} (r:RelV x u):∀ {xs:List V} {us:List Value} (i:Nat),Vals xs us->Vals (xs.set i x) (us.set i u)
 | _,_,_,.nil=>.nil
 | _,_,0,.cons _ t=>.cons r t
 | _,_,i + 1,.cons q t=>.cons q (Vals.set r i t)
theorem Vals.append:∀ {xs ys:List V} {us ws:List Value},Vals xs us->Vals ys ws->Vals (xs++ys) (us++ws)
 | _,_,_,_,.nil,s=>s
 | _,_,_,_,.cons r t,s=>.cons r (Vals.append t s)
theorem Vals.take:∀ {xs:List V} {us:List Value} (n:Nat),Vals xs us->Vals (xs.take n) (us.take n)
 | _,_,0,_=>.nil
 | _,_,_ + 1,.nil=>.nil
 | _,_,n + 1,.cons r t=>.cons r (Vals.take n t)
theorem Vals.drop:∀ {xs:List V} {us:List Value} (n:Nat),Vals xs us->Vals (xs.drop n) (us.drop n)
 | _,_,0,r=>r
 | _,_,_ + 1,.nil=>.nil
 | _,_,n + 1,.cons _ t=>Vals.drop n t
def RelO:Option V->Option Value->Prop
 | some v,some u=>RelV v u
 | none,none=>True
 | _,_=>False
def KV {κ:Type}:List (κ × V)->List (κ × Value)->Prop:=Paired fun (p:κ × V) (q:κ × Value)=>p.1=q.1∧RelV p.2 q.2
/-- a key of a dict (00_mix): an int or a text -/
def kV:Key->V
 | .inl i=>.int i
 | .inr x=>.str x
/-- what stands at a tracked address -/
inductive HO where
  /-- a list -/
 | lst (xs:List V)
  /-- a tuple (never changes) -/
 | tup (xs:List V)
  /-- a dict whose keys are ints and texts; one whose keys are tuples of ints and texts (the empty one is both) -/
 | dK (kvs:List (Key × V)) | dT (kvs:List (List Key × V))
  /-- a set of ints: its members, its size -/
 | set (S:Int->Bool) (n:Nat)
  /-- an instance of the class at C, its dict at dx, its attributes -/
 | ins (C dx:Addr) (fs:List (Str × V))
  /-- the dict of the instance at x -/
 | own (x:Addr)
  /-- the dict of an exception -/
 | xd (fs:List (Str × V))
  /-- a bound method, f of x -/
 | met (f x:Addr)
  /-- a range object lo, lo + 1, .. below hi -/
 | rng (lo hi:Int)
  /-- a thing that is known to the object (the script; a dict while a loop walks it): read, never written while it is so -/
 | frz (o:Obj) (u:HO)
  /-- a code object's table -/
 | tbl (ps:Array Value)
  /-- any other thing, by what is true of its one object (a def of one's own: SetO a S n := HO.ext fun h => ..) -/
 | ext (φ:Heap->Prop)
abbrev Hp:=Addr->Option HO
def upd (H:Hp) (a:Addr) (o:HO):Hp:=fun b=>if b=a then some o else H b
theorem upd_same {H:Hp} {a:Addr} {o:HO}:upd H a o a=some o:=by unfold upd;rw[if_pos rfl]
theorem upd_ne {H:Hp} {a b:Addr} {o:HO} (h:b≠a):upd H a o b=H b:=by unfold upd;rw[if_neg h]
theorem ne_of_none {H:Hp} {a b:Addr} {o:HO} (h:H a=some o) (h':H b=none):a≠b:=by
 intro e;subst e;rw[h] at h';cases h'
section
variable (P:Program) (w:World)
/-- a tuple with no dict of its own -/
def TupN (h:Heap) (a:Addr) (items:Array Value):Prop:=∃ o,h.get? a=some o∧o.cls=.type "tuple"∧(∃ n,o.data=.seq items n)∧o.dict=none
theorem TupN.tup {h:Heap} {a:Addr} {items:Array Value} (x:TupN h a items):IsTup h a items:=let ⟨o,e,c,d,_⟩:=x;⟨o,e,c,d⟩
theorem TupN.new (h:Heap) (items:Array Value):TupN (h.push { cls:=.type "tuple",data:=.seq items }) h.objs.size items:=⟨_,Heap.get?_push_size _ rfl,rfl,⟨_,rfl⟩,rfl⟩
def ObjOk (H:Hp) (h:Heap) (a:Addr):HO->Prop
 | .lst xs=>xs.length≤sizeLine∧∃ (its:List Value) (n:Nat),Vals xs its∧h.get? a=some { cls:=.type "list",data:=.seq its.toArray n }
 | .tup xs=>xs.length≤sizeLine∧∃ its:List Value,Vals xs its∧TupN h a its.toArray
 | .dK kvs=>kvs.length≤sizeLine∧(a == sysModules)=false∧∃ vs,KV kvs vs∧h.DictOf (mixKind P w) a vs
 | .dT kvs => kvs.length ≤ sizeLine ∧ (a == sysModules) = false ∧ ∃ xs : List (List Key × Addr × Value),
     Paired (fun (p:List Key × V) (q:List Key × Addr × Value)=>p.1=q.1∧H q.2.1=some (.tup (p.1.map kV))∧RelV p.2 q.2.2) kvs xs ∧
     ∃ o es ep,h.get? a=some o∧o.ExactDict∧o.data=.dict es ep∧es.toList=xs.map (entryOfKey (tupleKind (mixKind P w)))∧(xs.map (·.1)).Nodup
 | .set S n=>h.SetOf (intKind P w) a S n
 | .ins C dx fs => H dx = some (.own a) ∧ fs.length ≤ 1000 ∧ dx ≠ a ∧ h.get? a = some (PySem.W.instObj C dx) ∧
     ∃ mA,h.Ns1 dx mA∧(∀ f,RelO (fs.lookup f) (mA f))∧PySem.Within mA (fs.map (·.1))
 | .own _=>∃ o,h.get? a=some o
 | .xd fs=>∃ mA,h.Ns1 a mA∧∀ f,RelO (fs.lookup f) (mA f)
 | .rng lo hi=>∃ t u v,h.get? a=some { cls:=.type "range",data:=.fields #[.int lo t,.int hi u,.int 1 v] }
 | .frz o u=>h.get? a=some o∧ObjOk H h a u
 | .tbl ps=>h.get? a=some { cls:=.none,data:=.fields ps }
 | .met f x=>h.get? a=some (PySem.W.methodObj (.ref f) (.ref x))
 | .ext φ=>φ h∧(∃ o,h.get? a=some o)∧∀ h1 h2:Heap,φ h1->(∀ o,h1.get? a=some o->h2.get? a=some o)->φ h2
/-- the abstract heap is held -/
def HOk (H:Hp) (h:Heap):Prop:=∀ a o,H a=some o->ObjOk P w H h a o
end
section
variable {P:Program} {w:World} {H H':Hp} {h h':Heap} {a:Addr} {o:HO}
theorem ObjOk.lt (x:ObjOk P w H h a o):a < h.objs.size:=by
 cases o with
 | lst xs=>obtain⟨_,_,_,_,e⟩:=x;exact Heap.lt_size e
 | tup xs=>obtain⟨_,_,_,p⟩:=x;exact p.tup.lt
 | dK kvs=>obtain⟨_,_,_,_,o,_,_,e,_⟩:=x;exact Heap.lt_size e
 | dT kvs=>obtain⟨_,_,_,_,o,_,_,e,_⟩:=x;exact Heap.lt_size e
 | set S n=>obtain⟨o,_,_,_,e,_⟩:=x;exact Heap.lt_size e
 | ins C dx fs=>obtain⟨_,_,_,e,_⟩:=x;exact Heap.lt_size e
 | own y=>obtain⟨_,e⟩:=x;exact Heap.lt_size e
 | xd fs=>obtain⟨_,⟨_,_,_,e,_⟩,_⟩:=x;exact Heap.lt_size e
 | rng lo hi=>obtain⟨_,_,_,e⟩:=x;exact Heap.lt_size e
 | frz ob u=>obtain⟨e,_⟩:=x;exact Heap.lt_size e
 | tbl ps=>exact Heap.lt_size (show h.get? a=some _ from x)
 | met f y=>exact Heap.lt_size (show h.get? a=some _ from x)
 | ext φ=>obtain⟨_,⟨_,e⟩,_⟩:=x;exact Heap.lt_size e
theorem Paired.mapP {α β:Type} {F G:α->β->Prop}:∀ {l₁:List α} {l₂:List β},Paired F l₁ l₂->(∀ a b,F a b->G a b)->Paired G l₁ l₂
 | _,_,.nil,_=>.nil
 | _,_,.cons r t,f=>.cons (f _ _ r) (Paired.mapP t f)
/-- what an object's description leans on: its own object, its own dict, the tuples -/
theorem ObjOk.stay (x:ObjOk P w H h a o) (k:∀ b u,(b=a∨H b=some (.own a))->h.get? b=some u->h'.get? b=some u)
  (ho:∀ b,H b=some (.own a)->H' b=some (.own a)) (ht:∀ b xs,H b=some (.tup xs)->H' b=some (.tup xs)):ObjOk P w H' h' a o:=by
 induction o with
 | lst xs=>obtain⟨z,its,n,r,e⟩:=x;exact⟨z,its,n,r,k _ _ (.inl rfl) e⟩
 | tup xs=>obtain⟨z,its,r,ob,e,c⟩:=x;exact⟨z,its,r,ob,k _ _ (.inl rfl) e,c⟩
 | dK kvs=>obtain⟨z,y,vs,r,ob,es,ep,e,c⟩:=x;exact⟨z,y,vs,r,ob,es,ep,k _ _ (.inl rfl) e,c⟩
 | dT kvs =>
  obtain⟨z,y,xs,r,ob,es,ep,e,c⟩:=x
  exact⟨z,y,xs,Paired.mapP r fun p q z=>⟨z.1,ht _ _ z.2.1,z.2.2⟩,ob,es,ep,k _ _ (.inl rfl) e,c⟩
 | set S n=>obtain⟨ob,es,ep,t,e,c⟩:=x;exact⟨ob,es,ep,t,k _ _ (.inl rfl) e,c⟩
 | ins C dx fs =>
  obtain⟨d,z,ne,e,mA,⟨od,es,ep,e2,c⟩,r⟩:=x
  exact⟨ho _ d,z,ne,k _ _ (.inl rfl) e,mA,⟨od,es,ep,k _ _ (.inr d) e2,c⟩,r⟩
 | own y=>obtain⟨ob,e⟩:=x;exact⟨ob,k _ _ (.inl rfl) e⟩
 | xd fs=>obtain⟨mA,⟨od,es,ep,e,c⟩,r⟩:=x;exact⟨mA,⟨od,es,ep,k _ _ (.inl rfl) e,c⟩,r⟩
 | rng lo hi=>obtain⟨t,u,v,e⟩:=x;exact⟨t,u,v,k _ _ (.inl rfl) e⟩
 | frz ob u ih=>obtain⟨e,q⟩:=x;exact⟨k _ _ (.inl rfl) e,ih q⟩
 | tbl ps =>
  have e:h.get? a=some { cls:=.none,data:=.fields ps }:=x
  show h'.get? a=some { cls:=.none,data:=.fields ps }
  exact k a _ (.inl rfl) e
 | met f y =>
  have e:h.get? a=some (PySem.W.methodObj (.ref f) (.ref y)):=x
  show h'.get? a=some (PySem.W.methodObj (.ref f) (.ref y))
  exact k a _ (.inl rfl) e
 | ext φ=>obtain⟨p,⟨o,e⟩,st⟩:=x;exact⟨st _ _ p fun o q=>k _ _ (.inl rfl) q,⟨o,k _ _ (.inl rfl) e⟩,st⟩
theorem HOk.lt (x:HOk P w H h) (e:H a=some o):a < h.objs.size:=(x a o e).lt
theorem HOk.fresh (x:HOk P w H h) (e:h.objs.size≤a):H a=none:=by
 cases q:H a with
 | none=>rfl
 | some u=>exact absurd (Nat.lt_of_lt_of_le (x.lt q) e) (Nat.lt_irrefl _)
/-- every object of the heap is kept -/
theorem HOk.kept (x:HOk P w H h) (k:∀ b u,h.get? b=some u->h'.get? b=some u):HOk P w H h':=fun a o e =>
 (x a o e).stay (fun b u _ q=>k b u q) (fun _ q=>q) fun _ _ q=>q
/-- a new object is laid and tracked -/
theorem HOk.laid (x:HOk P w H h) (k:∀ b u,h.get? b=some u->h'.get? b=some u) (hp:h.objs.size≤a) (new:ObjOk P w (upd H a o) h' a o):HOk P w (upd H a o) h':=fun b u e=>by
 have hn:=x.fresh hp
 by_cases hb:b=a
 ·subst hb;rw[upd_same] at e;cases e;exact new
 ·rw[upd_ne hb] at e
  exact (x b u e).stay (fun c v _ q=>k c v q) (fun c q=>by rw[upd_ne (ne_of_none q hn)];exact q) fun c xs q=>by rw[upd_ne (ne_of_none q hn)];exact q
end
/-- what may be read as u: it is u, or a known u -/
def Rd (H:Hp) (a:Addr) (u:HO):Prop:=H a=some u∨∃ o,H a=some (.frz o u)
theorem Rd.of {H:Hp} {a:Addr} {u:HO} (h:H a=some u):Rd H a u:=.inl h
theorem Rd.ok {P:Program} {w:World} {H:Hp} {h:Heap} {a:Addr} {u:HO} (r:Rd H a u) (x:HOk P w H h):ObjOk P w H h a u:=by
 rcases r with r | ⟨o,r⟩
 ·exact x a u r
 ·obtain⟨_,q⟩:=x a _ r
  exact q
/-- what may be written -/
def Mut:Option HO->Prop
 | some (.lst _)=>True
 | some (.dK _)=>True
 | some (.dT _)=>True
 | some (.set _ _)=>True
 | some (.ins _ _ _)=>True
 | some (.ext _)=>True
 | _=>False
section
variable {P:Program} {w:World} {H:Hp} {h h':Heap} {x e:Addr} {o':HO}
/-- the object at e is changed: x itself, or the dict of the instance x -/
theorem HOk.write (ok:HOk P w H h) (mu:Mut (H x)) (he:e=x∨H e=some (.own x)) (k:∀ b u,b≠e->h.get? b=some u->h'.get? b=some u) (heo:∃ u,h'.get? e=some u)
  (new:ObjOk P w (upd H x o') h' x o'):HOk P w (upd H x o') h':=fun b u q=>by
 have nown:∀ c y,H c=some (.own y)->c≠x:=fun c y r z=>by subst z;rw[r] at mu;exact mu
 have ntup:∀ c xs,H c=some (.tup xs)->c≠x:=fun c xs r z=>by subst z;rw[r] at mu;exact mu
 by_cases hb:b=x
 ·subst hb;rw[upd_same] at q;cases q;exact new
 ·rw[upd_ne hb] at q
  by_cases hbe:b=e
  ·have q':H b=some (.own x):=by
    rcases he with z | z
    ·exact absurd (hbe.trans z) hb
    ·rw[hbe];exact z
   rw[q] at q';cases q'
   obtain⟨v,hv⟩:=heo
   exact⟨v,by rw[hbe];exact hv⟩
  ·refine (ok b u q).stay (fun c v hc r=>k c v ?_ r) (fun c r=>by rw[upd_ne (nown c b r)];exact r) fun c xs r=>by rw[upd_ne (ntup c xs r)];exact r
   rcases hc with rfl | hc
   ·exact hbe
   ·rintro rfl
    rcases he with z | z
    ·exact nown c b hc z
    ·rw[hc] at z;cases z;exact hb rfl
end
structure Un (fs ex:List Addr) (H H':Hp) (h h':Heap):Prop where
 keep:∀ b o,h.get? b=some o->H b=none->b ∉ fs->b ∉ ex->h'.get? b=some o
 slot:∀ b o,h.get? b=some o->H b=none->b ∈ fs->b ∉ ex->∃ sl,h'.get? b=some { o with slots:=sl }
 free:∀ b o,h.get? b=some o->H b=none->b ∉ ex->H' b=none
 there:∀ b o,h.get? b=some o->b ∉ ex->∃ o',h'.get? b=some o'
 tups:∀ b xs,H b=some (.tup xs)->H' b=some (.tup xs)
 frzs:∀ b o u,H b=some (.frz o u)->H' b=some (.frz o u)
 tbls:∀ b ps,H b=some (.tbl ps)->∃ more,H' b=some (.tbl (ps++more))
section
variable {fs fs' ex ex':List Addr} {H H1 H2:Hp} {h h1 h2 h':Heap} {a x e:Addr} {o:HO}
theorem Un.any (u:Un fs ex H H1 h h1) {b:Addr} {ob:Obj} (q:h.get? b=some ob) (n:H b=none) (hx:b ∉ ex):∃ sl,h1.get? b=some { ob with slots:=sl }:=by
 by_cases hb:b ∈ fs
 ·exact u.slot b ob q n hb hx
 ·exact⟨ob.slots,u.keep b ob q n hb hx⟩
theorem Un.trans (a:Un fs ex H H1 h h1) (b:Un fs ex H1 H2 h1 h2):Un fs ex H H2 h h2 where
 keep:=fun c ob q n hc hx=>b.keep c ob (a.keep c ob q n hc hx) (a.free c ob q n hx) hc hx
 slot:=fun c ob q n hc hx=>by
  obtain⟨sl,e1⟩:=a.slot c ob q n hc hx
  obtain⟨sl',e2⟩:=b.slot c _ e1 (a.free c ob q n hx) hc hx
  exact⟨sl',e2⟩
 free:=fun c ob q n hx=>by
  obtain⟨o',e1⟩:=a.there c ob q hx
  exact b.free c o' e1 (a.free c ob q n hx) hx
 there:=fun c ob q hx=>by
  obtain⟨o',e1⟩:=a.there c ob q hx
  exact b.there c o' e1 hx
 tups:=fun c xs q=>b.tups c xs (a.tups c xs q)
 frzs:=fun c ob xs q=>b.frzs c ob xs (a.frzs c ob xs q)
 tbls:=fun c ps q=>by
  obtain⟨m1,e1⟩:=a.tbls c ps q
  obtain⟨m2,e2⟩:=b.tbls c _ e1
  exact⟨m1++m2,by rw[e2,Array.append_assoc]⟩
theorem Un.kept (k:∀ b u,h.get? b=some u->h'.get? b=some u):Un fs ex H H h h' :=
 ⟨fun b ob q _ _ _=>k b ob q,fun b ob q _ _ _=>⟨ob.slots,k b ob q⟩,fun _ _ _ n _=>n,fun b ob q _=>⟨ob,k b ob q⟩,fun _ _ q=>q,fun _ _ _ q=>q,fun _ ps q=>⟨#[],by rw[q];simp⟩⟩
theorem Un.refl:Un fs ex H H h h:=Un.kept fun _ _ q=>q
theorem Un.laid (k:∀ b u,h.get? b=some u->h'.get? b=some u) (hp:h.objs.size≤a) (hn:H a=none):Un fs ex H (upd H a o) h h' where
 keep:=fun b u q _ _ _=>k b u q
 slot:=fun b u q _ _ _=>⟨u.slots,k b u q⟩
 free:=fun b u q n _=>by rw[upd_ne (Nat.ne_of_lt (Nat.lt_of_lt_of_le (Heap.lt_size q) hp))];exact n
 there:=fun b u q _=>⟨u,k b u q⟩
 tups:=fun b xs q=>by rw[upd_ne (ne_of_none q hn)];exact q
 frzs:=fun b u xs q=>by rw[upd_ne (ne_of_none q hn)];exact q
 tbls:=fun b ps q=>⟨#[],by rw[upd_ne (ne_of_none q hn),q];simp⟩
theorem Un.write (mu:Mut (H x)) (he:e=x∨H e=some (.own x)) (k:∀ b u,b≠e->h.get? b=some u->h'.get? b=some u) (heo:∃ u,h'.get? e=some u):Un fs ex H (upd H x o) h h':=by
 have hx:∀ b,H b=none->b≠x:=fun b n z=>by subst z;rw[n] at mu;exact mu
 have hb:∀ b,H b=none->b≠e:=fun b n z=>by
  subst z
  rcases he with r | r
  ·exact hx b n r
  ·rw[n] at r;cases r
 have hm:∀ b u,H b=some u->¬ Mut (some u)->b≠x:=fun b u q nm z=>by subst z;rw[q] at mu;exact nm mu
 refine⟨fun b u q n _ _=>k b u (hb b n) q,fun b u q n _ _=>⟨u.slots,k b u (hb b n) q⟩,fun b u q n _=>by rw[upd_ne (hx b n)];exact n,fun b u q _=>?_,
  fun b xs q=>by rw[upd_ne (hm b _ q fun z=>z)];exact q,fun b u xs q=>by rw[upd_ne (hm b _ q fun z=>z)];exact q,fun b ps q=>⟨#[],by rw[upd_ne (hm b _ q fun z=>z),q];simp⟩⟩
 by_cases hbe:b=e
 ·subst hbe;exact heo
 ·exact⟨u,k b u hbe q⟩
theorem Un.mono (u:Un fs ex H H1 h h1) (hs:∀ b ∈ fs,b ∈ fs') (hx:∀ b ∈ ex,b ∈ ex'):Un fs' ex' H H1 h h1 :=
 ⟨fun b ob q n hb he=>u.keep b ob q n (fun z=>hb (hs b z)) fun z=>he (hx b z),fun _ _ q n _ he=>u.any q n fun z=>he (hx _ z),fun b ob q n he=>u.free b ob q n fun z=>he (hx b z),fun b ob q he=>u.there b ob q fun z=>he (hx b z),u.tups,u.frzs,u.tbls⟩
end
def trk (h:Heap) (H:Hp):List Addr:=(List.range h.objs.size).filter fun a=>(H a).isSome
def hidT (h:Heap) (H:Hp):Heap:=PySem.W.hideAll h (trk h H)
theorem hidT_size (h:Heap) (H:Hp):(hidT h H).objs.size=h.objs.size:=PySem.W.hideAll_size _ _
theorem hidT_get {h:Heap} {H:Hp} {b:Addr} {o:Obj} (e:h.get? b=some o) (n:H b=none):(hidT h H).get? b=some o :=
 PySem.W.hideAll_get _ e fun hm=>by
  have q:(H b).isSome=true:=(List.mem_filter.mp hm).2
  rw[n] at q;simp at q
theorem of_hidT {h:Heap} {H:Hp} {b:Addr} {o:Obj} (e:(hidT h H).get? b=some o):h.get? b=some o∧H b=none:=by
 have e':h.get? b=some o:=PySem.W.of_hideAll (trk h H) e
 refine⟨e',?_⟩
 cases q:H b with
 | none=>rfl
 | some x =>
  have hm:b ∈ trk h H:=List.mem_filter.mpr ⟨List.mem_range.mpr (Heap.lt_size e'),by simp [q]⟩
  have z:(hidT h H).get? b=none:=PySem.W.hideAll_none (trk h H) hm
  rw[z] at e;cases e
def allNews (g h:Heap) (L:Addr):List (Addr × Obj):=(List.range h.objs.size).filterMap fun a=>if a=L∨(g.get? a).isSome=true then none else (h.get? a).map fun o=>(a,o)
def rest (g h:Heap) (L d:Addr):List (Addr × Obj):=(allNews g h L).filter fun p=>decide (p.1≠d)
end L2
namespace L2
open PySem PySem.Spec PyProof.Rows
/-- the module's facts, over the base: the heap at the law's entry without what is tracked there -/
structure Mod (K:PySem.W.Frag) (mg:Str->Option Value) (base:Heap):Prop where
 kin:K.In base
 glob:base.Ns mainGlobals mg
 blt:∃ mb,base.Ns builtinsNs mb∧∀ x:Str,x≠"__name__"->mb x=bootBuiltins x
 nolimit:base.NoLimit
/-- the context: a def's body (or a comprehension's block) running. base: fixed through the whole law; s₀, H₀: the entry; outer: the frames whose slots others may change (a def's callers); stack: all frames that run;
   ex: iterators that were made ahead of the entry and are walked here (a comprehension's); fn: the names whose cells were made at the entry (a def: all; a comprehension's block: its own); calm: not within an except suite; pn: pins that every state bears; xe: what is wanted of an exception that leaves the code -/
structure Cx where
 prog:Program
 w:World
 K:PySem.W.Frag
 mg:Str->Option Value
 base:Heap
 A:Around
 N:List Str
 s₀:Shared
 H₀:Hp
 env:Env
 outer:List Env
 stack:List Env
 ex:List Addr
 fn:Str->Bool
 calm:Bool
 pn:List (Addr × Obj)
 xe:Value->Shared->Prop
/-- the callers' frames -/
def frs (l:List Env):List Addr:=l.filterMap (·.frame)
abbrev Cx.fs (X:Cx):List Addr:=frs X.outer
def Vis (sc:Scope) (x:Str):Prop:=sc.names.lookup x=some .local∨sc.names.lookup x=some .cell∨sc.names.lookup x=some .free
def Loc (sc:Scope) (x:Str):Prop:=sc.names.lookup x=some .local∨sc.names.lookup x=some .cell
def Look (env:Env) (h:Heap) (m:Str->Option Value) (x:Str) (u:Value):Prop :=
 (env.kindOf x=some .local∧m x=some u)∨((env.kindOf x=some .cell∨env.kindOf x=some .free)∧∃ c,env.cells.lookup x=some c∧h.IsCell c (some u))
structure Cx.Ok (X:Cx):Prop where
 mod:Mod X.K X.mg X.base
 kind:X.env.scope.kind=.function
 glob:X.env.globals=mainGlobals
 blt:X.env.builtins=builtinsNs
 above:X.s₀.heap.objs.size≤X.env.locals
 inj:∀ x y c,X.env.cells.lookup x=some c->X.env.cells.lookup y=some c->x=y
 has:∀ x,(X.env.kindOf x=some .cell∨X.env.kindOf x=some .free)->∃ c,X.env.cells.lookup x=some c
 cab:∀ x c,X.fn x=true->X.env.cells.lookup x=some c->X.s₀.heap.objs.size≤c
 hd:X.calm=true->X.A.handled=none
 frames:X.A.frames=some X.stack
 stk:X.stack=X.outer∨(X.stack=X.env::X.outer∧X.env.frame=some X.env.locals)
 exf:∀ b ∈ X.ex,b≠X.env.locals∧∀ x c,X.env.cells.lookup x=some c->c≠b
 bs:∀ b o,X.base.get? b=some o->X.s₀.heap.get? b=some o∧X.H₀ b=none
 bsz:X.base.objs.size≤X.s₀.heap.objs.size
 noex:∀ b o,X.base.get? b=some o->b ∉ X.ex
 exfs:∀ b ∈ X.ex,b ∉ X.fs
 funs:X.s₀.heap.FunFrames X.base X.outer
 frf:∀ b ∈ X.fs,X.H₀ b=none
structure Inv (X:Cx) (pins:List (Addr × Obj)) (σ:List (Option V)) (H:Hp) (s:Shared):Prop where
 ok:X.Ok
 os:s.os=X.s₀.os
 bare:AllBare s.gens
 base:Un X.fs X.ex X.H₀ H X.s₀.heap s.heap
 loc:∃ m,s.heap.Ns X.env.locals m∧∀ (i:Nat) (x:Str) (v:V),X.N[i]?=some x->σ[i]?=some (some v)->Vis X.env.scope x->∃ u,RelV v u∧Look X.env s.heap m x u
 cell:∀ x c,X.env.cells.lookup x=some c->∃ v,s.heap.IsCell c v
 free:H X.env.locals=none
 freeC:∀ x c,X.env.cells.lookup x=some c->H c=none
 pin:∀ p ∈ X.pn++pins,s.heap.get? p.1=some p.2∧H p.1=none∧p.1≠X.env.locals∧p.1 ∉ X.fs∧∀ v,p.2.data≠.cell v
 hok:HOk X.prog X.w H s.heap
 len:σ.length=X.N.length
section
variable {X:Cx} {pins:List (Addr × Obj)} {σ:List (Option V)} {H H':Hp} {s:Shared} {h':Heap}
theorem Cx.Ok.nofr (ok:X.Ok) {b:Addr} {o:Obj} (e:X.base.get? b=some o):b ∉ X.fs:=fun hb=>by
 have:=(ok.funs.mem hb).1
 rw[e] at this;cases this
theorem Inv.bs (I:Inv X pins σ H s):∀ b o,X.base.get? b=some o->s.heap.get? b=some o∧H b=none:=fun b o e =>
 ⟨I.base.keep b o (I.ok.bs b o e).1 (I.ok.bs b o e).2 (I.ok.nofr e) (I.ok.noex b o e),I.base.free b o (I.ok.bs b o e).1 (I.ok.bs b o e).2 (I.ok.noex b o e)⟩
theorem Inv.bk (I:Inv X pins σ H s):∀ b o,X.base.get? b=some o->s.heap.get? b=some o:=fun b o e=>(I.bs b o e).1
theorem Inv.mod (I:Inv X pins σ H s):Mod X.K X.mg X.base:=I.ok.mod
theorem Inv.kIn (I:Inv X pins σ H s):X.K.In s.heap:=I.ok.mod.kin.keeps I.bk
theorem Inv.nolimit (I:Inv X pins σ H s):s.heap.NoLimit:=I.ok.mod.nolimit.keeps I.bk
/-- the frame over the base: for OpenK's rules (K.In X.base is I.mod.kin) -/
theorem Inv.fr (I:Inv X pins σ H s):∃ m,Fr X.base X.env.locals s.heap m :=
 let ⟨m,hn,_⟩:=I.loc
 ⟨m,hn,I.bk,Nat.le_trans I.ok.bsz I.ok.above⟩
theorem Inv.lt (I:Inv X pins σ H s):X.env.locals < s.heap.objs.size:=let ⟨_,hn,_⟩:=I.loc;hn.lt
theorem Inv.sz (I:Inv X pins σ H s):X.s₀.heap.objs.size≤s.heap.objs.size:=Nat.le_trans I.ok.above (Nat.le_of_lt I.lt)
theorem Inv.nofs (I:Inv X pins σ H s) {a:Addr} (h:s.heap.objs.size≤a):a ∉ X.fs:=fun hb=>by
 obtain⟨_,o,ho,_⟩:=I.ok.funs.mem hb
 exact absurd (Nat.lt_of_lt_of_le (Heap.lt_size ho) (Nat.le_trans I.sz h)) (Nat.lt_irrefl _)
theorem Inv.cne (I:Inv X pins σ H s):∀ x c,X.env.cells.lookup x=some c->c≠X.env.locals:=fun x c e z=>by
 obtain⟨v,o,ho,hd⟩:=I.cell x c e
 obtain⟨m,⟨o',es,ep,ho',hd',_⟩,_⟩:=I.loc
 rw[z,ho'] at ho;cases ho;rw[hd'] at hd;cases hd
theorem Inv.funs (I:Inv X pins σ H s):s.heap.FunFrames X.base X.outer:=by
 have all:∀ (l:List Env),(∀ b ∈ frs l,b ∈ X.fs)->X.s₀.heap.FunFrames X.base l->s.heap.FunFrames X.base l:=by
  intro l
  induction l with
  | nil=>intro _ _;trivial
  | cons env r ih =>
   intro hs hl
   obtain⟨hk,⟨L,o,hf,hn,ho,hd⟩,hr⟩:=hl
   have hL:L ∈ X.fs:=hs L (by unfold frs;rw[List.filterMap_cons,hf];exact List.mem_cons_self)
   obtain⟨sl,e⟩:=I.base.slot L o ho (I.ok.frf L hL) hL fun z=>I.ok.exfs L z hL
   exact⟨hk,⟨L,_,hf,hn,e,hd⟩,ih (fun b hb=>hs b (by unfold frs;rw[List.filterMap_cons,hf];exact List.mem_cons_of_mem _ hb)) hr⟩
 exact all X.outer (fun _ hb=>hb) I.ok.funs
/-- the frames that run, for a call -/
theorem Inv.stack (I:Inv X pins σ H s):s.heap.FunFrames X.base X.stack:=by
 rcases I.ok.stk with e | ⟨e,hf⟩
 ·rw[e];exact I.funs
 ·rw[e]
  obtain⟨m,hn,_⟩:=I.loc
  refine .cons (by rw[I.ok.kind];decide) hf hn ?_ I.funs
  exact Heap.get?_none_of_le (Nat.le_trans I.ok.bsz I.ok.above)
theorem Inv.stkSub (I:Inv X pins σ H s):∀ b ∈ frs X.stack,b ∈ X.env.locals::X.fs:=fun b hb=>by
 rcases I.ok.stk with e | ⟨e,hf⟩
 ·rw[e] at hb;exact List.mem_cons_of_mem _ hb
 ·rw[e] at hb
  unfold frs at hb
  rw[List.filterMap_cons,hf] at hb
  exact hb
theorem Inv.stkFree (I:Inv X pins σ H s):∀ b ∈ frs X.stack,H b=none:=fun b hb=>by
 rcases List.mem_cons.mp (I.stkSub b hb) with e | hb
 ·rw[e];exact I.free
 ·obtain⟨_,o,ho,_⟩:=I.ok.funs.mem hb
  exact I.base.free b o ho (I.ok.frf b hb) fun z=>I.ok.exfs b z hb
/-- THE STEP: the untracked objects but the frame and the records at ch are kept (the callers' frames up to slots), the frame's map is kept, the new abstract heap is held -/
theorem Inv.step {g':Array GenState} {t':Nat} {d':Drawn} {ch:List Addr} (I:Inv X pins σ H s)
  (hch:∀ b ∈ ch,(b ∈ X.ex∨X.s₀.heap.objs.size≤b)∧b≠X.env.locals∧(∀ x c,X.env.cells.lookup x=some c->c≠b)∧∀ p ∈ X.pn++pins,p.1≠b)
  (keep:∀ b o,b≠X.env.locals->b ∉ X.fs->b ∉ ch->s.heap.get? b=some o->H b=none->h'.get? b=some o)
  (slot:∀ b o,b≠X.env.locals->b ∈ X.fs->b ∉ ch->s.heap.get? b=some o->H b=none->∃ sl,h'.get? b=some { o with slots:=sl }) (free:∀ b o,b ∉ ch->s.heap.get? b=some o->H b=none->H' b=none)
  (there:∀ b o,b ∉ ch->s.heap.get? b=some o->∃ o',h'.get? b=some o')
  (tups:∀ b xs,H b=some (.tup xs)->H' b=some (.tup xs)) (frzs:∀ b o u,H b=some (.frz o u)->H' b=some (.frz o u)) (tbls:∀ b ps,H b=some (.tbl ps)->∃ more,H' b=some (.tbl (ps++more)))
  (ns:∀ m,s.heap.Ns X.env.locals m->h'.Ns X.env.locals m) (hok:HOk X.prog X.w H' h') (hg:AllBare g') :
  Inv X pins σ H' { s with heap:=h',gens:=g',drawn:=d',toks:=t' }:=by
 have neL:∀ b o,X.s₀.heap.get? b=some o->b≠X.env.locals:=fun b o e=>Nat.ne_of_lt (Nat.lt_of_lt_of_le (Heap.lt_size e) I.ok.above)
 have neC:∀ b o,X.s₀.heap.get? b=some o->b ∉ X.ex->b ∉ ch:=fun b o e hx hb=>by
  rcases (hch b hb).1 with z | z
  ·exact hx z
  ·exact absurd (Nat.lt_of_lt_of_le (Heap.lt_size e) z) (Nat.lt_irrefl _)
 have cellK:∀ x c,X.env.cells.lookup x=some c->∀ v,s.heap.IsCell c v->h'.IsCell c v:=fun x c e v ⟨o,ho,hd⟩=>by
  have nch:c ∉ ch:=fun z=>(hch c z).2.2.1 x c e rfl
  by_cases hc:c ∈ X.fs
  ·obtain⟨sl,q⟩:=slot c o (I.cne x c e) hc nch ho (I.freeC x c e)
   exact⟨_,q,hd⟩
  ·exact⟨o,keep c o (I.cne x c e) hc nch ho (I.freeC x c e),hd⟩
 refine⟨I.ok,I.os,hg,⟨fun b o e n hb hx=>?_,fun b o e n hb hx=>?_,fun b o e n hx=>?_,fun b o e hx=>?_,fun b xs e=>tups b xs (I.base.tups b xs e),fun b o xs e=>frzs b o xs (I.base.frzs b o xs e),fun b ps e=>?_⟩,?_,fun x c e=>?_,?_,fun x c e=>?_,fun p hp=>?_,hok,I.len⟩
 ·exact keep b o (neL b o e) hb (neC b o e hx) (I.base.keep b o e n hb hx) (I.base.free b o e n hx)
 ·obtain⟨sl,e1⟩:=I.base.slot b o e n hb hx
  obtain⟨sl',e2⟩:=slot b _ (neL b o e) hb (neC b o e hx) e1 (I.base.free b o e n hx)
  exact⟨sl',e2⟩
 ·obtain⟨o',e1⟩:=I.base.there b o e hx
  exact free b o' (neC b o e hx) e1 (I.base.free b o e n hx)
 ·obtain⟨o',e1⟩:=I.base.there b o e hx
  exact there b o' (neC b o e hx) e1
 ·obtain⟨m1,e1⟩:=I.base.tbls b ps e
  obtain⟨m2,e2⟩:=tbls b _ e1
  exact⟨m1++m2,by rw[e2,Array.append_assoc]⟩
 ·obtain⟨m,hn,hl⟩:=I.loc
  refine⟨m,ns m hn,fun i x v e1 e2 e3=>?_⟩
  obtain⟨u,r,l⟩:=hl i x v e1 e2 e3
  refine⟨u,r,?_⟩
  rcases l with l | ⟨k,c,e,z⟩
  ·exact .inl l
  ·exact .inr ⟨k,c,e,cellK x c e _ z⟩
 ·obtain⟨v,z⟩:=I.cell x c e
  exact⟨v,cellK x c e v z⟩
 ·obtain⟨m,⟨o,_,_,ho,_⟩,_⟩:=I.loc
  exact free _ o (fun z=>(hch _ z).2.1 rfl) ho I.free
 ·obtain⟨v,o,ho,hd⟩:=I.cell x c e
  exact free c o (fun z=>(hch c z).2.2.1 x c e rfl) ho (I.freeC x c e)
 ·obtain⟨e,n,ne,nf,d⟩:=I.pin p hp
  have nch:p.1 ∉ ch:=fun z=>(hch p.1 z).2.2.2 p hp rfl
  exact⟨keep p.1 p.2 ne nf nch e n,free p.1 p.2 nch e n,ne,nf,d⟩
/-- .. where the frame's own object is kept too -/
theorem Inv.un {t':Nat} (I:Inv X pins σ H s) (u:Un X.fs [] H H' s.heap h') (hok:HOk X.prog X.w H' h'):Inv X pins σ H' { s with heap:=h',toks:=t' }:=by
 obtain⟨m,⟨o,es,ep,ho,r⟩,_⟩:=id I.loc
 obtain⟨sl,hL⟩:=u.any ho I.free (by simp)
 exact I.step (g':=s.gens) (d':=s.drawn) (ch:=[]) (fun _ z=>nomatch z) (fun b o _ hb _ e n=>u.keep b o e n hb (by simp)) (fun b o _ hb _ e n=>u.slot b o e n hb (by simp)) (fun b o _ e n=>u.free b o e n (by simp)) (fun b o _ e=>u.there b o e (by simp)) u.tups u.frzs u.tbls (fun m' hm=>by
  obtain⟨o',es',ep',ho',r'⟩:=hm
  rw[ho] at ho';cases ho'
  exact⟨_,es',ep',hL,r'⟩) hok I.bare
/-- behind a call (or a comprehension's block): the slots of this frame may have changed too, the records at ch may have turned -/
theorem Inv.call {g':Array GenState} {t':Nat} {d':Drawn} {ch:List Addr} (I:Inv X pins σ H s) (u:Un (frs X.stack) ch H H' s.heap h') (hok:HOk X.prog X.w H' h') (hg:AllBare g')
  (hch:∀ b ∈ ch,(b ∈ X.ex∨X.s₀.heap.objs.size≤b)∧b≠X.env.locals∧(∀ x c,X.env.cells.lookup x=some c->c≠b)∧∀ p ∈ X.pn++pins,p.1≠b) :
  Inv X pins σ H' { s with heap:=h',gens:=g',drawn:=d',toks:=t' }:=by
 obtain⟨m,⟨o,es,ep,ho,r⟩,_⟩:=id I.loc
 obtain⟨sl,hL⟩:=u.any ho I.free fun z=>(hch _ z).2.1 rfl
 exact I.step (ch:=ch) hch (fun b o hL hb hc e n=>u.keep b o e n (fun z=>(List.mem_cons.mp (I.stkSub b z)).elim hL hb) hc) (fun b o _ _ hc e n=>u.any e n hc) (fun b o hc e n=>u.free b o e n hc) (fun b o hc e=>u.there b o e hc) u.tups u.frzs u.tbls (fun m' hm=>by
  obtain⟨o',es',ep',ho',r'⟩:=hm
  rw[ho] at ho';cases ho'
  exact⟨_,es',ep',hL,r'⟩) hok hg
/-- an untracked record of ours (an iterator) has turned -/
theorem Inv.turned {t':Nat} {it:Addr} (I:Inv X pins σ H s) (k:∀ b o,b≠it->s.heap.get? b=some o->h'.get? b=some o) (hn:H it=none) (hL:it≠X.env.locals)
  (h1:it ∈ X.ex∨X.s₀.heap.objs.size≤it) (h2:∀ x c,X.env.cells.lookup x=some c->c≠it) (h3:∀ p ∈ X.pn++pins,p.1≠it):Inv X pins σ H { s with heap:=h',toks:=t' }:=by
 have nit:∀ b u,H b=some u->b≠it:=fun b u e z=>by rw[z,hn] at e;cases e
 refine I.step (g':=s.gens) (d':=s.drawn) (ch:=[it]) (fun b hb=>?_) (fun b o _ _ hc e _=>k b o (fun z=>hc (by simp [z])) e) (fun b o _ _ hc e _=>⟨o.slots,k b o (fun z=>hc (by simp [z])) e⟩) (fun _ _ _ _ n=>n)
  (fun b o hc e=>⟨o,k b o (fun z=>hc (by simp [z])) e⟩) (fun _ _ e=>e) (fun _ _ _ e=>e) (fun b ps e=>⟨#[],by rw[e];simp⟩) (fun m hm=>?_) (fun b u e=>?_) I.bare
 ·have e:b=it:=by simpa using hb
  subst e
  exact⟨h1,hL,h2,h3⟩
 ·obtain⟨o,es,ep,ho,r⟩:=hm
  exact⟨o,es,ep,k _ o (Ne.symm hL) ho,r⟩
 ·refine (I.hok b u e).stay (fun c v hc q=>k c v ?_ q) (fun _ q=>q) fun _ _ q=>q
  rcases hc with z | z
  ·rw[z];exact nit b u e
  ·exact nit c _ z
theorem Inv.tok (I:Inv X pins σ H s) (t:Nat):Inv X pins σ H { s with toks:=t }:=I.un (h':=s.heap) (t':=t) Un.refl I.hok
/-- all objects kept -/
theorem Inv.kept {t':Nat} (I:Inv X pins σ H s) (k:∀ b u,s.heap.get? b=some u->h'.get? b=some u):Inv X pins σ H { s with heap:=h',toks:=t' }:=I.un (Un.kept k) (I.hok.kept k)
/-- a new object laid and tracked -/
theorem Inv.laid {a:Addr} {o:HO} {t':Nat} (I:Inv X pins σ H s) (k:∀ b u,s.heap.get? b=some u->h'.get? b=some u) (hp:s.heap.objs.size≤a) (new:ObjOk X.prog X.w (upd H a o) h' a o) :
  Inv X pins σ (upd H a o) { s with heap:=h',toks:=t' }:=I.un (Un.laid k hp (I.hok.fresh hp)) (I.hok.laid k hp new)
/-- an object written -/
theorem Inv.write {x e:Addr} {o:HO} {t':Nat} (I:Inv X pins σ H s) (mu:Mut (H x)) (he:e=x∨H e=some (.own x)) (k:∀ b u,b≠e->s.heap.get? b=some u->h'.get? b=some u) (heo:∃ u,h'.get? e=some u)
  (new:ObjOk X.prog X.w (upd H x o) h' x o):Inv X pins σ (upd H x o) { s with heap:=h',toks:=t' }:=I.un (Un.write mu he k heo) (I.hok.write mu he k heo new)
theorem Inv.pins_of {pins':List (Addr × Obj)} (I:Inv X pins σ H s) (h:∀ p ∈ pins',s.heap.get? p.1=some p.2∧H p.1=none∧p.1≠X.env.locals∧p.1 ∉ X.fs∧∀ v,p.2.data≠.cell v):Inv X pins' σ H s :=
 ⟨I.ok,I.os,I.bare,I.base,I.loc,I.cell,I.free,I.freeC,fun p hp=>(List.mem_append.mp hp).elim (fun z=>I.pin p (List.mem_append_left _ z)) (h p),I.hok,I.len⟩
theorem nodup_ix {N:List Str} (hN:N.Nodup) {i j:Nat} {x:Str} (a:N[i]?=some x) (b:N[j]?=some x):i=j:=by
 obtain⟨h1,e1⟩:=List.getElem?_eq_some_iff.mp a
 obtain⟨h2,e2⟩:=List.getElem?_eq_some_iff.mp b
 exact (List.getElem_inj hN).mp (e1.trans e2.symm)
/-- a name is stored; what changed -/
theorem store_ok2 {M:Model} {A:Around} {E:Value->Shared->Prop} {i:Nat} {x:Str} {v:V} {u:Value} {Q:Unit->Shared->Prop} (I:Inv X pins σ H s) (hN:X.N.Nodup) (hi:X.N[i]?=some x) (hx:Loc X.env.scope x) (r:RelV v u)
  (h:∀ s',Inv X pins (σ.set i (some v)) H s'->(∃ a,Heap.SameBut a s.heap s'.heap∧(a=X.env.locals∨X.env.cells.lookup x=some a))->Q () s') (hf:X.fn x=true∨X.env.scope.names.lookup x=some .local:=by first | exact .inl rfl | exact .inr rfl | assumption):wpAny M A (storeName X.env x u) Q E s:=by
 obtain⟨m,hn,hl⟩:=id I.loc
 have hcls:(X.env.scope.kind == .class || (X.env.scope.kind == .module && X.env.locals != X.env.globals))=false:=by rw[I.ok.kind];rfl
 have hiσ:i < σ.length:=by rw[I.len];exact (List.getElem?_eq_some_iff.mp hi).1
 have cne:=I.cne
 have tracked:∀ {a:Addr} {h':Heap},(∃ o,s.heap.get? a=some o∧H a=none)->Heap.SameBut a s.heap h'->HOk X.prog X.w H h':=fun {a h'} ha hs b ob e=>by
  obtain⟨_,_,hfree⟩:=ha
  refine (I.hok b ob e).stay (fun c w' hc q=>(hs.2 c ?_).trans q) (fun _ q=>q) fun _ _ q=>q
  rintro rfl
  rcases hc with rfl | hc
  ·rw[hfree] at e;cases e
  ·rw[hfree] at hc;cases hc
 rcases hx with hk | hk
 ·refine wpAny_storeName_local hk hn (fun h' hn' hs=>?_) hcls
  obtain⟨oL,_,_,hoL,_⟩:=id hn
  refine h _ ⟨I.ok,I.os,I.bare,⟨fun b o e n hb hx=>?_,fun b o e n hb hx=>?_,I.base.free,fun b o e hx=>?_,I.base.tups,I.base.frzs,I.base.tbls⟩,⟨_,hn',fun j y v' e1 e2 e3=>?_⟩,fun y c e=>?_,I.free,I.freeC,fun p hp=>?_,tracked ⟨oL,hoL,I.free⟩ hs,by simpa using I.len⟩ ⟨_,hs,.inl rfl⟩
  ·exact (hs.2 b (Nat.ne_of_lt (Nat.lt_of_lt_of_le (Heap.lt_size e) I.ok.above))).trans (I.base.keep b o e n hb hx)
  ·obtain⟨sl,e1⟩:=I.base.slot b o e n hb hx
   exact⟨sl,(hs.2 b (Nat.ne_of_lt (Nat.lt_of_lt_of_le (Heap.lt_size e) I.ok.above))).trans e1⟩
  ·obtain⟨o',e1⟩:=I.base.there b o e hx
   exact⟨o',(hs.2 b (Nat.ne_of_lt (Nat.lt_of_lt_of_le (Heap.lt_size e) I.ok.above))).trans e1⟩
  ·by_cases hj:j=i
   ·subst hj
    rw[hi] at e1;cases e1
    rw[List.getElem?_set_self hiσ] at e2
    cases e2
    exact⟨u,r,.inl ⟨hk,by simp⟩⟩
   ·rw[List.getElem?_set_ne (Ne.symm hj)] at e2
    obtain⟨u',r',q⟩:=hl j y v' e1 e2 e3
    refine⟨u',r',?_⟩
    rcases q with ⟨k,e⟩ | ⟨k,c,e,z⟩
    ·refine .inl ⟨k,?_⟩
     have:y≠x:=fun e=>hj (nodup_ix hN e1 (e ▸ hi))
     simp [this,e]
    ·exact .inr ⟨k,c,e,z.sameBut hs (cne y c e)⟩
  ·obtain⟨w',z⟩:=I.cell y c e
   exact⟨w',z.sameBut hs (cne y c e)⟩
  ·obtain⟨e,n,ne,nf,d⟩:=I.pin p hp
   exact⟨(hs.2 p.1 ne).trans e,n,ne,nf,d⟩
 ·have hfn:X.fn x=true:=by
   rcases hf with z | z
   ·exact z
   ·rw[z] at hk;cases hk
  obtain⟨c,hc⟩:=I.ok.has x (.inl hk)
  obtain⟨w',z⟩:=I.cell x c hc
  refine wpAny_storeName_cell I.ok.kind hk hc z (fun h' hc' hs=>?_)
  obtain⟨oc,hoc,hocd⟩:=id z
  refine h { s with heap:=h' } ⟨I.ok,I.os,I.bare,⟨fun b o e n hb hx=>?_,fun b o e n hb hx=>?_,I.base.free,fun b o e hx=>?_,I.base.tups,I.base.frzs,I.base.tbls⟩,⟨m,hn.sameBut hs (Ne.symm (cne x c hc)),fun j y v' e1 e2 e3=>?_⟩,fun y c' e=>?_,I.free,I.freeC,fun p hp=>?_,tracked ⟨oc,hoc,I.freeC x c hc⟩ hs,by simpa using I.len⟩ ⟨c,hs,.inr hc⟩
  ·exact (hs.2 b (Nat.ne_of_lt (Nat.lt_of_lt_of_le (Heap.lt_size e) (I.ok.cab x c hfn hc)))).trans (I.base.keep b o e n hb hx)
  ·obtain⟨sl,e1⟩:=I.base.slot b o e n hb hx
   exact⟨sl,(hs.2 b (Nat.ne_of_lt (Nat.lt_of_lt_of_le (Heap.lt_size e) (I.ok.cab x c hfn hc)))).trans e1⟩
  ·obtain⟨o',e1⟩:=I.base.there b o e hx
   exact⟨o',(hs.2 b (Nat.ne_of_lt (Nat.lt_of_lt_of_le (Heap.lt_size e) (I.ok.cab x c hfn hc)))).trans e1⟩
  ·by_cases hj:j=i
   ·subst hj
    rw[hi] at e1;cases e1
    rw[List.getElem?_set_self hiσ] at e2
    cases e2
    exact⟨u,r,.inr ⟨.inl hk,c,hc,hc'⟩⟩
   ·rw[List.getElem?_set_ne (Ne.symm hj)] at e2
    obtain⟨u',r',q⟩:=hl j y v' e1 e2 e3
    refine⟨u',r',?_⟩
    rcases q with q | ⟨k,c',e,z'⟩
    ·exact .inl q
    ·refine .inr ⟨k,c',e,z'.sameBut hs ?_⟩
     rintro rfl
     exact hj (nodup_ix hN e1 (I.ok.inj _ _ _ e hc ▸ hi))
  ·by_cases hcc:c'=c
   ·subst hcc;exact⟨_,hc'⟩
   ·obtain⟨w2,z2⟩:=I.cell y c' e
    exact⟨w2,z2.sameBut hs hcc⟩
  ·obtain⟨e,n,ne,nf,d⟩:=I.pin p hp
   refine⟨(hs.2 p.1 ?_).trans e,n,ne,nf,d⟩
   intro q
   rw[q,hoc] at e
   have q':oc=p.2:=Option.some.inj e
   exact d w' (by rw[← q'];exact hocd)
theorem store_ok {M:Model} {A:Around} {E:Value->Shared->Prop} {i:Nat} {x:Str} {v:V} {u:Value} {Q:Unit->Shared->Prop} (I:Inv X pins σ H s) (hN:X.N.Nodup) (hi:X.N[i]?=some x) (hx:Loc X.env.scope x) (r:RelV v u)
  (h:∀ s',Inv X pins (σ.set i (some v)) H s'->Q () s') (hf:X.fn x=true∨X.env.scope.names.lookup x=some .local:=by first | exact .inl rfl | exact .inr rfl | assumption):wpAny M A (storeName X.env x u) Q E s :=
 store_ok2 I hN hi hx r (fun s' I' _=>h s' I') hf
/-- behind a call or a block, the state as it is -/
theorem Inv.call' {s':Shared} {ch:List Addr} (I:Inv X pins σ H s) (ho:s'.os=s.os) (u:Un (frs X.stack) ch H H' s.heap s'.heap) (hok:HOk X.prog X.w H' s'.heap) (hg:AllBare s'.gens)
  (hch:∀ b ∈ ch,(b ∈ X.ex∨X.s₀.heap.objs.size≤b)∧b≠X.env.locals∧(∀ x c,X.env.cells.lookup x=some c->c≠b)∧∀ p ∈ X.pn++pins,p.1≠b):Inv X pins σ H' s':=by
 obtain⟨h',g',d',t',o'⟩:=s'
 have e:o'=s.os:=ho
 subst e
 exact I.call (g':=g') (t':=t') (d':=d') u hok hg hch
end
/-- an exception: its class, its own dict's address (where it has one), the abstract heap behind it -/
abbrev XK:=Value->Option Addr->Hp->Prop
abbrev St:=List (Option V)
abbrev VK:=V->Hp->Prop
/-- an expression's reading; a test's; an argument list's -/
abbrev TE:=St->Hp->VK->Prop
abbrev TT:=St->Hp->(Bool->Hp->Prop)->Prop
abbrev TA:=St->Hp->(List V->Hp->Prop)->Prop
/-- what is wanted behind a statement -/
structure Ends where
 nx:St->Hp->Prop
 rt:VK
 bk:St->Hp->Prop:=fun _ _=>False
 ct:St->Hp->Prop:=fun _ _=>False
abbrev TS:=Ends->St->Hp->Prop
def EP (X:Cx) (pins:List (Addr × Obj)) (σ:St) (Q:VK) (u:Value) (s':Shared):Prop:=∃ v H',Inv X pins σ H' s'∧RelV v u∧Q v H'
def TP (X:Cx) (pins:List (Addr × Obj)) (σ:St) (Q:Bool->Hp->Prop) (b:Bool) (s':Shared):Prop:=∃ H',Inv X pins σ H' s'∧Q b H'
def AP (X:Cx) (pins:List (Addr × Obj)) (σ:St) (Q:List V->Hp->Prop) (us:List Value) (s':Shared):Prop:=∃ vs H',Inv X pins σ H' s'∧Vals vs us∧Q vs H'
def SP (X:Cx) (pins:List (Addr × Obj)) (D:Ends) (f:Flow) (s':Shared):Prop :=
 match f with
 | .next=>∃ σ' H',Inv X pins σ' H' s'∧D.nx σ' H'
 | .brk=>∃ σ' H',Inv X pins σ' H' s'∧D.bk σ' H'
 | .cont=>∃ σ' H',Inv X pins σ' H' s'∧D.ct σ' H'
 | .ret u=>∃ v σ' H',Inv X pins σ' H' s'∧RelV v u∧D.rt v H'
def PE (X:Cx) (e:Expr) (t:TE):Prop :=
 ∀ (pins:List (Addr × Obj)) (s:Shared) (σ:St) (H:Hp) (Q:VK),Inv X pins σ H s->t σ H Q->wpAny (model X.prog X.w) X.A (eval e X.env) (EP X pins σ Q) X.xe s
def PT (X:Cx) (e:Expr) (t:TT):Prop :=
 ∀ (pins:List (Addr × Obj)) (s:Shared) (σ:St) (H:Hp) (Q:Bool->Hp->Prop),Inv X pins σ H s->t σ H Q->wpAny (model X.prog X.w) X.A (isTrue e X.env (eval e X.env)) (TP X pins σ Q) X.xe s
/-- a test whatever its 'whole' is (and, or) -/
def PW (X:Cx) (e:Expr) (t:TT):Prop :=
 ∀ (whole:Sem Value) (pins:List (Addr × Obj)) (s:Shared) (σ:St) (H:Hp) (Q:Bool->Hp->Prop),Inv X pins σ H s->t σ H Q->wpAny (model X.prog X.w) X.A (isTrue e X.env whole) (TP X pins σ Q) X.xe s
theorem PW.pt {X:Cx} {e:Expr} {t:TT} (h:PW X e t):PT X e t:=h _
/-- an argument list (no star), from the left -/
def PA (X:Cx) (es:List Expr) (t:TA):Prop :=
 ∀ (pos:Pos) (pins:List (Addr × Obj)) (s:Shared) (σ:St) (H:Hp) (Q:List V->Hp->Prop),Inv X pins σ H s->t σ H Q->wpAny (model X.prog X.w) X.A (spliced (backTo pos (starEach es X.env))) (AP X pins σ Q) X.xe s
def PS (X:Cx) (st:Stmt) (t:TS):Prop :=
 ∀ (pins:List (Addr × Obj)) (s:Shared) (σ:St) (H:Hp) (D:Ends),Inv X pins σ H s->t D σ H->wpAny (model X.prog X.w) X.A (exec st X.env) (SP X pins D) X.xe s
def PSs (X:Cx) (st:List Stmt) (t:TS):Prop :=
 ∀ (pins:List (Addr × Obj)) (s:Shared) (σ:St) (H:Hp) (D:Ends),Inv X pins σ H s->t D σ H->wpAny (model X.prog X.w) X.A (execs st X.env) (SP X pins D) X.xe s
/-- weaken the end -/
theorem thn {α:Type} {t:Sem α} {Q Q':α->Shared->Prop} {M:Model} {A:Around} {E:Value->Shared->Prop} {s:Shared} (h:wpAny M A t Q E s) (hQ:∀ a s,Q a s->Q' a s):wpAny M A t Q' E s:=wpAny_mono h hQ fun _ _ x=>x
end L2
namespace L2
open PySem PySem.Spec PyProof.Rows
section
variable {X:Cx}
def tVar (i:Nat):TE:=fun σ H Q=>∃ v,σ[i]?=some (some v)∧Q v H
def tC (v:V):TE:=fun _ H Q=>Q v H
theorem pe_var {i:Nat} {x:Str} {pos:Pos} (hN:X.N[i]?=some x) (hv:Vis X.env.scope x) (hd:(x == ("__debug__":Str))=false:=by decide) (hcd:(x == ("__classdict__":Str))=false:=by decide):PE X (.Name x pos) (tVar i):=by
 intro pins s σ H Q I h
 obtain⟨v,e,h⟩:=h
 obtain⟨m,hn,hl⟩:=I.loc
 obtain⟨u,r,l⟩:=hl i x v hN e hv
 have fin:EP X pins σ Q u s:=⟨v,H,I,r,h⟩
 rcases l with ⟨hk,hm⟩ | ⟨hk,c,hc,hcell⟩
 ·exact wpAny_Name (wpAny_loadName_local I.ok.kind hk hn hm fin) hd
 ·rcases hk with hk | hk
  ·exact wpAny_Name (wpAny_loadName_cell I.ok.kind hk hc hcell fin) hd
  ·exact wpAny_Name (wpAny_loadName_free I.ok.kind hk hc hcell fin hcd) hd
theorem pe_int {i j pos}:PE X (.Constant (.int i) j pos) (tC (.int i)):=fun _ _ _ H _ I h=>wpAny_Constant_int ⟨.int i,H,I.tok _,⟨_,rfl⟩,h⟩
theorem pe_bl {b j pos}:PE X (.Constant (.bool b) j pos) (tC (.bl b)):=fun _ _ _ H _ I h=>Constant_bool ⟨.bl b,H,I,rfl,h⟩
theorem pe_non {j pos}:PE X (.Constant .none j pos) (tC .non):=fun _ _ _ H _ I h=>Constant_none ⟨.non,H,I,rfl,h⟩
/-- a global name of the def -/
def Gl (X:Cx) (x:Str):Prop:=X.env.kindOf x=some .globalImplicit
theorem ld_glob {E:Value->Shared->Prop} {pins:List (Addr × Obj)} {s:Shared} {σ:St} {H:Hp} {x:Str} {u:Value} {pos:Pos} {Q:Value->Shared->Prop} (I:Inv X pins σ H s) (hg:Gl X x) (hm:X.mg x=some u) (h:Q u s)
  (hd:(x == ("__debug__":Str))=false:=by decide):wpAny (model X.prog X.w) X.A (eval (.Name x pos) X.env) Q E s :=
 Calls.Name_function_global I.ok.kind hg (Calls.loadGlobal_global (by rw[I.ok.glob];exact I.mod.glob.keeps I.bk) hm h) hd
theorem ld_blt {E:Value->Shared->Prop} {pins:List (Addr × Obj)} {s:Shared} {σ:St} {H:Hp} {x:Str} {u:Value} {pos:Pos} {Q:Value->Shared->Prop} (I:Inv X pins σ H s) (hg:Gl X x) (hm:X.mg x=none) (hv:bootBuiltins x=some u) (h:Q u s)
  (hn:x≠"__name__":=by decide) (hd:(x == ("__debug__":Str))=false:=by decide):wpAny (model X.prog X.w) X.A (eval (.Name x pos) X.env) Q E s:=by
 obtain⟨mb,h1,h2⟩:=I.mod.blt
 exact Calls.Name_function_global I.ok.kind hg (Calls.loadGlobal_builtin (by rw[I.ok.glob];exact I.mod.glob.keeps I.bk) hm (by rw[I.ok.blt];exact h1.keeps I.bk) ((h2 x hn).trans hv) h) hd
theorem pe_bltn {x:Str} {v:V} {u:Value} {pos:Pos} (hg:Gl X x) (hm:X.mg x=none) (hv:bootBuiltins x=some u) (r:RelV v u) (hn:x≠"__name__":=by decide) (hd:(x == ("__debug__":Str))=false:=by decide):PE X (.Name x pos) (tC v) :=
 fun _ _ _ H _ I h=>ld_blt I hg hm hv ⟨v,H,I,r,h⟩ hn hd
variable {a b:Expr} {ta tb:TE} {pos:Pos}
/-- a comparison as a value, as a test -/
def tB (t:TE):TT:=fun σ H Q=>t σ H fun x H1=>∃ c,x=.bl c∧Q c H1
/-- an expression whose value is a bool, as a test -/
theorem pt_val {e:Expr} {t:TE} (h:PE X e t) (he:∀ whole,isTrue e X.env whole=(do let v ← whole;standAt e.pos;holding [v] (truthy v)):=by intro _;rfl):PT X e (tB t):=by
 intro pins s σ H Q I hw
 refine isTrue_plain (thn (h pins s σ H _ I hw) fun v s1 ⟨x,H1,I1,r1,q1⟩=>?_) (he _)
 obtain⟨d,rfl,q⟩:=q1
 cases r1
 exact wpAny_truthy_bool ⟨H1,I1,q⟩
variable {tA tB':TT} {rest:List Expr}
def tAnd (t u:TT):TT:=fun σ H Q=>t σ H fun c H1=>if c=true then u σ H1 Q else Q false H1
def tOr (t u:TT):TT:=fun σ H Q=>t σ H fun c H1=>if c=true then Q true H1 else u σ H1 Q
def tNot (t:TT):TT:=fun σ H Q=>t σ H fun c H1=>Q (!c) H1
theorem pw_and1 (ha:PT X a tA):PW X (.BoolOp .And [a] pos) tA:=by
 intro wh pins s σ H Q I h
 refine isTrue_and (thn (ha pins s σ H Q I h) fun c s1 e=>?_)
 cases c with
 | true=>exact isTrue_and_nil e
 | false=>exact e
theorem pw_or1 (ha:PT X a tA):PW X (.BoolOp .Or [a] pos) tA:=by
 intro wh pins s σ H Q I h
 refine isTrue_or (thn (ha pins s σ H Q I h) fun c s1 e=>?_)
 cases c with
 | false=>exact isTrue_or_nil e
 | true=>exact e
theorem pw_and (ha:PT X a tA) (hb:PW X (.BoolOp .And (b::rest) pos) tB'):PW X (.BoolOp .And (a::b::rest) pos) (tAnd tA tB'):=by
 intro wh pins s σ H Q I h
 refine isTrue_and (thn (ha pins s σ H _ I h) fun c s1 ⟨H1,I1,q1⟩=>?_)
 cases c with
 | true=>exact hb wh pins s1 σ H1 Q I1 q1
 | false=>exact⟨H1,I1,q1⟩
theorem pw_or (ha:PT X a tA) (hb:PW X (.BoolOp .Or (b::rest) pos) tB'):PW X (.BoolOp .Or (a::b::rest) pos) (tOr tA tB'):=by
 intro wh pins s σ H Q I h
 refine isTrue_or (thn (ha pins s σ H _ I h) fun c s1 ⟨H1,I1,q1⟩=>?_)
 cases c with
 | true=>exact⟨H1,I1,q1⟩
 | false=>exact hb wh pins s1 σ H1 Q I1 q1
theorem pt_not (ha:PT X a tA):PT X (.UnaryOp .Not a pos) (tNot tA):=by
 intro pins s σ H Q I h
 exact isTrue_not (ha pins s σ H (fun c H1=>Q (!c) H1) I h)
/-- .. as values (bools) -/
def tAndV (ta tb:TE):TE:=fun σ H Q=>ta σ H fun x H1=>∃ c,x=.bl c∧if c=true then tb σ H1 Q else Q (.bl false) H1
def tOrV (ta tb:TE):TE:=fun σ H Q=>ta σ H fun x H1=>∃ c,x=.bl c∧if c=true then Q (.bl true) H1 else tb σ H1 Q
theorem pe_one {op} {t:TE} (h:PE X a t):PE X (.BoolOp op [a] pos) t:=fun pins s σ H Q I hw=>BoolOp_one (h pins s σ H Q I hw)
theorem pe_and (ha:PE X a ta) (hb:PE X (.BoolOp .And (b::rest) pos) tb):PE X (.BoolOp .And (a::b::rest) pos) (tAndV ta tb):=by
 intro pins s σ H Q I h
 refine BoolOp_and (thn (ha pins s σ H _ I h) fun v s1 ⟨x,H1,I1,r1,q1⟩=>?_)
 obtain⟨c,rfl,q1⟩:=q1
 cases r1
 refine wpAny_truthy_bool ?_
 cases c with
 | true=>exact hb pins s1 σ H1 Q I1 q1
 | false=>exact⟨.bl false,H1,I1,rfl,q1⟩
theorem pe_or (ha:PE X a ta) (hb:PE X (.BoolOp .Or (b::rest) pos) tb):PE X (.BoolOp .Or (a::b::rest) pos) (tOrV ta tb):=by
 intro pins s σ H Q I h
 refine BoolOp_or (thn (ha pins s σ H _ I h) fun v s1 ⟨x,H1,I1,r1,q1⟩=>?_)
 obtain⟨c,rfl,q1⟩:=q1
 cases r1
 refine wpAny_truthy_bool ?_
 cases c with
 | false=>exact hb pins s1 σ H1 Q I1 q1
 | true=>exact⟨.bl true,H1,I1,rfl,q1⟩
end
end L2
namespace L2
open PySem PySem.Spec PyProof.Rows
def SqL (K:PySem.W.Frag) (H:Hp) (a:Addr) (xs:List V):Prop :=
 Rd H a (.lst xs) ∨
  ∃ (o:Obj) (its:Array Value) (n:Nat),K.lookup a=some o∧o.cls=.type "list"∧o.dict=none∧o.data=.seq its n∧its.size≤sizeLine∧Vals xs its.toList
def SqT (K:PySem.W.Frag) (H:Hp) (a:Addr) (xs:List V):Prop :=
 Rd H a (.tup xs) ∨
  ∃ (o:Obj) (its:Array Value) (n:Nat),K.lookup a=some o∧o.cls=.type "tuple"∧o.data=.seq its n∧its.size≤sizeLine∧Vals xs its.toList
def absV:Value->Option V
 | .none=>some .non
 | .bool b=>some (.bl b)
 | .int i _=>some (.int i)
 | .str x _=>some (.str x)
 | .bytes b _=>some (.byt b)
 | .float b _=>some (.flt b)
 | .ref a=>some (.ref a)
 | .type n=>some (.ty n)
 | _=>none
theorem RelV.abs {x:V} {u:Value} (r:RelV x u):absV u=some x:=by
 cases x with
 | non=>cases r;rfl
 | bl _=>cases r;rfl
 | int _=>obtain⟨t,rfl⟩:=r;rfl
 | str _=>obtain⟨t,rfl⟩:=r;rfl
 | byt _=>obtain⟨t,rfl⟩:=r;rfl
 | flt _=>obtain⟨t,rfl⟩:=r;rfl
 | ref _=>cases r;rfl
 | ty _=>cases r;rfl
theorem RelV.inj {x y:V} {u:Value} (r:RelV x u) (q:RelV y u):x=y:=Option.some.inj (r.abs.symm.trans q.abs)
theorem Vals.inj:∀ {xs ys:List V} {us:List Value},Vals xs us->Vals ys us->xs=ys
 | _,_,_,.nil,.nil=>rfl
 | _,_,_,.cons r t,.cons r' t'=>by rw[r.inj r',Vals.inj t t']
section
variable {X:Cx} {pins:List (Addr × Obj)} {σ:St} {H:Hp} {s:Shared} {a:Addr} {xs ys:List V}
theorem SqL.of {K:PySem.W.Frag} (h:H a=some (.lst xs)):SqL K H a xs:=.inl (.inl h)
theorem SqT.of {K:PySem.W.Frag} (h:H a=some (.tup xs)):SqT K H a xs:=.inl (.inl h)
theorem Inv.list (I:Inv X pins σ H s) (h:SqL X.K H a xs):∃ its:List Value,Vals xs its∧PlainL s.heap a its.toArray∧xs.length≤sizeLine:=by
 rcases h with h | ⟨o,its,n,hk,hc,hd,hs,hz,r⟩
 ·obtain⟨z,its,n,r,e⟩:=h.ok I.hok
  exact⟨its,r,⟨_,n,e,rfl,rfl,rfl⟩,z⟩
 ·refine⟨its.toList,r,⟨o,n,I.kIn a o hk,hc,hd,by simpa using hs⟩,?_⟩
  have e:=r.length
  simp only [Array.length_toList] at e
  omega
theorem Inv.tuple (I:Inv X pins σ H s) (h:SqT X.K H a xs):∃ its:List Value,Vals xs its∧IsTup s.heap a its.toArray∧xs.length≤sizeLine:=by
 rcases h with h | ⟨o,its,n,hk,hc,hs,hz,r⟩
 ·obtain⟨z,its,r,p⟩:=h.ok I.hok
  exact⟨its,r,p.tup,z⟩
 ·refine⟨its.toList,r,⟨o,I.kIn a o hk,hc,n,by simpa using hs⟩,?_⟩
  have e:=r.length
  simp only [Array.length_toList] at e
  omega
theorem Inv.list_inj (I:Inv X pins σ H s) (h:SqL X.K H a xs) (h':SqL X.K H a ys):xs=ys:=by
 obtain⟨its,r,⟨o,n,e,_,_,d⟩,_⟩:=I.list h
 obtain⟨its',r',⟨o',n',e',_,_,d'⟩,_⟩:=I.list h'
 rw[e] at e';cases e'
 rw[d] at d'
 injection d' with d1 _
 have:its=its':=by simpa using congrArg Array.toList d1
 subst this
 exact r.inj r'
theorem Inv.tuple_inj (I:Inv X pins σ H s) (h:SqT X.K H a xs) (h':SqT X.K H a ys):xs=ys:=by
 obtain⟨its,r,⟨o,e,_,n,d⟩,_⟩:=I.tuple h
 obtain⟨its',r',⟨o',e',_,n',d'⟩,_⟩:=I.tuple h'
 rw[e] at e';cases e'
 rw[d] at d'
 injection d' with d1 _
 have:its=its':=by simpa using congrArg Array.toList d1
 subst this
 exact r.inj r'
end
abbrev Cx.wish (X:Cx) (E:Value->Shared->Prop):Cx:={ X with xe:=E }
/-- no exception leaves -/
abbrev Cx.nox (X:Cx):Cx:=X.wish fun _ _=>False
theorem Cx.Ok.wish {X:Cx} (ok:X.Ok) (E:Value->Shared->Prop):(X.wish E).Ok :=
 ⟨ok.mod,ok.kind,ok.glob,ok.blt,ok.above,ok.inj,ok.has,ok.cab,ok.hd,ok.frames,ok.stk,ok.exf,ok.bs,ok.bsz,ok.noex,ok.exfs,ok.funs,ok.frf⟩
theorem Cx.Ok.unwish {X:Cx} {E:Value->Shared->Prop} (ok:(X.wish E).Ok):X.Ok :=
 ⟨ok.mod,ok.kind,ok.glob,ok.blt,ok.above,ok.inj,ok.has,ok.cab,ok.hd,ok.frames,ok.stk,ok.exf,ok.bs,ok.bsz,ok.noex,ok.exfs,ok.funs,ok.frf⟩
section
variable {X:Cx} {pins:List (Addr × Obj)} {σ:St} {H:Hp} {s:Shared} {E:Value->Shared->Prop}
theorem Inv.wish (I:Inv X pins σ H s) (E:Value->Shared->Prop):Inv (X.wish E) pins σ H s:=⟨I.ok.wish E,I.os,I.bare,I.base,I.loc,I.cell,I.free,I.freeC,I.pin,I.hok,I.len⟩
theorem Inv.unwish (I:Inv (X.wish E) pins σ H s):Inv X pins σ H s:=⟨I.ok.unwish,I.os,I.bare,I.base,I.loc,I.cell,I.free,I.freeC,I.pin,I.hok,I.len⟩
theorem SP.unwish {D:Ends} {f:Flow} {s':Shared} (h:SP (X.wish E) pins D f s'):SP X pins D f s':=by
 cases f with
 | next=>obtain⟨σ',H',I,q⟩:=h;exact⟨σ',H',I.unwish,q⟩
 | brk=>obtain⟨σ',H',I,q⟩:=h;exact⟨σ',H',I.unwish,q⟩
 | cont=>obtain⟨σ',H',I,q⟩:=h;exact⟨σ',H',I.unwish,q⟩
 | ret u=>obtain⟨v,σ',H',I,r,q⟩:=h;exact⟨v,σ',H',I.unwish,r,q⟩
theorem PE.nox {e:Expr} {t:TE} (h:PE X.nox e t):PE X e t:=fun pins s σ H Q I hw =>
 wpAny_mono (h pins s σ H Q (I.wish _) hw) (fun _ _ ⟨v,H',I',r,q⟩=>⟨v,H',I'.unwish,r,q⟩) fun _ _ z=>False.elim z
theorem PT.nox {e:Expr} {t:TT} (h:PT X.nox e t):PT X e t:=fun pins s σ H Q I hw =>
 wpAny_mono (h pins s σ H Q (I.wish _) hw) (fun _ _ ⟨H',I',q⟩=>⟨H',I'.unwish,q⟩) fun _ _ z=>False.elim z
theorem PSs.nox {st:List Stmt} {t:TS} (h:PSs X.nox st t):PSs X st t:=fun pins s σ H D I hw =>
 wpAny_mono (h pins s σ H D (I.wish _) hw) (fun _ _ q=>q.unwish) fun _ _ z=>False.elim z
end
section
variable {X:Cx} {st:Stmt} {rest:List Stmt} {t u:TS} {e:Expr} {te:TE} {pos:Pos}
def tNext:TS:=fun D σ H=>D.nx σ H
def tSeq (t u:TS):TS:=fun D σ H=>t { D with nx:=u D } σ H
theorem pss_nil:PSs X [] tNext:=fun _ _ σ H _ I h=>wpAny_execs_nil ⟨σ,H,I,h⟩
theorem pss_cons (h1:PS X st t) (h2:PSs X rest u):PSs X (st::rest) (tSeq t u):=by
 intro pins s σ H D I h
 refine wpAny_execs_cons (thn (h1 pins s σ H { D with nx:=u D } I h) fun f s1 q=>?_)
 cases f with
 | next =>
  obtain⟨σ',H',I',q⟩:=q
  exact h2 pins s1 σ' H' D I' q
 | ret v=>exact q
 | brk=>exact q
 | cont=>exact q
theorem pss_one (h1:PS X st t):PSs X [st] t:=by
 intro pins s σ H D I h
 refine wpAny_execs_cons (thn (h1 pins s σ H D I h) fun f s1 q=>?_)
 cases f with
 | next=>exact wpAny_execs_nil q
 | ret v=>exact q
 | brk=>exact q
 | cont=>exact q
def tCont:TS:=fun D σ H=>D.ct σ H
theorem ps_continue:PS X (.Continue pos) tCont:=fun _ _ σ H _ I h=>wpAny_Continue ⟨σ,H,I,h⟩
/-- in a def's body nothing is shown -/
theorem Inv.quiet {pins:List (Addr × Obj)} {σ:St} {H:Hp} {s:Shared} (I:Inv X pins σ H s):interactive X.env=false:=by simp [interactive,I.ok.kind]
/-- an expression whose value is dropped -/
def tDrop (te:TE):TS:=fun D σ H=>te σ H fun _ H1=>D.nx σ H1
theorem ps_expr (he:PE X e te) (hs:swapsWith e none pos.line X.env=pure false:=by rfl):PS X (.Expr e pos) (tDrop te):=by
 intro pins s σ H D I h
 exact wpAny_Expr_any (thn (he pins s σ H _ I h) fun v s1 ⟨x,H1,I1,r1,q1⟩=>⟨σ,H1,I1,q1⟩) I.quiet hs
def tRet (te:TE):TS:=fun D σ H=>te σ H D.rt
theorem ps_ret (he:PE X e te):PS X (.Return (some e) pos) (tRet te):=by
 intro pins s σ H D I h
 exact wpAny_Return_some (thn (he pins s σ H _ I h) fun v s1 ⟨x,H1,I1,r1,q1⟩=>⟨x,σ,H1,I1,r1,q1⟩)
def tIfS (c:TT) (t u:TS):TS:=fun D σ H=>c σ H fun b H1=>if b=true then t D σ H1 else u D σ H1
theorem ps_if {c:Expr} {a b:List Stmt} {tc:TT} (hc:PT X c tc) (ha:PSs X a t) (hb:PSs X b u):PS X (.If c a b pos) (tIfS tc t u):=by
 intro pins s σ H D I h
 refine wpAny_If (thn (hc pins s σ H _ I h) fun d s1 ⟨H1,I1,q1⟩=>?_)
 cases d with
 | true=>exact ha pins s1 σ H1 D I1 q1
 | false=>exact hb pins s1 σ H1 D I1 q1
end
abbrev TG:=V->St->Hp->(St->Hp->Prop)->Prop
abbrev TGs:=List V->St->Hp->(St->Hp->Prop)->Prop
def PG (X:Cx) (target:Expr) (t:TG):Prop :=
 ∀ (pins:List (Addr × Obj)) (s:Shared) (σ:St) (H:Hp) (v:V) (u:Value) (Q:St->Hp->Prop),Inv X pins σ H s->RelV v u->t v σ H Q ->
  wpAny (model X.prog X.w) X.A (assign target X.env u) (fun _ s'=>∃ σ' H',Inv X pins σ' H' s'∧Q σ' H') X.xe s
/-- several targets, one after another -/
def PGs (X:Cx) (ts:List Expr) (t:TGs):Prop :=
 ∀ (pins:List (Addr × Obj)) (s:Shared) (σ:St) (H:Hp) (vs:List V) (us:List Value) (Q:St->Hp->Prop),Inv X pins σ H s->Vals vs us->t vs σ H Q ->
  wpAny (model X.prog X.w) X.A (assignInOrder ((assignEach ts X.env).map (·.2)) us) (fun _ s'=>∃ σ' H',Inv X pins σ' H' s'∧Q σ' H') X.xe s
/-- o[i] = v, by values -/
abbrev TSet:=V->V->V->Hp->(Hp->Prop)->Prop
def PSet (X:Cx) (t:TSet):Prop :=
 ∀ (pins:List (Addr × Obj)) (s:Shared) (σ:St) (H:Hp) (o i v:V) (ov iv u:Value) (Q:Hp->Prop),Inv X pins σ H s->RelV o ov->RelV i iv->RelV v u->t o i v H Q ->
  wpAny (model X.prog X.w) X.A (setItem ov iv u) (fun _ s'=>∃ H',Inv X pins σ H' s'∧Q H') X.xe s
section
variable {X:Cx} {pos:Pos}
def gName (i:Nat):TG:=fun v σ H Q=>Q (σ.set i (some v)) H
theorem pg_name {i:Nat} {x:Str} (hN:X.N.Nodup) (hi:X.N[i]?=some x) (hx:Loc X.env.scope x) (hf:X.fn x=true∨X.env.scope.names.lookup x=some .local:=by first | exact .inl rfl | exact .inr rfl | assumption):PG X (.Name x pos) (gName i):=by
 intro pins s σ H v u Q I r h
 exact wpAny_assign_Name (store_ok I hN hi hx r (fun s' I'=>⟨_,H,I',h⟩) hf)
def gNil:TGs:=fun vs σ H Q=>vs=[]∧Q σ H
def gCons (t:TG) (u:TGs):TGs:=fun vs σ H Q=>∃ v r,vs=v::r∧t v σ H fun σ' H'=>u r σ' H' Q
theorem pgs_nil:PGs X [] gNil:=by
 intro pins s σ H vs us Q I r h
 obtain⟨e,h⟩:=h
 subst e
 cases r
 exact assignInOrder_nil ⟨σ,H,I,h⟩
theorem pgs_cons {e:Expr} {es:List Expr} {t:TG} {u:TGs} (h1:PG X e t) (h2:PGs X es u)
  (hs:(assignEach (e::es) X.env).map (·.2)=assign e X.env::(assignEach es X.env).map (·.2):=by rfl):PGs X (e::es) (gCons t u):=by
 intro pins s σ H vs us Q I r h
 obtain⟨v,vr,e1,h⟩:=h
 subst e1
 cases r with
 | cons r rr =>
  rw[hs]
  refine assignInOrder_cons (thn (h1 pins s σ H _ _ _ I r h) fun _ s1 ⟨σ1,H1,I1,q1⟩=>?_)
  exact h2 pins s1 σ1 H1 _ _ Q I1 rr q1
/-- (a, b, ..) = a tuple of that length -/
def gTup (K:PySem.W.Frag) (n:Nat) (t:TGs):TG:=fun v σ H Q=>∃ a xs,v=.ref a∧SqT K H a xs∧xs.length=n∧t xs σ H Q
theorem pg_tup {es:List Expr} {k:Nat} {t:TGs} {n:Nat} (hc:X.calm=true) (h:PGs X es t)
  (hn:(assignEach es X.env).length=n:=by rfl) (hst:(assignEach es X.env).findIdx? (·.1)=none:=by rfl):PG X (.Tuple es k pos) (gTup X.K n t):=by
 intro pins s σ H v u Q I r hw
 obtain⟨a,xs,e1,hq,hl,hw⟩:=hw
 subst e1
 cases r
 obtain⟨its,rv,ht,hz⟩:=I.tuple hq
 refine assign_Tuple_tuple (I.ok.hd hc) ht (by simp [hn,← hl,rv.length]) hst fun h' hx=>?_
 have I1:Inv X pins σ H { s with heap:=h' }:=I.kept (t':=s.toks) fun b o e=>hx b o (Nat.ne_of_lt (Heap.lt_size e)) e
 exact h pins _ σ H xs _ Q I1 (by simpa using rv) hw
/-- o[i] = .. -/
def gSub (to ti:TE) (t:TSet):TG:=fun v σ H Q=>to σ H fun o H1=>ti σ H1 fun i H2=>t o i v H2 fun H3=>Q σ H3
theorem pg_sub {o i:Expr} {to ti:TE} {t:TSet} (ho:PE X o to) (hi:PE X i ti) (hs:PSet X t)
  (ha:∀ v,assign (.Subscript o i pos) X.env v=(do
   let ov ← holding [v] (eval o X.env)
   let iv ← holding [v,ov] (eval i X.env)
   standAt pos
   holding [v,ov,iv] (setItem ov iv v)
   release [v,ov,iv] []):=by intro _;rfl):PG X (.Subscript o i pos) (gSub to ti t):=by
 intro pins s σ H v u Q I r h
 rw[ha]
 refine wpAny_bind (wpAny_holding (thn (ho pins s σ H _ I h) fun ov s1 ⟨x,H1,I1,r1,q1⟩=>?_))
 refine wpAny_bind (wpAny_holding (thn (hi pins s1 σ H1 _ I1 q1) fun iv s2 ⟨y,H2,I2,r2,q2⟩=>?_))
 refine wpAny_bind (wpAny_standAt (wpAny_bind (wpAny_holding (thn (hs pins s2 σ H2 x y v ov iv u _ I2 r1 r2 r q2) fun _ s3 ⟨H3,I3,q3⟩=>?_))))
 exact wpAny_release ⟨σ,H3,I3,q3⟩
/-- target = value -/
def tAsg (te:TE) (g:TG):TS:=fun D σ H=>te σ H fun x H1=>g x σ H1 D.nx
theorem ps_asg {tg e:Expr} {te:TE} {g:TG} (he:PE X e te) (hg:PG X tg g) (hs:swapsWithSole [tg] e pos.line X.env=pure false:=by rfl) (hw:swappedStores [tg] e X.env=pure none:=by rfl)
  (h1:(assignEach [tg] X.env).map (·.2)=[assign tg X.env]:=by rfl):PS X (.Assign [tg] e pos) (tAsg te g):=by
 intro pins s σ H D I h
 refine wpAny_Assign_stores (thn (he pins s σ H _ I h) fun v s1 ⟨x,H1,I1,r1,q1⟩=>?_) hs hw
 rw[h1]
 exact thn (hg pins s1 σ H1 x v _ I1 r1 q1) fun _ s2 q=>q
/-- name = value -/
theorem ps_set {i:Nat} {x:Str} {e:Expr} {te:TE} {pos':Pos} (hN:X.N.Nodup) (hi:X.N[i]?=some x) (hx:Loc X.env.scope x) (he:PE X e te) (hs:swapsWith e (some (.Name x pos')) pos.line X.env=pure false:=by rfl) (hf:X.fn x=true∨X.env.scope.names.lookup x=some .local:=by first | exact .inl rfl | exact .inr rfl | assumption) :
  PS X (.Assign [.Name x pos'] e pos) (tAsg te (gName i)):=by
 intro pins s σ H D I h
 refine wpAny_Assign_Name (thn (he pins s σ H _ I h) fun v s1 ⟨y,H1,I1,r1,q1⟩=>?_) hs
 exact store_ok I1 hN hi hx r1 (fun s2 I2=>⟨_,H1,I2,q1⟩) hf
/-- a, b = x, y with plain local names: stored from the right; the pair itself is not tracked (the opening rows as in PyProof/Rows/TupAssign.lean:23) -/
def tPar (i j:Nat) (ta:TA):TS:=fun D σ H=>ta σ H fun vs H1=>∃ v w,vs=[v,w]∧D.nx ((σ.set i (some v)).set j (some w)) H1
theorem ps_par {i j:Nat} {x y:Str} {a b:Expr} {ta:TA} {px py pt:Pos} {kt k2 pt2} (hc:X.calm=true) (hN:X.N.Nodup) (hi:X.N[i]?=some x) (hj:X.N[j]?=some y) (hij:i≠j)
  (hx:X.env.scope.names.lookup x=some .local) (hy:X.env.scope.names.lookup y=some .local) (ha:PA X [a,b] ta)
  (hw:swappedStores [.Tuple [.Name x px,.Name y py] kt pt] (.Tuple [a,b] k2 pt2) X.env=pure (some [x,y]))
  (hs:swapsWithSole [.Tuple [.Name x px,.Name y py] kt pt] (.Tuple [a,b] k2 pt2) pos.line X.env=pure false:=by rfl) :
  PS X (.Assign [.Tuple [.Name x px,.Name y py] kt pt] (.Tuple [a,b] k2 pt2) pos) (tPar i j ta):=by
 intro pins s σ H D I h
 rw[exec_Assign_arm]
 refine wpAny_bind (wpAny_standAt ?_)
 rw[hs]
 refine wpAny_bind (wpAny_pure ?_)
 rw[if_neg (by decide)]
 refine wpAny_bind (Tuple_ (thn (ha _ pins s σ H _ I h) fun us s1 ⟨vs,H1,I1,r1,q1⟩=>?_))
 obtain⟨v,w,e1,q1⟩:=q1
 subst e1
 obtain⟨u1,u2,rfl,rv,rw'⟩:∃ u1 u2,us=[u1,u2]∧RelV v u1∧RelV w u2:=by
  cases r1 with
  | cons p q =>
   cases q with
   | cons p' q' =>
    cases q'
    exact⟨_,_,rfl,p,p'⟩
 refine wpAny_newObj_type ?_ (by show 2≤sizeLine;decide)
 have I2:Inv X pins σ H1 { s1 with heap:=s1.heap.push { cls:=.type "tuple",data:=.seq [u1,u2].toArray } }:=I1.kept (t':=s1.toks) fun b o e=>Heap.get?_push_of_some _ e
 rw[hw]
 refine wpAny_bind (wpAny_pure ?_)
 show wpAny (model X.prog X.w) X.A (do rule "assign.swapped-stores";let items ← unpackItems (.ref s1.heap.objs.size) 2 none;assignInOrder [fun v=>bindName X.env y v,fun v=>bindName X.env x v] items.reverse;pure Flow.next) _ _ _
 refine wpAny_bind (wpAny_rule (wpAny_bind (unpackItems_tuple (items:=#[u1,u2]) (I.ok.hd hc) (IsTup.new s1.heap _) fun h' hx'=>?_)))
 have I3:=I2.kept (h':=h') (t':=s1.toks) fun b o e=>hx' b o (Nat.ne_of_lt (Heap.lt_size e)) e
 show wpAny _ _ (assignInOrder [fun v=>bindName X.env y v,fun v=>bindName X.env x v] [u2,u1] >>= fun _=>pure Flow.next) _ _ _
 refine wpAny_bind (assignInOrder_cons (wpAny_bindName (store_ok I3 hN hj (.inl hy) rw' (fun s2 I4=>?_) (.inr hy))))
 refine assignInOrder_cons (wpAny_bindName (store_ok I4 hN hi (.inl hx) rv (fun s3 I5=>assignInOrder_nil (wpAny_pure ?_)) (.inr hx)))
 rw[List.set_comm _ _ (Ne.symm hij)] at I5
 exact⟨_,H1,I5,q1⟩
end
section
variable {X:Cx} {pos:Pos}
/-- the invariant W with its measure -/
def tWhile (c:TT) (tb:TS):TS:=fun D σ H=>∃ W:Nat->St->Hp->Prop,(∃ m,W m σ H)∧∀ m σ H,W m σ H ->
 c σ H fun b H1=>if b=true then ∃ N:St->Hp->Prop,(∀ σ' H',N σ' H'->∃ m',m' < m∧W m' σ' H')∧tb { D with nx:=N,ct:=N,bk:=D.nx } σ H1 else D.nx σ H1
theorem ps_while {c:Expr} {body:List Stmt} {tc:TT} {tb:TS} (hp:PassesOwn (model X.prog X.w) X.A X.env X.xe) (hc:PT X c tc) (hb:PSs X body tb):PS X (.While c body [] pos) (tWhile tc tb):=by
 intro pins s σ H D I h
 obtain⟨W,⟨m0,w0⟩,turn⟩:=h
 refine wpAny_While (codeAny_whileLoop (fun n s'=>∃ σ' H',Inv X pins σ' H' s'∧W n σ' H') ?_ m0 ⟨σ,H,I,w0⟩)
 rintro n s1 ⟨σ1,H1,I1,w1⟩
 refine wpAny_passesOwn hp (thn (hc pins s1 σ1 H1 _ I1 (turn n σ1 H1 w1)) fun b s2 ⟨H2,I2,q2⟩=>?_)
 cases b with
 | true =>
  obtain⟨N,hN,q2⟩:=q2
  rw[if_pos rfl]
  refine wpAny_passesOwn hp (thn (hb pins s2 σ1 H2 _ I2 q2) fun f s3 q3=>?_)
  cases f with
  | next =>
   obtain⟨σ3,H3,I3,n3⟩:=q3
   obtain⟨m',hm,w3⟩:=hN σ3 H3 n3
   exact⟨m',hm,σ3,H3,I3,w3⟩
  | cont =>
   obtain⟨σ3,H3,I3,n3⟩:=q3
   obtain⟨m',hm,w3⟩:=hN σ3 H3 n3
   exact⟨m',hm,σ3,H3,I3,w3⟩
  | brk=>exact q3
  | ret v=>exact q3
 | false =>
  rw[if_neg Bool.false_ne_true]
  exact wpAny_execs_nil ⟨σ1,H2,I2,q2⟩
end
/-- at turn i: it yields x (the heap may grow), or it stops -/
structure It where
 go:Nat->Hp->Prop
 yld:Nat->Hp->V->Hp->Prop
 stop:Nat->Hp->Prop
/-- the iterator's own objects may turn: they are not the frame's, not pinned, younger than the entry (or a comprehension's own) -/
def FpOk (X:Cx) (pins:List (Addr × Obj)) (H:Hp) (b:Addr):Prop :=
 H b=none∧b≠X.env.locals∧b ∉ X.fs∧(b ∈ X.ex∨X.s₀.heap.objs.size≤b)∧(∀ x c,X.env.cells.lookup x=some c->c≠b)∧∀ p ∈ X.pn++pins,p.1≠b
theorem Inv.fpOk {X:Cx} {pins:List (Addr × Obj)} {σ:St} {H H':Hp} {s:Shared} {b:Addr} (I:Inv X pins σ H s) (hb:s.heap.objs.size≤b) (hn:H' b=none):FpOk X pins H' b:=by
 refine⟨hn,Nat.ne_of_gt (Nat.lt_of_lt_of_le I.lt hb),I.nofs hb,.inr (Nat.le_trans I.sz hb),fun x c e z=>?_,fun p hp z=>?_⟩
 ·obtain⟨v,q⟩:=I.cell x c e
  exact absurd (Nat.lt_of_lt_of_le q.lt (by rw[z];exact hb)) (Nat.lt_irrefl _)
 ·exact absurd (Nat.lt_of_lt_of_le (Heap.lt_size (I.pin p hp).1) (by rw[z];exact hb)) (Nat.lt_irrefl _)
structure Turn (P:Program) (w:World) (K:PySem.W.Frag) (tg:Expr) (J:It) (fp:List Addr) (it:Addr) (tn:Nat->Heap->Prop):Prop where
 mem:it ∈ fp
 obj:∀ i h,tn i h->∀ b ∈ fp,∃ o,h.get? b=some o∧∀ v,o.data≠.cell v
 keep:∀ i h h',tn i h->(∀ b ∈ fp,∀ o,h.get? b=some o->h'.get? b=some o)->tn i h'
 item:∀ (X:Cx),X.prog=P->X.w=w->X.K=K->X.calm=true->∀ (i:Nat) (pins:List (Addr × Obj)) (s:Shared) (σ:St) (H:Hp) (E:Value->Shared->Prop),Inv X pins σ H s->(∀ b ∈ fp,FpOk X pins H b)->tn i s.heap->J.go i H ->
  wpAny (model P w) X.A (pyNext (.ref it)) (fun r s1=>∃ u,r=some u ∧
   wpAny (model P w) X.A (letOwnedTupleGo tg (.ref it) u) (fun _ s2=>∃ x H',Inv X pins σ H' s2∧RelV x u∧J.yld i H x H'∧tn (i + 1) s2.heap∧∀ b ∈ fp,H' b=none) E s1) E s
 done:∀ (X:Cx),X.prog=P->X.w=w->X.K=K->X.calm=true->∀ (i:Nat) (pins:List (Addr × Obj)) (s:Shared) (σ:St) (H:Hp) (E:Value->Shared->Prop),Inv X pins σ H s->(∀ b ∈ fp,FpOk X pins H b)->tn i s.heap->J.stop i H ->
  wpAny (model P w) X.A (pyNext (.ref it)) (fun r s1=>r=none∧Inv X pins σ H s1) E s
 self:∀ (A:Around) (i:Nat) (s:Shared) (Q:Value->Shared->Prop) (E:Value->Shared->Prop),tn i s.heap->Q (.ref it) s->wpAny (model P w) A (pyIter (.ref it)) Q E s
abbrev TI:=St->Hp->(It->Hp->Prop)->Prop
/-- an iterator has come -/
def PIE (X:Cx) (pins:List (Addr × Obj)) (σ:St) (tg:Expr) (R:It->Hp->Prop) (itv:Value) (s2:Shared):Prop :=
 ∃ (it:Addr) (fp:List Addr) (tn:Nat->Heap->Prop) (J:It) (H':Hp),itv=.ref it∧Inv X pins σ H' s2∧Turn X.prog X.w X.K tg J fp it tn∧tn 0 s2.heap∧(∀ b ∈ fp,FpOk X pins H' b)∧R J H'
def PI (X:Cx) (tg iter:Expr) (wi:TI):Prop :=
 ∀ (pins:List (Addr × Obj)) (s:Shared) (σ:St) (H:Hp) (R:It->Hp->Prop),Inv X pins σ H s->wi σ H R ->
  wpAny (model X.prog X.w) X.A (eval iter X.env) (fun v s1=>wpAny (model X.prog X.w) X.A (pyIter v) (PIE X pins σ tg R) X.xe s1) X.xe s
/-- the step ahead of the store is nothing for an iterator that keeps no tuple -/
theorem go_of {M:Model} {A:Around} {E:Value->Shared->Prop} {s:Shared} {tg:Expr} {it:Addr} {u:Value} {o:Obj} {n:String} {vs:Array Value} {Q:Unit->Shared->Prop} (ho:s.heap.get? it=some o) (hc:o.cls=.type n) (hd:o.data=.fields vs)
  (hn:["enumerate","zip","dict_itemiterator","dict_reverseitemiterator","odict_iterator","itertools.zip_longest","itertools.pairwise"].contains n=false) (hQ:Q () s):wpAny M A (letOwnedTupleGo tg (.ref it) u) Q E s:=by
 unfold letOwnedTupleGo
 cases tg <;> first
  | exact wpAny_pure hQ
  | (cases u <;> first
      | exact wpAny_pure hQ
      | (refine wpAny_bind (wpAny_load ho ?_)
         rw[hc,hd]
         show wpAny M A (if (["enumerate","zip","dict_itemiterator","dict_reverseitemiterator","odict_iterator","itertools.zip_longest","itertools.pairwise"].contains n && vs[0]? == some (rawInt _))=true then _ else _) Q E s
         rw[if_neg (by intro h;rw[hn,Bool.false_and] at h;cases h)]
         exact wpAny_pure hQ))
/-- the list at a, as it stands at each turn (a loop may append to it) -/
def Itl (K:PySem.W.Frag) (a:Addr):It :=
 ⟨fun i H=>∃ xs x,SqL K H a xs∧xs[i]?=some x,fun i H x H'=>H'=H∧∀ xs,SqL K H a xs->xs[i]?=some x,fun i H=>∃ xs,SqL K H a xs∧xs.length≤i⟩
def Itt (K:PySem.W.Frag) (a:Addr):It :=
 ⟨fun i H=>∃ xs x,SqT K H a xs∧xs[i]?=some x,fun i H x H'=>H'=H∧∀ xs,SqT K H a xs->xs[i]?=some x,fun i H=>∃ xs,SqT K H a xs∧xs.length≤i⟩
/-- lo, lo + 1, .. (n of them) -/
def Itr (lo:Int) (n:Nat):It:=⟨fun i _=>i < n,fun i H x H'=>H'=H∧x=.int (lo + i),fun i _=>n≤i⟩
theorem turn_list {P:Program} {w:World} {K:PySem.W.Frag} {tg:Expr} (a it:Addr):Turn P w K tg (Itl K a) [it] it (fun i h=>h.IsListIter it a i) where
 mem:=by simp
 obj:=fun i h st b hb=>by
  have e:b=it:=by simpa using hb
  subst e
  obtain⟨o,e,c,d⟩:=st
  exact⟨o,e,fun v z=>by rw[d] at z;cases z⟩
 keep:=fun i h h' st k=>st.at fun o e=>k it (by simp) o e
 item:=by
  intro X hP hw hK hc i pins s σ H E I hf st hg
  subst hP hw hK
  obtain⟨xs,x,hq,hx⟩:=hg
  obtain⟨its,rv,p,hz⟩:=I.list hq
  obtain⟨u,hu,ru⟩:=rv.get hx
  obtain⟨f0,f1,f2,f3,f4,f5⟩:=hf it (by simp)
  refine wpAny_pyNext_list_item st p.isList (x:=u) (by simpa using hu) fun h' st' sb=>?_
  have I1:Inv X pins σ H { s with heap:=h' }:=I.turned (t':=s.toks) (fun b o hb e=>(sb.2 b hb).trans e) f0 f1 f3 f4 f5
  obtain⟨o,e,c,d⟩:=id st'
  exact⟨u,rfl,go_of (s:={ s with heap:=h' }) e c d (by decide) ⟨x,H,I1,ru,⟨rfl,fun ys hy=>by rw[I.list_inj hy hq];exact hx⟩,st',fun b hb=>(hf b hb).1⟩⟩
 done:=by
  intro X hP hw hK hc i pins s σ H E I hf st hg
  subst hP hw hK
  obtain⟨xs,hq,hx⟩:=hg
  obtain⟨its,rv,p,hz⟩:=I.list hq
  obtain⟨f0,f1,f2,f3,f4,f5⟩:=hf it (by simp)
  have hl:=rv.length
  exact wpAny_pyNext_list_end (I.ok.hd hc) st p.isList (by simp;omega) fun h' eb=>⟨rfl,I.turned (t':=s.toks) (fun b o hb e=>eb b o hb e) f0 f1 f3 f4 f5⟩
 self:=fun _ _ _ _ _ st h=>wpAny_pyIter_listiter st h
theorem turn_tuple {P:Program} {w:World} {K:PySem.W.Frag} {tg:Expr} (a it:Addr):Turn P w K tg (Itt K a) [it] it (fun i h=>h.IsTupleIter it a i) where
 mem:=by simp
 obj:=fun i h st b hb=>by
  have e:b=it:=by simpa using hb
  subst e
  obtain⟨o,e,c,d⟩:=st
  exact⟨o,e,fun v z=>by rw[d] at z;cases z⟩
 keep:=fun i h h' st k=>st.at fun o e=>k it (by simp) o e
 item:=by
  intro X hP hw hK hc i pins s σ H E I hf st hg
  subst hP hw hK
  obtain⟨xs,x,hq,hx⟩:=hg
  obtain⟨its,rv,p,hz⟩:=I.tuple hq
  obtain⟨u,hu,ru⟩:=rv.get hx
  obtain⟨f0,f1,f2,f3,f4,f5⟩:=hf it (by simp)
  refine wpAny_pyNext_tuple_item st (show s.heap.IsTuple a its.toArray from p) (x:=u) (by simpa using hu) fun h' st' sb=>?_
  have I1:Inv X pins σ H { s with heap:=h' }:=I.turned (t':=s.toks) (fun b o hb e=>(sb.2 b hb).trans e) f0 f1 f3 f4 f5
  obtain⟨o,e,c,d⟩:=id st'
  exact⟨u,rfl,go_of (s:={ s with heap:=h' }) e c d (by decide) ⟨x,H,I1,ru,⟨rfl,fun ys hy=>by rw[I.tuple_inj hy hq];exact hx⟩,st',fun b hb=>(hf b hb).1⟩⟩
 done:=by
  intro X hP hw hK hc i pins s σ H E I hf st hg
  subst hP hw hK
  obtain⟨xs,hq,hx⟩:=hg
  obtain⟨its,rv,p,hz⟩:=I.tuple hq
  obtain⟨f0,f1,f2,f3,f4,f5⟩:=hf it (by simp)
  have hl:=rv.length
  exact wpAny_pyNext_tuple_end (I.ok.hd hc) st (show s.heap.IsTuple a its.toArray from p) (by simp;omega) fun h' eb=>⟨rfl,I.turned (t':=s.toks) (fun b o hb e=>eb b o hb e) f0 f1 f3 f4 f5⟩
 self:=fun _ _ _ _ _ st h=>wpAny_pyIter_tupleiter st h
theorem turn_range {P:Program} {w:World} {K:PySem.W.Frag} {tg:Expr} (it:Addr) (lo:Int) (n:Nat):Turn P w K tg (Itr lo n) [it] it (fun i h=>IsRangeIter h it (lo + (i:Nat) * 1) ((n:Int) - (i:Nat)) 1) where
 mem:=by simp
 obj:=fun i h st b hb=>by
  have e:b=it:=by simpa using hb
  subst e
  exact⟨_,st,fun v z=>by
   have z':Data.fields _=Data.cell v:=z
   cases z'⟩
 keep:=fun i h h' st k=>k it (by simp) _ st
 item:=by
  intro X hP hw hK hc i pins s σ H E I hf st hg
  subst hP hw hK
  obtain⟨f0,f1,f2,f3,f4,f5⟩:=hf it (by simp)
  have W:=Walks.range (prog:=X.prog) (w:=X.w) (I.ok.hd hc) it lo 1 n
  refine W.item i s _ _ hg st fun v h' tk hv st' kk=>?_
  obtain⟨t,rfl⟩:=hv
  have I1:Inv X pins σ H { s with heap:=h',toks:=tk }:=I.turned (fun b o hb e=>kk b o (by simpa using hb) e) f0 f1 f3 f4 f5
  refine⟨_,rfl,go_of (s:={ s with heap:=h',toks:=tk }) (n:="range_iterator") st' rfl rfl (by decide) ⟨.int (lo + i),H,I1,⟨t,?_⟩,⟨rfl,rfl⟩,st',fun b hb=>(hf b hb).1⟩⟩
  rw[Int.mul_one]
 done:=by
  intro X hP hw hK hc i pins s σ H E I hf st hg
  subst hP hw hK
  obtain⟨f0,f1,f2,f3,f4,f5⟩:=hf it (by simp)
  exact wpAny_pyNext_range_end (I.ok.hd hc) st (by have:n≤i:=hg;omega) fun h' eb=>⟨rfl,I.turned (t':=s.toks) (fun b o hb e=>eb b o hb e) f0 f1 f3 f4 f5⟩
 self:=fun _ _ _ _ _ st h=>wpAny_pyIter_rangeiter st h
end L2
namespace L2
open PySem PySem.Spec PyProof.Rows
section
variable {X:Cx} {tg:Expr}
def iList (K:PySem.W.Frag) (tl:TE):TI:=fun σ H R=>tl σ H fun x H1=>∃ a,x=.ref a∧(∃ xs,SqL K H1 a xs)∧R (Itl K a) H1
def iTup (K:PySem.W.Frag) (tl:TE):TI:=fun σ H R=>tl σ H fun x H1=>∃ a,x=.ref a∧(∃ xs,SqT K H1 a xs)∧R (Itt K a) H1
theorem pi_list {l:Expr} {tl:TE} (hl:PE X l tl):PI X tg l (iList X.K tl):=by
 intro pins s σ H R I h
 refine thn (hl pins s σ H _ I h) fun v s1 ⟨x,H1,I1,r1,q1⟩=>?_
 obtain⟨a,e,⟨xs,hq⟩,q⟩:=q1
 subst e
 cases r1
 obtain⟨its,rv,p,hz⟩:=I1.list hq
 refine wpAny_pyIter_list p.isList ?_
 refine⟨s1.heap.objs.size,[s1.heap.objs.size],_,_,H1,rfl,I1.kept (t':=s1.toks) fun b o e=>Heap.get?_push_of_some _ e,turn_list a _,⟨_,Heap.get?_push_size _ rfl,rfl,rfl⟩,fun b hb=>?_,q⟩
 have e:b=s1.heap.objs.size:=by simpa using hb
 subst e
 exact I1.fpOk (Nat.le_refl _) (I1.hok.fresh (Nat.le_refl _))
theorem pi_tup {l:Expr} {tl:TE} (hl:PE X l tl):PI X tg l (iTup X.K tl):=by
 intro pins s σ H R I h
 refine thn (hl pins s σ H _ I h) fun v s1 ⟨x,H1,I1,r1,q1⟩=>?_
 obtain⟨a,e,⟨xs,hq⟩,q⟩:=q1
 subst e
 cases r1
 obtain⟨its,rv,p,hz⟩:=I1.tuple hq
 refine wpAny_pyIter_tuple (show s1.heap.IsTuple a its.toArray from p) ?_
 refine⟨s1.heap.objs.size,[s1.heap.objs.size],_,_,H1,rfl,I1.kept (t':=s1.toks) fun b o e=>Heap.get?_push_of_some _ e,turn_tuple a _,⟨_,Heap.get?_push_size _ rfl,rfl,rfl⟩,fun b hb=>?_,q⟩
 have e:b=s1.heap.objs.size:=by simpa using hb
 subst e
 exact I1.fpOk (Nat.le_refl _) (I1.hok.fresh (Nat.le_refl _))
/-- a range object just made, walked -/
theorem range_it {pins:List (Addr × Obj)} {σ:St} {H:Hp} {s:Shared} {R:It->Hp->Prop} {E:Value->Shared->Prop} {lo hi:Int} {t u v:Tok} {tk:Nat} (I:Inv X pins σ H s) (h1:-(2 ^ 62)≤lo) (h2:lo < 2 ^ 62) (h3:-(2 ^ 62)≤hi) (h4:hi < 2 ^ 62)
  (q:R (Itr lo (hi - lo).toNat) H):wpAny (model X.prog X.w) X.A (pyIter (.ref s.heap.objs.size)) (PIE X pins σ tg R) E { s with heap:=s.heap.push { cls:=.type "range",data:=.fields #[.int lo t,.int hi u,.int 1 v] },toks:=tk }:=by
 refine wpAny_pyIter_range (IsRange.new ..) (small_one h1 h2 h3 h4) ?_
 have I1:Inv X pins σ H { s with heap:=s.heap.push { cls:=.type "range",data:=.fields #[.int lo t,.int hi u,.int 1 v] },toks:=tk }:=I.kept fun b o e=>Heap.get?_push_of_some _ e
 refine⟨(s.heap.push { cls:=.type "range",data:=.fields #[.int lo t,.int hi u,.int 1 v] }).objs.size,[(s.heap.push { cls:=.type "range",data:=.fields #[.int lo t,.int hi u,.int 1 v] }).objs.size],_,_,H,rfl,
  I1.kept (t':=tk) fun b o e=>Heap.get?_push_of_some _ e,turn_range _ lo (hi - lo).toNat,?_,fun b hb=>?_,q⟩
 ·have e1:lo + ((0:Nat):Int) * 1=lo:=by simp
  have e2:(((hi - lo).toNat:Nat):Int) - ((0:Nat):Int)=Builtin.Range.rangeSize lo hi 1:=by rw[rangeSize_one];split <;> omega
  show IsRangeIter _ _ (lo + ((0:Nat):Int) * 1) ((((hi - lo).toNat:Nat):Int) - ((0:Nat):Int)) 1
  rw[e1,e2]
  exact Heap.get?_push_size _ rfl
 ·have e:b=(s.heap.push { cls:=.type "range",data:=.fields #[.int lo t,.int hi u,.int 1 v] }).objs.size:=by simpa using hb
  subst e
  exact I1.fpOk (Nat.le_refl _) (I1.hok.fresh (Nat.le_refl _))
def iRng1 (ta:TA):TI:=fun σ H R=>ta σ H fun vs H1=>∃ j:Int,vs=[.int j]∧-(2 ^ 62)≤j∧j < 2 ^ 62∧R (Itr 0 j.toNat) H1
theorem pi_range1 {a:Expr} {ta:TA} {p pos:Pos} (hg:Gl X "range") (hm:X.mg "range"=none) (ha:PA X [a] ta) (hs:starEach [a] X.env=[(false,eval a X.env)]:=by rfl):PI X tg (.Call (.Name "range" p) [a] [] pos) (iRng1 ta):=by
 intro pins s σ H R I h
 refine Call_ (ld_blt I hg hm boot_range (PyProof.Rows.callWith_type1 (thn (ha pos pins s σ H _ I h) fun us s1 ⟨vs,H1,I1,r1,q1⟩=>?_) hs rfl))
 obtain⟨j,e,q1,q2,q⟩:=q1
 subst e
 cases r1 with
 | cons r rr =>
  cases rr
  obtain⟨t,rfl⟩:=r
  exact call_range_1 (range_it I1 (by omega) (by omega) q1 q2 (by simpa using q))
/-- W: the invariant by the turn and a measure; N: what the body is to reach -/
def tFor (wi:TI) (g:TG) (tb:TS):TS:=fun D σ H=>wi σ H fun J H1=>∃ W:Nat->Nat->St->Hp->Prop,(∃ m,W 0 m σ H1)∧∀ i m σ H,W i m σ H ->
 (J.stop i H∧D.nx σ H)∨(J.go i H∧∃ N:St->Hp->Prop,(∀ σ' H',N σ' H'->∃ m',m' < m∧W (i + 1) m' σ' H')∧∀ x H',J.yld i H x H'->g x σ H' fun σ2 H2=>tb { D with nx:=N,ct:=N,bk:=D.nx } σ2 H2)
/-- the records at fp as they stand -/
def pinsAt (fp:List Addr) (h:Heap):List (Addr × Obj):=fp.filterMap fun b=>(h.get? b).map fun o=>(b,o)
theorem mem_pinsAt {fp:List Addr} {h:Heap} {b:Addr} {o:Obj} (hb:b ∈ fp) (e:h.get? b=some o):(b,o) ∈ pinsAt fp h:=List.mem_filterMap.mpr ⟨b,hb,by rw[e];rfl⟩
theorem of_pinsAt {fp:List Addr} {h:Heap} {p:Addr × Obj} (hp:p ∈ pinsAt fp h):p.1 ∈ fp∧h.get? p.1=some p.2:=by
 obtain⟨b,hb,e⟩:=List.mem_filterMap.mp hp
 cases q:h.get? b with
 | none=>rw[q] at e;cases e
 | some o =>
  rw[q] at e
  have e':(b,o)=p:=Option.some.inj e
  subst e'
  exact⟨hb,q⟩
theorem Inv.pinned {pins:List (Addr × Obj)} {σ:St} {H:Hp} {s:Shared} {fp:List Addr} (I:Inv X pins σ H s) (hf:∀ b ∈ fp,FpOk X pins H b) (ho:∀ b ∈ fp,∃ o,s.heap.get? b=some o∧∀ v,o.data≠.cell v):Inv X (pins++pinsAt fp s.heap) σ H s :=
 I.pins_of fun p hp=>(List.mem_append.mp hp).elim (fun z=>I.pin p (List.mem_append_right _ z)) fun z=>by
  obtain⟨hb,e⟩:=of_pinsAt z
  obtain⟨f0,f1,f2,_⟩:=hf p.1 hb
  obtain⟨o,e',d⟩:=ho p.1 hb
  rw[e] at e';cases e'
  exact⟨e,f0,f1,f2,d⟩
theorem Inv.unpinned {pins pl:List (Addr × Obj)} {σ:St} {H:Hp} {s:Shared} (I:Inv X (pins++pl) σ H s):Inv X pins σ H s:=I.pins_of fun p hp=>I.pin p (List.mem_append_right _ (List.mem_append_left _ hp))
theorem ps_for {iter:Expr} {body:List Stmt} {wi:TI} {g:TG} {tb:TS} {pos:Pos} (hp:PassesOwn (model X.prog X.w) X.A X.env X.xe) (hc:X.calm=true) (hi:PI X tg iter wi) (hg:PG X tg g) (hb:PSs X body tb)
  (hs:∀ x,foldedSetIterable iter X.env x=pure x:=by intro _;rfl):PS X (.For tg iter body [] pos) (tFor wi g tb):=by
 intro pins s σ H D I h
 refine wpAny_For (thn (hi pins s σ H _ I h) fun v s1 h1=>thn h1 fun itv s2 h2=>?_) hs
 obtain⟨it,fp,tn,J,H2,e,I2,T,st2,f2,W,⟨m0,w0⟩,turn⟩:=h2
 subst e
  -- what stays true of the iterator's objects through the loop
 have stat:∀ {H':Hp},(∀ b ∈ fp,H' b=none)->∀ b ∈ fp,FpOk X pins H' b:=fun hn b hb=>⟨hn b hb,(f2 b hb).2⟩
 refine codeAny_forLoop_any (fun n s'=>∃ i σ' H',Inv X pins σ' H' s'∧tn i s'.heap∧(∀ b ∈ fp,H' b=none)∧W i n σ' H') ?_ m0 ⟨0,σ,H2,I2,st2,fun b hb=>(f2 b hb).1,w0⟩
 rintro n s3 ⟨i,σ3,H3,I3,st3,fr3,w3⟩
 rcases turn i n σ3 H3 w3 with ⟨stop,qn⟩ | ⟨go,N,hN,step⟩
 ·refine wpAny_passesOwn hp (thn (T.done X rfl rfl rfl hc i pins s3 σ3 H3 X.xe I3 (stat fr3) st3 stop) fun r s4 ⟨hr,I4⟩=>?_)
  subst hr
  exact wpAny_execs_nil ⟨σ3,H3,I4,qn⟩
 ·refine wpAny_passesOwn hp (thn (T.item X rfl rfl rfl hc i pins s3 σ3 H3 X.xe I3 (stat fr3) st3 go) fun r s4 ⟨u,hr,h4⟩=>?_)
  subst hr
  refine wpAny_passesOwn hp (thn h4 fun _ s5 ⟨x,H5,I5,r5,y5,st5,fr5⟩=>?_)
  have I5':=I5.pinned (stat fr5) (T.obj _ _ st5)
  refine wpAny_passesOwn hp (thn (hg _ s5 σ3 H5 x u _ I5' r5 (step x H5 y5)) fun _ s6 ⟨σ6,H6,I6,q6⟩=>?_)
  refine wpAny_passesOwn hp (thn (hb _ s6 σ6 H6 _ I6 q6) fun f s7 q7=>?_)
  have again:∀ {σ7:St} {H7:Hp},Inv X (pins++pinsAt fp s5.heap) σ7 H7 s7->N σ7 H7->∃ m,m < n∧∃ i σ' H',Inv X pins σ' H' s7∧tn i s7.heap∧(∀ b ∈ fp,H' b=none)∧W i m σ' H':=fun {σ7 H7} I7 n7=>by
   obtain⟨m',hm,w7⟩:=hN σ7 H7 n7
   refine⟨m',hm,i + 1,σ7,H7,I7.unpinned,T.keep _ _ _ st5 fun b hb o e=>(I7.pin (b,o) (List.mem_append_right _ (List.mem_append_right _ (mem_pinsAt hb e)))).1,fun b hb=>?_,w7⟩
   obtain⟨o,e,d⟩:=T.obj _ _ st5 b hb
   exact (I7.pin (b,o) (List.mem_append_right _ (List.mem_append_right _ (mem_pinsAt hb e)))).2.1
  cases f with
  | next=>obtain⟨σ7,H7,I7,n7⟩:=q7;exact again I7 n7
  | cont=>obtain⟨σ7,H7,I7,n7⟩:=q7;exact again I7 n7
  | brk=>obtain⟨σ7,H7,I7,q7⟩:=q7;exact⟨σ7,H7,I7.unpinned,q7⟩
  | ret v=>obtain⟨x7,σ7,H7,I7,r7,q7⟩:=q7;exact⟨x7,σ7,H7,I7.unpinned,r7,q7⟩
end
/-- over a list that the body leaves as it is -/
theorem for_list {K:PySem.W.Frag} {a:Addr} {xs:List V} {g:TG} {tb:TS} {D:Ends} {σ:St} {H:Hp} (Pv:Nat->St->Hp->Prop) (h0:Pv 0 σ H) (hl:∀ i σ H,i≤xs.length->Pv i σ H->SqL K H a xs)
  (hs:∀ i x σ H,xs[i]?=some x->Pv i σ H->g x σ H fun σ2 H2=>tb { D with nx:=Pv (i + 1),ct:=Pv (i + 1),bk:=D.nx } σ2 H2) (hd:∀ σ H,Pv xs.length σ H->D.nx σ H) :
  ∃ W:Nat->Nat->St->Hp->Prop,(∃ m,W 0 m σ H)∧∀ i m σ H,W i m σ H ->
   ((Itl K a).stop i H∧D.nx σ H)∨((Itl K a).go i H∧∃ N:St->Hp->Prop,(∀ σ' H',N σ' H'->∃ m',m' < m∧W (i + 1) m' σ' H')∧∀ x H',(Itl K a).yld i H x H'->g x σ H' fun σ2 H2=>tb { D with nx:=N,ct:=N,bk:=D.nx } σ2 H2):=by
 refine⟨fun i m σ H=>m=xs.length - i∧i≤xs.length∧Pv i σ H,⟨xs.length,by simp,Nat.zero_le _,h0⟩,?_⟩
 rintro i m σ H ⟨rfl,hi,p⟩
 have q:=hl i σ H hi p
 by_cases hlt:i < xs.length
 ·refine .inr ⟨⟨xs,xs[i],q,by simp [hlt]⟩,Pv (i + 1),fun σ' H' p'=>⟨xs.length - (i + 1),by omega,rfl,hlt,p'⟩,fun x H' y=>?_⟩
  obtain⟨e,y⟩:=y
  subst e
  exact hs i x σ _ (y xs q) p
 ·have e:i=xs.length:=by omega
  subst e
  exact .inl ⟨⟨xs,q,Nat.le_refl _⟩,hd σ H p⟩
theorem for_tup {K:PySem.W.Frag} {a:Addr} {xs:List V} {g:TG} {tb:TS} {D:Ends} {σ:St} {H:Hp} (Pv:Nat->St->Hp->Prop) (h0:Pv 0 σ H) (hl:∀ i σ H,i≤xs.length->Pv i σ H->SqT K H a xs)
  (hs:∀ i x σ H,xs[i]?=some x->Pv i σ H->g x σ H fun σ2 H2=>tb { D with nx:=Pv (i + 1),ct:=Pv (i + 1),bk:=D.nx } σ2 H2) (hd:∀ σ H,Pv xs.length σ H->D.nx σ H) :
  ∃ W:Nat->Nat->St->Hp->Prop,(∃ m,W 0 m σ H)∧∀ i m σ H,W i m σ H ->
   ((Itt K a).stop i H∧D.nx σ H)∨((Itt K a).go i H∧∃ N:St->Hp->Prop,(∀ σ' H',N σ' H'->∃ m',m' < m∧W (i + 1) m' σ' H')∧∀ x H',(Itt K a).yld i H x H'->g x σ H' fun σ2 H2=>tb { D with nx:=N,ct:=N,bk:=D.nx } σ2 H2):=by
 refine⟨fun i m σ H=>m=xs.length - i∧i≤xs.length∧Pv i σ H,⟨xs.length,by simp,Nat.zero_le _,h0⟩,?_⟩
 rintro i m σ H ⟨rfl,hi,p⟩
 have q:=hl i σ H hi p
 by_cases hlt:i < xs.length
 ·refine .inr ⟨⟨xs,xs[i],q,by simp [hlt]⟩,Pv (i + 1),fun σ' H' p'=>⟨xs.length - (i + 1),by omega,rfl,hlt,p'⟩,fun x H' y=>?_⟩
  obtain⟨e,y⟩:=y
  subst e
  exact hs i x σ _ (y xs q) p
 ·have e:i=xs.length:=by omega
  subst e
  exact .inl ⟨⟨xs,q,Nat.le_refl _⟩,hd σ H p⟩
theorem for_range {lo:Int} {n:Nat} {g:TG} {tb:TS} {D:Ends} {σ:St} {H:Hp} (Pv:Nat->St->Hp->Prop) (h0:Pv 0 σ H)
  (hs:∀ i σ H,i < n->Pv i σ H->g (.int (lo + i)) σ H fun σ2 H2=>tb { D with nx:=Pv (i + 1),ct:=Pv (i + 1),bk:=D.nx } σ2 H2) (hd:∀ σ H,Pv n σ H->D.nx σ H) :
  ∃ W:Nat->Nat->St->Hp->Prop,(∃ m,W 0 m σ H)∧∀ i m σ H,W i m σ H ->
   ((Itr lo n).stop i H∧D.nx σ H)∨((Itr lo n).go i H∧∃ N:St->Hp->Prop,(∀ σ' H',N σ' H'->∃ m',m' < m∧W (i + 1) m' σ' H')∧∀ x H',(Itr lo n).yld i H x H'->g x σ H' fun σ2 H2=>tb { D with nx:=N,ct:=N,bk:=D.nx } σ2 H2):=by
 refine⟨fun i m σ H=>m=n - i∧i≤n∧Pv i σ H,⟨n,by simp,Nat.zero_le _,h0⟩,?_⟩
 rintro i m σ H ⟨rfl,hi,p⟩
 by_cases hlt:i < n
 ·refine .inr ⟨hlt,Pv (i + 1),fun σ' H' p'=>⟨n - (i + 1),by omega,rfl,hlt,p'⟩,fun x H' y=>?_⟩
  obtain⟨e,y⟩:=y
  subst e y
  exact hs i σ _ hlt p
 ·have e:i=n:=by omega
  subst e
  exact .inl ⟨Nat.le_refl _,hd σ H p⟩
end L2
namespace L2
open PySem PySem.Spec PyProof.Rows
abbrev R2:=V->V->Hp->VK->Prop
/-- a two-place operation on values: f is binaryOp op, inplaceOp op or compareOp op -/
def OpR (X:Cx) (f:Value->Value->Sem Value) (r:R2):Prop :=
 ∀ (pins:List (Addr × Obj)) (s:Shared) (σ:St) (H:Hp) (x y:V) (v u:Value) (Q:VK),Inv X pins σ H s->RelV x v->RelV y u->r x y H Q ->
  wpAny (model X.prog X.w) X.A (f v u) (EP X pins σ Q) X.xe s
/-- a one-place operation -/
def UnR (X:Cx) (f:Value->Sem Value) (r:V->Hp->VK->Prop):Prop :=
 ∀ (pins:List (Addr × Obj)) (s:Shared) (σ:St) (H:Hp) (x:V) (v:Value) (Q:VK),Inv X pins σ H s->RelV x v->r x H Q ->
  wpAny (model X.prog X.w) X.A (f v) (EP X pins σ Q) X.xe s
/-- a call of a value that is known (a builtin, a type) with values -/
def CallR (X:Cx) (f:Value) (r:List V->Hp->VK->Prop):Prop :=
 ∀ (pins:List (Addr × Obj)) (s:Shared) (σ:St) (H:Hp) (xs:List V) (us:List Value) (Q:VK),Inv X pins σ H s->Vals xs us->r xs H Q ->
  wpAny (model X.prog X.w) X.A (call f us) (EP X pins σ Q) X.xe s
def tOp (r:R2) (ta tb:TE):TE:=fun σ H Q=>ta σ H fun x H1=>tb σ H1 fun y H2=>r x y H2 Q
def tUn (r:V->Hp->VK->Prop) (ta:TE):TE:=fun σ H Q=>ta σ H fun x H1=>r x H1 Q
/-- ints in, under C, and a value out -/
def rI (C:Int->Int->Prop) (g:Int->Int->V):R2:=fun x y H Q=>∃ i j,x=.int i∧y=.int j∧C i j∧Q (g i j) H
def rI0 (g:Int->Int->V):R2:=fun x y H Q=>∃ i j,x=.int i∧y=.int j∧Q (g i j) H
def rU (g:Int->V):V->Hp->VK->Prop:=fun x H Q=>∃ i,x=.int i∧Q (g i) H
section
variable {X:Cx} {a b c:Expr} {ta tb tc:TE} {pos:Pos}
theorem binT (ha:PE X a ta) (hb:PE X b tb) {pins:List (Addr × Obj)} {s:Shared} {σ:St} {H:Hp} {R:V->V->Hp->Prop} (I:Inv X pins σ H s)
  (h:ta σ H fun x H1=>tb σ H1 fun y H2=>R x y H2) {Q:Value->Shared->Prop} {f:Value->Value->Sem Value}
  (hf:∀ v u s2 x y H2,Inv X pins σ H2 s2->RelV x v->RelV y u->R x y H2->wpAny (model X.prog X.w) X.A (f v u) Q X.xe s2) :
  wpAny (model X.prog X.w) X.A (eval a X.env) (fun v s₁=>wpAny (model X.prog X.w) X.A (eval b X.env) (fun u s₂=>wpAny (model X.prog X.w) X.A (f v u) Q X.xe s₂) X.xe s₁) X.xe s:=by
 refine thn (ha pins s σ H _ I h) fun v s1 ⟨x,H1,I1,r1,q1⟩=>?_
 refine thn (hb pins s1 σ H1 _ I1 q1) fun u s2 ⟨y,H2,I2,r2,q2⟩=>?_
 exact hf v u s2 x y H2 I2 r1 r2 q2
theorem pe_op {op:Operator} {r:R2} (ho:OpR X (binaryOp op) r) (ha:PE X a ta) (hb:PE X b tb):PE X (.BinOp a op b pos) (tOp r ta tb):=by
 intro pins s σ H Q I h
 exact wpAny_BinOp (binT ha hb I h fun v u s2 x y H2 I2 rx ry q=>ho pins s2 σ H2 x y v u Q I2 rx ry q)
theorem pe_un {op:UnaryOp} {r:V->Hp->VK->Prop} (ho:UnR X (unaryOp op) r) (ha:PE X a ta):PE X (.UnaryOp op a pos) (tUn r ta):=by
 intro pins s σ H Q I h
 exact UnaryOp_ (thn (ha pins s σ H _ I h) fun v s1 ⟨x,H1,I1,r1,q1⟩=>ho pins s1 σ H1 x v Q I1 r1 q1)
theorem opI {f:Value->Value->Sem Value} {C:Int->Int->Prop} {g:Int->Int->Int}
  (rule:∀ (i j:Int) (t u:Tok) (s:Shared) (Q:Value->Shared->Prop) (E:Value->Shared->Prop),C i j->Q (.int (g i j) s.toks) { s with toks:=s.toks + 1 }->wpAny (model X.prog X.w) X.A (f (.int i t) (.int j u)) Q E s) :
  OpR X f (rI C fun i j=>.int (g i j)):=by
 intro pins s σ H x y v u Q I rx ry h
 obtain⟨i,j,rfl,rfl,hc,q⟩:=h
 obtain⟨t,rfl⟩:=rx
 obtain⟨t',rfl⟩:=ry
 exact rule i j t t' s _ _ hc ⟨.int (g i j),H,I.tok _,⟨_,rfl⟩,q⟩
theorem opI0 {f:Value->Value->Sem Value} {g:Int->Int->Int}
  (rule:∀ (i j:Int) (t u:Tok) (s:Shared) (Q:Value->Shared->Prop) (E:Value->Shared->Prop),Q (.int (g i j) s.toks) { s with toks:=s.toks + 1 }->wpAny (model X.prog X.w) X.A (f (.int i t) (.int j u)) Q E s) :
  OpR X f (rI0 fun i j=>.int (g i j)):=by
 intro pins s σ H x y v u Q I rx ry h
 obtain⟨i,j,rfl,rfl,q⟩:=h
 obtain⟨t,rfl⟩:=rx
 obtain⟨t',rfl⟩:=ry
 exact rule i j t t' s _ _ ⟨.int (g i j),H,I.tok _,⟨_,rfl⟩,q⟩
theorem opB0 {f:Value->Value->Sem Value} {g:Int->Int->Bool}
  (rule:∀ (i j:Int) (t u:Tok) (s:Shared) (Q:Value->Shared->Prop) (E:Value->Shared->Prop),Q (.bool (g i j)) s->wpAny (model X.prog X.w) X.A (f (.int i t) (.int j u)) Q E s) :
  OpR X f (rI0 fun i j=>.bl (g i j)):=by
 intro pins s σ H x y v u Q I rx ry h
 obtain⟨i,j,rfl,rfl,q⟩:=h
 obtain⟨t,rfl⟩:=rx
 obtain⟨t',rfl⟩:=ry
 exact rule i j t t' s _ _ ⟨.bl (g i j),H,I,rfl,q⟩
def CDiv (i j:Int):Prop:=0 < j∧j < 1073741824
def CPow (i j:Int):Prop:=0≤j∧j≤1000000∧i.natAbs < 2 ^ 64
def CMul (i j:Int):Prop:=(-(2 ^ 64) < i∧i < 2 ^ 64)∨(-(2 ^ 64) < j∧j < 2 ^ 64)
theorem CMul.ok {i j:Int} (h:CMul i j):IntMulOk i j:=by
 rcases h with ⟨h1,h2⟩ | ⟨h1,h2⟩
 ·exact .of_left (intBits_le_64 h1 h2)
 ·exact .of_right (intBits_le_64 h1 h2)
theorem op_add:OpR X (binaryOp .Add) (rI0 fun i j=>.int (i + j)):=opI0 fun _ _ _ _ _ _ _ q=>add_int q
theorem op_sub:OpR X (binaryOp .Sub) (rI0 fun i j=>.int (i - j)):=opI0 fun _ _ _ _ _ _ _ q=>sub_int q
theorem op_mul:OpR X (binaryOp .Mult) (rI CMul fun i j=>.int (i * j)):=opI fun _ _ _ _ _ _ _ hc q=>mul_int q hc.ok
/-- // by a positive divisor -/
theorem op_fdiv:OpR X (binaryOp .FloorDiv) (rI CDiv fun i j=>.int (i / j)):=opI fun i j _ _ _ _ _ hc q=>by
 have h1:(0:Int) < j:=hc.1
 have h2:j < 1073741824:=hc.2
 exact floordiv_int (by omega) (by rw[Int.fdiv_eq_ediv_of_nonneg i (by omega)];exact q) (.inl (PyProof.noPylong_small (by omega)))
/-- % by a positive divisor of any size -/
theorem op_mod:OpR X (binaryOp .Mod) (rI (fun _ j=>0 < j) fun i j=>.int (i % j)):=opI fun i j _ _ _ _ _ hc q=>by
 have h1:(0:Int) < j:=hc
 exact mod_int' (by omega) (by rw[Int.fmod_eq_emod_of_nonneg i (by omega)];exact q)
theorem op_pow:OpR X (binaryOp .Pow) (rI CPow fun i j=>.int (i ^ j.toNat)):=opI fun _ _ _ _ _ _ _ hc q=>pow_int_small hc.1 hc.2.1 hc.2.2 q
theorem unI {f:Value->Sem Value} {g:Int->Int}
  (rule:∀ (i:Int) (t:Tok) (s:Shared) (Q:Value->Shared->Prop) (E:Value->Shared->Prop),Q (.int (g i) s.toks) { s with toks:=s.toks + 1 }->wpAny (model X.prog X.w) X.A (f (.int i t)) Q E s) :
  UnR X f (rU fun i=>.int (g i)):=by
 intro pins s σ H x v Q I rx h
 obtain⟨i,rfl,q⟩:=h
 obtain⟨t,rfl⟩:=rx
 exact rule i t s _ _ ⟨.int (g i),H,I.tok _,⟨_,rfl⟩,q⟩
theorem un_neg:UnR X (unaryOp .USub) (rU fun i=>.int (-i)):=unI fun _ _ _ _ _ q=>neg_int q
end
/-- the scalars that == tells apart as data does -/
def scal:V->V->Bool
 | .non,.non=>true | .non,.int _=>true | .int _,.non=>true | .non,.bl _=>true | .bl _,.non=>true | .non,.str _=>true | .str _,.non=>true
 | .int _,.int _=>true | .bl _,.bl _=>true | .str _,.str _=>true | .byt _,.byt _=>true
 | .int _,.str _=>true | .str _,.int _=>true | .bl _,.str _=>true | .str _,.bl _=>true
 | _,_=>false
def rEq:R2:=fun x y H Q=>scal x y=true∧Q (.bl (decide (x=y))) H
def rNe:R2:=fun x y H Q=>scal x y=true∧Q (.bl (!decide (x=y))) H
theorem dec_int {i j:Int}:decide (V.int i=V.int j)=(i == j):=by
 rw[Bool.eq_iff_iff]
 simp
theorem dec_bl {i j:Bool}:decide (V.bl i=V.bl j)=(i == j):=by
 rw[Bool.eq_iff_iff]
 simp
theorem dec_str {i j:Str}:decide (V.str i=V.str j)=(i == j):=by
 rw[Bool.eq_iff_iff]
 simp
theorem dec_byt {i j:Array UInt8}:decide (V.byt i=V.byt j)=(i.toList == j.toList):=by
 rw[Bool.eq_iff_iff]
 cases i
 cases j
 simp
section
variable {X:Cx} {a b c:Expr} {ta tb tc:TE} {pos:Pos}
theorem fin_bl {pins:List (Addr × Obj)} {σ:St} {H:Hp} {s:Shared} {Q:VK} {k k':Bool} (I:Inv X pins σ H s) (q:Q (.bl k) H) (e:k=k'):EP X pins σ Q (.bool k') s:=by
 subst e
 exact⟨.bl k,H,I,rfl,q⟩
theorem op_eq:OpR X (compareOp .Eq) rEq:=by
 intro pins s σ H x y v u Q I rx ry h
 obtain⟨hs,q⟩:=h
 cases x with
 | non =>
  cases rx
  cases y with
  | non=>cases ry;exact PySem.EqNone.eq_none_none (fin_bl I q (by simp))
  | bl j=>cases ry;exact PySem.EqNone.eq_none_bool (fin_bl I q (by simp))
  | int j=>obtain⟨t',rfl⟩:=ry;exact PySem.EqNone.eq_none_int (fin_bl I q (by simp))
  | str j=>obtain⟨t',rfl⟩:=ry;exact PySem.EqNone.eq_none_str (fin_bl I q (by simp))
  | _=>exact absurd (show false=true from hs) Bool.false_ne_true
 | bl i =>
  cases rx
  cases y with
  | non=>cases ry;exact PySem.EqNone.eq_bool_none (fin_bl I q (by simp))
  | bl j=>cases ry;exact eq_bool (fin_bl I q dec_bl)
  | str j=>obtain⟨t',rfl⟩:=ry;exact PySem.EqMixed.eq_bool_str (fin_bl I q (by simp))
  | _=>exact absurd (show false=true from hs) Bool.false_ne_true
 | int i =>
  obtain⟨t,rfl⟩:=rx
  cases y with
  | non=>cases ry;exact PySem.EqNone.eq_int_none (fin_bl I q (by simp))
  | int j=>obtain⟨t',rfl⟩:=ry;exact eq_int (fin_bl I q dec_int)
  | str j=>obtain⟨t',rfl⟩:=ry;exact PySem.EqMixed.eq_int_str (fin_bl I q (by simp))
  | _=>exact absurd (show false=true from hs) Bool.false_ne_true
 | str i =>
  obtain⟨t,rfl⟩:=rx
  cases y with
  | non=>cases ry;exact PySem.EqNone.eq_str_none (fin_bl I q (by simp))
  | bl j=>cases ry;exact PySem.EqMixed.eq_str_bool (fin_bl I q (by simp))
  | int j=>obtain⟨t',rfl⟩:=ry;exact PySem.EqMixed.eq_str_int (fin_bl I q (by simp))
  | str j=>obtain⟨t',rfl⟩:=ry;exact eq_str (fin_bl I q dec_str)
  | _=>exact absurd (show false=true from hs) Bool.false_ne_true
 | byt i =>
  obtain⟨t,rfl⟩:=rx
  cases y with
  | byt j=>obtain⟨t',rfl⟩:=ry;exact PySem.W.eq_bytes (fin_bl I q dec_byt)
  | _=>exact absurd (show false=true from hs) Bool.false_ne_true
 | _=>cases y <;> exact absurd (show false=true from hs) Bool.false_ne_true
theorem op_ne:OpR X (compareOp .NotEq) rNe:=by
 intro pins s σ H x y v u Q I rx ry h
 obtain⟨hs,q⟩:=h
 cases x with
 | non =>
  cases rx
  cases y with
  | non=>cases ry;exact PySem.EqNone.ne_none_none (fin_bl I q (by simp))
  | bl j=>cases ry;exact PySem.EqNone.ne_none_bool (fin_bl I q (by simp))
  | int j=>obtain⟨t',rfl⟩:=ry;exact PySem.EqNone.ne_none_int (fin_bl I q (by simp))
  | str j=>obtain⟨t',rfl⟩:=ry;exact PySem.EqNone.ne_none_str (fin_bl I q (by simp))
  | _=>exact absurd (show false=true from hs) Bool.false_ne_true
 | bl i =>
  cases rx
  cases y with
  | non=>cases ry;exact PySem.EqNone.ne_bool_none (fin_bl I q (by simp))
  | bl j=>cases ry;exact ne_bool (fin_bl I q (congrArg not dec_bl))
  | str j=>obtain⟨t',rfl⟩:=ry;exact PySem.EqMixed.ne_bool_str (fin_bl I q (by simp))
  | _=>exact absurd (show false=true from hs) Bool.false_ne_true
 | int i =>
  obtain⟨t,rfl⟩:=rx
  cases y with
  | non=>cases ry;exact PySem.EqNone.ne_int_none (fin_bl I q (by simp))
  | int j=>obtain⟨t',rfl⟩:=ry;exact ne_int (fin_bl I q (congrArg not dec_int))
  | str j=>obtain⟨t',rfl⟩:=ry;exact PySem.EqMixed.ne_int_str (fin_bl I q (by simp))
  | _=>exact absurd (show false=true from hs) Bool.false_ne_true
 | str i =>
  obtain⟨t,rfl⟩:=rx
  cases y with
  | non=>cases ry;exact PySem.EqNone.ne_str_none (fin_bl I q (by simp))
  | bl j=>cases ry;exact PySem.EqMixed.ne_str_bool (fin_bl I q (by simp))
  | int j=>obtain⟨t',rfl⟩:=ry;exact PySem.EqMixed.ne_str_int (fin_bl I q (by simp))
  | str j=>obtain⟨t',rfl⟩:=ry;exact ne_str (fin_bl I q (congrArg not dec_str))
  | _=>exact absurd (show false=true from hs) Bool.false_ne_true
 | byt i =>
  obtain⟨t,rfl⟩:=rx
  cases y with
  | byt j=>obtain⟨t',rfl⟩:=ry;exact PySem.W.ne_bytes (fin_bl I q (congrArg not dec_byt))
  | _=>exact absurd (show false=true from hs) Bool.false_ne_true
 | _=>cases y <;> exact absurd (show false=true from hs) Bool.false_ne_true
theorem op_lt:OpR X (compareOp .Lt) (rI0 fun i j=>.bl (decide (i < j))):=opB0 fun _ _ _ _ _ _ _ q=>lt_int q
theorem op_gt:OpR X (compareOp .Gt) (rI0 fun i j=>.bl (decide (j < i))):=opB0 fun _ _ _ _ _ _ _ q=>gt_int q
/-- is None, is not None: the right side a value none -/
theorem op_isN:OpR X (compareOp .Is) (fun x y H Q=>y=.non∧Q (.bl (decide (x=.non))) H):=by
 intro pins s σ H x y v u Q I rx ry h
 obtain⟨rfl,q⟩:=h
 cases ry
 refine is_none_gen (fin_bl I q ?_)
 cases x <;> first
  | (cases rx;rfl)
  | (obtain⟨t,rfl⟩:=rx;rfl)
theorem op_notN:OpR X (compareOp .IsNot) (fun x y H Q=>y=.non∧Q (.bl (!decide (x=.non))) H):=by
 intro pins s σ H x y v u Q I rx ry h
 obtain⟨rfl,q⟩:=h
 cases ry
 refine isnot_none_gen (fin_bl I q ?_)
 cases x <;> first
  | (cases rx;rfl)
  | (obtain⟨t,rfl⟩:=rx;rfl)
/-- two rules for one operation: by cases -/
theorem OpR.or {f:Value->Value->Sem Value} {r r':R2} (h:OpR X f r) (h':OpR X f r'):OpR X f (fun x y H Q=>r x y H Q∨r' x y H Q):=by
 intro pins s σ H x y v u Q I rx ry q
 rcases q with q | q
 ·exact h pins s σ H x y v u Q I rx ry q
 ·exact h' pins s σ H x y v u Q I rx ry q
theorem nomark (b:Expr) {op:CmpOp} (h:op≠.In:=by decide) (h2:op≠.NotIn:=by decide):behindInMarks op b=false:=by
 have e1:(op == CmpOp.In)=false:=by cases op <;> first | rfl | exact absurd rfl h
 have e2:(op == CmpOp.NotIn)=false:=by cases op <;> first | rfl | exact absurd rfl h2
 cases b <;> simp [behindInMarks,e1,e2]
/-- a comparison as a value; hm: nomark b, or (for in, not in) by with_unfolding_all rfl -/
theorem pe_cmpR {op:CmpOp} {r:R2} (ho:OpR X (compareOp op) r) (ha:PE X a ta) (hb:PE X b tb) (hm:behindInMarks op b=false):PE X (.Compare a [op] [b] pos) (tOp r ta tb):=by
 intro pins s σ H Q I h
 exact wpAny_Compare1 (binT ha hb I h fun v u s2 x y H2 I2 rx ry q=>ho pins s2 σ H2 x y v u Q I2 rx ry q) hm
/-- a reading of a value as a test -/
def tTest (t:TE):TT:=fun σ H Q=>t σ H fun x H'=>∃ k,x=.bl k∧Q k H'
theorem pt_cmpR {op:CmpOp} {r:R2} (ho:OpR X (compareOp op) r) (ha:PE X a ta) (hb:PE X b tb) (hm:behindInMarks op b=false):PT X (.Compare a [op] [b] pos) (tTest (tOp r ta tb)):=by
 intro pins s σ H Q I h
 refine wpAny_isTrue_Compare1 (thn (ha pins s σ H _ I h) fun v s1 ⟨x,H1,I1,r1,q1⟩=>thn (hb pins s1 σ H1 _ I1 q1) fun u s2 ⟨y,H2,I2,r2,q2⟩ =>
  thn (ho pins s2 σ H2 x y v u _ I2 r1 r2 q2) fun c s3 ⟨z,H3,I3,r3,k,e,q3⟩=>?_) hm
 subst e
 cases r3
 exact wpAny_truthy_bool ⟨H3,I3,q3⟩
theorem line63:(sizeLine:Nat) < 2 ^ 63:=by rw[sizeLine_eq];decide
theorem vals1 {x:V} {us:List Value} (r:Vals [x] us):∃ u,us=[u]∧RelV x u:=by
 cases r with
 | cons r1 r2=>cases r2;exact⟨_,rfl,r1⟩
theorem vals2 {x y:V} {us:List Value} (r:Vals [x,y] us):∃ u w',us=[u,w']∧RelV x u∧RelV y w':=by
 cases r with
 | cons r1 r2 =>
  cases r2 with
  | cons r3 r4=>cases r4;exact⟨_,_,rfl,r1,r3⟩
theorem call_max2 (hc:X.calm=true):CallR X (.builtin "max") (fun xs H Q=>∃ i j,xs=[.int i,.int j]∧Q (.int (if j > i then j else i)) H):=by
 intro pins s σ H xs us Q I r h
 obtain⟨i,j,rfl,q⟩:=h
 obtain⟨u,w',rfl,⟨t,rfl⟩,⟨t',rfl⟩⟩:=vals2 r
 refine max_two_ints (I.ok.hd hc) fun h' tk k=>⟨_,H,I.kept k,?_,q⟩
 by_cases hj:j > i
 ·rw[if_pos hj,if_pos hj];exact⟨_,rfl⟩
 ·rw[if_neg hj,if_neg hj];exact⟨_,rfl⟩
theorem call_min2 (hc:X.calm=true):CallR X (.builtin "min") (fun xs H Q=>∃ i j,xs=[.int i,.int j]∧Q (.int (if j < i then j else i)) H):=by
 intro pins s σ H xs us Q I r h
 obtain⟨i,j,rfl,q⟩:=h
 obtain⟨u,w',rfl,⟨t,rfl⟩,⟨t',rfl⟩⟩:=vals2 r
 refine min_two_ints (I.ok.hd hc) fun h' tk k=>⟨_,H,I.kept k,?_,q⟩
 by_cases hj:j < i
 ·rw[if_pos hj,if_pos hj];exact⟨_,rfl⟩
 ·rw[if_neg hj,if_neg hj];exact⟨_,rfl⟩
end
end L2
namespace L2
open PySem PySem.Spec PyProof.Rows
structure ObjM (h:Heap) (x dx C:Addr) (mA:Str->Option Value):Prop where
 obj:h.get? x=some (PySem.W.instObj C dx)
 ns:h.Ns1 dx mA
 ne:dx≠x
theorem lookIn_ns {h:Heap} {dx:Addr} {mA:Str->Option Value} (n:h.Ns1 dx mA):∃ od,h.get? dx=some od∧∀ name,PySem.W.lookIn name od=some (mA name):=by
 obtain⟨o,es,ep,ho,hd,hk,_,hm⟩:=n
 refine⟨o,ho,fun name=>?_⟩
 have e:=hm name
 unfold nsFind findBy at e
 rw[← Array.find?_toList] at e
 unfold PySem.W.lookIn
 rw[hd]
 dsimp only
 split
 ·rename_i y q
  rw[q] at e
  exact congrArg some e
 ·rename_i q
  rw[q] at e
  have a:es.toList.any (·.refKey)=false:=by
   rw[List.any_eq_false]
   intro y hy
   obtain⟨z,t,hkey⟩:=hk y (Array.mem_toList_iff.mp hy)
   simp [DictEntry.refKey,hkey]
  have a':¬ es.toList.any (·.refKey)=true:=by rw[a];exact Bool.false_ne_true
  rw[if_neg a']
  exact congrArg some e
theorem ObjM.look {h:Heap} {x dx C:Addr} {mA:Str->Option Value} (I:ObjM h x dx C mA):∃ od,PySem.W.InstAt h x (PySem.W.instObj C dx) C (some od)∧∀ name,PySem.W.lookIn name od=some (mA name) :=
 let ⟨od,ho,hl⟩:=lookIn_ns I.ns
 ⟨od,⟨I.obj,rfl,rfl,ho⟩,hl⟩
section
variable {prog:Program} {w:World} {A:Around} {E:Value->Shared->Prop} {s:Shared} {K:PySem.W.Frag} {x dx C f:Addr} {mA:Str->Option Value} {name:Str} {v:Value}
end
section
variable {P:Program} {w:World} {H H':Hp} {h h':Heap} {a C dx:Addr} {fs fs':List (Str × V)}
theorem ins_get (hok:HOk P w H h) (e:H a=some (.ins C dx fs)):∃ mA,ObjM h a dx C mA∧(∀ f,RelO (fs.lookup f) (mA f))∧PySem.Within mA (fs.map (·.1))∧fs.length≤1000∧H dx=some (.own a):=by
 obtain⟨d,z,ne,ob,mA,n,r,q⟩:=(show ObjOk P w H h a (.ins C dx fs) from hok a _ e)
 exact⟨mA,⟨ob,n,ne⟩,r,q,z,d⟩
end
structure Cls (K:PySem.W.Frag) (C:Addr):Prop where
 pg:PySem.W.plainGet K C Str.empty=true
 hd:PySem.W.hasDictIn K C=true
 po:PySem.W.plainOver K C=true
 sa:PySem.W.findIn K (.ref C) "__setattr__"=some (some (.builtin "object.__setattr__"))
theorem Cls.get {K:PySem.W.Frag} {C:Addr} (c:Cls K C) (f:Str):PySem.W.plainGet K C f=true:=c.pg
/-- a constant of the class -/
structure Con (K:PySem.W.Frag) (C:Addr) (f:Str) (v:V) (u:Value):Prop where
 at_:PySem.W.findIn K (.ref C) f=some (some u)
 rel:RelV v u
 get:PySem.W.specialIn K u "__get__"=some none
 cp:PySem.W.copiedNames.contains f=false
section
variable {X:Cx} {pins:List (Addr × Obj)} {σ:St} {H:Hp} {s:Shared} {a C dx:Addr} {fs:List (Str × V)} {f:Str} {v:V} {A:Around} {E:Value->Shared->Prop}
/-- a new instance, tracked, without attributes -/
theorem Inv.made (I:Inv X pins σ H s):Inv X pins σ (upd (upd H s.heap.objs.size (.own (s.heap.objs.size + 1))) (s.heap.objs.size + 1) (.ins C s.heap.objs.size []))
  { s with heap:=(s.heap.push PySem.W.emptyDict).push (PySem.W.instObj C s.heap.objs.size) }:=by
 have e1:(s.heap.push PySem.W.emptyDict).get? s.heap.objs.size=some PySem.W.emptyDict:=Heap.get?_push_size s.heap rfl
 have e2:((s.heap.push PySem.W.emptyDict).push (PySem.W.instObj C s.heap.objs.size)).get? (s.heap.objs.size + 1)=some (PySem.W.instObj C s.heap.objs.size):=by
  have:=Heap.get?_push_size (s.heap.push PySem.W.emptyDict) (o:=PySem.W.instObj C s.heap.objs.size) rfl
  rwa [Heap.size_push] at this
 have e3:(s.heap.push PySem.W.emptyDict).Ns s.heap.objs.size (fun _=>none):=⟨PySem.W.emptyDict,#[],_,e1,rfl,(fun e he=>absurd he (by simp)),fun _=>rfl⟩
 have I1:=I.laid (a:=s.heap.objs.size) (o:=.own (s.heap.objs.size + 1)) (h':=s.heap.push PySem.W.emptyDict) (t':=s.toks) (fun b u q=>Heap.get?_push_of_some _ q) (Nat.le_refl _) ⟨_,e1⟩
 refine I1.laid (a:=s.heap.objs.size + 1) (o:=.ins C s.heap.objs.size []) (t':=s.toks) (fun b u q=>Heap.get?_push_of_some _ q) (Nat.le_of_eq (Heap.size_push _ _)) ?_
 have ne:s.heap.objs.size≠s.heap.objs.size + 1:=Nat.ne_of_lt (Nat.lt_succ_self _)
 refine⟨by rw[upd_ne ne,upd_same],Nat.zero_le _,ne,e2,fun _=>none,(Heap.Ns1.of_empty e3).at fun o q=>Heap.get?_push_of_some _ q,fun _=>True.intro,fun y hy=>absurd rfl hy⟩
end
section
variable {X:Cx} {o e value:Expr} {f:Str} {pos pos' tpos:Pos} {ta tv:TE}
end
section
variable {X:Cx} {pins:List (Addr × Obj)} {σ:St} {H:Hp} {s:Shared} {A:Around} {E:Value->Shared->Prop} {Q:Value->Shared->Prop} {c:Value} {b:Bool}
/-- the type of a value, as the fragment's deciders take it; for an instance its class -/
inductive TyOf (K:PySem.W.Frag) (H:Hp):V->Value->Prop where
 | non:TyOf K H .non (.type "NoneType")
 | bl (x:Bool):TyOf K H (.bl x) (.type "bool")
 | int (i:Int):TyOf K H (.int i) (.type "int")
 | str (x:Str):TyOf K H (.str x) (.type "str")
 | flt (x:UInt64):TyOf K H (.flt x) (.type "float")
 | lst {a:Addr} {xs:List V} (e:H a=some (.lst xs)):TyOf K H (.ref a) (.type "list")
 | frz {a:Addr} {o:Obj} {xs:List V} (e:H a=some (.frz o (.lst xs))):TyOf K H (.ref a) (.type "list")
 | tup {a:Addr} {xs:List V} (e:H a=some (.tup xs)):TyOf K H (.ref a) (.type "tuple")
 | dK {a:Addr} {kvs:List (Key × V)} (e:H a=some (.dK kvs)):TyOf K H (.ref a) (.type "dict")
 | dT {a:Addr} {kvs:List (List Key × V)} (e:H a=some (.dT kvs)):TyOf K H (.ref a) (.type "dict")
 | ins {a C dx : Addr} {fs : List (Str × V)} (e : H a = some (.ins C dx fs)) (cl : Cls K C) (ha : PySem.W.findIn K (.ref C) "__class__" = some (some (.builtin "object.__class__")))
     (hn:PySem.W.specialIn K (.builtin "object.__class__") "__get__"=some (some (.builtin "getset_descriptor.__get__"))) (htk:PySem.W.takesIn K (.builtin "object.__class__")=some true)
     (hm:PySem.W.mroIn K C (.type "object")=some true):TyOf K H (.ref a) (.ref C)
/-- isinstance(x, c) for one class c, a built-in or an own one: kitOne's answer -/
theorem isinst_ok {x:V} {u t:Value} (I:Inv X pins σ H s) (rx:RelV x u) (ty:TyOf X.K H x t) (e:PySem.W.kitOne X.K t c=some b) (h:∀ tk,Q (.bool b) { s with toks:=tk }) :
  wpAny (model X.prog X.w) A (call (.builtin "isinstance") [u,c]) Q E s:=by
 cases ty with
 | non=>cases (show u=Value.none from rx);exact PySem.W.kia_one PySem.W.kitx_none I.kIn True.intro e (fun z=>nomatch z) h
 | bl y=>cases (show u=Value.bool y from rx);exact PySem.W.kia_one PySem.W.kitx_bool I.kIn True.intro e (fun z=>nomatch z) h
 | int i=>obtain⟨t,q⟩:=(show ∃ t,u=Value.int i t from rx);cases q;exact PySem.W.kia_one PySem.W.kitx_int I.kIn True.intro e (fun z=>nomatch z) h
 | str y=>obtain⟨t,q⟩:=(show ∃ t,u=Value.str y t from rx);cases q;exact PySem.W.kia_one PySem.W.kitx_str I.kIn True.intro e (fun z=>nomatch z) h
 | flt y=>obtain⟨t,q⟩:=(show ∃ t,u=Value.float y t from rx);cases q;exact PySem.W.kia_one PySem.W.kitx_float I.kIn True.intro e (fun z=>nomatch z) h
 | @lst a xs ea =>
  cases (show u=Value.ref a from rx)
  obtain⟨_,_,n,_,h1⟩:=(show ObjOk X.prog X.w H s.heap a (.lst xs) from I.hok a _ ea)
  exact PySem.W.kia_one PySem.W.kitx_list I.kIn ⟨_,h1,rfl⟩ e (fun z=>nomatch z) h
 | @frz a ob xs ea =>
  cases (show u=Value.ref a from rx)
  obtain⟨_,_,_,n,_,h1⟩:=(show ObjOk X.prog X.w H s.heap a (.frz ob (.lst xs)) from I.hok a _ ea)
  exact PySem.W.kia_one PySem.W.kitx_list I.kIn ⟨_,h1,rfl⟩ e (fun z=>nomatch z) h
 | @tup a xs ea =>
  cases (show u=Value.ref a from rx)
  obtain⟨_,_,_,p⟩:=(show ObjOk X.prog X.w H s.heap a (.tup xs) from I.hok a _ ea)
  obtain⟨o,h1,h2,_⟩:=p
  exact PySem.W.kia_one PySem.W.kitx_tuple I.kIn ⟨o,h1,h2⟩ e (fun z=>nomatch z) h
 | @dK a kvs ea =>
  cases (show u=Value.ref a from rx)
  obtain⟨_,_,vs,_,p⟩:=(show ObjOk X.prog X.w H s.heap a (.dK kvs) from I.hok a _ ea)
  obtain⟨o,es,ep,h1,h2,_⟩:=p
  exact PySem.W.kia_one PySem.W.kitx_dict I.kIn ⟨o,h1,h2.1⟩ e (fun z=>nomatch z) h
 | @dT a kvs ea =>
  cases (show u=Value.ref a from rx)
  obtain⟨_,_,xs,_,o,es,ep,h1,h2,_⟩:=(show ObjOk X.prog X.w H s.heap a (.dT kvs) from I.hok a _ ea)
  exact PySem.W.kia_one PySem.W.kitx_dict I.kIn ⟨o,h1,h2.1⟩ e (fun z=>nomatch z) h
 | @ins a C dx fs ea cl ha hn htk hm =>
  cases (show u=Value.ref a from rx)
  obtain⟨mA,O,_⟩:=ins_get I.hok ea
  obtain⟨od,J,_⟩:=O.look
  exact PySem.W.kia_one (PySem.W.kitx_own (cl.get _) cl.hd ha hn htk hm) I.kIn J e (fun z=>nomatch z) h
end
end L2
namespace L2
open PySem PySem.Spec PyProof.Rows
structure Room (k:Nat) (A:Around):Prop where
 hd:A.handled=none
 dp:A.depth + 3 * k + 5 < recursionLimit
 un:A.units + 16 * k + 200 < cLine
 gd:A.guards=some []
theorem Room.mono {j k:Nat} {A:Around} (r:Room k A) (h:j≤k):Room j A:=⟨r.hd,by have:=r.dp;omega,by have:=r.un;omega,r.gd⟩
theorem Room.deeper {k:Nat} {A:Around} (r:Room (k + 1) A) (env:Env):Room k (A.deeper env) :=
 ⟨r.hd,by have:=r.dp;show A.depth + 1 + 3 * k + 5 < _;omega,by have:=r.un;show A.units + 3 + 16 * k + 200 < _;omega,r.gd⟩
theorem Room.in1 {k:Nat} {A:Around} (r:Room (k + 1) A):Room k A.in1 :=
 ⟨r.hd,by have:=r.dp;show A.depth + 3 * k + 5 < _;omega,by have:=r.un;show A.units + 1 + 16 * k + 200 < _;omega,r.gd⟩
theorem Room.depth {k:Nat} {A:Around} (r:Room k A):A.depth < recursionLimit:=by have:=r.dp;omega
theorem Room.units {k:Nat} {A:Around} (r:Room k A):A.units + 64 < cLine:=by have:=r.un;omega
theorem Room.units0 {k:Nat} {A:Around} (r:Room k A):A.units < cLine:=by have:=r.un;omega
def tNil:TA:=fun _ H Q=>Q [] H
def tCons (ta:TE) (tr:TA):TA:=fun σ H Q=>ta σ H fun x H1=>tr σ H1 fun xs H2=>Q (x::xs) H2
section
variable {X:Cx} {e:Expr} {es:List Expr} {te:TE} {t:TA} {pos:Pos}
theorem pa_nil:PA X [] tNil:=fun _ _ _ _ H Q I h=>Calls.spliced_nil ⟨[],H,I,.nil,h⟩
theorem pa_cons (ha:PE X e te) (hr:PA X es t) (hs:starEach (e::es) X.env=(false,eval e X.env)::starEach es X.env:=by rfl):PA X (e::es) (tCons te t):=by
 intro pos pins s σ H Q I h
 rw[hs]
 show wpAny _ _ (spliced ((false,eval e X.env)::backTo pos (starEach es X.env))) _ _ s
 refine Calls.spliced_cons (thn (ha pins s σ H _ I h) fun u s1 ⟨x,H1,I1,r1,q1⟩=>?_)
 exact thn (hr pos pins s1 σ H1 _ I1 q1) fun us s2 ⟨xs,H2,I2,r2,q2⟩=>⟨x::xs,H2,I2,.cons r1 r2,q2⟩
/-- a tuple, a list of written items -/
def tTup (t:TA):TE:=fun σ H Q=>t σ H fun xs H1=>xs.length≤sizeLine∧∀ p,H1 p=none->Q (.ref p) (upd H1 p (.tup xs))
def tLst (t:TA):TE:=fun σ H Q=>t σ H fun xs H1=>xs.length≤sizeLine∧∀ p,H1 p=none->Q (.ref p) (upd H1 p (.lst xs))
theorem pe_tup {x1} (h:PA X es t):PE X (.Tuple es x1 pos) (tTup t):=by
 intro pins s σ H Q I hq
 refine wpAny_Tuple_spliced (thn (h pos pins s σ H _ I hq) fun us s1 ⟨xs,H1,I1,r,z,q⟩=>⟨by rw[← r.length];exact z,?_⟩)
 have hf:H1 s1.heap.objs.size=none:=I1.hok.fresh (Nat.le_refl _)
 refine⟨.ref s1.heap.objs.size,upd H1 s1.heap.objs.size (.tup xs),I1.laid (t':=s1.toks) (fun b u e=>Heap.get?_push_of_some _ e) (Nat.le_refl _) ?_,rfl,q _ hf⟩
 exact⟨z,us,r,⟨_,Heap.get?_push_size _ rfl,rfl,⟨_,rfl⟩,rfl⟩⟩
theorem pe_lst (h:PA X es t):PE X (.List es pos) (tLst t):=by
 intro pins s σ H Q I hq
 refine wpAny_List_spliced (thn (h pos pins s σ H _ I hq) fun us s1 ⟨xs,H1,I1,r,z,q⟩=>⟨by rw[← r.length];exact z,?_⟩)
 have hf:H1 s1.heap.objs.size=none:=I1.hok.fresh (Nat.le_refl _)
 refine⟨.ref s1.heap.objs.size,upd H1 s1.heap.objs.size (.lst xs),I1.laid (t':=s1.toks) (fun b u e=>Heap.get?_push_of_some _ e) (Nat.le_refl _) ?_,rfl,q _ hf⟩
 exact⟨z,us,0,r,Heap.get?_push_size _ rfl⟩
end
/-- a def's promise: the bound arguments in the parameters' order, the heap, the wanted end, the wanted exception -/
abbrev Sp:=List V->Hp->VK->XK->Prop
/-- how an exception lies behind a call (file 08 gives it): the callers' frames, abstract heap and state ahead of the call, the wish, the exception, the state -/
abbrev CXT:=List Env->Hp->Shared->XK->Value->Shared->Prop
/-- the state at a call -/
structure Env0 (P:Program) (w:World) (K:PySem.W.Frag) (mg:Str->Option Value) (base:Heap) (A:Around) (outer:List Env) (s:Shared) (H:Hp):Prop where
 frames:A.frames=some outer
 mod:Mod K mg base
 bs:∀ b o,base.get? b=some o->s.heap.get? b=some o∧H b=none
 bsz:base.objs.size≤s.heap.objs.size
 funs:s.heap.FunFrames base outer
 frf:∀ b ∈ frs outer,H b=none
 hok:HOk P w H s.heap
 bare:AllBare s.gens
/-- a call's end -/
def CE (outer:List Env) (P:Program) (w:World) (H:Hp) (s:Shared) (Q:VK) (u:Value) (s':Shared):Prop :=
 ∃ v H',s'.os=s.os∧AllBare s'.gens∧Un (frs outer) [] H H' s.heap s'.heap∧HOk P w H' s'.heap∧RelV v u∧Q v H'
def CR (CX:CXT) (outer:List Env) (P:Program) (w:World) (H:Hp) (s:Shared) (Q:VK) (E:XK) (r:Result) (s':Shared):Prop :=
 match r with
 | .ok (.ret u)=>CE outer P w H s Q u s'
 | .ok _=>False
 | .error e=>CX outer H s E e s'
structure FnOk (P:Program) (w:World) (K:PySem.W.Frag) (mg:Str->Option Value) (base:Heap) (CX:CXT) (k:Nat) (f:Addr) (fd:FuncData) (ps:List Str) (sp:Sp):Prop where
 len:∀ vs H Q E,sp vs H Q E->vs.length=ps.length
 run:∀ (A:Around) (outer:List Env) (s:Shared) (H:Hp) (args:Args) (us:List Value) (vs:List V) (Q:VK) (E:XK),Room k A->Env0 P w K mg base A outer s H->BindsTo s fd args (ps.zip us)->Vals vs us->sp vs H Q E ->
  codeAny (model P w) A (.call (.ref f) args) (CR CX outer P w H s Q E) s
theorem FnOk.mono {P:Program} {w:World} {K:PySem.W.Frag} {mg:Str->Option Value} {base:Heap} {CX:CXT} {j k:Nat} {f:Addr} {fd:FuncData} {ps:List Str} {sp:Sp} (F:FnOk P w K mg base CX j f fd ps sp) (h:j≤k) :
  FnOk P w K mg base CX k f fd ps sp:=⟨F.len,fun A outer s H args us vs Q E hr=>F.run A outer s H args us vs Q E (hr.mono h)⟩
/-- a weaker promise -/
theorem FnOk.imp {P:Program} {w:World} {K:PySem.W.Frag} {mg:Str->Option Value} {base:Heap} {CX:CXT} {k:Nat} {f:Addr} {fd:FuncData} {ps:List Str} {sp sp':Sp} (F:FnOk P w K mg base CX k f fd ps sp)
  (h:∀ vs H Q E,sp' vs H Q E->sp vs H Q E):FnOk P w K mg base CX k f fd ps sp' :=
 ⟨fun vs H Q E q=>F.len vs H Q E (h _ _ _ _ q),fun A outer s H args us vs Q E hr he hb hv hs=>F.run A outer s H args us vs Q E hr he hb hv (h _ _ _ _ hs)⟩
theorem Env0.in1 {P:Program} {w:World} {K:PySem.W.Frag} {mg:Str->Option Value} {base:Heap} {A:Around} {outer:List Env} {s:Shared} {H:Hp} (e:Env0 P w K mg base A outer s H) :
  Env0 P w K mg base A.in1 outer s H:=⟨e.frames,e.mod,e.bs,e.bsz,e.funs,e.frf,e.hok,e.bare⟩
section
variable {X:Cx} {pins:List (Addr × Obj)} {σ:St} {H:Hp} {s s':Shared}
/-- from a body: what a callee wants -/
theorem Inv.env0 (I:Inv X pins σ H s):Env0 X.prog X.w X.K X.mg X.base X.A X.stack s H :=
 ⟨I.ok.frames,I.ok.mod,I.bs,Nat.le_trans I.ok.bsz I.sz,I.stack,I.stkFree,I.hok,I.bare⟩
/-- behind a call -/
theorem Inv.after {Q:VK} {u:Value} (I:Inv X pins σ H s) (h:CE X.stack X.prog X.w H s Q u s'):EP X pins σ Q u s':=by
 obtain⟨v,H',os,bare,un,hok,r,q⟩:=h
 obtain⟨hh,g,d,t,os'⟩:=s'
 obtain rfl:os'=s.os:=os
 exact⟨v,H',I.call (h':=hh) (g':=g) (d':=d) (t':=t) (ch:=[]) un hok bare (fun b z=>absurd z (by simp)),r,q⟩
end
/-- f(..): the written arguments, then the defaults dvs; E: what is wanted of an exception -/
def tCall (sp:Sp) (dvs:List V) (E:XK) (t:TA):TE:=fun σ H Q=>t σ H fun vs H1=>sp (vs++dvs) H1 Q E
/-- how the parameters are bound: us the positional arguments, kw the keywords' values by name, ds the defaults that fill up -/
def Binds (K:PySem.W.Frag) (fd:FuncData) (ps:List Str) (ds:List Value):Prop :=
 ∀ (s:Shared) (us:List Value),K.In s.heap->(us++ds).length=ps.length->BindsTo s fd ⟨us,[]⟩ (ps.zip (us++ds))
/-- every parameter is given -/
theorem Binds.all {K:PySem.W.Frag} {fd:FuncData} {ps:List Str} (h:∀ us:List Value,us.length=ps.length->bindArgs fd ⟨us,[]⟩=pure (ps.zip us)):Binds K fd ps []:=fun s us _ hl=>by
 rw[List.append_nil] at hl ⊢
 exact .of_eq (h us hl)
/-- an exception of a callee reaches what this body wants of exceptions -/
def Passes (CX:CXT) (X:Cx) (E:XK):Prop:=∀ (pins:List (Addr × Obj)) (σ:St) (H:Hp) (s:Shared) (e:Value) (s':Shared),Inv X pins σ H s->CX X.stack H s E e s'->X.xe e s'
section
variable {X:Cx} {CX:CXT} {k:Nat} {f C:Addr} {fd:FuncData} {ps:List Str} {sp:Sp} {dvs:List V} {ds:List Value} {E:XK} {x m:Str} {p pos apos:Pos} {e o:Expr} {es:List Expr} {ta:TE} {t:TA}
/-- the callee runs -/
theorem run_fn {pins:List (Addr × Obj)} {σ:St} {H:Hp} {s:Shared} {Q:VK} {us:List Value} {vs:List V} (F:FnOk X.prog X.w X.K X.mg X.base CX k f fd ps sp) (hr:Room k X.A) (hb:Binds X.K fd ps ds) (hd:Vals dvs ds) (hx:Passes CX X E)
  (I:Inv X pins σ H s) (r:Vals vs us) (h:sp (vs++dvs) H Q E):wpAny (model X.prog X.w) X.A (call (.ref f) us) (EP X pins σ Q) X.xe s:=by
 have r2:Vals (vs++dvs) (us++ds):=r.append hd
 have hl:(us++ds).length=ps.length:=by rw[← r2.length];exact F.len _ _ _ _ h
 refine wpAny_call (codeAny_mono (F.run X.A X.stack s H ⟨us,[]⟩ (us++ds) (vs++dvs) Q E hr I.env0 (hb s us I.kIn hl) r2 h) fun r s' hq=>?_)
 cases r with
 | error e=>exact hx pins σ H s e s' I hq
 | ok fl =>
  cases fl with
  | ret u=>exact I.after hq
  | next=>exact False.elim hq
  | brk=>exact False.elim hq
  | cont=>exact False.elim hq
theorem pe_call (F:FnOk X.prog X.w X.K X.mg X.base CX k f fd ps sp) (hr:Room k X.A) (hg:Gl X x) (hm:X.mg x=some (.ref f)) (hk:PySem.W.keepIn X.K (.ref f)=true) (hb:Binds X.K fd ps ds) (hd:Vals dvs ds) (hx:Passes CX X E)
  (ha:PA X (e::es) t) (hdb:(x == ("__debug__":Str))=false:=by decide) (he:starEach (e::es) X.env=(false,eval e X.env)::starEach es X.env:=by rfl) (hpl:(backTo pos (starEach es X.env)).any (·.1)=false:=by rfl) :
  PE X (.Call (.Name x p) (e::es) [] pos) (tCall sp dvs E t):=by
 intro pins s σ H Q I h
 refine wpAny_Call_Name_kw (ld_glob I hg hm ?_ hdb)
 refine PySem.W.callWith_K (h₀:=X.base) I.ok.mod.kin hk (thn (ha pos pins s σ H _ I h) fun us s1 ⟨vs,H1,I1,r,q⟩=>⟨I1.kIn,?_⟩) he hpl
 exact run_fn F hr hb hd hx I1 r q
/-- what a class must have to be made -/
structure Mk (K:PySem.W.Frag) (C f:Addr):Prop where
 makes:PySem.W.makesIn K C=true
 init:PySem.W.findIn K (.ref C) "__init__"=some (some (.ref f))
 fn:PySem.W.isFn K (.ref f)=true
 kp:PySem.W.keepIn K (.ref C)=true
end
section
variable {X:Cx} {CX:CXT} {k:Nat} {f C:Addr} {fd:FuncData} {ps ks:List Str} {sp:Sp} {E:XK} {x m:Str} {p pos apos kpos:Pos} {e o:Expr} {es:List Expr} {kws:List Keyword} {te ta:TE} {t tk:TA} {nm:Option Str}
variable {g:List Value->List Value->List Value} {gV:List V->List V->List V}
end
/-- names: the parameters first -/
structure FnScope (N P:List Str) (sc:Scope):Prop where
 kind:sc.kind=.function
 co:sc.isCoroutine=false
 gen:sc.isGenerator=false
 nd:N.Nodup
 pre:N.take P.length=P
 par:∀ x ∈ P,sc.names.lookup x=some .local∨sc.names.lookup x=some .cell
 nofree:∀ y ∈ sc.names,y.2≠.free
theorem bindL_out {kindOf:Str->Option NameKind} {x:Str}:∀ {binds:List (Str × Value)} {m:Str->Option Value},(∀ v,(x,v) ∉ binds)->bindL kindOf binds m x=m x
 | [],_,_=>rfl
 | (n,v)::r,m,h=>by
  unfold bindL
  rw[bindL_out fun w hw=>h w (List.mem_cons_of_mem _ hw)]
  split
  ·have:x≠n:=by rintro rfl;exact h v List.mem_cons_self
   simp [this]
  ·rfl
theorem bindC_out {kindOf:Str->Option NameKind} {x:Str}:∀ {binds:List (Str × Value)} {m:Str->Option Value},(∀ v,(x,v) ∉ binds)->bindC kindOf binds m x=m x
 | [],_,_=>rfl
 | (n,v)::r,m,h=>by
  unfold bindC
  rw[bindC_out fun w hw=>h w (List.mem_cons_of_mem _ hw)]
  split
  ·rfl
  ·have:x≠n:=by rintro rfl;exact h v List.mem_cons_self
   simp [this]
theorem bindL_get {kindOf:Str->Option NameKind} {x:Str} {v:Value}:∀ {P:List Str} {vs:List Value} {i:Nat} {m:Str->Option Value},P.Nodup->P[i]?=some x->vs[i]?=some v->kindOf x=some .local ->
  bindL kindOf (P.zip vs) m x=some v
 | [],_,_,_,_,h,_,_=>by simp at h
 | _::_,[],_,_,_,_,h,_=>by simp at h
 | p::P,w::vs,0,m,nd,h1,h2,hk=>by
  simp at h1 h2;subst h1;subst h2
  show bindL kindOf ((p,w)::P.zip vs) m p=_
  unfold bindL
  rw[bindL_out fun v hv=>(List.nodup_cons.mp nd).1 (List.of_mem_zip hv).1,if_pos hk]
  simp
 | p::P,w::vs,i + 1,m,nd,h1,h2,hk=>by
  show bindL kindOf ((p,w)::P.zip vs) m x=_
  unfold bindL
  exact bindL_get (i:=i) (List.nodup_cons.mp nd).2 (by simpa using h1) (by simpa using h2) hk
theorem bindC_get {kindOf:Str->Option NameKind} {x:Str} {v:Value}:∀ {P:List Str} {vs:List Value} {i:Nat} {m:Str->Option Value},P.Nodup->P[i]?=some x->vs[i]?=some v->kindOf x≠some .local ->
  bindC kindOf (P.zip vs) m x=some v
 | [],_,_,_,_,h,_,_=>by simp at h
 | _::_,[],_,_,_,_,h,_=>by simp at h
 | p::P,w::vs,0,m,nd,h1,h2,hk=>by
  simp at h1 h2;subst h1;subst h2
  show bindC kindOf ((p,w)::P.zip vs) m p=_
  unfold bindC
  rw[bindC_out fun v hv=>(List.nodup_cons.mp nd).1 (List.of_mem_zip hv).1,if_neg hk]
  simp
 | p::P,w::vs,i + 1,m,nd,h1,h2,hk=>by
  show bindC kindOf ((p,w)::P.zip vs) m x=_
  unfold bindC
  exact bindC_get (i:=i) (List.nodup_cons.mp nd).2 (by simpa using h1) (by simpa using h2) hk
/-- the names' values at the entry -/
def start (N:List Str) (vs:List V):St:=vs.map some++List.replicate (N.length - vs.length) none
/-- the context of a def's body, at its entry; an exception leaves the frame, then lies as CX says -/
def cxOf (CX:CXT) (P:Program) (w:World) (K:PySem.W.Frag) (mg:Str->Option Value) (base:Heap) (N:List Str) (qual:Str) (scope:Scope) (f:Addr) (cd:Value) (A:Around) (outer:List Env) (s:Shared) (H:Hp) (E:XK):Cx where
 prog:=P
 w:=w
 K:=K
 mg:=mg
 base:=base
 A:=A.deeper (envOfC qual scope s.heap.objs.size f cd)
 N:=N
 s₀:=s
 H₀:=H
 env:=envOfC qual scope s.heap.objs.size f cd
 outer:=outer
 stack:=envOfC qual scope s.heap.objs.size f cd::outer
 ex:=[]
 calm:=true
 fn:=fun _=>true
 pn:=[]
 xe:=fun e s'=>wpAny (model P w) (A.deeper (envOfC qual scope s.heap.objs.size f cd)) (leaving (envOfC qual scope s.heap.objs.size f cd) e) (fun _ s''=>CX outer H s E e s'') (fun e' s''=>CX outer H s E e' s'') s'
theorem cell_has {sc:Scope} {n:Nat} {x:Str} (h:sc.names.lookup x=some .cell):∃ c,(cellsFrom n sc.names []).lookup x=some c:=by
 have q:=PySem.W.cellsFrom_some sc.names n [] (.inl h)
 exact Option.isSome_iff_exists.mp q
theorem inv_start {CX:CXT} {P:Program} {w:World} {K:PySem.W.Frag} {mg:Str->Option Value} {base:Heap} {N ps:List Str} {qual:Str} {scope:Scope} {f:Addr} {cd:Value} {A:Around} {outer:List Env} {s s1:Shared} {H:Hp} {E:XK} {us:List Value} {vs:List V}
  (S:FnScope N ps scope) (hd:A.handled=none) (e0:Env0 P w K mg base A outer s H) (hl:vs.length=ps.length) (r:Vals vs us)
  (x:InCallC s s.heap.objs.size (bindL (envOfC qual scope s.heap.objs.size f cd).kindOf (ps.zip us) fun _=>none) (cellsFrom (s.heap.objs.size + 1) scope.names []) (bindC (envOfC qual scope s.heap.objs.size f cd).kindOf (ps.zip us) fun _=>none) s1) :
  Inv (cxOf CX P w K mg base N qual scope f cd A outer s H E) [] (start N vs) H s1:=by
 have hpl:ps.length≤N.length:=by have:=congrArg List.length S.pre;rw[List.length_take] at this;omega
 obtain⟨h1,tk,rfl,hk⟩:=x.done
 have noA:∀ b:Addr,b ∉ (cxOf CX P w K mg base N qual scope f cd A outer s H E).ex:=fun b z=>absurd (show b ∈ ([]:List Addr) from z) (by simp)
 refine⟨⟨e0.mod,S.kind,rfl,rfl,Nat.le_refl _,fun y z c h1 h2=>?_,fun y hy=>?_,fun y c _ h=>?_,fun _=>hd,Around.frames_deeper e0.frames,.inr ⟨rfl,rfl⟩,fun b z=>absurd z (noA b),e0.bs,e0.bsz,fun b _ _=>noA b,fun b z=>absurd z (noA b),e0.funs,e0.frf⟩,
  rfl,e0.bare,Un.kept hk,⟨_,x.toInCall.ns,fun i y v h1 h2 h3=>?_⟩,fun y c h=>⟨_,x.cell y c h⟩,e0.hok.fresh (Nat.le_refl _),fun y c h=>?_,fun p hp=>absurd (show p ∈ ([]:List (Addr × Obj)) from hp) (by simp),e0.hok.kept hk,?_⟩
 ·exact name_of_addr x.apart (PySem.mem_of_lookup h1) (PySem.mem_of_lookup h2)
 ·have hy:scope.names.lookup y=some .cell∨scope.names.lookup y=some .free:=hy
  rcases hy with hy | hy
  ·exact cell_has hy
  ·exact absurd rfl (S.nofree _ (PySem.mem_of_lookup hy))
 ·exact Nat.le_of_lt (x.above y c (PySem.mem_of_lookup h))
 ·have hi:i < vs.length:=by
   unfold start at h2
   by_cases hi:i < vs.length
   ·exact hi
   ·rw[List.getElem?_append_right (by simpa using hi)] at h2
    rw[List.getElem?_replicate] at h2
    split at h2 <;> cases h2
  have ha:vs[i]?=some v:=by
   unfold start at h2
   rw[List.getElem?_append_left (by simpa using hi),List.getElem?_map] at h2
   cases e:vs[i]? with
   | none=>rw[e] at h2;cases h2
   | some a=>rw[e] at h2;cases h2;rfl
  obtain⟨u,hu,rv⟩:=r.get ha
  have hp:ps[i]?=some y:=by
   rw[← S.pre,List.getElem?_take_of_lt (by omega)];exact h1
  have ndP:ps.Nodup:=by rw[← S.pre];exact S.nd.sublist (List.take_sublist _ _)
  refine⟨u,rv,?_⟩
  rcases S.par y (List.mem_of_getElem? hp) with k | k
  ·exact .inl ⟨k,bindL_get ndP hp hu k⟩
  ·obtain⟨c,e⟩:=cell_has (n:=s.heap.objs.size + 1) k
   refine .inr ⟨.inl k,c,e,?_⟩
   have q:=x.cell y c e
   rw[bindC_get ndP hp hu (by show scope.names.lookup y≠_;rw[k];decide)] at q
   exact q
 ·exact e0.hok.fresh (Nat.le_of_lt (x.above y c (PySem.mem_of_lookup h)))
 ·unfold start
  show _=N.length
  rw[List.length_append,List.length_map,List.length_replicate]
  omega
/-- THE RULE: a def (or a method) of the text, by its body. The body's reading t is chosen for each entry; it is run at the parameters' values -/
theorem fn_of {CX:CXT} {P:Program} {w:World} {K:PySem.W.Frag} {mg:Str->Option Value} {base:Heap} {k:Nat} {f:Addr} {name qual:Str} {params:Arguments} {body:List Stmt} {scope:Scope} {dV kV doc pm cdv ct oc:Value} {an od:Option Addr}
  {osl:Array (Option Value)} {N ps:List Str} {sp:Sp} (lk:K.lookup f=some ⟨oc,od,.func (PySem.W.fnOf name qual params body scope dV kV doc pm an cdv ct),osl⟩) (hcd:PySem.W.codeIn K cdv qual=true) (S:FnScope N ps scope)
  (len:∀ vs H Q E,sp vs H Q E->vs.length=ps.length)
  (hbody:∀ (A:Around) (outer:List Env) (s:Shared) (H:Hp) (vs:List V) (Q:VK) (E:XK),Room k (A.deeper (envOfC qual scope s.heap.objs.size f cdv))->sp vs H Q E ->
   ∃ t,PSs (cxOf CX P w K mg base N qual scope f cdv A outer s H E) body t∧t { nx:=fun _ H'=>Q .non H',rt:=Q } (start N vs) H) :
  FnOk P w K mg base CX (k + 1) f (PySem.W.fnOf name qual params body scope dV kV doc pm an cdv ct) ps sp:=by
 refine⟨len,fun A outer s H args us vs Q E hr e0 hb r hsp=>?_⟩
 have hl:=len _ _ _ _ hsp
 have KX:K.In s.heap:=e0.mod.kin.keeps fun b o e=>(e0.bs b o e).1
 have lim:s.heap.NoLimit:=e0.mod.nolimit.keeps fun b o e=>(e0.bs b o e).1
 have hkind:∀ y ∈ ps.zip us,scope.names.lookup y.1=some .local∨(scope.names.lookup y.1=some .cell∧((cellsFrom (s.heap.objs.size + 1) scope.names []).lookup y.1).isSome=true):=fun ⟨n,v⟩ hy=>by
  rcases S.par n (List.of_mem_zip hy).1 with q | q
  ·exact .inl q
  ·exact .inr ⟨q,PySem.W.cellsFrom_some _ _ _ (.inl q)⟩
 refine codeAny_call_function hr.depth (KX _ _ lk) rfl S.co S.gen rfl (PySem.W.codeRec_of KX hcd) (hb _ _ _ _ ?_)
 refine wpAny_newFunctionEnv_cells S.kind hkind fun env he s1 x=>?_
 subst he
 refine⟨lim.keeps x.toInCall.keep,codeAny_func ?_⟩
 obtain⟨t,ht,hq⟩:=hbody A outer s H vs Q E (hr.deeper _) hsp
 have I:Inv (cxOf CX P w K mg base N qual scope f cdv A outer s H E) [] (start N vs) H s1:=inv_start S hr.hd e0 hl r x
 refine wpAny_mono (ht [] s1 (start N vs) H _ I hq) (fun fl s' hs=>?_) fun e s' hs=>hs
 have fin:∀ {σ':St} {H':Hp} {v:V} {u:Value},Inv (cxOf CX P w K mg base N qual scope f cdv A outer s H E) [] σ' H' s'->RelV v u->Q v H'->CE outer P w H s Q u s' :=
  fun {σ' H' v u} J rv q=>⟨v,H',J.os,J.bare,J.base,J.hok,rv,q⟩
 cases fl with
 | ret u =>
  obtain⟨v,σ',H',J,rv,q⟩:=hs
  exact fin J rv q
 | next =>
  obtain⟨σ',H',J,q⟩:=hs
  exact fin (v:=V.non) (u:=Value.none) J rfl q
 | brk =>
  obtain⟨_,_,_,q⟩:=hs
  exact False.elim q
 | cont =>
  obtain⟨_,_,_,q⟩:=hs
  exact False.elim q
end L2
namespace L2
open PySem PySem.Spec PyProof.Rows
section
variable {X:Cx} {x:Str} {p pos:Pos} {e:Expr} {es:List Expr} {t:TA} {id T:String} {r:List V->Hp->VK->Prop}
def tCB (r:List V->Hp->VK->Prop) (t:TA):TE:=fun σ H Q=>t σ H fun vs H1=>r vs H1 Q
/-- f(e, ..), f a built-in function -/
theorem pe_callB (hc:CallR X (.builtin id) r) (hg:Gl X x) (hm:X.mg x=none) (hv:bootBuiltins x=some (.builtin id)) (ha:PA X (e::es) t) (hn:x≠"__name__":=by decide) (hdb:(x == ("__debug__":Str))=false:=by decide)
  (he:starEach (e::es) X.env=(false,eval e X.env)::starEach es X.env:=by rfl) (hpl:(backTo pos (starEach es X.env)).any (·.1)=false:=by rfl):PE X (.Call (.Name x p) (e::es) [] pos) (tCB r t):=by
 intro pins s σ H Q I h
 refine wpAny_Call_Name_kw (ld_blt I hg hm hv ?_ hn hdb)
 exact PyProof.Rows.callWith_builtin1 (thn (ha pos pins s σ H _ I h) fun us s1 ⟨vs,H1,I1,r1,q1⟩=>hc pins s1 σ H1 vs us Q I1 r1 q1) he hpl
/-- T(e, ..), T a built-in type -/
theorem pe_callTy (hc:CallR X (.type T) r) (hg:Gl X x) (hm:X.mg x=none) (hv:bootBuiltins x=some (.type T)) (ha:PA X (e::es) t) (hn:x≠"__name__":=by decide) (hdb:(x == ("__debug__":Str))=false:=by decide)
  (he:starEach (e::es) X.env=(false,eval e X.env)::starEach es X.env:=by rfl) (hpl:(backTo pos (starEach es X.env)).any (·.1)=false:=by rfl):PE X (.Call (.Name x p) (e::es) [] pos) (tCB r t):=by
 intro pins s σ H Q I h
 refine wpAny_Call_Name_kw (ld_blt I hg hm hv ?_ hn hdb)
 exact PyProof.Rows.callWith_type1 (thn (ha pos pins s σ H _ I h) fun us s1 ⟨vs,H1,I1,r1,q1⟩=>hc pins s1 σ H1 vs us Q I1 r1 q1) he hpl
end
end L2
namespace HT
open PySem PyProof.Rows
/-- t < u of tuples of ints -/
def lexLt:List Int->List Int->Bool
 | [],[]=>false
 | [],_::_=>true
 | _::_,[]=>false
 | x::xs,y::ys=>if x=y then lexLt xs ys else decide (x < y)
theorem lexLt_cons (x y:Int) (xs ys:List Int):lexLt (x::xs) (y::ys)=if x=y then lexLt xs ys else decide (x < y):=rfl
theorem lexLt_nil_nil:lexLt [] []=false:=rfl
theorem lexLt_nil_cons (y:Int) (ys:List Int):lexLt [] (y::ys)=true:=rfl
theorem lexLt_cons_nil (x:Int) (xs:List Int):lexLt (x::xs) []=false:=rfl
theorem eqAt_int (A:Around) (s:Shared) (a:Int) (t:Tok) (c:Int) (u:Tok):∃ e,SeqAt.EqAt A s (.int a t) (.int c u) e∧(e=true↔a=c) :=
 ⟨(a == c),SeqAt.EqAt.int_int a t c u,by simp⟩
theorem rcLt_int (A:Around) (s:Shared) (a:Int) (t:Tok) (c:Int) (u:Tok) (prog:Program) (w:World) (E:Value->Shared->Prop) (Q:Value->Shared->Prop) (h:Q (.bool (decide (a < c))) s) :
  wpAny (model prog w) A (richCompare .Lt (.int a t) (.int c u)) Q E s :=
 (PyProof.Rows.lt_int h:wpAny (model prog w) A (compareOp .Lt (.int a t) (.int c u)) Q E s)
section
open PySem.SeqAt
open PySem.AutoSeq1 (wpAny_loadPart')
open PySem.MeetsSeq PySem.MeetsSeq2 PySem.MeetsSeq3
theorem tuple_lt_ints (l b:Addr) (items items2:Array Value) (n n2:Nat) (dd dd2:Option Addr) (sl sl2:Array (Option Value)) (ns ms:List Int) (hi:IntsAre items.toList ns) (hj:IntsAre items2.toList ms) :
  Meets (Builtin.«tuple.__lt__» ⟨[.ref l,.ref b],[]⟩)
   (fun _ R s=>s.heap.get? l=some { cls:=.type "tuple",dict:=dd,data:=.seq items n,slots:=sl }∧s.heap.get? b=some { cls:=.type "tuple",dict:=dd2,data:=.seq items2 n2,slots:=sl2 } ∧
    R (.ok (.ret (.bool (lexLt ns ms)))) s) :=
 .of_wp fun prog w A R s h=>by
  obtain⟨hp,g,d,tk,os⟩:=s;obtain⟨hl,hb,h⟩:=h
  have f2:=AutoSeq1.sub_tuple_tuple
  have z1:items.size=ns.length:=by rw[← hi.length];simp
  have z2:items2.size=ms.length:=by rw[← hj.length];simp
  wp_walk using wpAny_loadPart' hl,wpAny_loadPart' hb,wpAny_forIn_list _ (fun rest b s'=>b.1=none∧s'=⟨hp,g,d,tk,os⟩∧∃ (vs ws:List Value) (ns' ms':List Int),rest=vs.zip ws ∧
   IntsAre vs ns'∧IntsAre ws ms'∧ns'.length + items2.size=ms'.length + items.size∧R (.ok (.ret (.bool (lexLt ns' ms')))) ⟨hp,g,d,tk,os⟩) _
  case turn =>
   rintro ⟨y,x⟩ rest b s' ⟨hb',rfl,vs,ws,ns',ms',hz,hvi,hwi,hlen,hR⟩
   cases hvi with
   | nil=>rw[List.zip_nil_left] at hz;cases hz
   | cons a t hvi' =>
    cases hwi with
    | nil=>rw[List.zip_nil_right] at hz;cases hz
    | cons c u hwi' =>
     rw[List.zip_cons_cons] at hz
     injection hz with hyx hrest
     injection hyx with hy hx
     subst hy hx
     rw[lexLt_cons] at hR
     simp only [List.length_cons] at hlen
     obtain⟨e,he,hiff⟩:=eqAt_int A.in1 ⟨hp,g,d,tk,os⟩ a t c u
     refine wpAny_bind (he prog w _ _ ?_)
     cases e with
     | true =>
      rw[if_pos (hiff.mp rfl)] at hR
      wp_walk
      exact⟨rfl,rfl,_,_,_,_,hrest,hvi',hwi',by omega,hR⟩
     | false =>
      rw[if_neg (fun q=>absurd (hiff.mpr q) Bool.false_ne_true)] at hR
      have hri:=rcLt_int A.in1 ⟨hp,g,d,tk,os⟩ a t c u prog w
      wp_walk using hri
      exact⟨_,rfl,by simpa using hR⟩
  case fin =>
   rintro ⟨b1,b2⟩ s' ⟨hb',rfl,vs,ws,ns',ms',hz,hvi,hwi,hlen,hR⟩
   simp only at hb'
   subst hb'
   have hv:lexLt ns' ms'=decide (items.size < items2.size):=by
    cases hvi with
    | nil =>
     cases hwi with
     | nil =>
      simp only [List.length_nil] at hlen
      rw[lexLt_nil_nil]
      exact (decide_eq_false (by omega)).symm
     | cons c u hw =>
      simp only [List.length_nil,List.length_cons] at hlen
      rw[lexLt_nil_cons]
      exact (decide_eq_true (by omega)).symm
    | cons a t hv =>
     cases hwi with
     | nil =>
      simp only [List.length_nil,List.length_cons] at hlen
      rw[lexLt_cons_nil]
      exact (decide_eq_false (by omega)).symm
     | cons c u hw =>
      rw[List.zip_cons_cons] at hz
      cases hz
   rw[hv] at hR
   wp_walk
   exact⟨_,rfl,by simpa [Builtin.Tuple.tupleCompareSizes] using hR⟩
  case h =>
   exact⟨rfl,rfl,items.toList,items2.toList,ns,ms,rfl,hi,hj,by omega,h⟩
end
section
variable {prog:Program} {w:World} {A:Around} {E:Value->Shared->Prop} {s:Shared}
theorem lt_tupInts {l b:Addr} {items items2:Array Value} {ns ms:List Int} {Q:Value->Shared->Prop} (hl:IsTup s.heap l items) (hb:IsTup s.heap b items2) (hi:IntsAre items.toList ns) (hj:IntsAre items2.toList ms)
  (hu:A.units < cLine) (h:Q (.bool (lexLt ns ms)) s):wpAny (model prog w) A (compareOp .Lt (.ref l) (.ref b)) Q E s:=by
 obtain⟨⟨cls,dd,data,sl⟩,ho,hc,n,hd⟩:=id hl
 obtain⟨⟨cls2,dd2,data2,sl2⟩,ho2,hc2,n2,hd2⟩:=id hb
 simp only at hc hd hc2 hd2
 subst hc hd hc2 hd2
 exact richCompare_meets_room (op:=.Lt) ⟨_,ho,rfl⟩ ⟨_,ho2,rfl⟩ PySem.F.slot_tuple_lt PySem.F.entry_tuple_lt (PySem.F.args_tuple_lt_2 _ _) (tuple_lt_ints l b items items2 n n2 dd dd2 sl sl2 ns ms hi hj)
  ⟨ho,ho2,show Value.bool (lexLt ns ms)≠Value.notImplemented∧Q (.bool (lexLt ns ms)) s from ⟨(fun x=>nomatch x),h⟩⟩ hu
/-- t + u, t not empty -/
theorem cat_tup {t b:Addr} {vs ws:List Value} {Q:Value->Shared->Prop} (ht:IsTup s.heap t vs.toArray) (hb:IsTup s.heap b ws.toArray) (hv:vs≠[])
  (h1:ws=[]->Q (.ref t) s) (h2:ws≠[]->Q (.ref s.heap.objs.size) { s with heap:=s.heap.push { cls:=.type "tuple",data:=.seq (vs++ws).toArray } })
  (hsz:vs.length + ws.length≤sizeLine):wpAny (model prog w) A (binaryOp .Add (.ref t) (.ref b)) Q E s:=by
 obtain⟨⟨cls,dd,data,sl⟩,ho,hc,n,hd⟩:=id ht
 obtain⟨⟨cls2,dd2,data2,sl2⟩,ho2,hc2,n2,hd2⟩:=id hb
 simp only at hc hd hc2 hd2
 subst hc hd hc2 hd2
 have e:vs.toArray++ws.toArray=(vs++ws).toArray:=by simp
 by_cases hw:ws=[]
 ·exact concat_meets ⟨_,ho,rfl⟩ ⟨_,ho2,rfl⟩ noFill_tuple_add seq_tuple_add PySem.F.slot_tuple_add PySem.F.entry_tuple_add (PySem.F.args_tuple_add_2 _ _)
   (tuple_addW1 t b vs.toArray ws.toArray n n2 dd dd2 sl sl2 (by simpa using hv) (by simp [hw])) ⟨ho,ho2,h1 hw⟩
 ·refine concat_meets ⟨_,ho,rfl⟩ ⟨_,ho2,rfl⟩ noFill_tuple_add seq_tuple_add PySem.F.slot_tuple_add PySem.F.entry_tuple_add (PySem.F.args_tuple_add_2 _ _)
   (tuple_addW2 t b vs.toArray ws.toArray n n2 dd dd2 sl sl2 (by simpa using hv) (by simpa using hw) (by rw[List.size_toArray,List.size_toArray];exact hsz)) ⟨ho,ho2,?_⟩
  rw[e]
  exact h2 hw
/-- a slice's bound as a place among n (d where it is left out) -/
def sIx (n d:Nat):Option Int->Nat
 | none=>d
 | some v=>if v < 0 then (v + (n:Int)).toNat else min v.toNat n
end
end HT
namespace L2
open PySem PySem.Spec PyProof.Rows
abbrev TO:=St->Hp->(Option Int->Hp->Prop)->Prop
theorem intsAre_of {ns:List Int}:∀ {us:List Value},Vals (ns.map V.int) us->IntsAre us ns:=by
 induction ns with
 | nil=>intro us r;rw[List.map_nil] at r;cases r;exact .nil
 | cons n ns ih =>
  intro us r
  rw[List.map_cons] at r
  cases r with
  | cons r1 r2 =>
   obtain⟨t,e⟩:=r1
   subst e
   exact .cons n t (ih r2)
section
variable {X:Cx} {e:Expr} {te:TE} {lo hi:Option Expr} {tl th:TO} {pos p2:Pos}
/-- what a slice of a value is, by values: the slice object stands at sl -/
def SlR (X:Cx) (r:V->Option Int->Option Int->Hp->VK->Prop):Prop :=
 ∀ (pins:List (Addr × Obj)) (s:Shared) (σ:St) (H:Hp) (x:V) (v vl vu:Value) (lo hi:Option Int) (sl:Addr) (Q:VK),Inv X pins σ H s->RelV x v->s.heap.IsSliceOf sl vl vu .none->IsPart vl lo->IsPart vu hi->r x lo hi H Q ->
  ∃ T id,typeLookup (.type T) "__getitem__"=pure (some (.builtin id))∧s.TypeIs v T∧wpAny (model X.prog X.w) X.A (getItem v (.ref sl)) (EP X pins σ Q) X.xe s
theorem SlR.or {r r':V->Option Int->Option Int->Hp->VK->Prop} (h:SlR X r) (h':SlR X r'):SlR X (fun x lo hi H Q=>r x lo hi H Q∨r' x lo hi H Q):=by
 intro pins s σ H x v vl vu lo hi sl Q I rx hs pl pu q
 rcases q with q | q
 ·exact h pins s σ H x v vl vu lo hi sl Q I rx hs pl pu q
 ·exact h' pins s σ H x v vl vu lo hi sl Q I rx hs pl pu q
/-- the items of xs[lo:hi] -/
def cutV (xs:List V) (lo hi:Option Int):List V:=(xs.drop (HT.sIx xs.length 0 lo)).take (HT.sIx xs.length xs.length hi - HT.sIx xs.length 0 lo)
def rLtT (K:PySem.W.Frag):R2:=fun x y H Q=>∃ a b ns ms,x=.ref a∧y=.ref b∧SqT K H a (ns.map V.int)∧SqT K H b (ms.map V.int)∧Q (.bl (HT.lexLt ns ms)) H
theorem op_ltT (hu:X.A.units < cLine):OpR X (compareOp .Lt) (rLtT X.K):=by
 intro pins s σ H x y v u Q I rx ry h
 obtain⟨a,b,ns,ms,rfl,rfl,ha,hb,q⟩:=h
 cases rx
 cases ry
 obtain⟨its,r1,p1,_⟩:=I.tuple ha
 obtain⟨its2,r2,p2,_⟩:=I.tuple hb
 have i1:IntsAre its.toArray.toList ns:=intsAre_of r1
 have i2:IntsAre its2.toArray.toList ms:=intsAre_of r2
 exact HT.lt_tupInts p1 p2 i1 i2 hu ⟨.bl (HT.lexLt ns ms),H,I,rfl,q⟩
/-- t + u, t not empty: u empty gives t itself -/
def rCatT (K:PySem.W.Frag):R2:=fun x y H Q=>∃ a b xs ys,x=.ref a∧y=.ref b∧SqT K H a xs∧SqT K H b ys∧xs≠[]∧xs.length + ys.length≤sizeLine ∧
 (ys=[]->Q (.ref a) H)∧(ys≠[]->∀ p,H p=none->Q (.ref p) (upd H p (.tup (xs++ys))))
theorem Vals.nil_iff {xs:List V} {us:List Value} (r:Vals xs us):us=[]↔xs=[]:=by
 cases r with
 | nil=>simp
 | cons _ _=>simp
theorem op_catT:OpR X (binaryOp .Add) (rCatT X.K):=by
 intro pins s σ H x y v u Q I rx ry h
 obtain⟨a,b,xs,ys,rfl,rfl,ha,hb,hx,hz,q1,q2⟩:=h
 cases rx
 cases ry
 obtain⟨its,r1,p1,_⟩:=I.tuple ha
 obtain⟨its2,r2,p2,_⟩:=I.tuple hb
 refine HT.cat_tup p1 p2 (fun z=>hx (r1.nil_iff.mp z)) (fun z=>⟨.ref a,H,I,rfl,q1 (r2.nil_iff.mp z)⟩) (fun z=>?_) (by rw[← r1.length,← r2.length];exact hz)
 refine⟨.ref s.heap.objs.size,_,I.laid (t':=s.toks) (o:=.tup (xs++ys)) (fun b ob q=>Heap.get?_push_of_some _ q) (Nat.le_refl _) ?_,rfl,q2 (fun w=>z (r2.nil_iff.mpr w)) _ (I.hok.fresh (Nat.le_refl _))⟩
 exact⟨by rw[List.length_append];exact hz,_,r1.append r2,TupN.new _ _⟩
end
end L2
namespace L2
open PySem PySem.Spec PyProof.Rows
/-- the place that an index of any sign means -/
def ixN (n:Nat) (i:Int):Option Nat:=if 0≤i then (if i < n then some i.toNat else none) else if -(n:Int)≤i then some (i + n).toNat else none
def atI {α:Type} (xs:List α) (i:Int):Option α:=(ixN xs.length i).bind fun j=>xs[j]?
theorem ixN_seq {n:Nat} {i:Int} {j:Nat} (h:ixN n i=some j):seqIndex? i n=some j∧j < n∧-(n:Int)≤i∧i < n:=by
 unfold ixN at h
 by_cases h0:0≤i
 ·rw[if_pos h0] at h
  by_cases h1:i < n
  ·rw[if_pos h1] at h
   have e:i.toNat=j:=Option.some.inj h
   exact⟨by rw[seqIndex_of h0 h1,e],by omega,by omega,h1⟩
  ·rw[if_neg h1] at h;cases h
 ·rw[if_neg h0] at h
  by_cases h1:-(n:Int)≤i
  ·rw[if_pos h1] at h
   have e:(i + n).toNat=j:=Option.some.inj h
   exact⟨by rw[seqIndex_neg (by omega) h1,e],by omega,h1,by omega⟩
  ·rw[if_neg h1] at h;cases h
theorem atI_get {α:Type} {xs:List α} {i:Int} {v:α} (h:atI xs i=some v):∃ j,seqIndex? i xs.length=some j∧xs[j]?=some v∧j < xs.length∧-(xs.length:Int)≤i∧i < xs.length:=by
 unfold atI at h
 cases e:ixN xs.length i with
 | none=>rw[e] at h;cases h
 | some j =>
  rw[e] at h
  obtain⟨h1,h2,h3,h4⟩:=ixN_seq e
  exact⟨j,h1,h,h2,h3,h4⟩
theorem atI_nat {α:Type} {xs:List α} {j:Nat} {v:α} (h:xs[j]?=some v):atI xs (j:Int)=some v:=by
 have hj:j < xs.length:=(List.getElem?_eq_some_iff.mp h).1
 have e:ixN xs.length (j:Int)=some j:=by
  unfold ixN
  rw[if_pos (by omega),if_pos (by omega)];simp
 unfold atI;rw[e];exact h
theorem atI_last {α:Type} (xs:List α) (v:α):atI (xs++[v]) (-1)=some v:=by
 have hl:(xs++[v]).length=xs.length + 1:=by simp
 have e:ixN (xs++[v]).length (-1)=some xs.length:=by
  unfold ixN
  rw[hl,if_neg (by decide),if_pos (by omega)]
  congr 1
  omega
 unfold atI
 rw[e]
 show (xs++[v])[xs.length]?=some v
 simp
/-- what stands as an index of a plain subscript -/
def PlainIx (b:Expr):Prop:=∀ o i,subscripted b false o i=operate [o,i] (getItem o i)
/-- a subscript by values -/
def IxR (X:Cx) (r:R2):Prop :=
 ∀ (value slice:Expr) (pins:List (Addr × Obj)) (s:Shared) (σ:St) (H:Hp) (x y:V) (v u:Value) (Q:VK),Inv X pins σ H s->RelV x v->RelV y u->r x y H Q ->
  subscripted slice false v u=operate [v,u] (getItem v u)->wpAny (model X.prog X.w) X.A (subscriptTail value slice v u) (EP X pins σ Q) X.xe s
/-- a call of a builtin's method by values: the receiver, the arguments -/
def MtR (X:Cx) (id:String) (r:V->List V->Hp->VK->Prop):Prop :=
 ∀ (pins:List (Addr × Obj)) (s:Shared) (σ:St) (H:Hp) (x:V) (xs:List V) (v:Value) (us:List Value) (Q:VK),Inv X pins σ H s->RelV x v->Vals xs us->r x xs H Q ->
  wpAny (model X.prog X.w) X.A (call (.builtin id) (v::us)) (EP X pins σ Q) X.xe s
section
variable {X:Cx} {a b:Expr} {ta tb:TE} {pos:Pos}
theorem IxR.or {r r':R2} (h:IxR X r) (h':IxR X r'):IxR X (fun x y H Q=>r x y H Q∨r' x y H Q):=by
 intro value slice pins s σ H x y v u Q I rx ry q hs
 rcases q with q | q
 ·exact h value slice pins s σ H x y v u Q I rx ry q hs
 ·exact h' value slice pins s σ H x y v u Q I rx ry q hs
theorem MtR.or {id:String} {r r':V->List V->Hp->VK->Prop} (h:MtR X id r) (h':MtR X id r'):MtR X id (fun x xs H Q=>r x xs H Q∨r' x xs H Q):=by
 intro pins s σ H x xs v us Q I rx rs q
 rcases q with q | q
 ·exact h pins s σ H x xs v us Q I rx rs q
 ·exact h' pins s σ H x xs v us Q I rx rs q
/-- a[b] -/
theorem pe_ix {r:R2} (hr:IxR X r) (ha:PE X a ta) (hb:PE X b tb) (hs:PlainIx b):PE X (.Subscript a b pos) (tOp r ta tb):=by
 intro pins s σ H Q I h
 exact Subscript_ (binT ha hb I h fun v u s2 x y H2 I2 rx ry q=>hr a b pins s2 σ H2 x y v u Q I2 rx ry q (hs _ _))
def rIxL (K:PySem.W.Frag):R2:=fun x y H Q=>∃ p xs i v,x=.ref p∧y=.int i∧SqL K H p xs∧atI xs i=some v∧Q v H
def rIxT (K:PySem.W.Frag):R2:=fun x y H Q=>∃ p xs i v,x=.ref p∧y=.int i∧SqT K H p xs∧atI xs i=some v∧Q v H
theorem ix_list:IxR X (rIxL X.K):=by
 intro value slice pins s σ H x y v u Q I rx ry h hs
 obtain⟨p,xs,i,z,rfl,rfl,hq,he,q⟩:=h
 cases rx
 obtain⟨t,rfl⟩:=ry
 obtain⟨its,r,pl,hz⟩:=I.list hq
 obtain⟨j,h1,h2,h3,h4,h5⟩:=atI_get he
 obtain⟨w,ew,rw'⟩:=r.get h2
 have hl:=r.length
 have hn:=line63
 have fin:EP X pins σ Q w s:=⟨z,H,I,rw',q⟩
 by_cases h0:0≤i
 ·have hj:i.toNat=j:=by
   rw[seqIndex_of h0 h5] at h1
   exact Option.some.inj h1
  exact item_listR pl.isList h0 (by omega) (by rw[hj];simpa using ew) fin hs
 ·have hj:(i + (its.toArray.size:Int)).toNat=j:=by
   rw[seqIndex_neg (by omega) h4] at h1
   rw[List.size_toArray,← hl]
   exact Option.some.inj h1
  exact subscriptTail_builtinR (x:=w) pl.isList.typeIs slot_list_getitem.lookup
   (wpAny_getItem_list_neg (Q:=fun r s'=>r=w∧EP X pins σ Q r s') pl.isList (by omega) (by rw[List.size_toArray] <;> omega) (by omega) (by rw[hj];simpa using ew) ⟨rfl,fin⟩) hs
theorem ix_tup:IxR X (rIxT X.K):=by
 intro value slice pins s σ H x y v u Q I rx ry h hs
 obtain⟨p,xs,i,z,rfl,rfl,hq,he,q⟩:=h
 cases rx
 obtain⟨t,rfl⟩:=ry
 obtain⟨its,r,pl,hz⟩:=I.tuple hq
 obtain⟨j,h1,h2,h3,h4,h5⟩:=atI_get he
 obtain⟨w,ew,rw'⟩:=r.get h2
 have hl:=r.length
 have hn:=line63
 have fin:EP X pins σ Q w s:=⟨z,H,I,rw',q⟩
 exact subscriptTail_builtinR (x:=w) pl.typeIs slot_tuple_getitem.lookup
  (getItem_tuple (j:=j) (Q:=fun r s'=>r=w∧EP X pins σ Q r s') pl (by omega) (by omega) (by rw[List.size_toArray,← hl];exact h1) (by simpa using ew) ⟨rfl,fin⟩) hs
/-- the list's object behind a store -/
theorem mapSeq_set (its:List Value) (n j:Nat) (u:Value):Obj.mapSeq (·.setIfInBounds j u) { cls:=.type "list",data:=.seq its.toArray n }={ cls:=.type "list",data:=.seq (its.set j u).toArray n }:=by
 simp [Obj.mapSeq]
theorem Inv.lst {pins:List (Addr × Obj)} {σ:St} {H:Hp} {s:Shared} {p:Addr} {xs:List V} (I:Inv X pins σ H s) (h:H p=some (.lst xs)) :
  ∃ (its:List Value) (n:Nat),Vals xs its∧s.heap.get? p=some { cls:=.type "list",data:=.seq its.toArray n }∧xs.length≤sizeLine:=by
 obtain⟨z,its,n,r,e⟩:=I.hok p _ h
 exact⟨its,n,r,e,z⟩
/-- the list at p is written by an update of its object -/
theorem Inv.lstUpd {pins:List (Addr × Obj)} {σ:St} {H:Hp} {s:Shared} {p:Addr} {xs ys:List V} {its its':List Value} {n n':Nat} {f:Obj->Obj} (I:Inv X pins σ H s) (h:H p=some (.lst xs))
  (ho:s.heap.get? p=some { cls:=.type "list",data:=.seq its.toArray n }) (hf:f { cls:=.type "list",data:=.seq its.toArray n }={ cls:=.type "list",data:=.seq its'.toArray n' }) (r:Vals ys its') (hz:ys.length≤sizeLine) (t:Nat) :
  Inv X pins σ (upd H p (.lst ys)) { s with heap:=s.heap.update p f,toks:=t }:=by
 have e:(s.heap.update p f).get? p=some { cls:=.type "list",data:=.seq its'.toArray n' }:=by
  rw[Heap.get?_update_self f ho (by rw[hf] <;> rfl),hf]
 refine I.write (x:=p) (e:=p) (by rw[h];trivial) (.inl rfl) (fun b u hb q=>(Heap.get?_update_other _ _ (Ne.symm hb)).trans q) ⟨_,e⟩ ?_
 exact⟨hz,its',n',r,e⟩
def rSetL:V->V->V->Hp->(Hp->Prop)->Prop:=fun o i v H Q=>∃ p xs k j,o=.ref p∧i=.int k∧H p=some (.lst xs)∧ixN xs.length k=some j∧Q (upd H p (.lst (xs.set j v)))
theorem set_list:PSet X rSetL:=by
 intro pins s σ H o i v ov iv u Q I ro ri rv h
 obtain⟨p,xs,k,j,rfl,rfl,hp,hj,q⟩:=h
 cases ro
 obtain⟨t,rfl⟩:=ri
 obtain⟨its,n,r,ho,hz⟩:=I.lst hp
 obtain⟨h1,h2,h3,h4⟩:=ixN_seq hj
 have hl:=r.length
 have hn:=line63
 have I':Inv X pins σ (upd H p (.lst (xs.set j v))) { s with heap:=s.heap.update p (Obj.mapSeq (·.setIfInBounds j u)) } :=
  I.lstUpd hp ho (mapSeq_set its n j u) (r.set rv j) (by rw[List.length_set];exact hz) s.toks
 by_cases h0:0≤k
 ·have hk:k.toNat=j:=by
   rw[seqIndex_of h0 h4] at h1
   exact Option.some.inj h1
  exact PySem.W.ki_setAt ho h0 (by omega) (by rw[List.size_toArray,← hl];exact h4) (by rw[hk];exact⟨_,I',q⟩)
 ·have hk:(k + (its.toArray.size:Int)).toNat=j:=by
   rw[seqIndex_neg (by omega) h3] at h1
   rw[List.size_toArray,← hl]
   exact Option.some.inj h1
  exact PySem.W.ki_setBack ho (by omega) (by rw[List.size_toArray,← hl];exact h3) (by omega) (by rw[hk];exact⟨_,I',q⟩)
def flatV:V->Bool
 | .non=>true
 | .bl _=>true
 | .int _=>true
 | .str _=>true
 | _=>false
/-- == of flat values -/
def eqV:V->V->Bool
 | .non,.non=>true
 | .bl a,.bl b=>a == b
 | .bl a,.int b=>(if a then 1 else 0) == b
 | .int a,.bl b=>a == (if b then 1 else 0)
 | .int a,.int b=>a == b
 | .str a,.str b=>a == b
 | _,_=>false
theorem eqAt_V {A:Around} {s:Shared} {y x:V} {u v:Value} (ry:RelV y u) (rx:RelV x v) (fy:flatV y=true) (fx:flatV x=true):SeqAt.EqAt A s u v (eqV y x):=by
 cases y with
 | non =>
  cases ry
  cases x with
  | non=>cases rx;exact SeqAt.EqAt.same _
  | bl b=>cases rx;exact SeqAt.EqAt.none_bool b
  | int b=>obtain⟨t,rfl⟩:=rx;exact SeqAt.EqAt.none_int b t
  | str b=>obtain⟨t,rfl⟩:=rx;exact SeqAt.EqAt.none_str b t
  | _=>exact absurd (show false=true from fx) Bool.false_ne_true
 | bl a =>
  cases ry
  cases x with
  | non=>cases rx;exact SeqAt.EqAt.bool_none a
  | bl b=>cases rx;exact SeqAt.EqAt.bool_bool a b
  | int b=>obtain⟨t,rfl⟩:=rx;exact SeqAt.EqAt.bool_int a b t
  | str b=>obtain⟨t,rfl⟩:=rx;exact SeqAt.EqAt.bool_str a b t
  | _=>exact absurd (show false=true from fx) Bool.false_ne_true
 | int a =>
  obtain⟨t',rfl⟩:=ry
  cases x with
  | non=>cases rx;exact SeqAt.EqAt.int_none a t'
  | bl b=>cases rx;exact SeqAt.EqAt.int_bool a t' b
  | int b=>obtain⟨t,rfl⟩:=rx;exact SeqAt.EqAt.int_int a t' b t
  | str b=>obtain⟨t,rfl⟩:=rx;exact SeqAt.EqAt.int_str a t' b t
  | _=>exact absurd (show false=true from fx) Bool.false_ne_true
 | str a =>
  obtain⟨t',rfl⟩:=ry
  cases x with
  | non=>cases rx;exact SeqAt.EqAt.str_none a t'
  | bl b=>cases rx;exact SeqAt.EqAt.str_bool a t' b
  | int b=>obtain⟨t,rfl⟩:=rx;exact SeqAt.EqAt.str_int a t' b t
  | str b=>obtain⟨t,rfl⟩:=rx;exact SeqAt.EqAt.str_str a t' b t
  | _=>exact absurd (show false=true from fx) Bool.false_ne_true
 | _=>exact absurd (show false=true from fy) Bool.false_ne_true
/-- the items' answers, read off the values (a value's own answer does not lean on its token) -/
def eqU (x:V) (u:Value):Bool:=match u with
 | .none=>eqV .non x
 | .bool b=>eqV (.bl b) x
 | .int i _=>eqV (.int i) x
 | .str z _=>eqV (.str z) x
 | _=>false
theorem eqU_of {x y:V} {u:Value} (r:RelV y u) (f:flatV y=true):eqU x u=eqV y x:=by
 cases y with
 | non=>cases r;rfl
 | bl b=>cases r;rfl
 | int i=>obtain⟨t,rfl⟩:=r;rfl
 | str z=>obtain⟨t,rfl⟩:=r;rfl
 | _=>exact absurd (show false=true from f) Bool.false_ne_true
theorem any_eqU {x:V}:∀ {xs:List V} {us:List Value},Vals xs us->xs.all flatV=true->us.any (eqU x)=xs.any fun y=>eqV y x
 | _,_,.nil,_=>rfl
 | y::xs,u::us,.cons r t,f=>by
  rw[List.all_cons,Bool.and_eq_true] at f
  rw[List.any_cons,List.any_cons,eqU_of r f.1,any_eqU t f.2]
theorem mem_eqAt {A:Around} {s:Shared} {x:V} {v:Value} (rx:RelV x v) (fx:flatV x=true):∀ {xs:List V} {us:List Value},Vals xs us->xs.all flatV=true->∀ u ∈ us,SeqAt.EqAt A s u v (eqU x u)
 | _,_,.nil,_=>fun u hu=>by cases hu
 | y::xs,u::us,.cons r t,f=>fun u' hu=>by
  rw[List.all_cons,Bool.and_eq_true] at f
  rcases List.mem_cons.mp hu with rfl | hu
  ·rw[eqU_of r f.1];exact eqAt_V r rx f.1 fx
  ·exact mem_eqAt rx fx t f.2 u' hu
def inV (x:V) (xs:List V):Bool:=xs.any fun y=>eqV y x
/-- x in a list or tuple of flat items -/
def rIn (K:PySem.W.Frag) (neg:Bool):R2:=fun x y H Q=>∃ p xs,y=.ref p∧(SqL K H p xs∨SqT K H p xs)∧flatV x=true∧xs.all flatV=true∧Q (.bl (if neg then !inV x xs else inV x xs)) H
theorem op_notIn_seq:OpR X (compareOp .NotIn) (rIn X.K true):=by
 intro pins s σ H x y v u Q I rx ry h
 obtain⟨p,xs,rfl,hq,fx,fs,q⟩:=h
 cases ry
 rcases hq with hq | hq
 ·obtain⟨its,r,pl,hz⟩:=I.list hq
  refine SeqAt.notIn_listAt (eqU x) pl.isList (fun w hw=>mem_eqAt rx fx r fs w (by simpa using hw)) ⟨.bl _,H,I,rfl,?_⟩
  rw[show its.toArray.any (eqU x)=its.any (eqU x) by simp,any_eqU r fs]
  exact q
 ·obtain⟨its,r,pl,hz⟩:=I.tuple hq
  refine SeqAt.notIn_tupleAt (eqU x) pl (fun w hw=>mem_eqAt rx fx r fs w (by simpa using hw)) ⟨.bl _,H,I,rfl,?_⟩
  rw[show its.toArray.any (eqU x)=its.any (eqU x) by simp,any_eqU r fs]
  exact q
theorem call_len_seq:CallR X (.builtin "len") (fun xs H Q=>∃ p ys,xs=[.ref p]∧(SqL X.K H p ys∨SqT X.K H p ys)∧Q (.int ys.length) H):=by
 intro pins s σ H xs us Q I r h
 obtain⟨p,ys,rfl,hq,q⟩:=h
 obtain⟨u,rfl,rx⟩:=vals1 r
 cases rx
 have hn:=line63
 rcases hq with hq | hq
 ·obtain⟨its,r',pl,hz⟩:=I.list hq
  have hlen:=r'.length
  exact Calls.call_len_list pl.isList (by simp only [List.size_toArray] <;> omega) ⟨.int ys.length,H,I.tok _,⟨s.toks + 1,by rw[List.size_toArray,hlen]⟩,q⟩
 ·obtain⟨its,r',pl,hz⟩:=I.tuple hq
  have hlen:=r'.length
  exact len_tuple pl (by simp only [List.size_toArray] <;> omega) ⟨.int ys.length,H,I.tok _,⟨s.toks + 1,by rw[List.size_toArray,hlen]⟩,q⟩
theorem CallR.or {f:Value} {r r':List V->Hp->VK->Prop} (h:CallR X f r) (h':CallR X f r'):CallR X f (fun xs H Q=>r xs H Q∨r' xs H Q):=by
 intro pins s σ H xs us Q I rs q
 rcases q with q | q
 ·exact h pins s σ H xs us Q I rs q
 ·exact h' pins s σ H xs us Q I rs q
theorem call_tuple_of:CallR X (.type "tuple") (fun xs H Q=>∃ p ys,xs=[.ref p]∧((SqL X.K H p ys∧∀ l,H l=none->Q (.ref l) (upd H l (.tup ys)))∨(SqT X.K H p ys∧Q (.ref p) H))):=by
 intro pins s σ H xs us Q I r h
 obtain⟨p,ys,rfl,h⟩:=h
 obtain⟨u,rfl,rx⟩:=vals1 r
 cases rx
 rcases h with ⟨hq,q⟩ | ⟨hq,q⟩
 ·obtain⟨its,r',pl,hz⟩:=I.list hq
  have hlen:=r'.length
  refine call_tuple_list pl.isList (fun h' kp=>?_) (by simp only [List.size_toArray] <;> omega)
  have I1:Inv X pins σ H { s with heap:=h' }:=I.kept (t':=s.toks) kp
  have I2:Inv X pins σ (upd H h'.objs.size (.tup ys)) { s with heap:=h'.push { cls:=.type "tuple",data:=.seq its.toArray } } :=
   I1.laid (t':=s.toks) (fun b o e=>Heap.get?_push_of_some _ e) (Nat.le_refl _) (show ObjOk X.prog X.w _ _ _ (.tup ys) from ⟨hz,its,r',TupN.new _ _⟩)
  exact⟨.ref h'.objs.size,_,I2,rfl,q _ (I1.hok.fresh (Nat.le_refl _))⟩
 ·obtain⟨its,r',pl,hz⟩:=I.tuple hq
  exact call_tuple_same pl ⟨.ref p,H,I,rfl,q⟩
/-- the value is of that builtin type -/
def tyV (K:PySem.W.Frag) (T:String) (x:V) (H:Hp):Prop:=match x with
 | .str _=>T="str"
 | .int _=>T="int"
 | .ref p => (T = "list" ∧ ∃ xs, SqL K H p xs) ∨ (T = "tuple" ∧ ∃ o, K.lookup p = some o ∧ o.cls = .type "tuple" ∧ o.dict = none) ∨
     (T="dict"∧((∃ kvs,H p=some (.dK kvs))∨∃ kvs,H p=some (.dT kvs)))∨(T="set"∧∃ S n,H p=some (.set S n))
 | _=>False
theorem tyV_is {pins:List (Addr × Obj)} {σ:St} {H:Hp} {s:Shared} {T:String} {x:V} {v:Value} (I:Inv X pins σ H s) (r:RelV x v) (ty:tyV X.K T x H) :
  s.TypeIs v T∧∀ a,v=.ref a->∃ ob,s.heap.get? a=some ob∧ob.dict=none:=by
 cases x with
 | str z =>
  obtain⟨t,rfl⟩:=r
  cases (show T="str" from ty)
  exact⟨typeIs_str s z t,fun _ e=>nomatch e⟩
 | int i =>
  obtain⟨t,rfl⟩:=r
  cases (show T="int" from ty)
  exact⟨typeIs_int s i t,fun _ e=>nomatch e⟩
 | ref p =>
  cases r
  rcases ty with ⟨rfl,xs,hq⟩ | ⟨rfl,o,hk,hc,hd⟩ | ⟨rfl,hk⟩ | ⟨rfl,S,n,hk⟩
  ·obtain⟨its,_,pl,_⟩:=I.list hq
   refine⟨pl.isList.typeIs,fun a e=>?_⟩
   cases e
   obtain⟨o,n,e,c,hd,_⟩:=pl
   exact⟨o,e,hd⟩
  ·refine⟨⟨o,I.kIn p o hk,hc⟩,fun a e=>?_⟩
   cases e
   exact⟨o,I.kIn _ o hk,hd⟩
  ·have z:∃ o,s.heap.get? p=some o∧o.ExactDict:=by
    rcases hk with ⟨kvs,hk⟩ | ⟨kvs,hk⟩
    ·obtain⟨_,_,_,_,o,_,_,e,ex,_⟩:=I.hok p _ hk
     exact⟨o,e,ex⟩
    ·obtain⟨_,_,_,_,o,_,_,e,ex,_⟩:=I.hok p _ hk
     exact⟨o,e,ex⟩
   obtain⟨o,e,ex⟩:=z
   refine⟨⟨o,e,ex.1⟩,fun a e2=>?_⟩
   cases e2
   exact⟨o,e,ex.2.1⟩
  ·obtain⟨o,_,_,_,e,ex,_⟩:=I.hok p _ hk
   refine⟨⟨o,e,ex.1⟩,fun a e2=>?_⟩
   cases e2
   exact⟨o,e,ex.2.1⟩
 | _=>exact False.elim ty
def tBM (K:PySem.W.Frag) (T:String) (r:V->List V->Hp->VK->Prop) (to:TE) (t:TA):TE:=fun σ H Q=>to σ H fun x H1=>tyV K T x H1∧t σ H1 fun xs H2=>r x xs H2 Q
variable {o e:Expr} {es:List Expr} {to:TE} {t:TA} {name:Str} {apos cpos:Pos} {T id:String} {r:V->List V->Hp->VK->Prop}
theorem pe_bm (pa:PlainAttrs T) (slot:Slot T name id) (hty:typeOf (.builtin id)=pure (.type "method_descriptor")) (hm:MtR X id r) (ho:PE X o to) (ha:PA X (e::es) t)
  (hbase:attributeBase o name X.env (eval o X.env)=eval o X.env:=by rfl)
  (hfew:((backTo cpos (starEach (e::es) X.env)).all (fun x=>!x.1) && (backToKw cpos (keywordEach [] X.env)).all (fun x=>x.1.isSome)
   && decide ((e::es).length + ([]:List Keyword).length + (if ([]:List Keyword).isEmpty then 0 else 1) < 30))=true:=by rfl)
  (hline:(apos.endLine == cpos.line)=true:=by rfl) (hs:starEach (e::es) X.env=(false,eval e X.env)::starEach es X.env:=by rfl) (hplain:(backTo cpos (starEach es X.env)).any (·.1)=false:=by rfl) :
  PE X (.Call (.Attribute o name apos) (e::es) [] cpos) (tBM X.K T r to t):=by
 intro pins s σ H Q I h
 refine wpAny_Call_method_late hbase hfew hline rfl (thn (ho pins s σ H _ I h) fun v s1 ⟨x,H1,I1,r1,ty,q1⟩=>?_)
 obtain⟨h1,h2⟩:=tyV_is I1 r1 ty
 refine⟨T,id,pa,slot,hty,h1,h2,?_⟩
 have hA:=ha cpos pins s1 σ H1 _ I1 q1
 rw[hs] at hA ⊢
 refine Calls.callWith_builtin (by show (false || (backTo cpos (starEach es X.env)).any (·.1))=false;rw[hplain] <;> rfl) (Calls.evalArgs_plain ?_)
 exact thn hA fun us s2 ⟨vs,H2,I2,r2,q2⟩=>hm pins s2 σ H2 x vs v us Q I2 r1 r2 q2
end
end L2
namespace L2
open PySem PySem.Spec PyProof.Rows
def MtM (X:Cx) (id:String) (r:V->List V->Hp->VK->Prop):Prop :=
 ∀ (pins:List (Addr × Obj)) (s:Shared) (σ:St) (H:Hp) (x:V) (xs:List V) (v:Value) (us:List Value) (Q:VK),Inv X pins σ H s->RelV x v->Vals xs us->r x xs H Q ->
  wpAny (model X.prog X.w) X.A (call (.builtin id) (v::us)) (EP X pins σ Q) X.xe s
theorem Vals.one:∀ {x:V} {us:List Value},Vals [x] us->∃ u,us=[u]∧RelV x u
 | _,_,.cons r .nil=>⟨_,rfl,r⟩
theorem Vals.two:∀ {x y:V} {us:List Value},Vals [x,y] us->∃ u v,us=[u,v]∧RelV x u∧RelV y v
 | _,_,_,.cons r (.cons q .nil)=>⟨_,_,rfl,r,q⟩
theorem Vals.zero:∀ {us:List Value},Vals [] us->us=[]
 | _,.nil=>rfl
theorem Vals.dropLast {xs:List V} {us:List Value} (h:Vals xs us):Vals xs.dropLast us.dropLast:=by
 induction h with
 | nil=>exact .nil
 | cons r t ih =>
  cases t with
  | nil=>exact .nil
  | cons q t'=>exact .cons r ih
theorem Vals.eraseIdx:∀ {xs:List V} {us:List Value} (i:Nat),Vals xs us->Vals (xs.eraseIdx i) (us.eraseIdx i)
 | _,_,_,.nil=>.nil
 | _,_,0,.cons _ t=>t
 | _,_,i + 1,.cons r t=>.cons r (Vals.eraseIdx i t)
theorem Vals.reverse {xs:List V} {us:List Value} (h:Vals xs us):Vals xs.reverse us.reverse:=by
 induction h with
 | nil=>exact .nil
 | cons r t ih=>rw[List.reverse_cons,List.reverse_cons];exact Vals.append ih (.cons r .nil)
theorem Vals.rep {xs:List V} {us:List Value} (h:Vals xs us):∀ k:Nat,Vals (List.replicate k xs).flatten (List.replicate k us).flatten
 | 0=>.nil
 | k + 1=>by
  rw[List.replicate_succ,List.replicate_succ,List.flatten_cons,List.flatten_cons]
  exact Vals.append h (Vals.rep h k)
theorem len_erase {α:Type}:∀ (l:List α) (i:Nat),(l.eraseIdx i).length≤l.length
 | [],_=>Nat.le_refl _
 | _::_,0=>Nat.le_succ _
 | _::r,i + 1=>Nat.succ_le_succ (len_erase r i)
theorem foldl_rep (its:List Value):∀ (k:Nat) (acc:List Value),
  List.foldl (fun x1 x2=>x1++x2) acc.toArray (List.replicate k its.toArray)=(acc++(List.replicate k its).flatten).toArray
 | 0,acc=>by simp
 | k + 1,acc=>by
  have e:acc.toArray++its.toArray=(acc++its).toArray:=by simp
  have e2:(acc++its)++(List.replicate k its).flatten=acc++(List.replicate (k + 1) its).flatten:=by
   rw[List.replicate_succ,List.flatten_cons,List.append_assoc]
  rw[← e2,← foldl_rep its k (acc++its),← e,List.replicate_succ,List.foldl_cons]
section
variable {X:Cx} {pins:List (Addr × Obj)} {σ:St} {H:Hp} {s:Shared} {l b:Addr} {xs ys zs:List V}
theorem Inv.lset {its its':List Value} {n:Nat} {f:Array Value->Array Value} {t':Nat} (I:Inv X pins σ H s) (hH:H l=some (.lst xs))
  (e:s.heap.get? l=some { cls:=.type "list",data:=.seq its.toArray n }) (hf:f its.toArray=its'.toArray) (hv:Vals ys its') (hz:ys.length≤sizeLine) :
  Inv X pins σ (upd H l (.lst ys)) { s with heap:=s.heap.update l (Obj.mapSeq f),toks:=t' }:=by
 have q:=PySem.IsL.update e f
 rw[hf] at q
 refine I.write (x:=l) (e:=l) (by rw[hH];exact trivial) (.inl rfl) (fun b' u hb hu=>(Heap.get?_update_other s.heap (Obj.mapSeq f) (Ne.symm hb)).trans hu) ⟨_,q⟩ ?_
 exact⟨hz,its',_,hv,q⟩
theorem Inv.lnew {its:List Value} {t':Nat} (I:Inv X pins σ H s) (hv:Vals ys its) (hz:ys.length≤sizeLine) :
  Inv X pins σ (upd H s.heap.objs.size (.lst ys)) { s with heap:=s.heap.push { cls:=.type "list",data:=.seq its.toArray },toks:=t' } :=
 I.laid (fun _ _ q=>Heap.get?_push_of_some _ q) (Nat.le_refl _) ⟨hz,its,0,hv,Heap.get?_push_size _ rfl⟩
theorem Inv.fresh (I:Inv X pins σ H s):H s.heap.objs.size=none:=I.hok.fresh (Nat.le_refl _)
theorem Inv.lstM (I:Inv X pins σ H s) (hH:H l=some (.lst xs)):xs.length≤sizeLine∧∃ (its:List Value) (n:Nat),Vals xs its∧xs.length=its.length∧s.heap.get? l=some { cls:=.type "list",data:=.seq its.toArray n }:=by
 obtain⟨z,its,n,r,e⟩:=I.hok l _ hH
 exact⟨z,its,n,r,r.length,e⟩
theorem notLongL {n:Nat} (h:n≤sizeLine):Builtin.List.listTooLong n=false:=by
 unfold Builtin.List.listTooLong
 exact decide_eq_false (by omega)
end
section
variable {X:Cx}
def rAppend:V->List V->Hp->VK->Prop:=fun x vs H Q=>∃ l xs y,x=.ref l∧vs=[y]∧H l=some (.lst xs)∧xs.length < sizeLine∧Q .non (upd H l (.lst (xs++[y])))
theorem mt_append:MtM X "list.append" rAppend:=by
 intro pins s σ H x vs v us Q I rx rv h
 obtain⟨l,xs,y,rfl,rfl,hH,hz,q⟩:=h
 cases rx
 obtain⟨u,rfl,ru⟩:=rv.one
 obtain⟨z,its,n,r,hl,e⟩:=I.lstM hH
 refine call_meets F.slot_list_append ⟨_,e,rfl⟩ F.entry_list_append (F.args_list_append_2 _ _) (PySem.list_append l its.toArray n u (by rw[List.size_toArray];omega)) ⟨e,?_⟩
 refine⟨.non,_,I.lset (its':=its++[u]) hH e (by simp) (r.append (.cons ru .nil)) ?_,rfl,q⟩
 rw[List.length_append,List.length_singleton]
 omega
def rPopAt:V->List V->Hp->VK->Prop:=fun x vs H Q=>∃ l xs i k y,x=.ref l∧vs=[.int i]∧H l=some (.lst xs)∧-(2 ^ 63)≤i∧i < 2 ^ 63∧seqIndex? i xs.length=some k∧xs[k]?=some y∧Q y (upd H l (.lst (xs.eraseIdx k)))
theorem mt_popAt:MtM X "list.pop" rPopAt:=by
 intro pins s σ H x vs v us Q I rx rv h
 obtain⟨l,xs,i,k,y,rfl,rfl,hH,h1,h2,hk,hy,q⟩:=h
 cases rx
 obtain⟨u,rfl,ru⟩:=rv.one
 obtain⟨t,rfl⟩:=ru
 obtain⟨z,its,n,r,hl,e⟩:=I.lstM hH
 obtain⟨w,hw,rw'⟩:=r.get hy
 refine call_meets F.slot_list_pop ⟨_,e,rfl⟩ F.entry_list_pop (F.args_list_pop_2 _ _)
  (MeetsSeq.list_pop_at l its.toArray n i t k w (fitsIndex_both h1 h2) (by rw[List.size_toArray,← hl];exact hk) (by rw[← Array.getElem?_toList];exact hw) (by rw[List.size_toArray];omega)) ⟨e,?_⟩
 refine⟨y,_,I.lset (its':=its.eraseIdx k) hH e ?_ (r.eraseIdx k) ?_,rw',q⟩
 ·show its.toArray.eraseIdxIfInBounds k=(its.eraseIdx k).toArray
  rw[List.eraseIdxIfInBounds_toArray]
 ·have:=len_erase xs k
  omega
/-- a list times an int (a negative one is nothing) -/
def rRep:R2:=fun x y H Q=>∃ l k xs,x=.ref l∧y=.int k∧H l=some (.lst xs)∧-(2 ^ 63)≤k∧k < 2 ^ 63∧xs.length * k.toNat≤sizeLine ∧
 ∀ p,H p=none->Q (.ref p) (upd H p (.lst (List.replicate k.toNat xs).flatten))
theorem len_rep {α:Type} (xs:List α) (k:Nat):(List.replicate k xs).flatten.length=k * xs.length:=by
 induction k with
 | zero=>simp
 | succ k ih=>rw[List.replicate_succ,List.flatten_cons,List.length_append,ih,Nat.succ_mul,Nat.add_comm]
theorem op_rep:OpR X (binaryOp .Mult) rRep:=by
 intro pins s σ H x y v u Q I rx ry h
 obtain⟨l,k,xs,rfl,rfl,hH,h1,h2,hz,q⟩:=h
 cases rx
 obtain⟨t,rfl⟩:=ry
 obtain⟨z,its,n,r,hl,e⟩:=I.lstM hH
 have hlen:its.toArray.size * k.toNat≤sizeLine:=by rw[List.size_toArray,← hl];exact hz
 have hcap:¬ its.toArray.size * k.toNat > (2 ^ 63 - 1) / 8:=by
  have:(sizeLine:Nat)≤(2 ^ 63 - 1) / 8:=by decide
  omega
 have hfit:¬ (!Builtin.List.listFitsIndex k)=true:=by
  rw[fitsIndex_both h1 h2]
  exact Bool.false_ne_true
 have hlong:¬ Builtin.List.listTooLong (its.toArray.size * k.toNat)=true:=by
  rw[notLongL hlen]
  exact Bool.false_ne_true
 have hnew:List.foldl (fun x1 x2=>x1++x2) #[] (List.replicate (if its.toArray.isEmpty=true then 0 else k.toNat) its.toArray)=(List.replicate k.toNat its).flatten.toArray:=by
  have f0:∀ m:Nat,List.foldl (fun x1 x2=>x1++x2) #[] (List.replicate m its.toArray)=(List.replicate m its).flatten.toArray:=fun m=>by
   have:=foldl_rep its m []
   rw[List.nil_append] at this
   exact this
  rw[f0]
  cases its with
  | nil=>simp
  | cons a r'=>rw[if_neg (by simp)]
 refine wpAny_binaryOp_repeat_ref (T:="list") (U:="int") (by decide) ⟨_,e,rfl⟩ (fun s'=>typeIs_int s' k t) noFill_list_mul F.fills_int_mul F.slot_int_rmul repeat_list F.slot_int_index.lookup
  (call_meets F.slot_int_rmul (typeIs_int s k t) F.entry_int_rmul (F.args_int_rmul_2 _ _) (int___rmul___int_list k t l its.toArray n)
   ⟨e,rfl,⟨_,e,rfl⟩,call_meets F.slot_list_mul ⟨_,e,rfl⟩ F.entry_list_mul (F.args_list_mul_2 _ _) (AutoListH.list___mul___list_int_3 l its.toArray n k t hfit hcap hlong) ⟨e,?_⟩⟩)
 rw[hnew]
 exact⟨.ref _,_,I.lnew (t':=s.toks) (r.rep k.toNat) (by rw[len_rep,Nat.mul_comm];exact hz),rfl,q _ I.fresh⟩
end
section
variable {prog:Program} {w:World} {A:Around} {E:Value->Shared->Prop} {s:Shared}
end
section
variable {X:Cx}
end
end L2
namespace Att
open PySem PySem.W PySem.Calls PyProof.Rows
theorem ints_of_wellAll {P:Params} {h:Heap}:∀ (ns:List Int) (vs:List Value),WellAll P h vs (ns.map WData.int)->IntsAre vs ns:=by
 intro ns
 induction ns with
 | nil =>
  intro vs w
  rw[List.map_nil] at w
  cases w
  exact .nil
 | cons n ns ih =>
  intro vs w
  rw[List.map_cons] at w
  cases w with
  | cons a b =>
   cases a
   exact .cons _ _ (ih _ b)
theorem script_of {l:OpenLaw} {n:Nat} (hn:l.most=some n) {P:Params} {h:Heap} {args:List WData} {vals:List Value}
  (hpre:l.row.toRowW.claim.pre args=true) (hwl:WellAll P h vals args) :
  ∃ a vs ns,vals=[Value.ref a]∧args=[WData.list (ns.map WData.int)]∧h.get? a=some { cls:=.type "list",data:=.seq vs.toArray }∧IntsAre vs ns∧ns.length≤n:=by
 have hsh:WShape.hasAll [] args [.list .int]=true:=(pre_splitW hpre).1
 have hc:l.pre.holds [] { args:=args }=true:=(pre_splitW hpre).2
 obtain⟨d,r,rfl,h1,h2⟩:=hasAllW_cons hsh
 obtain rfl:=hasAllW_nil h2
 obtain⟨xs,rfl,h3⟩:=hasW_list h1
 obtain⟨ns,rfl⟩:=items_int h3
 have hlen:ns.length≤n:=by
  unfold OpenLaw.pre at hc
  have h4:(WTm.not (.lt (.lit (.int (n:Int))) (.len (.arg 0)))).holds [] { args:=[.list (ns.map .int)] }=true:=by
   have h4:=(holds_andW hc).1
   rw[hn] at h4
   exact h4
  have h5:=condW_of h4 (w_not (w_lt w_lit (w_len_list (w_arg rfl))))
  rw[List.length_map] at h5
  refine Nat.le_of_not_lt fun q=>?_
  have q':(n:Int) < ((ns.length:Nat):Int):=by omega
  first
   | (rw[decide_eq_true q'] at h5;exact absurd h5 (by decide))
   | (simp at h5;omega)
 cases hwl with
 | cons w1 w2 =>
  cases w2
  cases w1 with
  | list ho hall=>exact⟨_,_,ns,rfl,rfl,ho,ints_of_wellAll ns _ hall,hlen⟩
theorem post_true (l:OpenLaw) (args:List WData):l.row.toRowW.claim.post args (.bool true) args=true :=
 postW_of (r:=l.row.toRowW) (X:=(true == true))
  (show WShape.has [] (.bool true) .bool=true by first | rfl | decide | simp [WShape.has,WShape.arms,WShape.armsAll])
  (show (WTm.eq .res (.lit (.bool true))).value [] { args:=args,res:=some (.bool true),after:=args }=some (.bool (true == true)) from w_eq_bool (w_res rfl) w_lit) rfl
/-- the same from a codeAny of the CALL (for a layer whose function contracts speak of calls) -/
theorem attach_call {l:OpenLaw} {n:Nat} {q:Program} {loose:List Str} {XP:(Str->Option Value)->Heap->Prop} {YP:World->Heap->Prop} {d:DefRec}
  (hn:l.most=some n) (hdf:d.params.defaults=[])
  (call:∀ (w:World) (s₀ s₁:Shared) (mg mb:Str->Option Value) (fa:Addr) (o:Obj) (pm cd doc:Value) (a:Addr) (vs:List Value) (ns:List Int),
   Ground q loose [] XP w s₀ mg mb s₁.heap->YP w s₁.heap ->
   s₁.heap.get? fa=some o->o.data=.func (docDef d.name d.params d.body d.scope pm cd doc)->s₁.heap.CodeRec cd d.name->mg d.name=some (.ref fa) ->
   s₁.heap.get? a=some { cls:=.type "list",data:=.seq vs.toArray }->IntsAre vs ns->ns.length≤n->s₁.gens=#[] ->
   codeAny (model l.prog w) callerA (.call (.ref fa) ⟨[.ref a],[]⟩) (fun r s'=>r=.ok (.ret (.bool true))∧OldK s₁.heap s'.heap∧s'.os=s₁.os∧AllBare s'.gens) s₁) :
  WalkO q loose XP YP l.row.toRowW d [] (fun f vs=>PySem.call f vs):=by
 intro w s₀ s₁ mg mb G Y fa o pm cd doc dV kV ho hd hcd hD hmg hg args vals as hpre hlay hrd hwl hlo
 obtain rfl:dV=.none:=Dflts.none hD hdf
 obtain rfl:kV=.none:=Dflts.noKw hD
 obtain⟨a,vs,ns,rfl,rfl,hobj,hints,hlen⟩:=script_of hn hpre hwl
 refine enter_call (codeAny_mono (call w s₀ s₁ mg mb fa o pm cd doc a vs ns G Y ho (fd_plain hd) hcd hmg hobj hints hlen hg) fun r s' hq=>?_)
 obtain⟨rfl,h2,h3,h4⟩:=hq
 exact⟨.inl ⟨.bool true,.bool true,[],rfl,fun _=>rfl,.bool true,post_true l _,fun _=>⟨List.Pairwise.nil,fun _ hm=>(nomatch hm)⟩⟩,h2,h3,h4⟩
section
variable {prog:Program} {w:World} {A:Around} {E:Value->Shared->Prop} {s:Shared} {K:Frag}
end
end Att
namespace L2
open PySem PySem.Spec PyProof.Rows
theorem vals_ints:∀ {vs:List Value} {ns:List Int},IntsAre vs ns->Vals (ns.map V.int) vs
 | _,_,.nil=>.nil
 | _,_,.cons n t h=>.cons ⟨t,rfl⟩ (vals_ints h)
/-- nothing is tracked but the script, known to the object (or it is an object of the module) -/
def Only (H:Hp):Prop:=∀ b,H b=none∨∃ o xs,H b=some (.frz o (.lst xs))
/-- THE HEAD: the law's promise, at the heap behind the top. F, the promise of the law's def, may use that base is part of the heap (so K.In base, base.Ns mainGlobals mg stand in Mod) -/
theorem law_call {P:Program} {w:World} {K:PySem.W.Frag} {mg mb:Str->Option Value} {CX:CXT} {k:Nat} {fa a:Addr} {fd:FuncData} {x:Str} {sp:Sp} {s₁:Shared} {vs:List Value} {ns:List Int}
  (KX:K.In s₁.heap) (hns:s₁.heap.Ns mainGlobals mg) (hb:s₁.heap.Ns builtinsNs mb) (hbb:∀ x:Str,x≠"__name__"->mb x=bootBuiltins x) (hlim:s₁.heap.NoLimit) (hg:s₁.gens=#[])
  (ha:s₁.heap.get? a=some { cls:=.type "list",data:=.seq vs.toArray }) (hi:IntsAre vs ns) (hl:ns.length≤sizeLine) (hr:Room k callerA)
  (F:∀ base:Heap,K.In base->base.Ns mainGlobals mg->FnOk P w K mg base CX k fa fd [x] sp) (hbind:∀ (s:Shared) (u:Value),BindsTo s fd ⟨[u],[]⟩ [(x,u)])
  (hsp:∀ H:Hp,Only H->SqL K H a (ns.map V.int)->sp [.ref a] H (fun v _=>v=.bl true) fun _ _ _=>False)
  (hCX:∀ H e s',CX [] H s₁ (fun _ _ _=>False) e s'->False) :
  codeAny (model P w) callerA (.call (.ref fa) ⟨[.ref a],[]⟩) (fun r s'=>r=.ok (.ret (.bool true))∧OldK s₁.heap s'.heap∧s'.os=s₁.os∧AllBare s'.gens) s₁:=by
 have rv:=vals_ints hi
 have lenV:=hi.length
  -- from an abstract heap in which nothing but the script may be tracked
 have core : ∀ H : Hp, Only H → SqL K H a (ns.map V.int) → HOk P w H s₁.heap → (∀ b, H b ≠ none → b = a) → (H a ≠ none → K.lookup a = none) →
     codeAny (model P w) callerA (.call (.ref fa) ⟨[.ref a],[]⟩) (fun r s'=>r=.ok (.ret (.bool true))∧OldK s₁.heap s'.heap∧s'.os=s₁.os∧AllBare s'.gens) s₁:=by
  intro H hO hS hok hA hK
  have base_of:∀ {b:Addr} {o:Obj},s₁.heap.get? b=some o->H b=none->(hidT s₁.heap H).get? b=some o:=fun e n=>hidT_get e n
  have noA:∀ {b:Addr} {o:Obj} {es:Array DictEntry} {ep:Nat},s₁.heap.get? b=some o->o.data=.dict es ep->H b=none:=fun {b o es ep} e d=>by
   cases q:H b with
   | none=>rfl
   | some u =>
    have e':b=a:=hA b (by rw[q];simp)
    subst e'
    rw[ha] at e;cases e
    have d':Data.seq vs.toArray _=Data.dict es ep:=d
    cases d'
  have nsK:∀ {b:Addr} {m:Str->Option Value},s₁.heap.Ns b m->(hidT s₁.heap H).Ns b m:=fun {b m} ⟨o,es,ep,e,d,r⟩=>⟨o,es,ep,base_of e (noA e d),d,r⟩
  have hKb:K.In (hidT s₁.heap H):=fun b o e=>base_of (KX b o e) (by
   cases q:H b with
   | none=>rfl
   | some u =>
    have e':b=a:=hA b (by rw[q];simp)
    subst e'
    rw[hK (by rw[q];simp)] at e;cases e)
  have hM:Mod K mg (hidT s₁.heap H):=⟨hKb,nsK hns,⟨mb,nsK hb,hbb⟩,let ⟨mc,h1,h2⟩:=hlim;⟨mc,nsK h1,h2⟩⟩
  have e0:Env0 P w K mg (hidT s₁.heap H) callerA [] s₁ H:=⟨rfl,hM,fun b o e=>of_hidT e,Nat.le_of_eq (hidT_size _ _),trivial,fun b hb=>absurd (show b ∈ ([]:List Addr) from hb) (by simp),hok,.of_eq hg⟩
  refine codeAny_mono ((F _ hKb (nsK hns)).run callerA [] s₁ H ⟨[.ref a],[]⟩ [.ref a] [.ref a] _ _ hr e0 (hbind s₁ (.ref a)) (.cons rfl .nil) (hsp H hO hS)) fun r s' h=>?_
  cases r with
  | error e=>exact (hCX H e s' h).elim
  | ok fl =>
   cases fl with
   | next=>exact False.elim h
   | brk=>exact False.elim h
   | cont=>exact False.elim h
   | ret u =>
    obtain⟨v,H',os,bare,un,hok',r',q⟩:=h
    have q':v=.bl true:=q
    subst q'
    obtain rfl:u=Value.bool true:=r'
    refine⟨rfl,OldK.of_keep fun b o e=>?_,os,bare⟩
    cases q:H b with
    | none=>exact un.keep b o e q (by intro z;exact absurd (show b ∈ ([]:List Addr) from z) (by simp)) (by simp)
    | some u =>
     rcases hO b with z | ⟨ob,xs,z⟩
     ·rw[q] at z;cases z
     ·have z2:=un.frzs b ob _ z
      obtain⟨e1,_⟩:=hok b _ z
      obtain⟨e2,_⟩:=hok' b _ z2
      rw[e] at e1;cases e1
      exact e2
 cases hk:K.lookup a with
 | some o =>
    -- the script is one of the module's own objects
  have e:=KX a o hk
  rw[ha] at e
  cases e
  refine core (fun _=>none) (fun _=>.inl rfl) (.inr ⟨_,vs.toArray,_,hk,rfl,rfl,rfl,by rw[List.size_toArray,lenV];exact hl,by simpa using rv⟩) (fun b u z=>by have z':(none:Option HO)=some u:=z;cases z') (fun b z=>absurd rfl z) fun z=>absurd rfl z
 | none =>
  refine core (fun b=>if b=a then some (.frz { cls:=.type "list",data:=.seq vs.toArray } (.lst (ns.map V.int))) else none) (fun b=>?_) (.inl (.inr ⟨{ cls:=.type "list",data:=.seq vs.toArray },if_pos rfl⟩)) (fun b u z=>?_) (fun b z=>?_) fun _=>hk
  ·by_cases hb:b=a
   ·exact .inr ⟨_,_,if_pos hb⟩
   ·exact .inl (if_neg hb)
  ·by_cases hb:b=a
   ·have z':=(if_pos hb).symm.trans z
    cases z'
    subst hb
    exact⟨ha,by rw[List.length_map];exact hl,vs,_,rv,ha⟩
   ·have z':=(if_neg hb).symm.trans z
    cases z'
  ·by_cases hb:b=a
   ·exact hb
   ·exact absurd (if_neg hb) z
end L2
namespace L2
open PySem PySem.Spec PyProof.Rows
/-- the goal that k_head leaves (case hc), from the law's promise. F gives the function object fd (K's own) once, then the promise over every base -/
theorem walk_of {l:PySem.W.OpenLaw} {n k:Nat} {q:Program} {loose:List Str} {XP:(Str->Option Value)->Heap->Prop} {YP:World->Heap->Prop} {d:DefRec} {K:Params->PySem.W.Frag} {CX:World->CXT} {sp:World->Sp} {x:Str}
  (hn:l.most=some n) (hn2:n≤sizeLine) (hdf:d.params.defaults=[]) (hr:Room k callerA)
  (hY:∀ (w:World) (h:Heap),YP w h->(K w.params).In h)
  (F:∀ (w:World) (mg:Str->Option Value) (fa:Addr) (h:Heap),(K w.params).In h->h.Ns mainGlobals mg->mg d.name=some (.ref fa) ->
   ∃ fd:FuncData,(∀ (s:Shared) (u:Value),BindsTo s fd ⟨[u],[]⟩ [(x,u)]) ∧
    ∀ base:Heap,(K w.params).In base->base.Ns mainGlobals mg->FnOk l.prog w (K w.params) mg base (CX w) k fa fd [x] (sp w))
  (hsp:∀ (w:World) (H:Hp) (a:Addr) (ns:List Int),ns.length≤n->Only H->SqL (K w.params) H a (ns.map V.int)->sp w [.ref a] H (fun v _=>v=.bl true) fun _ _ _=>False)
  (hCX:∀ (w:World) (H:Hp) (s:Shared) (e:Value) (s':Shared),CX w [] H s (fun _ _ _=>False) e s'->False) :
  PySem.W.WalkO q loose XP YP l.row.toRowW d [] (fun f vs=>PySem.call f vs):=by
 refine Att.attach_call hn hdf fun w s₀ s₁ mg mb fa o pm cd doc a vs ns G Y ho hd hcd hmg hobj hints hlen hg=>?_
 have KX:=hY w _ Y
 obtain⟨fd,hb,hF⟩:=F w mg fa _ KX G.T.g hmg
 exact law_call KX G.T.g G.T.b G.T.builtins G.T.nolimit hg hobj hints (Nat.le_trans hlen hn2) hr hF hb (fun H hO hS=>hsp w H a ns hlen hO hS) fun H e s'=>hCX w H s₁ e s'
end L2
namespace L2
open PySem PySem.Spec PyProof.Rows
def defArgs (s:Stmt):Arguments:=match s with
 | .FunctionDef _ a _ _ _ _ _ _ _ _=>a
 | _=>{ posonlyargs:=[],args:=[],vararg:=none,kwonlyargs:=[],kw_defaults:=[],kwarg:=none,defaults:=[] }
def defBody (s:Stmt):List Stmt:=match s with
 | .FunctionDef _ _ b _ _ _ _ _ _ _=>b
 | _=>[]
def defScope (s:Stmt):Scope:=match s with
 | .FunctionDef _ _ _ _ _ _ sc _ _ _=>sc
 | _=>{ kind:=.function,names:=[],isGenerator:=false,isCoroutine:=false }
abbrev CX0:CXT:=fun _ _ _ _ _ _=>False
abbrev E0:XK:=fun _ _ _=>False
theorem pass0 {X:Cx}:Passes CX0 X E0:=fun _ _ _ _ _ _ _ h=>h.elim
structure Fun (K:PySem.W.Frag) (x qual:Str) (st:Stmt) (f:Addr) (fd:FuncData):Prop where
 ex:∃ (oc:Value) (od:Option Addr) (kV doc pm:Value) (an:Option Addr) (cdv ct:Value) (osl:Array (Option Value)),
  fd=PySem.W.fnOf x qual (defArgs st) (defBody st) (defScope st) .none kV doc pm an cdv ct∧K.lookup f=some ⟨oc,od,.func fd,osl⟩∧PySem.W.codeIn K cdv qual=true
 kp:PySem.W.keepIn K (.ref f)=true
section
variable {P:Program} {w:World} {K:PySem.W.Frag} {mg:Str->Option Value} {base:Heap}
/-- THE RULE for a def: its body as a term of rules, and the reading of that term -/
theorem Fun.ok {x qual:Str} {st:Stmt} {f:Addr} {fd:FuncData} {N ps:List Str} {k:Nat} {sp:Sp} (F:Fun K x qual st f fd) (S:FnScope N ps (defScope st)) (len:∀ vs H Q E,sp vs H Q E->vs.length=ps.length)
  (hbody:∀ (cdv:Value) (A:Around) (outer:List Env) (s:Shared) (H:Hp) (vs:List V) (Q:VK) (E:XK),Room k (A.deeper (envOfC qual (defScope st) s.heap.objs.size f cdv))->sp vs H Q E ->
   ∃ t,PSs (cxOf CX0 P w K mg base N qual (defScope st) f cdv A outer s H E).nox (defBody st) t∧t { nx:=fun _ H'=>Q .non H',rt:=Q } (start N vs) H):FnOk P w K mg base CX0 (k + 1) f fd ps sp:=by
 obtain⟨oc,od,kV,doc,pm,an,cdv,ct,osl,rfl,lk,hcd⟩:=F.ex
 refine fn_of lk hcd S len fun A outer s H vs Q E hr hsp=>?_
 obtain⟨t,h,q⟩:=hbody cdv A outer s H vs Q E hr hsp
 exact⟨t,h.nox,q⟩
/-- how its arguments bind (no defaults): h is «fun _ _ _ _ _ _ us hl => match us, hl with | [_, _], _ => rfl», one _ a parameter -/
theorem Fun.binds {x qual:Str} {st:Stmt} {f:Addr} {fd:FuncData} {ps:List Str} (F:Fun K x qual st f fd)
  (h:∀ (kV doc pm:Value) (an:Option Addr) (cdv ct:Value) (us:List Value),us.length=ps.length->bindArgs (PySem.W.fnOf x qual (defArgs st) (defBody st) (defScope st) .none kV doc pm an cdv ct) ⟨us,[]⟩=pure (ps.zip us)):Binds K fd ps []:=by
 obtain⟨oc,od,kV,doc,pm,an,cdv,ct,osl,rfl,lk,hcd⟩:=F.ex
 exact .all (h kV doc pm an cdv ct)
theorem fun_mk {x qual:Str} {st:Stmt} {f:Addr} {oc:Value} {od an:Option Addr} {osl:Array (Option Value)} {kV doc pm cdv ct:Value} (l:K.lookup f=some ⟨oc,od,.func (PySem.W.fnOf x qual (defArgs st) (defBody st) (defScope st) .none kV doc pm an cdv ct),osl⟩)
  (c:PySem.W.codeIn K cdv qual=true) (k:PySem.W.keepIn K (.ref f)=true):Fun K x qual st f (PySem.W.fnOf x qual (defArgs st) (defBody st) (defScope st) .none kV doc pm an cdv ct):=⟨⟨oc,od,kV,doc,pm,an,cdv,ct,osl,rfl,l,c⟩,k⟩
end
section
variable {X:Cx}
theorem pv (i:Nat) {x:Str} {pos:Pos} (hN:X.N[i]?=some x:=by rfl) (hv:Vis X.env.scope x:=by first | exact Or.inl rfl | exact Or.inr (Or.inl rfl) | exact Or.inr (Or.inr rfl)) (hd:(x == ("__debug__":Str))=false:=by decide)
  (hcd:(x == ("__classdict__":Str))=false:=by decide):PE X (.Name x pos) (tVar i):=pe_var hN hv hd hcd
end
theorem iteF {A B:Prop} (h:B):if false=true then A else B:=by
 rw[if_neg Bool.false_ne_true]
 exact h
theorem iteT {A B:Prop} (h:A):if true=true then A else B:=by
 rw[if_pos rfl]
 exact h
theorem ite2 {c A B:Prop} [Decidable c] (h1:c->A) (h2:¬ c->B):if c then A else B:=by
 by_cases h:c
 ·rw[if_pos h]
  exact h1 h
 ·rw[if_neg h]
  exact h2 h
theorem iteNS {c A B:Prop} [Decidable c] (hc:c) (h:B):if (!decide c)=true then A else B:=by
 rw[decide_eq_true hc]
 exact iteF h
/-- all that was tracked is as it was -/
def Same (H H':Hp):Prop:=∀ b o,H b=some o->H' b=some o
theorem Same.refl (H:Hp):Same H H:=fun _ _ h=>h
theorem Same.trans {H H1 H2:Hp} (a:Same H H1) (b:Same H1 H2):Same H H2:=fun c o h=>b c o (a c o h)
theorem Same.free {H H':Hp} (e:Same H H') {l:Addr} (h:H' l=Option.none):H l=Option.none:=by
 cases q:H l with
 | none=>rfl
 | some o =>
  rw[e l o q] at h
  cases h
theorem Same.seq {K:PySem.W.Frag} {H H':Hp} {a:Addr} {xs:List V} (e:Same H H') (h:SqL K H a xs):SqL K H' a xs:=by
 rcases h with (h | ⟨o,h⟩) | h
 ·exact .inl (.inl (e _ _ h))
 ·exact .inl (.inr ⟨o,e _ _ h⟩)
 ·exact .inr h
end L2
namespace L2
open PySem PySem.Spec PyProof.Rows
section
variable {κ:Type} [DecidableEq κ]
def valV (kvs:List (κ × V)) (k:κ):Option V:=(kvs.find? fun kv=>decide (kv.1=k)).map (·.2)
/-- in its place, or at the end -/
def putK (kvs:List (κ × V)) (k:κ) (v:V):List (κ × V) :=
 if (kvs.any fun kv=>decide (kv.1=k))=true then kvs.map (fun kv=>if kv.1=k then (kv.1,v) else kv) else kvs++[(k,v)]
def dropK (kvs:List (κ × V)) (k:κ):List (κ × V):=kvs.filter fun kv=>decide (kv.1≠k)
theorem valV_pos {p:κ × V} {r:List (κ × V)} {k:κ} (e:p.1=k):valV (p::r) k=some p.2:=by simp [valV,List.find?_cons,e]
theorem valV_neg {p:κ × V} {r:List (κ × V)} {k:κ} (e:¬ p.1=k):valV (p::r) k=valV r k:=by simp [valV,List.find?_cons,e]
theorem valV_any (k:κ):∀ kvs:List (κ × V),(kvs.any fun kv=>decide (kv.1=k))=(valV kvs k).isSome
 | []=>rfl
 | p::r=>by
  rw[List.any_cons]
  by_cases e:p.1=k
  ·simp only [valV_pos e,decide_eq_true e,Bool.true_or,Option.isSome_some]
  ·rw[valV_neg e,decide_eq_false e,Bool.false_or];exact valV_any k r
theorem RelO.isSome_eq {o:Option V} {u:Option Value} (r:RelO o u):o.isSome=u.isSome:=by
 cases o with
 | none=>cases u with
  | none=>rfl
  | some _=>exact (show False from r).elim
 | some _=>cases u with
  | none=>exact (show False from r).elim
  | some _=>rfl
theorem RelO.getD {o:Option V} {u:Option Value} {d:V} {d':Value} (r:RelO o u) (rd:RelV d d'):RelV (o.getD d) (u.getD d'):=by
 cases o with
 | none=>cases u with
  | none=>exact rd
  | some _=>exact (show False from r).elim
 | some _=>cases u with
  | none=>exact (show False from r).elim
  | some _=>exact r
/-- raw tables of the same keys -/
theorem KV.val {kvs:List (κ × V)} {vs:List (κ × Value)} (r:KV kvs vs) (k:κ):RelO (valV kvs k) (valueAt vs k):=by
 unfold KV at r
 induction r with
 | nil=>exact True.intro
 | @cons p q ps qs h t ih =>
  obtain⟨h1,h2⟩:=h
  by_cases e:p.1=k
  ·have e':q.1=k:=h1.symm.trans e
   have b:valueAt (q::qs) k=some q.2:=by simp [valueAt,List.find?_cons,e']
   rw[valV_pos e,b];exact h2
  ·have e':¬ q.1=k:=fun z=>e (h1.trans z)
   have b:valueAt (q::qs) k=valueAt qs k:=by simp [valueAt,List.find?_cons,e']
   rw[valV_neg e,b];exact ih
theorem KV.any {kvs:List (κ × V)} {vs:List (κ × Value)} (r:KV kvs vs) (k:κ):(kvs.any fun kv=>decide (kv.1=k))=vs.any fun kv=>decide (kv.1=k):=by
 unfold KV at r
 induction r with
 | nil=>rfl
 | cons h t ih=>rw[List.any_cons,List.any_cons,ih,h.1]
theorem KV.repl {kvs:List (κ × V)} {vs:List (κ × Value)} (r:KV kvs vs) (k:κ) {y:V} {u:Value} (ry:RelV y u) :
  KV (kvs.map fun kv=>if kv.1=k then (kv.1,y) else kv) (vs.map fun kv=>if kv.1=k then (kv.1,u) else kv):=by
 unfold KV at r ⊢
 induction r with
 | nil=>exact .nil
 | @cons p q ps qs h t ih =>
  rw[List.map_cons,List.map_cons]
  refine .cons ?_ ih
  obtain⟨h1,h2⟩:=h
  by_cases e:p.1=k
  ·rw[if_pos e,if_pos (h1.symm.trans e)];exact⟨h1,ry⟩
  ·rw[if_neg e,if_neg (fun z=>e (h1.trans z))];exact⟨h1,h2⟩
theorem KV.put {kvs:List (κ × V)} {vs:List (κ × Value)} (r:KV kvs vs) (k:κ) {y:V} {u:Value} (ry:RelV y u):KV (putK kvs k y) (stored vs k u):=by
 unfold putK stored
 rw[r.any k]
 by_cases e:(vs.any fun kv=>decide (kv.1=k))=true
 ·rw[if_pos e,if_pos e];exact r.repl k ry
 ·rw[if_neg e,if_neg e];exact Paired.snoc r ⟨rfl,ry⟩
theorem KV.drop {kvs:List (κ × V)} {vs:List (κ × Value)} (r:KV kvs vs) (k:κ):KV (dropK kvs k) (without vs k):=by
 unfold KV at r ⊢
 unfold dropK without
 induction r with
 | nil=>exact .nil
 | @cons p q ps qs h t ih =>
  obtain⟨h1,h2⟩:=h
  rw[List.filter_cons,List.filter_cons]
  by_cases e:p.1=k
  ·have a:¬ decide (p.1≠k)=true:=by simp [e]
   have b:¬ decide (q.1≠k)=true:=by simp [h1.symm.trans e]
   rw[if_neg a,if_neg b];exact ih
  ·have e':¬ q.1=k:=fun z=>e (h1.trans z)
   have a:decide (p.1≠k)=true:=by simp [e]
   have b:decide (q.1≠k)=true:=by simp [e']
   rw[if_pos a,if_pos b];exact .cons ⟨h1,h2⟩ ih
theorem KV.keys {kvs:List (κ × V)} {vs:List (κ × Value)} (r:KV kvs vs):kvs.map (·.1)=vs.map (·.1):=by
 unfold KV at r
 induction r with
 | nil=>rfl
 | cons h t ih=>rw[List.map_cons,List.map_cons,ih,h.1]
theorem KV.length {kvs:List (κ × V)} {vs:List (κ × Value)} (r:KV kvs vs):kvs.length=vs.length:=Paired.length r
end
/-- raw entries of a dict with tuple keys -/
abbrev KT (H:Hp):List (List Key × V)->List (List Key × Addr × Value)->Prop:=Paired fun p q=>p.1=q.1∧H q.2.1=some (.tup (p.1.map kV))∧RelV p.2 q.2.2
theorem KT.val {H:Hp} {kvs:List (List Key × V)} {xs:List (List Key × Addr × Value)} (r:KT H kvs xs) (k:List Key):RelO (valV kvs k) ((atKey xs k).map (·.2)):=by
 induction r with
 | nil=>exact True.intro
 | @cons p q ps qs h t ih =>
  obtain⟨h1,_,h2⟩:=h
  by_cases e:p.1=k
  ·have e':q.1=k:=h1.symm.trans e
   have b:atKey (q::qs) k=some q.2:=by simp [atKey,List.find?_cons,e']
   rw[valV_pos e,b];exact h2
  ·have e':¬ q.1=k:=fun z=>e (h1.trans z)
   have b:atKey (q::qs) k=atKey qs k:=by simp [atKey,List.find?_cons,e']
   rw[valV_neg e,b];exact ih
theorem KT.repl {H:Hp} {kvs:List (List Key × V)} {xs:List (List Key × Addr × Value)} (r:KT H kvs xs) (k:List Key) {y:V} {u:Value} (ry:RelV y u) :
  KT H (kvs.map fun kv=>if kv.1=k then (kv.1,y) else kv) (xs.map (putAt k u)):=by
 induction r with
 | nil=>exact .nil
 | @cons p q ps qs h t ih =>
  rw[List.map_cons,List.map_cons]
  refine .cons ?_ ih
  obtain⟨h1,h2,h3⟩:=h
  unfold putAt
  by_cases e:p.1=k
  ·rw[if_pos e,if_pos (h1.symm.trans e)];exact⟨h1,h2,ry⟩
  ·rw[if_neg e,if_neg (fun z=>e (h1.trans z))];exact⟨h1,h2,h3⟩
theorem KT.put {H:Hp} {kvs:List (List Key × V)} {xs:List (List Key × Addr × Value)} (r:KT H kvs xs) (k:List Key) {b:Addr} {y:V} {u:Value} (hb:H b=some (.tup (k.map kV))) (ry:RelV y u) :
  KT H (putK kvs k y) (storedH xs k b u):=by
 have e:(kvs.any fun kv=>decide (kv.1=k))=(atKey xs k).isSome:=by
  rw[valV_any,(r.val k).isSome_eq,Option.isSome_map]
 unfold putK storedH
 rw[e]
 by_cases q:(atKey xs k).isSome=true
 ·rw[if_pos q,if_pos q];exact r.repl k ry
 ·rw[if_neg q,if_neg q];exact Paired.snoc r ⟨rfl,hb,ry⟩
theorem KT.keeps {H H':Hp} {kvs:List (List Key × V)} {xs:List (List Key × Addr × Value)} (r:KT H kvs xs) (ht:∀ b ys,H b=some (.tup ys)->H' b=some (.tup ys)):KT H' kvs xs :=
 Paired.mapP r fun _ _ z=>⟨z.1,ht _ _ z.2.1,z.2.2⟩
section
variable {P:Program} {w:World} {H:Hp} {h:Heap} {a:Addr}
end
/-- what the dict at a holds at the key y -/
def DGet (H:Hp) (a:Addr) (y:V) (r:Option V):Prop :=
 (∃ kvs k,Rd H a (.dK kvs)∧y=kV k∧r=valV kvs k)∨∃ kvs k b,Rd H a (.dT kvs)∧y=.ref b∧H b=some (.tup (k.map kV))∧r=valV kvs k
/-- the heap behind a[y] = v -/
def DPut (H:Hp) (a:Addr) (y v:V) (H':Hp):Prop :=
 (∃ kvs k,H a=some (.dK kvs)∧y=kV k∧kvs.length < sizeLine∧H'=upd H a (.dK (putK kvs k v))) ∨
 ∃ kvs k b,H a=some (.dT kvs)∧y=.ref b∧H b=some (.tup (k.map kV))∧kvs.length < sizeLine∧H'=upd H a (.dT (putK kvs k v))
theorem DGet.k {H:Hp} {a:Addr} {kvs:List (Key × V)} {k:Key} (e:H a=some (.dK kvs)):DGet H a (kV k) (valV kvs k):=.inl ⟨kvs,k,.inl e,rfl,rfl⟩
theorem DGet.t {H:Hp} {a b:Addr} {kvs:List (List Key × V)} {k:List Key} (e:H a=some (.dT kvs)) (eb:H b=some (.tup (k.map kV))):DGet H a (.ref b) (valV kvs k):=.inr ⟨kvs,k,b,.inl e,rfl,eb,rfl⟩
theorem DPut.k {H:Hp} {a:Addr} {kvs:List (Key × V)} {k:Key} {v:V} (e:H a=some (.dK kvs)) (hl:kvs.length < sizeLine):DPut H a (kV k) v (upd H a (.dK (putK kvs k v))):=.inl ⟨kvs,k,e,rfl,hl,rfl⟩
theorem DPut.t {H:Hp} {a b:Addr} {kvs:List (List Key × V)} {k:List Key} {v:V} (e:H a=some (.dT kvs)) (eb:H b=some (.tup (k.map kV))) (hl:kvs.length < sizeLine) :
  DPut H a (.ref b) v (upd H a (.dT (putK kvs k v))):=.inr ⟨kvs,k,b,e,rfl,eb,hl,rfl⟩
section
variable {X:Cx} {pins:List (Addr × Obj)} {σ:St} {H:Hp} {s:Shared} {a:Addr} {y v:V} {u r:Value} {o:Option V} {A:Around} {E:Value->Shared->Prop}
theorem Inv.big (I:Inv X pins σ H s):sysModules < s.heap.objs.size:=by
 have h:mainGlobals < s.heap.objs.size:=(I.mod.glob.keeps I.bk).lt
 exact Nat.lt_trans (by decide) h
end
section
variable {X:Cx} {pins:List (Addr × Obj)} {σ:St} {H:Hp} {s:Shared} {a:Addr} {kvs:List (Key × V)} {k:Key} {u:Value} {A:Around} {E:Value->Shared->Prop}
end
section
variable {X:Cx} {o i e value:Expr} {pos pos' tpos:Pos} {td ty tv:TE}
end
section
variable {X:Cx} {pos:Pos}
end
end L2
set_option maxHeartbeats 4000000
namespace Srt
open PySem PySem.W PyProof.Rows
section
variable {N:Nat} {r:Nat->Int} {cmp:Nat->Nat->(Bool->Shared->Prop)->Shared->Prop} {s:Shared}
def ky (r:Nat->Int) (p:Array Nat) (m:Nat):Int:=r (p.getD m 0)
def Up (r:Nat->Int) (p:Array Nat) (n:Nat):Prop:=∀ i j,i≤j->j < n->ky r p i≤ky r p j
def Dn (r:Nat->Int) (p:Array Nat) (n:Nat):Prop:=∀ i j,i≤j->j < n->ky r p j≤ky r p i
def Ask (N:Nat) (r:Nat->Int) (cmp:Nat->Nat->(Bool->Shared->Prop)->Shared->Prop) (s:Shared):Prop :=
 ∀ i j C,i < N->j < N->C (decide (r i < r j)) s->cmp i j C s
def Gd (N:Nat) (p:Array Nat):Prop:=p.Perm (List.toArray (List.range N))
theorem Gd.sz {p:Array Nat} (g:Gd N p):p.size=N:=by
 have:=g.size_eq
 simpa using this
theorem Gd.lt {p:Array Nat} (g:Gd N p) (h:0 < N) (m:Nat):p.getD m 0 < N:=by
 by_cases hm:m < p.size
 ·have e:p.getD m 0=p[m]:=by simp [Array.getD,hm]
  rw[e]
  have h1:p[m] ∈ p:=Array.getElem_mem hm
  have h2:p[m] ∈ List.toArray (List.range N):=g.mem_iff.mp h1
  simpa using h2
 ·have e:p.getD m 0=0:=by simp [Array.getD,hm]
  omega
theorem ky_of {p q:Array Nat} {i j:Nat} (h:p[i]?=q[j]?):ky r p i=ky r q j:=by
 have e:∀ (a:Array Nat) (k:Nat),a.getD k 0=(a[k]?).getD 0:=fun a k=>by
  by_cases hk:k < a.size <;> simp [Array.getD,hk]
 unfold ky
 rw[e,e,h]
theorem ky_rev {p:Array Nat} {i j:Nat} (hj:j≤p.size) (k:Nat):ky r (kas_rev p i j) k=if i≤k∧k < j then ky r p (i + j - 1 - k) else ky r p k:=by
 have e:=getElem?_mirror_all (i:=i) hj k
 by_cases h:i≤k∧k < j
 ·rw[if_pos h] at e ⊢
  exact ky_of e
 ·rw[if_neg h] at e ⊢
  exact ky_of e
theorem ky_bub {p:Array Nat} {k d:Nat} (hs:k < p.size) (hd:d≤k) (m:Nat) :
  ky r (bubble p k d) m=if m=k - d then ky r p k else if k - d < m∧m≤k then ky r p (m - 1) else ky r p m:=by
 have e:=getElem?_bubble hs d hd m
 by_cases h1:m=k - d
 ·rw[if_pos h1] at e ⊢
  exact ky_of e
 ·rw[if_neg h1] at e ⊢
  by_cases h2:k - d < m∧m≤k
  ·rw[if_pos h2] at e ⊢
   exact ky_of e
  ·rw[if_neg h2] at e ⊢
   exact ky_of e
theorem Gd.rev {p:Array Nat} (g:Gd N p) (i j:Nat):Gd N (kas_rev p i j):=(mirror_perm p i j _).trans g
theorem Gd.bub {p:Array Nat} (g:Gd N p) (i j:Nat):Gd N (bubble p i j):=(bubble_perm p i j).trans g
theorem asc_wp (h:Ask N r cmp s) (hN:0 < N) {p:Array Nat} (g:Gd N p) {Q:Nat->Shared->Prop}:∀ f n,1≤n->Up r p n ->
  (∀ m,n≤m->m≤n + f->Up r p m->(m < n + f->ky r p m < ky r p (m - 1))->Q m s)->(kas_asc p f n).kasWp cmp Q s
 | 0,n,_,hu,q=>q n (Nat.le_refl _) (Nat.le_refl _) hu (fun z=>absurd z (Nat.lt_irrefl _))
 | f + 1,n,h1,hu,q=>by
  refine h _ _ _ (g.lt hN _) (g.lt hN _) ?_
  by_cases c:r (p.getD n 0) < r (p.getD (n - 1) 0)
  ·rw[decide_eq_true c]
   exact q n (Nat.le_refl _) (by omega) hu (fun _=>c)
  ·rw[decide_eq_false c]
   refine asc_wp h hN g f (n + 1) (by omega) (fun i j hij hj=>?_) (fun m a b u d=>q m (by omega) (by omega) u (fun z=>d (by omega)))
   have c':ky r p (n - 1)≤ky r p n:=by unfold ky;omega
   by_cases e:j=n
   ·subst e
    by_cases e2:i=j
    ·subst e2;exact Int.le_refl _
    ·exact Int.le_trans (hu i (j - 1) (by omega) (by omega)) c'
   ·exact hu i j hij (by omega)
theorem ky_rev_eq {p:Array Nat} {i j:Nat} (hj:j≤p.size) (v:Int) (he:∀ k,i≤k->k < j->ky r p k=v) (k:Nat):ky r (kas_rev p i j) k=ky r p k:=by
 rw[ky_rev hj]
 split
 ·rename_i c
  rw[he _ (by omega) (by omega),he k c.1 c.2]
 ·rfl
theorem desc_wp (h:Ask N r cmp s) (hN:0 < N) {Q:Array Nat × Nat × Nat->Shared->Prop}:∀ f p n q,Gd N p->1≤n->n + f≤N->Dn r p n->q + 1≤n->(∀ i,n - (q + 1)≤i->i < n->ky r p i=ky r p (n - 1)) ->
  (∀ p' n' q',Gd N p'->n≤n'->n'≤n + f->Dn r p' n'->q' + 1≤n'->(∀ i,n' - (q' + 1)≤i->i < n'->ky r p' i=ky r p' (n' - 1))->Q (p',n',q') s)->(kas_desc f p n q).kasWp cmp Q s
 | 0,p,n,q,g,_,_,hd,hq,he,z=>z p n q g (Nat.le_refl _) (Nat.le_refl _) hd hq he
 | f + 1,p,n,q,g,h1,hf,hd,hq,he,z=>by
  refine h _ _ _ (g.lt hN _) (g.lt hN _) ?_
  by_cases c:r (p.getD n 0) < r (p.getD (n - 1) 0)
  ·rw[decide_eq_true c]
   have c':ky r p n < ky r p (n - 1):=c
   have dn:∀ {p':Array Nat},(∀ k,ky r p' k=ky r p k)->Dn r p' (n + 1):=fun e i j hij hj=>by
    rw[e,e]
    by_cases ej:j=n
    ·subst ej
     by_cases ei:i=j
     ·subst ei;exact Int.le_refl _
     ·exact Int.le_trans (Int.le_of_lt c') (hd i (j - 1) (by omega) (by omega))
    ·exact hd i j hij (by omega)
   show KasT.kasWp cmp (if q > 0 then kas_desc f (kas_rev p (n - (q + 1)) n) (n + 1) 0 else kas_desc f p (n + 1) 0) Q s
   by_cases hq0:q > 0
   ·rw[if_pos hq0]
    have e:=ky_rev_eq (r:=r) (p:=p) (i:=n - (q + 1)) (j:=n) (by rw[g.sz];omega) (ky r p (n - 1)) he
    exact desc_wp h hN f _ (n + 1) 0 (g.rev _ _) (by omega) (by omega) (dn e) (by omega) (fun i a b=>by congr 1;omega)
     (fun p' n' q' g' a b d e1 e2=>z p' n' q' g' (by omega) (by omega) d e1 e2)
   ·rw[if_neg hq0]
    exact desc_wp h hN f _ (n + 1) 0 g (by omega) (by omega) (dn fun _=>rfl) (by omega) (fun i a b=>by congr 1;omega)
     (fun p' n' q' g' a b d e1 e2=>z p' n' q' g' (by omega) (by omega) d e1 e2)
  ·rw[decide_eq_false c]
   refine h _ _ _ (g.lt hN _) (g.lt hN _) ?_
   by_cases d:r (p.getD (n - 1) 0) < r (p.getD n 0)
   ·rw[decide_eq_true d]
    exact z p n q g (Nat.le_refl _) (by omega) hd hq he
   ·rw[decide_eq_false d]
    have e:ky r p n=ky r p (n - 1):=by unfold ky;omega
    refine desc_wp h hN f p (n + 1) (q + 1) g (by omega) (by omega) (fun i j hij hj=>?_) (by omega) (fun i a b=>?_)
     (fun p' n' q' g' a b d e1 e2=>z p' n' q' g' (by omega) (by omega) d e1 e2)
    ·by_cases ej:j=n
     ·subst ej
      by_cases ei:i=j
      ·subst ei;exact Int.le_refl _
      ·rw[e];exact hd i (j - 1) (by omega) (by omega)
     ·exact hd i j hij (by omega)
    ·rw[show n + 1 - 1=n by omega]
     by_cases ei:i=n
     ·rw[ei]
     ·rw[e];exact he i (by omega) (by omega)
theorem tail3_wp (h:Ask N r cmp s) (hN:0 < N) {Q:Nat × Array Nat->Shared->Prop} {p:Array Nat} {n:Nat} (g:Gd N p) (h1:1≤n) (hn:n≤N) (hd:Dn r p n)
  (z:∀ m p',Gd N p'->1≤m->m≤N->Up r p' m->Q (m,p') s):(kas_tail3 n N p).kasWp cmp Q s:=by
 unfold kas_tail3
 rw[KasT.kasWp_bind]
 refine asc_wp h hN (g.rev 0 n) _ n h1 (fun i j hij hj=>?_) (fun m a b u _=>z m _ (g.rev 0 n) (by omega) (by omega) u)
 rw[ky_rev (by rw[g.sz];omega),ky_rev (by rw[g.sz];omega),if_pos (by omega),if_pos (by omega)]
 exact hd _ _ (by omega) (by omega)
theorem descPart_wp (h:Ask N r cmp s) (hN:0 < N) {Q:Nat × Array Nat->Shared->Prop} {p:Array Nat} {n:Nat} (g:Gd N p) (h1:1≤n) (hn:n + 1≤N) (hd:Dn r p (n + 1))
  (z:∀ m p',Gd N p'->1≤m->m≤N->Up r p' m->Q (m,p') s):(kas_descPart n N p).kasWp cmp Q s:=by
 unfold kas_descPart
 rw[KasT.kasWp_bind]
 refine desc_wp h hN _ p (n + 1) 0 g (by omega) (by omega) hd (by omega) (fun i a b=>by congr 1;omega) (fun p' n' q' g' a b d e1 e2=>?_)
 show KasT.kasWp cmp (if q' > 0 then kas_tail3 n' N (kas_rev p' (n' - (q' + 1)) n') else kas_tail3 n' N p') Q s
 by_cases hq:q' > 0
 ·rw[if_pos hq]
  have e:=ky_rev_eq (r:=r) (p:=p') (i:=n' - (q' + 1)) (j:=n') (by rw[g'.sz];omega) (ky r p' (n' - 1)) e2
  exact tail3_wp h hN (g'.rev _ _) (by omega) (by omega) (fun i j hij hj=>by rw[e,e];exact d i j hij hj) z
 ·rw[if_neg hq]
  exact tail3_wp h hN g' (by omega) (by omega) d z
theorem count_wp (h:Ask N r cmp s) (hN:0 < N) {Q:Nat × Array Nat->Shared->Prop} {p:Array Nat} (g:Gd N p)
  (z:∀ m p',Gd N p'->1≤m->m≤N->Up r p' m->Q (m,p') s):(kas_count N p).kasWp cmp Q s:=by
 unfold kas_count
 rw[KasT.kasWp_bind]
 refine asc_wp h hN g _ 1 (Nat.le_refl _) (fun i j hij hj=>?_) (fun m a b u d=>?_)
 ·have:i=j:=by omega
  subst this;exact Int.le_refl _
 show KasT.kasWp cmp (if (m == N)=true then .ret (m,p) else if m > 1 then .ask (p.getD 0 0) (p.getD (m - 1) 0) fun c=>if c=true then .ret (m,p) else kas_descPart m N (kas_rev p 0 m) else kas_descPart m N p) Q s
 by_cases hm:m=N
 ·rw[if_pos (by simpa using hm)]
  exact z m p g a (by omega) u
 ·rw[if_neg (by simpa using hm)]
  have d':=d (by omega)
  by_cases h1:m > 1
  ·rw[if_pos h1]
   refine h _ _ _ (g.lt hN _) (g.lt hN _) ?_
   by_cases c:r (p.getD 0 0) < r (p.getD (m - 1) 0)
   ·rw[decide_eq_true c]
    exact z m p g a (by omega) u
   ·rw[decide_eq_false c]
    have c':ky r p (m - 1)≤ky r p 0:=by unfold ky;omega
    have eq:∀ k,0≤k->k < m->ky r p k=ky r p 0:=fun k _ hk=>by
     have a1:=u 0 k (by omega) hk
     have a2:=u k (m - 1) (by omega) (by omega)
     omega
    have e:=ky_rev_eq (r:=r) (p:=p) (i:=0) (j:=m) (by rw[g.sz];omega) (ky r p 0) eq
    refine descPart_wp h hN (g.rev 0 m) (by omega) (by omega) (fun i j hij hj=>?_) z
    rw[e,e]
    by_cases ej:j=m
    ·subst ej
     by_cases ei:i=j
     ·subst ei;exact Int.le_refl _
     ·rw[eq i (by omega) (by omega)]
      have:=eq (j - 1) (by omega) (by omega)
      omega
    ·rw[eq i (by omega) (by omega),eq j (by omega) (by omega)]
     exact Int.le_refl _
  ·rw[if_neg h1]
   have e1:m=1:=by omega
   subst e1
   refine descPart_wp h hN g (by omega) (by omega) (fun i j hij hj=>?_) z
   by_cases ej:j=1
   ·subst ej
    by_cases ei:i=1
    ·subst ei;exact Int.le_refl _
    ·have:i=0:=by omega
     subst this
     exact Int.le_of_lt d'
   ·have:i=j:=by omega
    subst this;exact Int.le_refl _
theorem place_wp (h:Ask N r cmp s) (hN:0 < N) {Q:Nat->Shared->Prop} {p:Array Nat} {k:Nat} (g:Gd N p) (hu:Up r p k):∀ f l rr,l≤rr->rr≤k->rr - l≤f->(∀ i,i < l->ky r p i≤ky r p k)->(∀ i,rr≤i->i < k->ky r p k < ky r p i) ->
  (∀ l',l'≤k->(∀ i,i < l'->ky r p i≤ky r p k)->(∀ i,l'≤i->i < k->ky r p k < ky r p i)->Q l' s)->(kas_place p k f l rr).kasWp cmp Q s
 | 0,l,rr,h1,h2,h3,a,b,z=>z l (by omega) a (fun i x y=>b i (by omega) y)
 | f + 1,l,rr,h1,h2,h3,a,b,z=>by
  unfold kas_place
  by_cases hl:l ≥ rr
  ·rw[if_pos hl]
   exact z l (by omega) a (fun i x y=>b i (by omega) y)
  ·rw[if_neg hl]
   refine h _ _ _ (g.lt hN _) (g.lt hN _) ?_
   by_cases c:r (p.getD k 0) < r (p.getD ((l + rr) / 2) 0)
   ·rw[decide_eq_true c]
    have c':ky r p k < ky r p ((l + rr) / 2):=c
    exact place_wp h hN g hu f l ((l + rr) / 2) (by omega) (by omega) (by omega) a (fun i x y=>Int.lt_of_lt_of_le c' (hu _ _ x y)) z
   ·rw[decide_eq_false c]
    have c':ky r p ((l + rr) / 2)≤ky r p k:=by unfold ky;omega
    exact place_wp h hN g hu f ((l + rr) / 2 + 1) rr (by omega) (by omega) (by omega) (fun i x=>Int.le_trans (hu i ((l + rr) / 2) (by omega) (by omega)) c') b z
theorem bin_wp (h:Ask N r cmp s) (hN:0 < N) {Q:Array Nat->Shared->Prop}:∀ f p k,Gd N p->k + f≤N->Up r p k->(∀ p',Gd N p'->Up r p' (k + f)->Q p' s)->(kas_bin f p k).kasWp cmp Q s
 | 0,p,k,g,_,hu,z=>z p g hu
 | f + 1,p,k,g,hk,hu,z=>by
  unfold kas_bin
  rw[KasT.kasWp_bind]
  refine place_wp h hN g hu k 0 k (by omega) (Nat.le_refl _) (by omega) (fun i x=>absurd x (Nat.not_lt_zero _)) (fun i x y=>absurd (Nat.lt_of_le_of_lt x y) (Nat.lt_irrefl _)) (fun l hl a b=>?_)
  have e:=fun m=>ky_bub (r:=r) (p:=p) (k:=k) (d:=k - l) (by rw[g.sz];omega) (by omega) m
  refine bin_wp h hN f _ (k + 1) (g.bub _ _) (by omega) (fun i j hij hj=>?_) (fun p' g' u'=>z p' g' (by rw[show k + (f + 1)=k + 1 + f by omega];exact u'))
  rw[e,e]
  have ekl:k - (k - l)=l:=by omega
  rw[ekl]
  by_cases i1:i=l
  ·rw[if_pos i1]
   by_cases j1:j=l
   ·rw[if_pos j1];exact Int.le_refl _
   ·rw[if_neg j1,if_pos (by omega)]
    exact Int.le_of_lt (b _ (by omega) (by omega))
  ·rw[if_neg i1]
   by_cases i2:l < i∧i≤k
   ·rw[if_pos i2,if_neg (by omega),if_pos (by omega)]
    exact hu _ _ (by omega) (by omega)
   ·rw[if_neg i2]
    by_cases j1:j=l
    ·rw[if_pos j1];exact a _ (by omega)
    ·rw[if_neg j1]
     by_cases j2:l < j∧j≤k
     ·rw[if_pos j2];exact hu _ _ (by omega) (by omega)
     ·rw[if_neg j2];exact hu _ _ hij (by omega)
/-- the sort's tree, asked by ranks, ends at an order of the places by which the ranks rise -/
theorem sort_wp (h:Ask N r cmp s) (hN:0 < N) {Q:Array Nat->Shared->Prop} (z:∀ p,Gd N p->Up r p N->Q p s):(kas_sort N).kasWp cmp Q s:=by
 unfold kas_sort
 rw[KasT.kasWp_bind]
 refine count_wp h hN (Array.Perm.refl _) (fun m p g h1 hm u=>?_)
 show KasT.kasWp cmp (if m < N then kas_bin (N - max m 1) p (max m 1) else .ret p) Q s
 by_cases c:m < N
 ·rw[if_pos c,Nat.max_eq_left h1]
  exact bin_wp h hN _ p m g (by omega) u (fun p' g' u'=>z p' g' (by rw[show m + (N - m)=N by omega] at u';exact u'))
 ·rw[if_neg c]
  have:m=N:=by omega
  subst this
  exact z p g u
end
end Srt
namespace Srt
open PySem PySem.W PyProof.Rows
section
variable {n:Nat} {lt:Nat->Nat->Bool}
def rank (n:Nat) (lt:Nat->Nat->Bool) (i:Nat):Int:=(((List.range n).countP fun k=>lt k i:Nat):Int)
theorem countP_lt {α:Type} {p q:α->Bool}:∀ {l:List α} {x:α},(∀ y ∈ l,p y=true->q y=true)->x ∈ l->p x=false->q x=true->l.countP p < l.countP q
 | [],_,_,hx,_,_=>by cases hx
 | a::r,x,h,hx,hp,hq=>by
  have hr:∀ y ∈ r,p y=true->q y=true:=fun y hy=>h y (List.mem_cons_of_mem _ hy)
  have mono:r.countP p≤r.countP q:=List.countP_mono_left hr
  rw[List.countP_cons,List.countP_cons]
  rcases List.mem_cons.mp hx with e | hx
  ·subst e
   simp only [hp,hq,Bool.false_eq_true,if_false,if_true]
   omega
  ·have ih:=countP_lt hr hx hp hq
   cases hpa:p a with
   | false=>simp only [Bool.false_eq_true,if_false];split <;> omega
   | true =>
    have:=h a List.mem_cons_self hpa
    simp only [this,if_true]
    omega
theorem rank_lt (hi:∀ i,lt i i=false) (ht:∀ i j k,i < n->j < n->k < n->lt i j=true->lt j k=true->lt i k=true) (hn:∀ i j k,i < n->j < n->k < n->lt i k=true->lt i j=true∨lt j k=true)
  {i j:Nat} (h1:i < n) (h2:j < n):decide (rank n lt i < rank n lt j)=lt i j:=by
 unfold rank
 cases e:lt i j with
 | true =>
  refine decide_eq_true ?_
  have:=countP_lt (p:=fun k=>lt k i) (q:=fun k=>lt k j) (l:=List.range n) (x:=i) (fun k hk q=>ht k i j (List.mem_range.mp hk) h1 h2 q e) (List.mem_range.mpr h1) (hi i) e
  omega
 | false =>
  refine decide_eq_false ?_
  have:(List.range n).countP (fun k=>lt k j)≤(List.range n).countP (fun k=>lt k i):=List.countP_mono_left fun k hk q=>by
   rcases hn k i j (List.mem_range.mp hk) h1 h2 q with z | z
   ·exact z
   ·rw[e] at z;cases z
  omega
end
section
variable {prog:Program} {w:World} {A:Around} {E:Value->Shared->Prop} {s:Shared}
abbrev Stay (a:Addr) (h h':Heap):Prop:=∀ b o,b≠a->h.get? b=some o->h'.get? b=some o
def outOf (vs:List Value) (p:Array Nat):List Value:=p.toList.map fun i=>vs.getD i Value.none
theorem out_range (vs:List Value):outOf vs (List.toArray (List.range vs.length))=vs:=by
 unfold outOf
 refine List.ext_getElem (by simp) fun i h1 h2=>?_
 simp
 rw[List.getElem?_eq_getElem h2]
 rfl
theorem gd_len {vs:List Value} {p:Array Nat} (g:Gd vs.length p):(outOf vs p).length=vs.length:=by
 unfold outOf
 rw[List.length_map,Array.length_toList,g.sz]
/-- list.sort of a list whose items are told apart by ranks; nothing is written by a comparison -/
theorem lsort {a:Addr} {vs:List Value} {n:Nat} {P:PySem.Fin->Shared->Prop} {r:Nat->Int} {κ:SortKind} (ho:s.heap.get? a=some (seqObj "list" vs.toArray n)) (h64:vs.length < 64)
  (hk:2≤vs.length->∀ (s':Shared) (Q:SortKind->Shared->Prop),Stay a s.heap s'.heap->Q κ s'->wpAny (model prog w) A (keyKind' vs.toArray) Q (fun _ _=>False) s')
  (hc:∀ (s':Shared) (i j:Nat) (C:Bool->Shared->Prop),Stay a s.heap s'.heap->i < vs.length->j < vs.length->C (decide (r i < r j)) s'->kas_ask prog w A κ vs i j C s')
  (h:∀ (p:Array Nat) (h':Heap) (c:Nat),Gd vs.length p->Up r p vs.length->Stay a s.heap h'->h'.get? a=some (seqObj "list" (outOf vs p).toArray c)->P (.done (.ret .none)) { s with heap:=h' }) :
  wpAny (model prog w) A (Builtin.«list.sort» ⟨[.ref a],[]⟩) P E s:=by
 rw[list_sort_plain]
 have ha:a < s.heap.objs.size:=Heap.lt_size ho
 have line:(64:Nat)≤sizeLine:=by rw[sizeLine_eq];decide
 refine wpAny_bind (listItems_at ho rfl (wpAny_bind (listUpdate_at ho rfl ?_ (by rw[List.size_toArray];omega) (Nat.zero_le _))))
 have e1:=get?_update_seq ho fun _=>(#[]:Array Value)
 generalize (if ((fun _=>(#[]:Array Value)) vs.toArray).size == vs.toArray.size then n else n + 1)=n1 at e1
 have k1:Stay a s.heap (s.heap.update a (Obj.mapSeq fun _=>(#[]:Array Value))):=fun b o hb q=>(Heap.get?_update_other s.heap _ (Ne.symm hb)).trans q
 refine wpAny_bind (seqEpoch_at e1 rfl (wpAny_bind (wpAny_newTuple ?_ (by show vs.length≤_;omega))))
 refine wpAny_bind (wpAny_newList ?_ (Nat.zero_le _))
 refine wpAny_holding ?_
 show wpAny (model prog w) A _ P E { s with heap:=(((s.heap.update a (Obj.mapSeq fun _=>(#[]:Array Value))).push (seqObj "tuple" vs.toArray 0)).push (seqObj "list" #[] 0):Heap) }
 generalize hg:((s.heap.update a (Obj.mapSeq fun _=>(#[]:Array Value))).push (seqObj "tuple" vs.toArray 0)).push (seqObj "list" #[] 0)=g
 have e2:g.get? a=some (seqObj "list" #[] n1):=by rw[← hg];exact Heap.get?_push_of_some _ (Heap.get?_push_of_some _ e1)
 have k2:Stay a s.heap g:=fun b o hb q=>by rw[← hg];exact Heap.get?_push_of_some _ (Heap.get?_push_of_some _ (k1 b o hb q))
 have fin:∀ (p:Array Nat),Gd vs.length p->Up r p vs.length->P (.done (.ret .none)) { s with heap:=g.update a (Obj.mapSeq fun _=>(outOf vs p).toArray) }:=fun p g1 u1 =>
  h p _ _ g1 u1 (fun b o hb q=>(Heap.get?_update_other g _ (Ne.symm hb)).trans (k2 b o hb q)) (get?_update_seq e2 fun _=>(outOf vs p).toArray)
 by_cases h2:vs.length < 2
 ·have h2':vs.toArray.size < 2:=by rw[List.size_toArray];exact h2
  simp only [if_pos h2']
  refine wpAny_bind (wpAny_pure ?_)
  rw[StateT.run_pure]
  refine wpAny_bind (wpAny_pure ?_)
  have eo:((arrOf (SortSt.mk' general' (vs.toArray.zip vs.toArray) #[] 7 none)).map (·.2))=vs.toArray:=by
   apply Array.toList_inj.mp
   show ((vs.toArray.zip vs.toArray).map (·.2)).toList=_
   rw[Array.toList_map]
   simp only [Array.toList_zip,List.toList_toArray]
   exact List.map_snd_zip (Nat.le_refl _)
  dsimp only
  refine wpAny_bind (seqEpoch_at e2 rfl ?_)
  rw[eo]
  refine wpAny_bind (listUpdate_at e2 rfl ?_ (Nat.zero_le _) (by rw[List.size_toArray];omega))
  simp only [bne_self_eq_false,Bool.false_eq_true,if_false]
  have f:=fin (List.toArray (List.range vs.length)) (Array.Perm.refl _) (fun i j hij hj=>by
   have:i=j:=by omega
   subst this;exact Int.le_refl _)
  rw[out_range] at f
  exact wpAny_pure f
 ·have h2':¬ vs.toArray.size < 2:=by rw[List.size_toArray];exact h2
  simp only [if_neg h2']
  refine wpAny_bind (wpAny_mono (hk (by omega) { s with heap:=g } (fun κ' s'=>κ'=κ∧s'={ s with heap:=g }) k2 ⟨rfl,rfl⟩) (fun κ' s' hq=>?_) fun _ _ x=>x.elim)
  obtain⟨rfl,rfl⟩:=hq
  refine wpAny_bind (wpAny_mono (kat_run (ks:=vs) (Q:=fun st' s'=>∃ p:Array Nat,arrOf st'=p.map (kas_item (vs.toArray.zip vs.toArray))∧failedOf st'=none∧s'={ s with heap:=g }∧Gd vs.length p∧Up r p vs.length)
   (G:=fun p s'=>s'={ s with heap:=g }∧Gd vs.length p∧Up r p vs.length) rfl (by omega) h64 (fun p st' s' _ b2 b3 b4=>⟨p,b2,b3,b4.1,b4.2.1,b4.2.2⟩)
   (sort_wp (r:=r) (fun i j C hi hj q=>hc _ i j C k2 hi hj q) (by omega) fun p g1 u1=>⟨rfl,g1,u1⟩)) ?_ fun _ _ e=>e)
  rintro ⟨⟨⟩,st'⟩ s' ⟨p,har,hf,rfl,g1,u1⟩
  have hout:=kat_snds (ks:=vs) (vs:=vs) rfl har
  have ol:(outOf vs p).length=vs.length:=gd_len g1
  dsimp only
  rw[hout]
  refine wpAny_bind (seqEpoch_at e2 rfl ?_)
  refine wpAny_bind (listUpdate_at e2 rfl ?_ (Nat.zero_le _) (by show (outOf vs p).toArray.size≤_;rw[List.size_toArray];omega))
  rw[hf]
  simp only [bne_self_eq_false,Bool.false_eq_true,if_false]
  exact wpAny_pure (fin p g1 u1)
/-- sorted(l) -/
theorem sorted_by {l:Addr} {vs:List Value} {Q:Value->Shared->Prop} {r:Nat->Int} {κ:SortKind} (hl:s.heap.IsList l vs.toArray) (h64:vs.length < 64)
  (hk:2≤vs.length->∀ (A':Around) (s':Shared) (Q:SortKind->Shared->Prop),(∀ b o,s.heap.get? b=some o->s'.heap.get? b=some o)->Q κ s'->wpAny (model prog w) A' (keyKind' vs.toArray) Q (fun _ _=>False) s')
  (hc:∀ (A':Around) (s':Shared) (i j:Nat) (C:Bool->Shared->Prop),(∀ b o,s.heap.get? b=some o->s'.heap.get? b=some o)->i < vs.length->j < vs.length->C (decide (r i < r j)) s'->kas_ask prog w A' κ vs i j C s')
  (h:∀ (p:Array Nat) (h':Heap) (c:Nat),Gd vs.length p->Up r p vs.length->(∀ b o,s.heap.get? b=some o->h'.get? b=some o)->h'.get? (s.heap.objs.size + 1)=some (seqObj "list" (outOf vs p).toArray c)->Q (.ref (s.heap.objs.size + 1)) { s with heap:=h' }) :
  wpAny (model prog w) A (call (.builtin "sorted") [.ref l]) Q E s:=by
 have line:(64:Nat)≤sizeLine:=by rw[sizeLine_eq];decide
 refine Calls.call_function_entry kind_sorted plain_sorted entry_sorted (args_sorted1 _) ?_
 unfold Builtin.«sorted»
 refine wpAny_bind (m:=checkCount "sorted" 1 1 _) (wpAny_pure (wpAny_bind (collect_list hl (wpAny_bind (wpAny_newList ?_ (by omega))) (by omega))))
 generalize hg:(s.heap.push (seqObj "list" #[] 0)).update s.heap.objs.size (Obj.mapSeq (·++vs.toArray))=g
 have sz:g.objs.size=s.heap.objs.size + 1:=by rw[← hg,Heap.size_update,size_push']
 have k1:∀ b o,s.heap.get? b=some o->g.get? b=some o:=fun b o q=>by
  rw[← hg]
  exact (Heap.get?_update_other _ _ (Ne.symm (Nat.ne_of_lt (Heap.lt_size q)))).trans (Heap.get?_push_of_some _ q)
 have hoL:(g.push { cls:=.type "list",data:=.seq vs.toArray }).get? (s.heap.objs.size + 1)=some (seqObj "list" vs.toArray 0):=by rw[← sz];exact Heap.get?_push_size _ rfl
 have k2:∀ b o,s.heap.get? b=some o->(g.push { cls:=.type "list",data:=.seq vs.toArray }).get? b=some o:=fun b o q=>Heap.get?_push_of_some _ (k1 b o q)
 have ne:∀ b o,s.heap.get? b=some o->b≠s.heap.objs.size + 1:=fun b o q=>Nat.ne_of_lt (Nat.lt_succ_of_lt (Heap.lt_size q))
 show wpAny _ _ _ _ _ { s with heap:=g.push { cls:=.type "list",data:=.seq vs.toArray } }
 rw[sz]
 refine wpAny_bind (wpAny_holding (wpAny_call_entry slot_list_sort ⟨_,hoL,rfl⟩ entry_list_sort ?_ (args_list_sort _)))
 refine lsort (s:={ s with heap:=g.push { cls:=.type "list",data:=.seq vs.toArray } }) (r:=r) (κ:=κ) hoL h64 (fun h2 s' Q' st q=>hk h2 _ s' Q' (fun b o e=>st b o (ne b o e) (k2 b o e)) q)
  (fun s' i j C st hi hj q=>hc _ s' i j C (fun b o e=>st b o (ne b o e) (k2 b o e)) hi hj q) fun p h' c g1 u1 st e=>⟨_,rfl,?_⟩
 exact wpAny_pure ⟨_,rfl,h p h' c g1 u1 (fun b o e=>st b o (ne b o e) (k2 b o e)) e⟩
def lexI:List Int->List Int->Bool
 | [],[]=>false
 | [],_::_=>true
 | _::_,[]=>false
 | x::xs,y::ys=>if x=y then lexI xs ys else decide (x < y)
theorem lexI_irr:∀ xs,lexI xs xs=false
 | []=>rfl
 | x::xs=>by show (if x=x then lexI xs xs else _)=false;rw[if_pos rfl];exact lexI_irr xs
theorem lexI_trans:∀ xs ys zs,lexI xs ys=true->lexI ys zs=true->lexI xs zs=true
 | [],[],_,h,_=>by cases h
 | [],_::_,[],_,h=>by cases h
 | [],_::_,_::_,_,_=>rfl
 | _::_,[],_,h,_=>by cases h
 | _::_,_::_,[],_,h=>by cases h
 | x::xs,y::ys,z::zs,h1,h2=>by
  simp only [lexI] at h1 h2 ⊢
  by_cases e1:x=y
  ·subst e1
   rw[if_pos rfl] at h1
   by_cases e2:x=z
   ·rw[if_pos e2] at h2 ⊢;exact lexI_trans xs ys zs h1 h2
   ·rw[if_neg e2] at h2 ⊢;exact h2
  ·rw[if_neg e1] at h1
   have l1:x < y:=of_decide_eq_true h1
   by_cases e2:y=z
   ·subst e2
    rw[if_neg e1];exact h1
   ·rw[if_neg e2] at h2
    have l2:y < z:=of_decide_eq_true h2
    rw[if_neg (by omega)]
    exact decide_eq_true (by omega)
theorem lexI_neg:∀ xs ys zs,lexI xs zs=true->lexI xs ys=true∨lexI ys zs=true
 | [],[],_,h=>.inr h
 | [],_::_,_,_=>.inl rfl
 | _::_,_,[],h=>by cases h
 | _::_,[],_::_,_=>.inr rfl
 | x::xs,y::ys,z::zs,h=>by
  simp only [lexI] at h ⊢
  by_cases e:x=z
  ·subst e
   rw[if_pos rfl] at h
   by_cases e1:x=y
   ·subst e1
    rw[if_pos rfl,if_pos rfl];exact lexI_neg xs ys zs h
   ·rw[if_neg e1,if_neg (Ne.symm e1)]
    by_cases l:x < y
    ·exact .inl (decide_eq_true l)
    ·exact .inr (decide_eq_true (by omega))
  ·rw[if_neg e] at h
   have l:x < z:=of_decide_eq_true h
   by_cases e1:x=y
   ·subst e1
    rw[if_neg e];exact .inr h
   ·by_cases e2:y=z
    ·subst e2
     rw[if_neg e1];exact .inl h
    ·rw[if_neg e1,if_neg e2]
     by_cases l1:x < y
     ·exact .inl (decide_eq_true l1)
     ·exact .inr (decide_eq_true (by omega))
theorem lexI_tot:∀ xs ys,lexI xs ys=false->lexI ys xs=false->xs=ys
 | [],[],_,_=>rfl
 | [],_::_,h,_=>by cases h
 | _::_,[],_,h=>by cases h
 | x::xs,y::ys,h1,h2=>by
  simp only [lexI] at h1 h2
  by_cases e:x=y
  ·subst e
   rw[if_pos rfl] at h1 h2
   rw[lexI_tot xs ys h1 h2]
  ·rw[if_neg e] at h1
   rw[if_neg (Ne.symm e)] at h2
   have:=of_decide_eq_false h1
   have:=of_decide_eq_false h2
   exact absurd (by omega) e
/-- the values of a list that are tuples of ints -/
def TupI (h:Heap) (v:Value) (k:List Int):Prop:=∃ a o its n,v=.ref a∧h.get? a=some o∧o.cls=.type "tuple"∧o.data=.seq its n∧IntsAre its.toList k
theorem TupI.to {h h':Heap} {v:Value} {k:List Int} (t:TupI h v k) (e:∀ b o,h.get? b=some o->h'.get? b=some o):TupI h' v k :=
 let ⟨a,o,its,n,q1,q2,q3⟩:=t
 ⟨a,o,its,n,q1,e _ _ q2,q3⟩
theorem katI {C:Bool->Shared->Prop}:∀ {xs ys:List Value} {k k':List Int} (i:Nat),IntsAre xs k->IntsAre ys k'->C (lexI k k') s->KatLex prog w A true (decide (k.length < k'.length)) C (xs.zip ys) i s
 | _,_,_,_,i,.nil,.nil,h=>h
 | _,_,_,_,i,.nil,.cons c u h',h=>by
  rw[List.zip_nil_left]
  refine kat_nil ?_
  rw[decide_eq_true (by simp)]
  exact h
 | _,_,_,_,i,.cons a t h',.nil,h=>by
  rw[List.zip_nil_right]
  refine kat_nil ?_
  rw[decide_eq_false (by simp)]
  exact h
 | _,_,_,_,i,.cons a t (vs:=xs) (ns:=k) h1,.cons c u (vs:=ys) (ns:=k') h2,h=>by
  rw[List.zip_cons_cons]
  refine kat_cons (wpAny_eqBool_int ?_)
  have ef:decide ((a::k).length < (c::k').length)=decide (k.length < k'.length):=by simp
  have hh:C (if a=c then lexI k k' else decide (a < c)) s:=h
  rw[ef]
  by_cases e:a=c
  ·rw[if_pos e] at hh
   rw[show (a == c)=true by simpa using e]
   exact kat_yes (katI (i + 1) h1 h2 hh)
  ·rw[if_neg e] at hh
   rw[show (a == c)=false by simpa using e]
   refine kat_no ?_
   cases hi:(true && i == 0) with
   | true=>exact oneLt_int hh
   | false=>exact kat_one _ _ (lt_int hh)
theorem tup_ask {vs:List Value} {ks:List (List Int)} (hk:Paired (TupI s.heap) vs ks) {i j:Nat} {C:Bool->Shared->Prop} (hi:i < vs.length) (hj:j < vs.length) (h:C (lexI (ks.getD i []) (ks.getD j [])) s):kas_ask prog w A (tuples' true) vs i j C s:=by
 have at_:∀ {vs:List Value} {ks:List (List Int)} (i:Nat),Paired (TupI s.heap) vs ks->i < vs.length->TupI s.heap (vs.getD i Value.none) (ks.getD i []):=by
  intro vs ks i p
  induction p generalizing i with
  | nil=>intro h;exact absurd h (by simp)
  | cons r t ih =>
   intro h
   cases i with
   | zero=>exact r
   | succ i=>exact ih i (by simpa using h)
 obtain⟨a,o,its,n,e1,q1,q2,q3,q4⟩:=at_ i hk hi
 obtain⟨a',o',its',n',e1',q1',q2',q3',q4'⟩:=at_ j hk hj
 unfold kas_ask
 rw[e1,e1']
 refine kat_lt q1 q3 q1' q3' ?_
 have l1:its.size=(ks.getD i []).length:=by have:=q4.length;simpa using this
 have l2:its'.size=(ks.getD j []).length:=by have:=q4'.length;simpa using this
 rw[l1,l2]
 exact katI 0 q4 q4' h
theorem tup_kind {vs:List Value} {ks:List (List Int)} (hk:Paired (TupI s.heap) vs ks) (hne:∀ k ∈ ks,k≠[]) (h2:2≤vs.length) {Q:SortKind->Shared->Prop} (h:Q (tuples' true) s):wpAny (model prog w) A (keyKind' vs.toArray) Q E s:=by
 have mk:∀ {vs:List Value} {ks:List (List Int)},Paired (TupI s.heap) vs ks->(∀ k ∈ ks,k≠[])->∃ fs:List Value,KatTups s.heap vs fs∧fs.length=vs.length∧∀ f ∈ fs,∃ n t,f=.int n t:=by
  intro vs ks p
  induction p with
  | nil=>exact fun _=>⟨[],.nil,rfl,fun f hf=>nomatch hf⟩
  | cons r t ih =>
   intro hn
   obtain⟨fs,g1,g2,g3⟩:=ih fun k hk=>hn k (List.mem_cons_of_mem _ hk)
   obtain⟨a,o,its,n,e1,q1,q2,q3,q4⟩:=r
   have hne:=hn _ List.mem_cons_self
   subst e1
   cases hz:its.toList with
   | nil=>rw[hz] at q4;cases q4;exact absurd rfl hne
   | cons v r =>
    rw[hz] at q4
    obtain⟨m,tk,ev⟩:=q4.all v List.mem_cons_self
    refine⟨v::fs,.cons q1 q2 q3 ?_ g1,by simp [g2],fun f hf=>?_⟩
    ·rw[← Array.getElem?_toList,hz];rfl
    ·rcases List.mem_cons.mp hf with e | hf
     ·exact⟨m,tk,e.trans ev⟩
     ·exact g3 f hf
 obtain⟨fs,g1,g2,g3⟩:=mk hk hne
 refine kat_kind (T:=.type "int") g1 (by omega) (fun v hv=>?_) (by decide +kernel) h
 obtain⟨m,tk,rfl⟩:=g3 v hv
 exact Looks.of_pure rfl
theorem int_ask {vs:List Value} {ns:List Int} (hk:IntsAre vs ns) {i j:Nat} {C:Bool->Shared->Prop} (hi:i < vs.length) (hj:j < vs.length) (h:C (decide (ns.getD i 0 < ns.getD j 0)) s):kas_ask prog w A oneType' vs i j C s:=by
 have at_:∀ {vs:List Value} {ns:List Int} (i:Nat),IntsAre vs ns->i < vs.length->∃ t,vs.getD i Value.none=.int (ns.getD i 0) t:=by
  intro vs ns i p
  induction p generalizing i with
  | nil=>intro h;exact absurd h (by simp)
  | cons n t r ih =>
   intro h
   cases i with
   | zero=>exact⟨t,rfl⟩
   | succ i=>exact ih i (by simpa using h)
 obtain⟨t,e1⟩:=at_ i hk hi
 obtain⟨u,e2⟩:=at_ j hk hj
 unfold kas_ask
 rw[e1,e2]
 exact kat_lt_int h
theorem int_kind {vs:List Value} {ns:List Int} (hk:IntsAre vs ns) (h2:2≤vs.length) {Q:SortKind->Shared->Prop} (h:Q oneType' s):wpAny (model prog w) A (keyKind' vs.toArray) Q E s:=by
 refine kas_kind (T:=.type "int") h2 (fun v hv=>?_) (by decide +kernel) (by decide +kernel) h
 obtain⟨m,tk,rfl⟩:=hk.all v hv
 exact Looks.of_pure rfl
end
end Srt
namespace Z3
open PySem
section
variable {prog:Program} {w:World} {A:Around} {E:Value->Shared->Prop} {s:Shared}
/-- a sequence (t: a tuple, else a list) and an iterator over it -/
def SqAt (t:Bool) (h:Heap) (l:Addr) (xs:Array Value):Prop:=if t=true then h.IsTuple l xs else h.IsList l xs
def ItAt (t:Bool) (h:Heap) (it l:Addr) (i:Nat):Prop:=if t=true then h.IsTupleIter it l i else h.IsListIter it l i
def itObj (t:Bool) (l:Addr):Obj:=if t=true then { cls:=.type "tuple_iterator",data:=.fields #[.ref l,.int 0 0] } else { cls:=.type "list_iterator",data:=.fields #[.ref l,.int 0 0] }
theorem SqAt.to {t:Bool} {h h':Heap} {l:Addr} {xs:Array Value} (x:SqAt t h l xs) (e:∀ o,h.get? l=some o->h'.get? l=some o):SqAt t h' l xs:=by
 cases t with
 | true=>exact Heap.IsTuple.at (show h.IsTuple l xs from x) e
 | false=>exact Heap.IsList.at (show h.IsList l xs from x) e
theorem ItAt.to {t:Bool} {h h':Heap} {it l:Addr} {i:Nat} (x:ItAt t h it l i) (e:∀ o,h.get? it=some o->h'.get? it=some o):ItAt t h' it l i:=by
 cases t with
 | true=>exact Heap.IsTupleIter.at (show h.IsTupleIter it l i from x) e
 | false=>exact Heap.IsListIter.at (show h.IsListIter it l i from x) e
theorem ItAt.obj {t:Bool} {h:Heap} {it l:Addr} {i:Nat} (x:ItAt t h it l i):∃ o n,h.get? it=some o∧o.cls=.type n∧o.data=.fields #[.ref l,.int i 0]:=by
 cases t with
 | true=>obtain⟨o,a,b,c⟩:=(show h.IsTupleIter it l i from x);exact⟨o,_,a,b,c⟩
 | false=>obtain⟨o,a,b,c⟩:=(show h.IsListIter it l i from x);exact⟨o,_,a,b,c⟩
theorem ItAt.new {t:Bool} {h:Heap} {l:Addr}:ItAt t (h.push (itObj t l)) h.objs.size l 0:=by
 cases t with
 | true=>exact⟨_,Heap.get?_push_size _ rfl,rfl,rfl⟩
 | false=>exact⟨_,Heap.get?_push_size _ rfl,rfl,rfl⟩
end
end Z3
namespace U3
open PySem PyProof.Rows
section
variable {prog:Program} {w:World} {A:Around} {E:Value->Shared->Prop} {s:Shared}
theorem draw_lst {it l:Addr} {xs:Array Value} (hne:l≠it):∀ (n i:Nat) (s:Shared) (Q:List Value->Shared->Prop),s.heap.IsListIter it l i->s.heap.IsList l xs->i + n≤xs.size ->
  (∀ h',h'.IsListIter it l (i + n)->Heap.SameBut it s.heap h'->Q ((xs.toList.drop i).take n) { s with heap:=h' })->wpAny (model prog w) A (draw (.ref it) n) Q E s
 | 0,i,s,Q,hi,_,_,h=>by
  show wpAny _ _ (pure []) Q E s
  exact wpAny_pure (by simpa using h s.heap hi (Heap.SameBut.refl ..))
 | n + 1,i,s,Q,hi,hl,hle,h=>by
  have lt:i < xs.size:=by omega
  show wpAny _ _ (pyNext (.ref it) >>= _) Q E s
  refine wpAny_bind (wpAny_pyNext_list_item hi hl (x:=xs[i]) (by simp [lt]) fun g1 i1 e1=>?_)
  refine wpAny_bind (wpAny_holding (draw_lst hne n (i + 1) _ _ i1 (hl.extBut e1.extBut hne) (by omega) fun g2 i2 e2=>wpAny_pure ?_))
  have hd:xs.toList.drop i=xs[i]::xs.toList.drop (i + 1):=by simp [List.drop_eq_getElem_cons,lt]
  have q:=h g2 (by rw[show i + (n + 1)=i + 1 + n by omega];exact i2) (e1.trans e2)
  rw[hd,List.take_succ_cons] at q
  exact q
theorem unpack_lst {l:Addr} {xs:Array Value} {targets:List (Bool × (Value->Sem Unit))} {Q:Unit->Shared->Prop} (hh:A.handled=none) (hl:s.heap.IsList l xs)
  (hn:targets.length=xs.size) (hs:targets.findIdx? (·.1)=none)
  (h:∀ h',Heap.ExtBut s.heap.objs.size s.heap h'->wpAny (model prog w) A (assignInOrder (targets.map (·.2)) xs.toList) Q E { s with heap:=h' }) :
  wpAny (model prog w) A (unpack (.ref l) targets) Q E s:=by
 have ne:l≠s.heap.objs.size:=by obtain⟨o,ho,_⟩:=hl;exact Nat.ne_of_lt (Heap.lt_size ho)
 unfold unpack
 rw[hn,hs]
 refine wpAny_bind (wpAny_holding ?_)
 unfold unpackItems
 refine wpAny_bind ?_
 unfold notIterableAtAll
 refine wpAny_bind (wpAny_specialOf hl.typeIs slot_list_iter.lookup ?_)
 refine wpAny_pure ?_
 simp only [Bool.false_eq_true,if_false]
 refine wpAny_bind (wpAny_holding (wpAny_pyIter_list hl ?_))
 refine wpAny_bind (wpAny_holding (draw_lst ne xs.size 0 _ _ ⟨_,Heap.get?_push_size _ rfl,rfl,rfl⟩ (hl.push _) (by omega) fun g1 i1 e1=>?_))
 have all:List.take xs.size (List.drop 0 xs.toList)=xs.toList:=by
  rw[List.drop_zero];exact List.take_of_length_le (by simp)
 rw[all,if_neg (by simp)]
 have l1:g1.IsList l xs:=(hl.push _).extBut e1.extBut ne
 refine wpAny_bind (wpAny_holding (wpAny_pyNext_list_end hh i1 l1 (by simp) fun g2 e2=>?_))
 simp only [Option.isSome_none,Bool.false_eq_true,if_false]
 exact wpAny_pure (h g2 fun b o hb e=>e2 b o hb (e1.extBut b o hb (Heap.get?_push_of_some _ e)))
theorem assign_tuple_lst {env:Env} {elts:List Expr} {x1} {pos:Pos} {l:Addr} {xs:Array Value} {Q:Unit->Shared->Prop} (hh:A.handled=none) (hl:s.heap.IsList l xs)
  (hn:(assignEach elts env).length=xs.size) (hs:(assignEach elts env).findIdx? (·.1)=none)
  (h:∀ h',Heap.ExtBut s.heap.objs.size s.heap h'->wpAny (model prog w) A (assignInOrder ((assignEach elts env).map (·.2)) xs.toList) Q E { s with heap:=h' }) :
  wpAny (model prog w) A (assign (.Tuple elts x1 pos) env (.ref l)) Q E s:=by
 rw[assign_Tuple]
 exact wpAny_bind (wpAny_standAt (unpack_lst hh hl hn hs h))
end
end U3
namespace L3
open PySem PySem.Spec PyProof.Rows L2
abbrev Fls:Value->Shared->Prop:=fun _ _=>False
abbrev testsOf (ifs:List Expr) (env:Env):Sem Bool :=
 forIn ifs true fun c r=>if r=true then do let ok ← isTrue c env (eval c env);pure (ForInStep.yield ok) else pure (ForInStep.yield r)
section
variable {prog:Program} {w:World} {A:Around} {R:Result->Shared->Prop} {s:Shared}
/-- a list comprehension of one clause, turn by turn; nothing raises in it -/
theorem comp_turns {elt tg iter:Expr} {ifs:List Expr} {scope:Scope} {pos:Pos} {it acc:Value} {env:Env} (W:Nat->Shared->Prop)
  (step:∀ n s,W n s->wpAny (model prog w) A (pyNext it) (fun r s1=>(r=none∧R (.ok .next) s1)∨∃ v,r=some v ∧
   wpAny (model prog w) A (letOwnedTupleGo tg it v) (fun _ s2=>wpAny (model prog w) A (assign tg env v) (fun _ s3 =>
    wpAny (model prog w) A (testsOf ifs env) (fun ok s4=>if ok=true then wpAny (model prog w) A (eval elt env) (fun x s5 =>
     wpAny (model prog w) A (call (.builtin "list.append") [acc,x]) (fun _ s6=>∃ m,m < n∧W m s6) Fls s5) Fls s4 else ∃ m,m < n∧W m s4) Fls s3) Fls s2) Fls s1) Fls s)
  (n:Nat) (h:W n s):codeAny (model prog w) A (.compLoop (.ListComp elt [⟨tg,iter,ifs,0⟩] scope pos) 0 it acc env) R s:=by
 refine codeAny_loop rfl W (fun k s1 hk=>?_) n h
 show wpAny _ A ((compTurn (.ListComp elt [⟨tg,iter,ifs,0⟩] scope pos) 0 it acc env).onRaise (fun x=>do noteFrame x env;theTreesLotGoes x)) _ _ s1
 refine wpAny_noted ?_
 rw[compTurn_list]
 refine wpAny_bind (wpAny_standAt (wpAny_bind (wpAny_mono (step k s1 hk) (fun r s2 h2=>?_) fun _ _ z=>z.elim)))
 rcases h2 with ⟨rfl,h2⟩ | ⟨v,rfl,h2⟩
 ·exact wpAny_pure h2
 ·refine wpAny_bind (wpAny_mono h2 (fun _ s3 h3=>?_) fun _ _ z=>z.elim)
  refine wpAny_bind (wpAny_mono h3 (fun _ s4 h4=>?_) fun _ _ z=>z.elim)
  refine wpAny_bind (wpAny_mono h4 (fun ok s5 h5=>?_) fun _ _ z=>z.elim)
  cases ok with
  | false=>exact wpAny_pure ⟨rfl,h5⟩
  | true =>
   refine wpAny_bind (wpAny_bind (wpAny_mono h5 (fun x s6 h6=>?_) fun _ _ z=>z.elim))
   refine wpAny_bind (wpAny_mono h6 (fun _ s7 h7=>?_) fun _ _ z=>z.elim)
   exact wpAny_pure (wpAny_pure ⟨rfl,h7⟩)
end
def clOf (cells:List (Str × Addr)):List (Str × NameKind)->List (Str × Addr)->List (Str × Addr)
 | [],cs=>cs
 | (n,k)::r,cs=>clOf cells r (if k=.free then (n,(cells.lookup n).getD 0)::cs else cs)
theorem clOf_mem {cells:List (Str × Addr)}:∀ {names:List (Str × NameKind)} {cs:List (Str × Addr)} {p:Str × Addr},p ∈ clOf cells names cs->p ∈ cs∨((p.1,NameKind.free) ∈ names∧p.2=(cells.lookup p.1).getD 0)
 | [],_,_,h=>.inl h
 | (n,k)::r,cs,p,h=>by
  rcases clOf_mem (names:=r) h with q | ⟨q1,q2⟩
  ·by_cases hk:k=.free
   ·rw[if_pos hk] at q
    rcases List.mem_cons.mp q with e | q
    ·subst e;subst hk;exact .inr ⟨List.mem_cons_self,rfl⟩
    ·exact .inl q
   ·rw[if_neg hk] at q;exact .inl q
  ·exact .inr ⟨List.mem_cons_of_mem _ q1,q2⟩
theorem clOf_has {cells:List (Str × Addr)}:∀ {names:List (Str × NameKind)} {cs:List (Str × Addr)} {x:Str},((x,NameKind.free) ∈ names∨∃ c,(x,c) ∈ cs)->∃ c,(x,c) ∈ clOf cells names cs
 | [],_,_,h=>h.elim (fun z=>nomatch z) id
 | (n,k)::r,cs,x,h=>by
  refine clOf_has (names:=r) ?_
  rcases h with h | ⟨c,h⟩
  ·rcases List.mem_cons.mp h with e | h
   ·cases e
    exact .inr ⟨_,by rw[if_pos rfl];exact List.mem_cons_self⟩
   ·exact .inl h
  ·refine .inr ⟨c,?_⟩
   split
   ·exact List.mem_cons_of_mem _ h
   ·exact h
theorem closure_go {env:Env}:∀ (names:List (Str × NameKind)) (cs:List (Str × Addr)),(∀ y ∈ names,y.2=.free->∃ c,env.cells.lookup y.1=some c) ->
  (forIn names cs fun x r=>(match x with | (n,k)=>if (k == NameKind.free)=true then do let c ← cellOf env n;pure (ForInStep.yield ((n,c)::r)) else pure (ForInStep.yield r):Sem (ForInStep (List (Str × Addr)))))=pure (clOf env.cells names cs)
 | [],cs,_=>rfl
 | (n,k)::r,cs,h=>by
  rw[List.forIn_cons]
  by_cases hk:k=.free
  ·subst hk
   obtain⟨c,hc⟩:=h (n,.free) List.mem_cons_self rfl
   have e1:cellOf env n=pure c:=by unfold cellOf;rw[hc]
   have e2:clOf env.cells ((n,NameKind.free)::r) cs=clOf env.cells r ((n,c)::cs):=by
    show clOf env.cells r (if NameKind.free=NameKind.free then (n,(env.cells.lookup n).getD 0)::cs else cs)=_
    rw[if_pos rfl,hc]
    rfl
   rw[e2,← closure_go r ((n,c)::cs) fun y hy=>h y (List.mem_cons_of_mem _ hy)]
   simp only [beq_self_eq_true,if_true,e1,pure_bind]
  ·have e2:clOf env.cells ((n,k)::r) cs=clOf env.cells r cs:=by
    show clOf env.cells r (if k=NameKind.free then _ else cs)=_
    rw[if_neg hk]
   have hb:(k == NameKind.free)=false:=by simpa using hk
   rw[e2,← closure_go r cs fun y hy=>h y (List.mem_cons_of_mem _ hy)]
   simp only [hb,Bool.false_eq_true,if_false,pure_bind]
theorem closure_is {scope:Scope} {env:Env} (h:∀ y ∈ scope.names,y.2=.free->∃ c,env.cells.lookup y.1=some c):closureFor scope env=pure (clOf env.cells scope.names []):=by
 have q:=closure_go (env:=env) scope.names [] h
 unfold closureFor
 refine Eq.trans ?_ q
 first | rfl | simp
theorem look_relabel_free {env:Env}:∀ {names:List (Str × NameKind)} {x:Str},names.lookup x=some .free ->
  (names.map fun (n,k)=>if (k == NameKind.free && env.scope.kind == .function && env.kindOf n == some .cell) then (n,NameKind.cell) else (n,k)).lookup x=some .cell ∨
  (names.map fun (n,k)=>if (k == NameKind.free && env.scope.kind == .function && env.kindOf n == some .cell) then (n,NameKind.cell) else (n,k)).lookup x=some .free
 | [],_,h=>by simp at h
 | (n,k)::r,x,h=>by
  have ih:=@look_relabel_free env r x
  rw[List.map_cons]
  by_cases hx:(x == n)=true
  ·rw[List.lookup_cons,hx] at h
   have h':k=.free:=by simpa using h
   subst h'
   dsimp only
   split
   ·left;rw[List.lookup_cons,hx]
   ·right;rw[List.lookup_cons,hx]
  ·have hx':(x == n)=false:=by simpa using hx
   rw[List.lookup_cons,hx'] at h
   dsimp only
   split
   ·rw[List.lookup_cons,hx'];exact ih h
   ·rw[List.lookup_cons,hx'];exact ih h
theorem of_relabel {env:Env}:∀ {names:List (Str × NameKind)} {x:Str},(∀ y ∈ names,y.2≠.cell) ->
  ((names.map fun (n,k)=>if (k == NameKind.free && env.scope.kind == .function && env.kindOf n == some .cell) then (n,NameKind.cell) else (n,k)).lookup x=some .cell ∨
  (names.map fun (n,k)=>if (k == NameKind.free && env.scope.kind == .function && env.kindOf n == some .cell) then (n,NameKind.cell) else (n,k)).lookup x=some .free)->(x,NameKind.free) ∈ names
 | [],_,_,h=>by simp at h
 | (n,k)::r,x,hc,h=>by
  rw[List.map_cons] at h
  by_cases hx:(x == n)=true
  ·have e:x=n:=by simpa using hx
   subst e
   dsimp only at h
   by_cases hk:(k == NameKind.free && env.scope.kind == .function && env.kindOf x == some .cell)=true
   ·rw[if_pos hk] at h
    have:k=.free:=by
     simp only [Bool.and_eq_true] at hk
     simpa using hk.1.1
    subst this
    exact List.mem_cons_self
   ·rw[if_neg hk,List.lookup_cons,hx] at h
    rcases h with h | h
    ·exact absurd (by simpa using h) (hc (x,k) List.mem_cons_self)
    ·have:k=.free:=by simpa using h
     subst this
     exact List.mem_cons_self
  ·have hx':(x == n)=false:=by simpa using hx
   refine List.mem_cons_of_mem _ (of_relabel (env:=env) (fun y hy=>hc y (List.mem_cons_of_mem _ hy)) ?_)
   dsimp only at h
   split at h
   ·rw[List.lookup_cons,hx'] at h;exact h
   ·rw[List.lookup_cons,hx'] at h;exact h
/-- what is looked at of the two scopes: closed, for decide -/
def compOk (N:List Str) (sc0 scope:Scope) (fr:List Str) (js:List Nat):Bool :=
 decide (scope.kind=.function) && (scope.names.all fun y=>decide (y.2≠.cell) && (decide (y.2≠.free) || decide (sc0.names.lookup y.1=some .cell) || decide (sc0.names.lookup y.1=some .free)) &&
  (decide (y.2≠.local) || decide (scope.names.lookup y.1=some .local))) && decide (fr.length=js.length) &&
 ((fr.zip js).all fun p=>decide (N[p.2]?=some p.1) && decide (scope.names.lookup p.1=some .free) && (decide (sc0.names.lookup p.1=some .cell) || decide (sc0.names.lookup p.1=some .free)))
/-- the context of the block -/
def cxComp (X:Cx) (own fr:List Str) (scope:Scope) (fp:List Addr) (pins:List (Addr × Obj)) (s3:Shared) (H3:Hp):Cx :=
 { X with N:=own++fr,s₀:=s3,H₀:=H3,env:=compEnvC scope (clOf X.env.cells scope.names []) s3.heap.objs.size X.env,outer:=X.stack,stack:=X.stack,ex:=fp,fn:=fun _=>false,pn:=X.pn++pins,xe:=Fls }
/-- the tests of a clause -/
def PTs (X:Cx) (ifs:List Expr) (t:TT):Prop :=
 ∀ (pins:List (Addr × Obj)) (s:Shared) (σ:L2.St) (H:Hp) (Q:Bool->Hp->Prop),Inv X pins σ H s->t σ H Q->wpAny (model X.prog X.w) X.A (testsOf ifs X.env) (TP X pins σ Q) X.xe s
def tTrue:TT:=fun _ H Q=>Q true H
theorem pts_nil {X:Cx}:PTs X [] tTrue:=fun _ _ _ H _ I h=>wpAny_tests_nil ⟨H,I,h⟩
theorem pts_one {X:Cx} {c:Expr} {t:TT} (h:PT X c t):PTs X [c] t:=fun pins s σ H Q I q=>wpAny_tests_one (h pins s σ H Q I q)
def start3 (own:List Str) (js:List Nat) (σ:L2.St):L2.St:=List.replicate own.length none++js.map fun j=>(σ[j]?).join
/-- the reading: W is the word, by the turn, a measure, what is laid by so far, the names, the heap; D the new list -/
def CompGo (own:List Str) (js:List Nat) (g:TG) (tt:TT) (te:TE) (σ:L2.St) (Q:VK) (J:It) (H1:Hp):Prop:=∀ D,H1 D=none->∃ W:Nat->Nat->List V->L2.St->Hp->Prop,
 (∃ m,W 0 m [] (start3 own js σ) (upd H1 D (.lst [])))∧∀ i m ys σ' H',W i m ys σ' H'->H' D=some (.lst ys) ->
  (J.stop i H'∧Q (.ref D) H')∨(J.go i H'∧∀ x H2,J.yld i H' x H2->g x σ' H2 fun σ3 H3=>tt σ3 H3 fun b H4 =>
   if b=true then te σ3 H4 fun v H5=>H5 D=some (.lst ys)∧ys.length < sizeLine∧∃ m',m' < m∧W (i + 1) m' (ys++[v]) σ3 (upd H5 D (.lst (ys++[v])))
   else H4 D=some (.lst ys)∧∃ m',m' < m∧W (i + 1) m' ys σ3 H4)
def tComp (own:List Str) (js:List Nat) (wi:TI) (g:TG) (tt:TT) (te:TE):TE:=fun σ H Q=>wi σ H fun J H1=>CompGo own js g tt te σ Q J H1
section
variable {X:Cx} {elt tg iter:Expr} {ifs:List Expr} {scope sc0:Scope} {pos:Pos} {own fr N:List Str} {js:List Nat} {wi:TI} {g:TG} {tt:TT} {te:TE}
theorem join_some {σ:L2.St} {js:List Nat} {k:Nat} {v:V} (e:(js.map fun j=>(σ[j]?).join)[k]?=some (some v)):∃ j,js[k]?=some j∧σ[j]?=some (some v):=by
 rw[List.getElem?_map] at e
 cases hj:js[k]? with
 | none=>rw[hj] at e;cases e
 | some j =>
  rw[hj] at e
  refine⟨j,rfl,?_⟩
  have e':(σ[j]?).join=some v:=by simpa using e
  cases hs:σ[j]? with
  | none=>rw[hs] at e';cases e'
  | some o=>rw[hs] at e';exact congrArg some e'
theorem inv_comp {pins:List (Addr × Obj)} {σ:L2.St} {H3:Hp} {s3:Shared} {fp:List Addr} {h4:Heap} {t4:Nat} {m4:Str->Option Value}
  (hN:X.N=N) (hsc:X.env.scope=sc0) (hok:compOk N sc0 scope fr js=true) (I:Inv X pins σ H3 s3) (hf:∀ b ∈ fp,FpOk X pins H3 b) (hlt:∀ b ∈ fp,b < s3.heap.objs.size)
  (k:∀ b o,s3.heap.get? b=some o->h4.get? b=some o) (hns:h4.Ns s3.heap.objs.size m4):Inv (cxComp X own fr scope fp pins s3 H3) [] (start3 own js σ) H3 { s3 with heap:=h4,toks:=t4 }:=by
 subst hN hsc
 unfold compOk at hok
 simp only [Bool.and_eq_true,decide_eq_true_eq,List.all_eq_true] at hok
 obtain⟨⟨⟨hk,hall⟩,hlen⟩,hfr⟩:=hok
 have hfree:∀ y ∈ scope.names,y.2=.free->∃ c,X.env.cells.lookup y.1=some c:=fun y hy e=>by
  have q:=(hall y hy).1.2
  simp only [Bool.or_eq_true,decide_eq_true_eq] at q
  rcases q with (q | q) | q
  ·exact absurd e q
  ·exact I.ok.has y.1 (.inl q)
  ·exact I.ok.has y.1 (.inr q)
 have hcl:∀ x c,(clOf X.env.cells scope.names []).lookup x=some c->X.env.cells.lookup x=some c:=fun x c e=>by
  rcases clOf_mem (PySem.mem_of_lookup e) with z | ⟨z1,z2⟩
  ·exact absurd z (by simp)
  ·obtain⟨c',hc'⟩:=hfree _ z1 rfl
   have hc'':X.env.cells.lookup x=some c':=hc'
   have z2':c=(X.env.cells.lookup x).getD 0:=z2
   rw[hc''] at z2' ⊢
   simp at z2'
   rw[z2']
 have hasC:∀ x,(x,NameKind.free) ∈ scope.names->∃ c,(clOf X.env.cells scope.names []).lookup x=some c:=fun x hx=>by
  obtain⟨c,hc⟩:=clOf_has (cells:=X.env.cells) (cs:=[]) (.inl hx)
  cases q:(clOf X.env.cells scope.names []).lookup x with
  | some c'=>exact⟨c',rfl⟩
  | none =>
   have:∀ (l:List (Str × Addr)),(x,c) ∈ l->l.lookup x≠none:=fun l=>by
    induction l with
    | nil=>intro z;cases z
    | cons p r ih =>
     intro z
     obtain⟨p1,p2⟩:=p
     rw[List.lookup_cons]
     rcases List.mem_cons.mp z with z | z
     ·cases z
      simp
     ·split
      ·simp
      ·exact ih z
   exact absurd q (this _ hc)
 have hcell:∀ y ∈ scope.names,y.2≠.cell:=fun y hy=>(hall y hy).1.1
 have sz:X.base.objs.size≤s3.heap.objs.size:=Nat.le_trans I.ok.bsz I.sz
 refine⟨⟨I.ok.mod,hk,I.ok.glob,I.ok.blt,Nat.le_refl _,fun x y c e1 e2=>I.ok.inj x y c (hcl x c e1) (hcl y c e2),fun x hx=>hasC x (of_relabel hcell hx),fun x c z=>absurd z (by simp [cxComp]),
  I.ok.hd,I.ok.frames,.inl rfl,fun b hb=>⟨Nat.ne_of_lt (hlt b hb),fun x c e=>(hf b hb).2.2.2.2.1 x c (hcl x c e)⟩,I.bs,sz,fun b o e hb=>?_,fun b hb z=>?_,I.stack,I.stkFree⟩,
  rfl,I.bare,Un.kept k,⟨m4,hns,fun i x v e1 e2 e3=>?_⟩,fun x c e=>?_,I.hok.fresh (Nat.le_refl _),fun x c e=>I.freeC x c (hcl x c e),fun p hp=>?_,I.hok.kept k,?_⟩
 ·obtain⟨_,_,_,f3,_⟩:=hf b hb
  rcases f3 with f3 | f3
  ·exact I.ok.noex b o e f3
  ·exact absurd (Nat.lt_of_lt_of_le (Heap.lt_size e) (Nat.le_trans I.ok.bsz f3)) (Nat.lt_irrefl _)
 ·obtain⟨_,f1,f2,_⟩:=hf b hb
  rcases List.mem_cons.mp (I.stkSub b z) with z | z
  ·exact f1 z
  ·exact f2 z
 ·have e2':(List.replicate own.length (none:Option V)++js.map fun j=>(σ[j]?).join)[i]?=some (some v):=e2
  have e1':(own++fr)[i]?=some x:=e1
  by_cases hi:i < own.length
  ·rw[List.getElem?_append_left (by simpa using hi),List.getElem?_replicate,if_pos hi] at e2'
   cases e2'
  ·rw[List.getElem?_append_right (by simpa using hi),List.length_replicate] at e2'
   rw[List.getElem?_append_right (by omega)] at e1'
   obtain⟨j,hj,hv⟩:=join_some e2'
   have hz:(fr.zip js)[i - own.length]?=some (x,j):=by
    rw[List.getElem?_zip_eq_some]
    exact⟨e1',hj⟩
   have q:=hfr _ (List.mem_of_getElem? hz)
   obtain⟨⟨q1,q2⟩,q3⟩:=q
   have q3'':X.env.scope.names.lookup x=some .cell∨X.env.scope.names.lookup x=some .free:=by simpa using q3
   have q3':X.env.kindOf x=some .cell∨X.env.kindOf x=some .free:=q3''
   obtain⟨m,hn,hl⟩:=I.loc
   obtain⟨u,r,l⟩:=hl j x v q1 hv (q3'.elim (fun z=>.inr (.inl z)) fun z=>.inr (.inr z))
   refine⟨u,r,.inr ⟨look_relabel_free q2,?_⟩⟩
   rcases l with ⟨z,_⟩ | ⟨_,c,hc,hcellv⟩
   ·rcases q3' with w | w <;> (rw[z] at w;cases w)
   ·obtain⟨c',hc'⟩:=hasC x (PySem.mem_of_lookup q2)
    have e:=hcl x c' hc'
    rw[hc] at e
    cases e
    obtain⟨o,ho,hd⟩:=hcellv
    exact⟨c,hc',o,k c o ho,hd⟩
 ·obtain⟨v,o,ho,hd⟩:=I.cell x c (hcl x c e)
  exact⟨v,o,k c o ho,hd⟩
 ·have hp':p ∈ X.pn++pins:=by
   have:p ∈ (X.pn++pins)++([]:List (Addr × Obj)):=hp
   simpa using this
  obtain⟨a,b,c,d,f⟩:=I.pin p hp'
  refine⟨k _ _ a,b,Nat.ne_of_lt (Heap.lt_size a),fun z=>?_,f⟩
  rcases List.mem_cons.mp (I.stkSub p.1 z) with z | z
  ·exact c z
  ·exact d z
 ·show (List.replicate own.length (none:Option V)++js.map fun j=>(σ[j]?).join).length=(own++fr).length
  simp [hlen]
theorem comp_core {pins:List (Addr × Obj)} {s:Shared} {σ:L2.St} {H:Hp} {Q:VK} {use:Option (Value->Sem Unit)} {Qo:Value->Shared->Prop} {cpos:Pos}
  (hc:X.calm=true) (hi:PI X tg iter wi) (hg:∀ fp pins s3 H3,PG (cxComp X own fr scope fp pins s3 H3) tg g) (ht:∀ fp pins s3 H3,PTs (cxComp X own fr scope fp pins s3 H3) ifs tt)
  (he:∀ fp pins s3 H3,PE (cxComp X own fr scope fp pins s3 H3) elt te) (hok:compOk N sc0 scope fr js=true) (hN:X.N=N) (hsc:X.env.scope=sc0)
  (hs:∀ x,foldedSetIterable iter X.env x=pure x) (I:Inv X pins σ H s) (h:tComp own js wi g tt te σ H Q)
  (fin:∀ (C D:Addr) (s6:Shared) (H6:Hp) (m6:Str->Option Value),Inv X pins σ H6 s6->FpOk X pins H6 C->s6.heap.Ns C m6->Q (.ref D) H6->compPost (model X.prog X.w) X.A X.xe use Qo (.ref D) C (.ok .next) s6) :
  wpAny (model X.prog X.w) X.A (comprehension (.ListComp elt [⟨tg,iter,ifs,0⟩] scope pos) scope X.env cpos (newList []) false (eval iter X.env) use) Qo X.xe s:=by
 have hok':=hok
 unfold compOk at hok'
 simp only [Bool.and_eq_true,decide_eq_true_eq,List.all_eq_true] at hok'
 obtain⟨⟨⟨hk,hall⟩,hlen⟩,hfr⟩:=hok'
 have hcell:∀ y ∈ scope.names,y.2≠.cell:=fun y hy=>(hall y hy).1.1
 have hloc:∀ y ∈ scope.names,y.2=.local->scope.names.lookup y.1=some .local:=fun y hy e=>by
  have q:=(hall y hy).2
  simp only [Bool.or_eq_true,decide_eq_true_eq] at q
  rcases q with q | q
  ·exact absurd e q
  ·exact q
 have hfree:∀ y ∈ scope.names,y.2=.free->∃ c,X.env.cells.lookup y.1=some c:=fun y hy e=>by
  have q:=(hall y hy).1.2
  simp only [Bool.or_eq_true,decide_eq_true_eq] at q
  rw[← hsc] at q
  rcases q with (q | q) | q
  ·exact absurd e q
  ·exact I.ok.has y.1 (.inl q)
  ·exact I.ok.has y.1 (.inr q)
 refine wpAny_comprehension_free (use:=use) rfl hs (closure_is hfree) hk hloc (thn (hi pins s σ H _ I h) fun v s1 h1=>thn h1 fun itv s2 h2=>?_)
 obtain⟨it,fp,tn,J,H2,e,I2,T,st2,f2,rd⟩:=h2
 subst e
 have hD2:H2 s2.heap.objs.size=none:=I2.fresh
 obtain⟨W,⟨m0,w0⟩,turn⟩:=rd s2.heap.objs.size hD2
  -- the new list
 refine wpAny_newList ?_ (Nat.zero_le _)
 have I3:Inv X pins σ (upd H2 s2.heap.objs.size (.lst [])) { s2 with heap:=s2.heap.push { cls:=.type "list",data:=.seq ([]:List Value).toArray } }:=I2.lnew (t':=s2.toks) .nil (Nat.zero_le _)
 generalize hs3:({ s2 with heap:=s2.heap.push { cls:=.type "list",data:=.seq ([]:List Value).toArray } }:Shared)=s3 at I3
 generalize hD:s2.heap.objs.size=D at *
 have fpl:∀ b ∈ fp,b < D:=fun b hb=>by
  obtain⟨o,ho,_⟩:=T.obj _ _ st2 b hb
  rw[← hD];exact Heap.lt_size ho
 have k23:∀ b o,s2.heap.get? b=some o->s3.heap.get? b=some o:=fun b o e=>by rw[← hs3];exact Heap.get?_push_of_some _ e
 have hD3:s3.heap.objs.size=D + 1:=by rw[← hs3,← hD];exact Heap.size_push ..
 have f3:∀ b ∈ fp,FpOk X pins (upd H2 D (.lst [])) b:=fun b hb=>by
  obtain⟨f0,f⟩:=f2 b hb
  exact⟨by rw[upd_ne (Nat.ne_of_lt (fpl b hb))];exact f0,f⟩
 refine wpAny_newFunctionEnv hcell (by intro y hy;simp at hy) (fun h4 hns4 hsb4=>?_) hk
 have k34:∀ b o,s3.heap.get? b=some o->h4.get? b=some o:=fun b o e=>hsb4.extBut b o (Nat.ne_of_lt (Heap.lt_size e)) (Heap.get?_push_of_some _ e)
 have I4:=inv_comp (own:=own) (t4:=s3.toks + ([]:List (Str × Value)).length) hN hsc hok I3 f3 (fun b hb=>Nat.lt_of_lt_of_le (fpl b hb) (by rw[hD3];exact Nat.le_succ _)) k34 hns4
 have tn4:tn 0 h4:=T.keep 0 s2.heap h4 st2 fun b hb o e=>k34 b o (k23 b o e)
 have I4o:=I4.ok
 have fpS:∀ {H'':Hp},(∀ b ∈ fp,H'' b=none)->∀ b ∈ fp,FpOk (cxComp X own fr scope fp pins s3 (upd H2 D (.lst []))) [] H'' b:=fun hn b hb =>
  ⟨hn b hb,(I4o.exf b hb).1,I4o.exfs b hb,.inl hb,(I4o.exf b hb).2,fun p hp=>(f2 b hb).2.2.2.2.2 p (by
   have:p ∈ (X.pn++pins)++([]:List (Addr × Obj)):=hp
   simpa using this)⟩
 have loop : codeAny (model X.prog X.w) X.A (.compLoop (.ListComp elt [⟨tg, iter, ifs, 0⟩] scope pos) 0 (.ref it) (.ref D) (compEnvC scope (clOf X.env.cells scope.names []) s3.heap.objs.size X.env))
     (compPost (model X.prog X.w) X.A X.xe use Qo (.ref D) s3.heap.objs.size) { s3 with heap:=h4,toks:=s3.toks + ([]:List (Str × Value)).length }:=by
  refine comp_turns (fun n s'=>∃ i ys σ' H',Inv (cxComp X own fr scope fp pins s3 (upd H2 D (.lst []))) [] σ' H' s'∧tn i s'.heap∧(∀ b ∈ fp,H' b=none)∧H' D=some (.lst ys)∧W i n ys σ' H')
   ?step m0 ⟨0,[],_,_,I4,tn4,fun b hb=>(f3 b hb).1,upd_same,w0⟩
  rintro n s5 ⟨i,ys,σ5,H5,I5,tn5,fr5,d5,w5⟩
  rcases turn i n ys σ5 H5 w5 d5 with ⟨stop,q⟩ | ⟨go,stp⟩
  ·refine thn (T.done (cxComp X own fr scope fp pins s3 (upd H2 D (.lst []))) rfl rfl rfl hc i [] s5 σ5 H5 Fls I5 (fpS fr5) tn5 stop) fun r s6 ⟨hr,I6⟩=>.inl ⟨hr,?_⟩
   obtain⟨m6,hn6,_⟩:=id I6.loc
   have u1:Un (frs X.stack) fp H2 H5 s2.heap s6.heap:=(Un.laid k23 (Nat.le_of_eq hD) hD2).trans I6.base
   have fC:H5 s3.heap.objs.size=none:=I6.free
   have IX:Inv X pins σ H5 s6:=I2.call' (s':=s6) (ch:=fp) (by
    have:=I6.os
    rw[← hs3] at this
    exact this) u1 I6.hok I6.bare fun b hb=>by
     obtain⟨_,g1,_,g3,g4,g5⟩:=f2 b hb
     exact⟨g3,g1,g4,g5⟩
   exact fin s3.heap.objs.size D s6 H5 m6 IX (I2.fpOk (by rw[hD3,hD];exact Nat.le_succ _) fC) hn6 q
  ·refine thn (T.item (cxComp X own fr scope fp pins s3 (upd H2 D (.lst []))) rfl rfl rfl hc i [] s5 σ5 H5 Fls I5 (fpS fr5) tn5 go) fun r s6 ⟨u,hr,h6⟩=>.inr ⟨u,hr,thn h6 fun _ s7 ⟨x,H7,I7,r7,y7,tn7,fr7⟩=>?_⟩
   have I7':=I7.pinned (fpS fr7) (T.obj _ _ tn7)
   refine thn (hg fp pins s3 (upd H2 D (.lst [])) _ s7 σ5 H7 x u _ I7' r7 (stp x H7 y7)) fun _ s8 ⟨σ8,H8,I8,q8⟩=>?_
   refine thn (ht fp pins s3 (upd H2 D (.lst [])) _ s8 σ8 H8 _ I8 q8) fun ok s9 ⟨H9,I9,q9⟩=>?_
   have back:∀ {σ':L2.St} {H':Hp} {s':Shared},Inv (cxComp X own fr scope fp pins s3 (upd H2 D (.lst []))) ([]++pinsAt fp s7.heap) σ' H' s'->tn (i + 1) s'.heap∧∀ b ∈ fp,H' b=none:=fun {σ' H' s'} J=>by
    refine⟨T.keep _ _ _ tn7 fun b hb o e=>(J.pin (b,o) (List.mem_append_right _ (List.mem_append_right _ (mem_pinsAt hb e)))).1,fun b hb=>?_⟩
    obtain⟨o,e,_⟩:=T.obj _ _ tn7 b hb
    exact (J.pin (b,o) (List.mem_append_right _ (List.mem_append_right _ (mem_pinsAt hb e)))).2.1
   cases ok with
   | false =>
    rw[if_neg Bool.false_ne_true] at q9
    obtain⟨d9,m',hm,w9⟩:=q9
    rw[if_neg Bool.false_ne_true]
    exact⟨m',hm,i + 1,ys,σ8,H9,I9.unpinned,(back I9).1,(back I9).2,d9,w9⟩
   | true =>
    rw[if_pos rfl] at q9 ⊢
    refine thn (he fp pins s3 (upd H2 D (.lst [])) _ s9 σ8 H9 _ I9 q9) fun xv s10 ⟨v,H10,I10,r10,d10,len,m',hm,w10⟩=>?_
    refine thn (mt_append (X:=cxComp X own fr scope fp pins s3 (upd H2 D (.lst []))) _ s10 σ8 H10 (.ref D) [v] (.ref D) [xv] (fun _ H'=>H'=upd H10 D (.lst (ys++[v]))) I10 rfl (.cons r10 .nil) ⟨D,ys,v,rfl,rfl,d10,len,rfl⟩) fun _ s11 ⟨_,H11,I11,_,e11⟩=>?_
    subst e11
    exact⟨m',hm,i + 1,ys++[v],σ8,_,I11.unpinned,(back I11).1,(back I11).2,upd_same,w10⟩
 exact codeAny_compStart_list loop (T.self X.A 0 _ _ _ tn4 loop)
theorem pe_comp (hc:X.calm=true) (hi:PI X tg iter wi) (hg:∀ fp pins s3 H3,PG (cxComp X own fr scope fp pins s3 H3) tg g) (ht:∀ fp pins s3 H3,PTs (cxComp X own fr scope fp pins s3 H3) ifs tt)
  (he:∀ fp pins s3 H3,PE (cxComp X own fr scope fp pins s3 H3) elt te) (hok:compOk N sc0 scope fr js=true:=by decide +kernel) (hN:X.N=N:=by rfl) (hsc:X.env.scope=sc0:=by rfl)
  (hs:∀ x,foldedSetIterable iter X.env x=pure x:=by intro _;rfl):PE X (.ListComp elt [⟨tg,iter,ifs,0⟩] scope pos) (tComp own js wi g tt te):=by
 intro pins s σ H Q I h
 rw[eval_ListComp]
 refine comp_core hc hi hg ht he hok hN hsc hs I h fun C D s6 H6 m6 I6 f6 n6 q6=>⟨m6,n6,fun h7 sb=>⟨.ref D,H6,?_,rfl,q6⟩⟩
 obtain⟨f0,f1,_,f3,f4,f5⟩:=f6
 exact I6.turned (it:=C) (t':=s6.toks) (fun b o hb e=>sb.extBut b o hb e) f0 f1 f3 f4 f5
end
end L3
namespace L3
open PySem PySem.Spec PyProof.Rows L2
section
variable {X:Cx} {pins:List (Addr × Obj)} {σ:L2.St} {H H':Hp} {s:Shared} {h':Heap} {ch:List Addr} {t':Nat}
/-- several own records have turned, the abstract heap has grown -/
theorem turnsTo (I:Inv X pins σ H s) (hf:∀ b ∈ ch,FpOk X pins H b) (k:∀ b o,b ∉ ch->s.heap.get? b=some o->h'.get? b=some o) (hH:∀ b u,H b=some u->H' b=some u)
  (hfree:∀ b o,s.heap.get? b=some o->H b=none->H' b=none) (hok:HOk X.prog X.w H' h'):Inv X pins σ H' { s with heap:=h',toks:=t' }:=by
 refine I.step (g':=s.gens) (d':=s.drawn) (ch:=ch) (fun b hb=>?_) (fun b o _ _ hc e _=>k b o hc e) (fun b o _ _ hc e _=>⟨o.slots,k b o hc e⟩) (fun b o _ e n=>hfree b o e n) (fun b o hc e=>⟨o,k b o hc e⟩)
  (fun b xs e=>hH _ _ e) (fun b o u e=>hH _ _ e) (fun b ps e=>⟨#[],by rw[hH _ _ e];simp⟩) (fun m hm=>?_) hok I.bare
 ·obtain⟨_,f1,_,f3,f4,f5⟩:=hf b hb
  exact⟨f3,f1,f4,f5⟩
 ·obtain⟨o,es,ep,ho,r⟩:=hm
  exact⟨o,es,ep,k _ o (fun z=>(hf _ z).2.1 rfl) ho,r⟩
theorem turns (I:Inv X pins σ H s) (hf:∀ b ∈ ch,FpOk X pins H b) (k:∀ b o,b ∉ ch->s.heap.get? b=some o->h'.get? b=some o):Inv X pins σ H { s with heap:=h',toks:=t' }:=by
 refine turnsTo I hf k (fun _ _ e=>e) (fun _ _ _ n=>n) fun b u e=>?_
 refine (I.hok b u e).stay (fun c v hc q=>k c v (fun z=>?_) q) (fun _ q=>q) fun _ _ q=>q
 have n:=(hf c z).1
 rcases hc with rfl | hc
 ·rw[n] at e;cases e
 ·rw[n] at hc;cases hc
end
def SqX (t:Bool) (K:PySem.W.Frag) (H:Hp) (a:Addr) (xs:List V):Prop:=if t=true then SqT K H a xs else SqL K H a xs
section
variable {X:Cx} {pins:List (Addr × Obj)} {σ:L2.St} {H:Hp} {s:Shared} {a:Addr} {xs ys:List V} {t:Bool}
end
section
variable {X:Cx} {pos:Pos}
def gLst (K:PySem.W.Frag) (n:Nat) (t:TGs):TG:=fun v σ H Q=>∃ a xs,v=.ref a∧SqL K H a xs∧xs.length=n∧t xs σ H Q
theorem pg_lst {es:List Expr} {k:Nat} {t:TGs} {n:Nat} (hc:X.calm=true) (h:PGs X es t) (hn:(assignEach es X.env).length=n:=by rfl) (hst:(assignEach es X.env).findIdx? (·.1)=none:=by rfl):PG X (.Tuple es k pos) (gLst X.K n t):=by
 intro pins s σ H v u Q I r hw
 obtain⟨a,xs,e1,hq,hl,hw⟩:=hw
 subst e1
 cases r
 obtain⟨its,rv,ht,hz⟩:=I.list hq
 refine U3.assign_tuple_lst (I.ok.hd hc) ht.isList (by simp [hn,← hl,rv.length]) hst fun h' hx=>?_
 have I1:Inv X pins σ H { s with heap:=h' }:=I.kept (t':=s.toks) fun b o e=>hx b o (Nat.ne_of_lt (Heap.lt_size e)) e
 exact h pins _ σ H xs _ Q I1 (by simpa using rv) hw
theorem call_isi {n:String}:CallR X (.builtin "isinstance") (fun xs H Q=>∃ x t b,xs=[x,.ty n]∧TyOf X.K H x t∧PySem.W.kitOne X.K t (.type n)=some b∧Q (.bl b) H):=by
 intro pins s σ H xs us Q I r h
 obtain⟨x,t,b,rfl,ty,e,q⟩:=h
 obtain⟨u,c,rfl,ru,rc⟩:=r.two
 cases rc
 exact isinst_ok I ru ty e fun tk=>⟨.bl b,H,I.tok tk,rfl,q⟩
variable {a b c d:Expr} {ta tb tc td:TE}
end
end L3
namespace L3
open PySem PySem.Spec PyProof.Rows L2
mutual
def Is (K:PySem.W.Frag) (H:Hp):PyData->V->Prop
 | .none,v=>v=.non
 | .bool b,v=>v=.bl b
 | .int i,v=>v=.int i
 | .str x,v=>v=.str x
 | .tuple ds,v=>∃ p vs,v=.ref p∧H p=some (.tup vs)∧IsAll K H ds vs
 | .list ds,v=>∃ p vs,v=.ref p∧H p=some (.lst vs)∧IsAll K H ds vs
 | .dict kvs,v=>kvs=[]∧∃ p,v=.ref p∧H p=some (.dK [])
def IsAll (K:PySem.W.Frag) (H:Hp):List PyData->List V->Prop
 | [],vs=>vs=[]
 | d::ds,vs=>∃ v r,vs=v::r∧Is K H d v∧IsAll K H ds r
end
section
variable {K:PySem.W.Frag} {H H':Hp}
mutual
theorem Is.same (e:Same H H'):∀ (d:PyData) {v:V},Is K H d v->Is K H' d v
 | .none,_,h=>h
 | .bool _,_,h=>h
 | .int _,_,h=>h
 | .str _,_,h=>h
 | .tuple ds,_,h=>let ⟨p,vs,q1,q2,q3⟩:=h;⟨p,vs,q1,e _ _ q2,IsAll.same e ds q3⟩
 | .list ds,_,h=>let ⟨p,vs,q1,q2,q3⟩:=h;⟨p,vs,q1,e _ _ q2,IsAll.same e ds q3⟩
 | .dict kvs,_,h=>let ⟨q0,p,q1,q2⟩:=h;⟨q0,p,q1,e _ _ q2⟩
theorem IsAll.same (e:Same H H'):∀ (ds:List PyData) {vs:List V},IsAll K H ds vs->IsAll K H' ds vs
 | [],_,h=>h
 | d::ds,_,h=>let ⟨v,r,q1,q2,q3⟩:=h;⟨v,r,q1,Is.same e d q2,IsAll.same e ds q3⟩
end
theorem IsAll.length:∀ {ds:List PyData} {vs:List V},IsAll K H ds vs->vs.length=ds.length
 | [],_,h=>by rw[show _=[] from h];rfl
 | d::ds,_,⟨v,r,q1,q2,q3⟩=>by rw[q1,List.length_cons,List.length_cons,IsAll.length q3]
theorem IsAll.get:∀ {ds:List PyData} {vs:List V} {i:Nat} {d:PyData},IsAll K H ds vs->ds[i]?=some d->∃ v,vs[i]?=some v∧Is K H d v
 | [],_,_,_,_,e=>by simp at e
 | d::ds,_,0,d',⟨v,r,q1,q2,q3⟩,e=>by
  have e':d=d':=by simpa using e
  subst e';subst q1;exact⟨v,rfl,q2⟩
 | d::ds,_,i + 1,_,⟨v,r,q1,q2,q3⟩,e=>by
  subst q1
  obtain⟨u,h1,h2⟩:=IsAll.get (i:=i) q3 (by simpa using e)
  exact⟨u,by simpa using h1,h2⟩
theorem IsAll.get':∀ {ds:List PyData} {vs:List V} {i:Nat} {v:V},IsAll K H ds vs->vs[i]?=some v->∃ d,ds[i]?=some d∧Is K H d v
 | [],_,i,v,h,e=>by rw[show _=[] from h] at e;simp at e
 | d::ds,_,0,v,⟨u,r,q1,q2,q3⟩,e=>by
  subst q1
  have e':u=v:=by simpa using e
  subst e';exact⟨d,rfl,q2⟩
 | d::ds,_,i + 1,v,⟨u,r,q1,q2,q3⟩,e=>by
  subst q1
  obtain⟨d',h1,h2⟩:=IsAll.get' (i:=i) q3 (by simpa using e)
  exact⟨d',by simpa using h1,h2⟩
theorem IsAll.of:∀ {ds:List PyData} {vs:List V},vs.length=ds.length->(∀ (i:Nat) (d:PyData) (v:V),ds[i]?=some d->vs[i]?=some v->Is K H d v)->IsAll K H ds vs
 | [],[],_,_=>rfl
 | [],_::_,h,_=>by simp at h
 | _::_,[],h,_=>by simp at h
 | d::ds,v::vs,h,q=>⟨v,vs,rfl,q 0 d v rfl rfl,IsAll.of (by simpa using h) fun i d' v' h1 h2=>q (i + 1) d' v' (by simpa using h1) (by simpa using h2)⟩
theorem IsAll.append:∀ {ds es:List PyData} {vs us:List V},IsAll K H ds vs->IsAll K H es us->IsAll K H (ds++es) (vs++us)
 | [],_,_,_,h,q=>by rw[show _=[] from h];exact q
 | d::ds,_,_,_,⟨v,r,q1,q2,q3⟩,q=>⟨v,r++_,by rw[q1];rfl,q2,IsAll.append q3 q⟩
theorem IsAll.ints (ns:List Int):IsAll K H (ns.map .int) (ns.map V.int):=by
 refine IsAll.of (by simp) fun i d v h1 h2=>?_
 rw[List.getElem?_map] at h1 h2
 cases e:ns[i]? with
 | none=>rw[e] at h1;cases h1
 | some n=>rw[e] at h1 h2;cases h1;cases h2;exact rfl
theorem IsAll.of_ints:∀ {ns:List Int} {vs:List V},IsAll K H (ns.map .int) vs->vs=ns.map V.int
 | [],_,h=>h
 | n::ns,_,⟨v,r,q1,q2,q3⟩=>by
  have e:v=.int n:=q2
  rw[q1,e,IsAll.of_ints q3];rfl
end
section
variable {X:Cx} {pins:List (Addr × Obj)} {σ:L2.St} {H:Hp} {s:Shared}
mutual
theorem reads_of (I:Inv X pins σ H s):∀ (d:PyData) {v:V} {u:Value},Is X.K H d v->RelV v u->∃ as,Reads s.heap u d as
 | .none,_,_,h,r=>by
  have e:_=V.non:=h
  subst e;cases r;exact⟨_,.none⟩
 | .bool b,_,_,h,r=>by
  have e:_=V.bl b:=h
  subst e;cases r;exact⟨_,.bool b⟩
 | .int i,_,_,h,r=>by
  have e:_=V.int i:=h
  subst e;obtain⟨t,rfl⟩:=r;exact⟨_,.int i t⟩
 | .str x,_,_,h,r=>by
  have e:_=V.str x:=h
  subst e;obtain⟨t,rfl⟩:=r;exact⟨_,.str x t⟩
 | .tuple ds,_,_,h,r=>by
  obtain⟨p,vs,rfl,q2,q3⟩:=(show ∃ p vs,_=V.ref p∧H p=some (.tup vs)∧IsAll X.K H ds vs from h)
  cases r
  obtain⟨its,rv,⟨o,e1,e2,n,e3⟩,_⟩:=I.tuple (SqT.of q2)
  obtain⟨as,ra⟩:=readsAll_of I ds q3 rv
  exact⟨_,.tuple e1 e2 e3 (by simpa using ra)⟩
 | .list ds,_,_,h,r=>by
  obtain⟨p,vs,rfl,q2,q3⟩:=(show ∃ p vs,_=V.ref p∧H p=some (.lst vs)∧IsAll X.K H ds vs from h)
  cases r
  obtain⟨its,rv,⟨o,n,e1,e2,_,e3⟩,_⟩:=I.list (SqL.of q2)
  obtain⟨as,ra⟩:=readsAll_of I ds q3 rv
  exact⟨_,.list e1 e2 e3 (by simpa using ra)⟩
 | .dict kvs,_,_,h,r=>by
  obtain⟨e0,p,rfl,q2⟩:=(show kvs=[]∧∃ p,_=V.ref p∧H p=some (.dK []) from h)
  subst e0
  cases r
  obtain⟨_,_,vs,kv,o,es,ep,g1,g2,g3,_,g4,_⟩:=(show ObjOk X.prog X.w H s.heap p (.dK []) from I.hok p _ q2)
  cases kv
  have e1:es.toList=[]:=by cases h:es.toList with
   | nil=>rfl
   | cons x r=>rw[h] at g4;cases g4
  exact⟨_,.dict g1 g2.1 g3 (by rw[e1];exact .nil) (by rw[e1];exact .nil)⟩
theorem readsAll_of (I:Inv X pins σ H s):∀ (ds:List PyData) {vs:List V} {us:List Value},IsAll X.K H ds vs->Vals vs us->∃ as,ReadsAll s.heap us ds as
 | [],_,_,h,r=>by
  have e:_=[]:=h
  subst e;cases r;exact⟨_,.nil⟩
 | d::ds,_,_,h,r=>by
  obtain⟨v,vr,rfl,q2,q3⟩:=(show ∃ v r,_=v::r∧Is X.K H d v∧IsAll X.K H ds r from h)
  cases r with
  | cons r1 r2 =>
   obtain⟨as,a1⟩:=reads_of I d q2 r1
   obtain⟨bs,a2⟩:=readsAll_of I ds q3 r2
   exact⟨_,.cons a1 a2⟩
end
theorem op_neD:OpR X (compareOp .NotEq) (fun x y H Q=>∃ da db,Is X.K H da x∧Is X.K H db y∧da.canLay0=true∧db.canLay0=true∧X.A.units + min da.depth db.depth < cLine∧Q (.bl (!PyData.eqv da db)) H):=by
 intro pins s σ H x y v u Q I rx ry h
 obtain⟨da,db,h1,h2,c1,c2,hu,q⟩:=h
 obtain⟨as,ra⟩:=reads_of I da h1 rx
 obtain⟨bs,rb⟩:=reads_of I db h2 ry
 exact SeqAt.compareNe_reads ra rb c1 c2 hu (fin_bl I q rfl)
theorem getD_rel {ys:List V} {its:List Value} (r:Vals ys its) {i:Nat} (hi:i < ys.length):RelV (ys.getD i .non) (its.getD i .none):=by
 have hl:=r.length
 obtain⟨u,hu,ru⟩:=r.get (i:=i) (x:=ys[i]) (List.getElem?_eq_getElem hi)
 have e1:ys.getD i .non=ys[i]:=by simp [List.getD,hi]
 have e2:its.getD i .none=u:=by simp [List.getD,hu]
 rw[e1,e2];exact ru
theorem vals_out {ys:List V} {its:List Value} (r:Vals ys its):∀ (l:List Nat),(∀ i ∈ l,i < ys.length)->Vals (l.map fun i=>ys.getD i .non) (l.map fun i=>its.getD i Value.none)
 | [],_=>.nil
 | i::l,h=>.cons (getD_rel r (h i List.mem_cons_self)) (vals_out r l fun j hj=>h j (List.mem_cons_of_mem _ hj))
theorem gd_mem {n:Nat} {p:Array Nat} (g:Srt.Gd n p):∀ i ∈ p.toList,i < n:=fun i hi=>by
 have:=g.mem_iff.mp (Array.mem_toList_iff.mp hi)
 simpa using this
theorem gd_perm {α:Type} {n:Nat} {p:Array Nat} (g:Srt.Gd n p) (f:Nat->α):(p.toList.map f).Perm ((List.range n).map f):=by
 have h:=Array.perm_iff_toList_perm.mp g
 exact (by simpa using h:p.toList.Perm (List.range n)).map f
theorem up_pair {n:Nat} {p:Array Nat} {r:Nat->Int} {R:Nat->Nat->Prop} (g:Srt.Gd n p) (u:Srt.Up r p n) (h:∀ i j,i < n->j < n->r i≤r j->R i j):p.toList.Pairwise R:=by
 rw[List.pairwise_iff_getElem]
 intro i j hi hj hij
 have sz:=g.sz
 have hi':i < p.size:=by simpa using hi
 have hj':j < p.size:=by simpa using hj
 have q:=u i j (Nat.le_of_lt hij) (by omega)
 have e:∀ k (hk:k < p.size),p.getD k 0=p[k]:=fun k hk=>by simp [Array.getD,hk]
 unfold Srt.ky at q
 rw[e i hi',e j hj'] at q
 have m:∀ k (hk:k < p.size),p[k] < n:=fun k hk=>gd_mem g _ (by simp)
 have:=h p[i] p[j] (m i hi') (m j hj') q
 simpa using this
theorem range_getD {α:Type} (l:List α) (d:α):(List.range l.length).map (fun i=>l.getD i d)=l:=by
 refine List.ext_getElem (by simp) fun i h1 h2=>?_
 simp [List.getD,h2]
theorem call_sortedI:CallR X (.builtin "sorted") (fun xs H Q=>∃ p ns,xs=[.ref p]∧SqL X.K H p (ns.map V.int)∧ns.length < 64∧∀ ms:List Int,ms.Perm ns->ms.Pairwise (·≤·)->∀ l,H l=none->Q (.ref l) (upd H l (.lst (ms.map V.int)))):=by
 intro pins s σ H xs us Q I r h
 obtain⟨p,ns,rfl,hq,h64,q⟩:=h
 obtain⟨u,rfl,rx⟩:=vals1 r
 cases rx
 obtain⟨its,rv,pl,hz⟩:=I.list hq
 have hl:=rv.length
 rw[List.length_map] at hl
 have hI:IntsAre its ns:=intsAre_of rv
 have line:(64:Nat)≤sizeLine:=by rw[sizeLine_eq];decide
 refine Srt.sorted_by (r:=fun i=>ns.getD i 0) (κ:=oneType') pl.isList (by omega) (fun h2 A' s' Q' _ q'=>Srt.int_kind hI h2 q') (fun A' s' i j C _ hi hj q'=>Srt.int_ask hI hi hj q') fun pp h' c g u kp e=>?_
 have g':Srt.Gd ns.length pp:=by rw[hl];exact g
 have u':Srt.Up (fun i=>ns.getD i 0) pp ns.length:=by rw[hl];exact u
 have pm:(pp.toList.map fun i=>ns.getD i 0).Perm ns:=by
  have:=gd_perm g' fun i=>ns.getD i 0
  rw[range_getD] at this
  exact this
 have pw:(pp.toList.map fun i=>ns.getD i 0).Pairwise (·≤·):=by
  rw[List.pairwise_map]
  exact up_pair g' u' fun i j _ _ z=>z
 have fr:H (s.heap.objs.size + 1)=none:=I.hok.fresh (Nat.le_succ _)
 have ev:((pp.toList.map fun i=>ns.getD i 0).map V.int)=pp.toList.map fun i=>(ns.map V.int).getD i .non:=by
  rw[List.map_map]
  refine List.map_congr_left fun i hi=>?_
  have:=gd_mem g' i hi
  simp [List.getD,this]
 refine⟨.ref (s.heap.objs.size + 1),_,I.laid (a:=s.heap.objs.size + 1) (o:=.lst ((pp.toList.map fun i=>ns.getD i 0).map V.int)) (t':=s.toks) kp (Nat.le_succ _) ⟨?_,Srt.outOf its pp,c,?_,e⟩,rfl,q _ pm pw _ fr⟩
 ·have:=pm.length_eq
  rw[List.length_map,this];omega
 ·rw[ev]
  exact vals_out rv pp.toList fun i hi=>by rw[List.length_map];exact gd_mem g' i hi
theorem call_sortedT:CallR X (.builtin "sorted") (fun xs H Q=>∃ p ys ks,xs=[.ref p]∧SqL X.K H p ys∧ys.length < 64∧Paired (fun (y:V) (k:List Int)=>∃ a,y=.ref a∧SqT X.K H a (k.map V.int)) ys ks∧(∀ k ∈ ks,k≠[]) ∧
  ∀ qs:List (V × List Int),qs.Perm (ys.zip ks)->qs.Pairwise (fun a b=>Srt.lexI b.2 a.2=false)->∀ l,H l=none->Q (.ref l) (upd H l (.lst (qs.map (·.1))))):=by
 intro pins s σ H xs us Q I r h
 obtain⟨p,ys,ks,rfl,hq,h64,hp,hne,q⟩:=h
 obtain⟨u,rfl,rx⟩:=vals1 r
 cases rx
 obtain⟨its,rv,pl,hz⟩:=I.list hq
 have hl:=rv.length
 have hlk:ys.length=ks.length:=Paired.length hp
 have line:(64:Nat)≤sizeLine:=by rw[sizeLine_eq];decide
 have hT:∀ {ys:List V} {ks:List (List Int)} {its:List Value},Paired (fun (y:V) (k:List Int)=>∃ a,y=.ref a∧SqT X.K H a (k.map V.int)) ys ks->Vals ys its->Paired (Srt.TupI s.heap) its ks:=by
  intro ys ks its hp
  induction hp generalizing its with
  | nil=>intro rv;cases rv;exact .nil
  | cons r t ih =>
   intro rv
   cases rv with
   | cons r1 r2 =>
    refine .cons ?_ (ih r2)
    obtain⟨a,rfl,qa⟩:=r
    cases r1
    obtain⟨its',rv',⟨o,e1,e2,n,e3⟩,_⟩:=I.tuple qa
    exact⟨a,o,its'.toArray,n,rfl,e1,e2,e3,by simpa using intsAre_of rv'⟩
 have tp:=hT hp rv
 have mono:∀ {h':Heap},(∀ b o,s.heap.get? b=some o->h'.get? b=some o)->Paired (Srt.TupI h') its ks:=fun k=>Paired.mapP tp fun v k' z=>z.to k
 refine Srt.sorted_by (r:=Srt.rank its.length fun i j=>Srt.lexI (ks.getD i []) (ks.getD j [])) (κ:=tuples' true) pl.isList (by omega) (fun h2 A' s' Q' k q'=>Srt.tup_kind (mono k) hne h2 q')
  (fun A' s' i j C k hi hj q'=>Srt.tup_ask (mono k) hi hj (by rw[Srt.rank_lt (lt:=fun i j=>Srt.lexI (ks.getD i []) (ks.getD j [])) (fun i=>Srt.lexI_irr _) (fun _ _ _ _ _ _=>Srt.lexI_trans _ _ _) (fun _ _ _ _ _ _=>Srt.lexI_neg _ _ _) hi hj] at q';exact q')) fun pp h' c g u kp e=>?_
 have fr:H (s.heap.objs.size + 1)=none:=I.hok.fresh (Nat.le_succ _)
 have pm:(pp.toList.map fun i=>(ys.getD i .non,ks.getD i [])).Perm (ys.zip ks):=by
  have h1:=gd_perm g fun i=>(ys.getD i V.non,ks.getD i [])
  have e1:(List.range its.length).map (fun i=>(ys.getD i V.non,ks.getD i []))=ys.zip ks:=by
   refine List.ext_getElem (by simp;omega) fun i h1 h2=>?_
   have hi:i < its.length:=by simpa using h1
   have a1:i < ys.length:=by omega
   have a2:i < ks.length:=by omega
   simp [List.getD,a1,a2]
  rw[e1] at h1
  exact h1
 have pw:(pp.toList.map fun i=>(ys.getD i V.non,ks.getD i [])).Pairwise (fun a b=>Srt.lexI b.2 a.2=false):=by
  rw[List.pairwise_map]
  refine up_pair g u fun i j hi hj z=>?_
  have w:=Srt.rank_lt (n:=its.length) (lt:=fun i j=>Srt.lexI (ks.getD i []) (ks.getD j [])) (fun i=>Srt.lexI_irr _) (fun _ _ _ _ _ _=>Srt.lexI_trans _ _ _) (fun _ _ _ _ _ _=>Srt.lexI_neg _ _ _) hj hi
  rw[decide_eq_false (by omega)] at w
  exact w.symm
 have ev:(pp.toList.map fun i=>(ys.getD i V.non,ks.getD i [])).map (·.1)=pp.toList.map fun i=>ys.getD i V.non:=by
  rw[List.map_map];rfl
 refine⟨.ref (s.heap.objs.size + 1),_,I.laid (a:=s.heap.objs.size + 1) (o:=.lst ((pp.toList.map fun i=>(ys.getD i V.non,ks.getD i [])).map (·.1))) (t':=s.toks) kp (Nat.le_succ _) ⟨?_,Srt.outOf its pp,c,?_,e⟩,rfl,q _ pm pw _ fr⟩
 ·have:=pm.length_eq
  rw[List.length_map,this,List.length_zip];omega
 ·rw[ev]
  exact vals_out rv pp.toList fun i hi=>by have:=gd_mem g i hi;omega
end
end L3
namespace L3
open PySem PySem.Spec PyProof.Rows L2
def Ok (P:Program) (w:World) (K:PySem.W.Frag) (mg:Str->Option Value) (base:Heap) (k:Nat) (x:Str) (ps:List Str) (sp:Sp):Prop :=
 ∃ (f:Addr) (fd:FuncData),FnOk P w K mg base CX0 k f fd ps sp∧Binds K fd ps []∧PySem.W.keepIn K (.ref f)=true∧mg x=some (.ref f)
def DefOk (K:PySem.W.Frag) (mg:Str->Option Value) (x:Str) (st:Stmt) (ps:List Str):Prop :=
 ∃ (f:Addr) (fd:FuncData),Fun K x x st f fd∧Binds K fd ps []∧mg x=some (.ref f)
section
variable {P:Program} {w:World} {K:PySem.W.Frag} {mg:Str->Option Value} {base:Heap} {x:Str} {ps N:List Str} {sp sp':Sp} {k:Nat} {st:Stmt}
theorem Ok.mono {j:Nat} (O:Ok P w K mg base j x ps sp) (h:j≤k):Ok P w K mg base k x ps sp:=let ⟨f,fd,F,r⟩:=O;⟨f,fd,F.mono h,r⟩
theorem Ok.imp (O:Ok P w K mg base k x ps sp) (h:∀ vs H Q E,sp' vs H Q E->sp vs H Q E):Ok P w K mg base k x ps sp':=let ⟨f,fd,F,r⟩:=O;⟨f,fd,F.imp h,r⟩
theorem mk_ok (D:DefOk K mg x st ps) (S:FnScope N ps (defScope st)) (len:∀ vs H Q E,sp vs H Q E->vs.length=ps.length)
  (hbody:∀ (f:Addr) (cdv:Value) (A:Around) (outer:List Env) (s:Shared) (H:Hp) (vs:List V) (Q:VK) (E:XK),Room k (A.deeper (envOfC x (defScope st) s.heap.objs.size f cdv))->sp vs H Q E ->
   ∃ t,PSs (cxOf CX0 P w K mg base N x (defScope st) f cdv A outer s H E).nox (defBody st) t∧t { nx:=fun _ H'=>Q .non H',rt:=Q } (start N vs) H):Ok P w K mg base (k + 1) x ps sp:=by
 obtain⟨f,fd,F,b,m⟩:=D
 exact⟨f,fd,F.ok S len (fun cdv A outer s H vs Q E hr h=>hbody f cdv A outer s H vs Q E hr h),b,F.kp,m⟩
theorem pe_callD {X:Cx} {p pos:Pos} {e:Expr} {es:List Expr} {t:TA} (O:Ok X.prog X.w X.K X.mg X.base k x ps sp) (hr:Room k X.A) (hg:Gl X x) (ha:PA X (e::es) t)
  (hdb:(x == ("__debug__":Str))=false:=by decide) (he:starEach (e::es) X.env=(false,eval e X.env)::starEach es X.env:=by rfl) (hpl:(backTo pos (starEach es X.env)).any (·.1)=false:=by rfl) :
  PE X (.Call (.Name x p) (e::es) [] pos) (tCall sp [] E0 t):=by
 obtain⟨f,fd,F,b,kp,m⟩:=O
 exact pe_call F hr hg m kp b .nil pass0 ha hdb he hpl
end
/-- the built-ins' names are not taken -/
structure Bi (mg:Str->Option Value):Prop where
 z_len:mg "len"=none
 z_range:mg "range"=none
 z_zip:mg "zip"=none
 z_all:mg "all"=none
 z_sorted:mg "sorted"=none
 z_isinstance:mg "isinstance"=none
 z_min:mg "min"=none
 z_max:mg "max"=none
 z_tuple:mg "tuple"=none
 z_list:mg "list"=none
 z_int:mg "int"=none
 z_bool:mg "bool"=none
 z_str:mg "str"=none
 z_enumerate:mg "enumerate"=none
 z_sum:mg "sum"=none
 z_abs:mg "abs"=none
 z_set:mg "set"=none
 z_reversed:mg "reversed"=none
 z_any:mg "any"=none
 z_repr:mg "repr"=none
 z_dict:mg "dict"=none
def But (p:Addr) (H H':Hp):Prop:=∀ b o,b≠p->H b=some o->H' b=some o
section
variable {K:PySem.W.Frag} {H H1 H2:Hp} {p a:Addr} {o:HO} {xs ys:List V}
theorem But.refl:But p H H:=fun _ _ _ h=>h
theorem But.trans (a:But p H H1) (b:But p H1 H2):But p H H2:=fun c o n h=>b c o n (a c o n h)
theorem But.upd:But p H (upd H p o):=fun b u n h=>by rw[upd_ne n];exact h
theorem Same.but (h:Same H H1):But p H H1:=fun b o _ q=>h b o q
theorem But.new (h:H a=none):But p H (L2.upd H a o):=fun b u _ q=>by rw[upd_ne (ne_of_none q h)];exact q
theorem same_new (h:H a=none):Same H (upd H a o):=fun b u q=>by rw[upd_ne (ne_of_none q h)];exact q
theorem But.free (h:But p H H1) (q:H1 a=none) (hp:H p=some o) (hp1:H1 p=some (.lst xs)):H a=none:=by
 cases e:H a with
 | none=>rfl
 | some u =>
  by_cases z:a=p
  ·subst z;rw[hp1] at q;cases q
  ·rw[h a u z e] at q;cases q
theorem But.tup (h:But p H H1) (hp:H p=some (.lst xs)) (q:SqT K H a ys):SqT K H1 a ys:=by
 rcases q with (q | ⟨o,q⟩) | q
 ·exact .inl (.inl (h _ _ (fun z=>by subst z;rw[hp] at q;cases q) q))
 ·exact .inl (.inr ⟨o,h _ _ (fun z=>by subst z;rw[hp] at q;cases q) q⟩)
 ·exact .inr q
end
mutual
def tupD:PyData->Bool
 | .none | .bool _ | .int _ | .str _=>true
 | .tuple ds=>tupAll ds
 | .list _ | .dict _=>false
def tupAll:List PyData->Bool
 | []=>true
 | d::ds=>tupD d && tupAll ds
end
mutual
theorem Is.but {K:PySem.W.Frag} {H H':Hp} {p:Addr} {xs:List V} (e:But p H H') (hp:H p=some (.lst xs)):∀ (d:PyData) {v:V},tupD d=true->Is K H d v->Is K H' d v
 | .none,_,_,h=>h
 | .bool _,_,_,h=>h
 | .int _,_,_,h=>h
 | .str _,_,_,h=>h
 | .tuple ds,_,t,h=>let ⟨q,vs,q1,q2,q3⟩:=h;⟨q,vs,q1,e _ _ (fun z=>by subst z;rw[hp] at q2;cases q2) q2,IsAll.but e hp ds t q3⟩
 | .list ds,_,t,h=>by cases t
 | .dict _,_,t,h=>by cases t
theorem IsAll.but {K:PySem.W.Frag} {H H':Hp} {p:Addr} {xs:List V} (e:But p H H') (hp:H p=some (.lst xs)):∀ (ds:List PyData) {vs:List V},tupAll ds=true->IsAll K H ds vs->IsAll K H' ds vs
 | [],_,_,h=>h
 | d::ds,_,t,h=>by
  have t':(tupD d && tupAll ds)=true:=t
  rw[Bool.and_eq_true] at t'
  obtain⟨v,r,q1,q2,q3⟩:=h
  exact⟨v,r,q1,Is.but e hp d t'.1 q2,IsAll.but e hp ds t'.2 q3⟩
end
/-- a pot: its two numbers -/
def Pot (H:Hp) (p:Addr):Prop:=∃ a b:Int,H p=some (.lst [.int a,.int b])∧0≤a∧0≤b∧b < 2147483647
theorem Pot.lst {H:Hp} {p:Addr} (h:Pot H p):∃ xs,H p=some (.lst xs):=let ⟨a,b,e,_⟩:=h;⟨_,e⟩
def spPot (K:PySem.W.Frag):Sp:=fun vs H Q _=>∃ a k,∃ ns:List Int,vs=[.ref a,.int k]∧SqL K H a (ns.map V.int)∧0≤k∧k≤100∧∀ l H',Same H H'->H l=none->Pot H' l->Q (.ref l) H'
def spTake:Sp:=fun vs H Q _=>∃ p m,vs=[.ref p,.int m]∧Pot H p∧0 < m∧m < 1073741824∧∀ r H',0≤r->r < m->But p H H'->Pot H' p->Q (.int r) H'
def spLength:Sp:=fun vs H Q _=>∃ p y,vs=[.ref p,.int y]∧Pot H p∧0≤y∧y < 5∧∀ r H',1≤r->r≤10 ^ 18->But p H H'->Pot H' p->Q (.int r) H'
def spTied:Sp:=fun vs H Q _=>∃ p n y a b,vs=[.ref p,.int n,.int y,.int a,.int b]∧Pot H p∧∀ k H',But p H H'->Pot H' p->Q (.bl k) H'
def spOrder:Sp:=fun vs H Q _=>∃ p m,vs=[.ref p,.int m]∧Pot H p∧0≤m∧m≤1000∧∀ l H' (ms:List Int),But p H H'->Pot H' p->H l=none->l≠p->H' l=some (.lst (ms.map V.int))->ms.Perm ((List.range m.toNat).map fun i:Nat=>(i:Int))->Q (.ref l) H'
abbrev Tie:=Int × Int × Int
def tieI (t:Tie):List Int:=[t.1,t.2.1,t.2.2]
def tieD (t:Tie):PyData:=.tuple ((tieI t).map .int)
def webD (n:Int) (ties:List Tie):PyData:=.tuple [.int n,.tuple (ties.map tieD)]
/-- less by its ends -/
def endLt (s t:Tie):Prop:=s.1 < t.1∨(s.1=t.1∧s.2.1 < t.2.1)
structure WebOk (n:Int) (ties:List Tie):Prop where
 n1:1≤n
 n24:n≤24
 rise:ties.Pairwise endLt
 few:ties.length≤60
 tie:∀ t ∈ ties,0≤t.1∧t.1 < t.2.1∧t.2.1 < n∧1≤t.2.2∧t.2.2≤10 ^ 18
def spWeb (K:PySem.W.Frag):Sp:=fun vs H Q _=>∃ p m,vs=[.ref p,.int m]∧Pot H p∧1≤m∧m≤24∧∀ v H' n ties,But p H H'->Pot H' p->WebOk n ties->n≤m->Is K H' (webD n ties) v->Q v H'
end L3
namespace L3
structure Grown (n:Nat) (ms:List Int) (b a:Nat) (ties:List Tie):Prop where
 few:ties.length≤60
 ok:∀ t ∈ ties,0≤t.1∧t.1 < t.2.1∧t.2.1 < (n:Int)∧1≤t.2.2∧t.2.2≤10 ^ 18
 of:∀ t ∈ ties,∃ a' b':Nat,a' < b'∧b' < n∧(b' < b∨(b'=b∧a' < a))∧((t.1=ms.getD a' 0∧t.2.1=ms.getD b' 0)∨(t.1=ms.getD b' 0∧t.2.1=ms.getD a' 0))
 nd:ties.Pairwise fun s t=>¬ (s.1=t.1∧s.2.1=t.2.1)
theorem Grown.start {n:Nat} {ms:List Int}:Grown n ms 0 0 []:=⟨Nat.zero_le _,(fun t h=>by cases h),(fun t h=>by cases h),List.Pairwise.nil⟩
theorem Grown.down {n:Nat} {ms:List Int} {b:Nat} {ties:List Tie} (g:Grown n ms b b ties):Grown n ms (b + 1) 0 ties :=
 ⟨g.few,g.ok,fun t h=>by
  obtain⟨a',b',h1,h2,h3,h4⟩:=g.of t h
  exact⟨a',b',h1,h2,.inl (by omega),h4⟩,g.nd⟩
theorem Grown.skip {n:Nat} {ms:List Int} {b a:Nat} {ties:List Tie} (g:Grown n ms b a ties):Grown n ms b (a + 1) ties :=
 ⟨g.few,g.ok,fun t h=>by
  obtain⟨a',b',h1,h2,h3,h4⟩:=g.of t h
  exact⟨a',b',h1,h2,by omega,h4⟩,g.nd⟩
structure Perm0 (n:Nat) (ms:List Int):Prop where
 len:ms.length=n
 lo:∀ i,i < n->0≤ms.getD i 0∧ms.getD i 0 < (n:Int)
 inj:∀ i j,i < n->j < n->ms.getD i 0=ms.getD j 0->i=j
theorem Perm0.of {n:Nat} {ms:List Int} (h:ms.Perm ((List.range n).map fun i:Nat=>(i:Int))):Perm0 n ms:=by
 have hl:ms.length=n:=by simpa using h.length_eq
 have nd:ms.Nodup:=(h.nodup_iff).mpr (by
  rw[List.Nodup,List.pairwise_map]
  exact (List.nodup_range (n:=n)).imp fun h z=>h (by omega))
 refine⟨hl,fun i hi=>?_,fun i j hi hj e=>?_⟩
 ·have e:ms.getD i 0=ms[i]:=by simp [List.getD,show i < ms.length by omega]
  have m:ms[i]'(by omega) ∈ (List.range n).map fun i:Nat=>(i:Int):=h.mem_iff.mp (List.getElem_mem _)
  rw[e]
  obtain⟨k,hk,ek⟩:=List.mem_map.mp m
  have:=List.mem_range.mp hk
  omega
 ·have e1:ms.getD i 0=ms[i]:=by simp [List.getD,show i < ms.length by omega]
  have e2:ms.getD j 0=ms[j]:=by simp [List.getD,show j < ms.length by omega]
  rw[e1,e2] at e
  exact (List.getElem_inj nd).mp e
theorem Grown.add {n:Nat} {ms:List Int} {b a:Nat} {ties:List Tie} {x y l:Int} (g:Grown n ms b a ties) (pm:Perm0 n ms) (ha:a < b) (hb:b < n) (hf:ties.length < 60) (hl:1≤l) (hl2:l≤10 ^ 18)
  (hxy:(x=ms.getD a 0∧y=ms.getD b 0)∨(x=ms.getD b 0∧y=ms.getD a 0)) (hle:x≤y):Grown n ms b (a + 1) (ties++[(x,y,l)]):=by
 have han:=Nat.lt_trans ha hb
 have la:=pm.lo a han
 have lb:=pm.lo b hb
 have ne:ms.getD a 0≠ms.getD b 0:=fun e=>Nat.ne_of_lt ha (pm.inj a b han hb e)
 refine⟨by rw[List.length_append,List.length_singleton];exact hf,fun t ht=>?_,fun t ht=>?_,?_⟩
 ·rcases List.mem_append.mp ht with h | h
  ·exact g.ok t h
  ·have e:t=(x,y,l):=List.mem_singleton.mp h
   subst e
   refine⟨?_,?_,?_,hl,hl2⟩
   ·show 0≤x
    rcases hxy with ⟨q1,q2⟩ | ⟨q1,q2⟩
    ·rw[q1];exact la.1
    ·rw[q1];exact lb.1
   ·show x < y
    refine Int.lt_iff_le_and_ne.mpr ⟨hle,fun z=>?_⟩
    rcases hxy with ⟨q1,q2⟩ | ⟨q1,q2⟩
    ·exact ne (q1.symm.trans (z.trans q2))
    ·exact ne (q2.symm.trans (z.symm.trans q1))
   ·show y < (n:Int)
    rcases hxy with ⟨q1,q2⟩ | ⟨q1,q2⟩
    ·rw[q2];exact lb.2
    ·rw[q2];exact la.2
 ·rcases List.mem_append.mp ht with h | h
  ·obtain⟨a',b',h1,h2,h3,h4⟩:=g.of t h
   exact⟨a',b',h1,h2,h3.imp id fun z=>⟨z.1,Nat.lt_succ_of_lt z.2⟩,h4⟩
  ·have e:t=(x,y,l):=List.mem_singleton.mp h
   subst e
   exact⟨a,b,ha,hb,.inr ⟨rfl,Nat.lt_succ_self _⟩,hxy⟩
 ·rw[List.pairwise_append]
  refine⟨g.nd,List.pairwise_singleton _ _,fun t ht u hu=>?_⟩
  have e:u=(x,y,l):=List.mem_singleton.mp hu
  subst e
  rintro ⟨e1,e2⟩
  obtain⟨a',b',h1,h2,h3,h4⟩:=g.of t ht
  have e1':t.1=x:=e1
  have e2':t.2.1=y:=e2
  have h1n:=Nat.lt_trans h1 h2
  have fin:a'=a->b'=b->False:=fun ea eb=>h3.elim (fun z=>Nat.ne_of_lt z eb) fun z=>Nat.ne_of_lt z.2 ea
  have fin2:a'=b->b'=a->False:=fun ea eb=>Nat.lt_asymm ha (by rw[← ea,← eb];exact h1)
  rcases h4 with ⟨p1,p2⟩ | ⟨p1,p2⟩ <;> rcases hxy with ⟨q1,q2⟩ | ⟨q1,q2⟩
  ·exact fin (pm.inj a' a h1n han (p1.symm.trans (e1'.trans q1))) (pm.inj b' b h2 hb (p2.symm.trans (e2'.trans q2)))
  ·exact fin2 (pm.inj a' b h1n hb (p1.symm.trans (e1'.trans q1))) (pm.inj b' a h2 han (p2.symm.trans (e2'.trans q2)))
  ·exact fin2 (pm.inj a' b h1n hb (p2.symm.trans (e2'.trans q2))) (pm.inj b' a h2 han (p1.symm.trans (e1'.trans q1)))
  ·exact fin (pm.inj a' a h1n han (p2.symm.trans (e2'.trans q2))) (pm.inj b' b h2 hb (p1.symm.trans (e1'.trans q1)))
theorem rise_of {ts:List Tie} (h:ts.Pairwise fun a b=>Srt.lexI (tieI b) (tieI a)=false) (nd:ts.Pairwise fun s t=>¬ (s.1=t.1∧s.2.1=t.2.1)):ts.Pairwise endLt:=by
 refine (h.and nd).imp fun {a b} hab=>?_
 obtain⟨h1,h2⟩:=hab
 obtain⟨a1,a2,a3⟩:=a
 obtain⟨b1,b2,b3⟩:=b
 simp only [tieI,Srt.lexI] at h1
 show a1 < b1∨(a1=b1∧a2 < b2)
 have h2':¬ (a1=b1∧a2=b2):=h2
 by_cases e1:b1=a1
 ·rw[if_pos e1] at h1
  by_cases e2:b2=a2
  ·exact absurd ⟨e1.symm,e2.symm⟩ h2'
  ·rw[if_neg e2] at h1
   have:=of_decide_eq_false h1
   exact .inr ⟨e1.symm,by omega⟩
 ·rw[if_neg e1] at h1
  have:=of_decide_eq_false h1
  exact .inl (by omega)
theorem endLt.ne {s t:Tie} (h:endLt s t):¬ (s.1=t.1∧s.2.1=t.2.1):=fun ⟨a,b⟩=>by
 rcases h with h | ⟨_,h⟩ <;> omega
end L3
namespace L3
open PySem PySem.Spec PyProof.Rows L2
section
variable {X:Cx} {pos:Pos}
theorem op_mulB:OpR X (binaryOp .Mult) (rI (fun i j=>IntMulOk i j) fun i j=>.int (i * j)):=opI fun _ _ _ _ _ _ _ hc q=>mul_int q hc
theorem mulB:IntMulOk ((10:Int) ^ (60:Int).toNat) ((10:Int) ^ (60:Int).toNat):=IntMulOk.of_bits (by decide +kernel) (by decide +kernel)
theorem mulB2:IntMulOk ((10:Int) ^ (60:Int).toNat * (10:Int) ^ (60:Int).toNat) ((10:Int) ^ (60:Int).toNat):=IntMulOk.of_bits (by decide +kernel) (by decide +kernel)
theorem posB:(0:Int) < (10:Int) ^ (60:Int).toNat * (10:Int) ^ (60:Int).toNat * (10:Int) ^ (60:Int).toNat:=by decide +kernel
/-- range(n) as a value -/
theorem call_range:CallR X (.type "range") (fun xs H Q=>∃ j:Int,xs=[.int j]∧∀ p,H p=none->Q (.ref p) (upd H p (.rng 0 j))):=by
 intro pins s σ H xs us Q I r h
 obtain⟨j,rfl,q⟩:=h
 obtain⟨u,rfl,t,rfl⟩:=vals1 r
 refine call_range_1 ⟨.ref s.heap.objs.size,_,I.laid (a:=s.heap.objs.size) (o:=.rng 0 j) (fun b o e=>Heap.get?_push_of_some _ e) (Nat.le_refl _) ⟨_,_,_,Heap.get?_push_size _ rfl⟩,rfl,q _ I.fresh⟩
/-- list(range(n)) -/
theorem call_list_rng (hh:X.calm=true):CallR X (.type "list") (fun xs H Q=>∃ (p:Addr) (j:Int),xs=[.ref p]∧H p=some (.rng 0 j)∧0≤j∧j≤1000∧∀ l,H l=none->Q (.ref l) (upd H l (.lst ((List.range j.toNat).map fun i:Nat=>V.int (i:Int))))):=by
 intro pins s σ H xs us Q I r h
 obtain⟨p,j,rfl,hp,hj0,hj,q⟩:=h
 obtain⟨u,rfl,rx⟩:=vals1 r
 cases rx
 obtain⟨t,u,v,e⟩:=(show ObjOk X.prog X.w H s.heap p (.rng 0 j) from I.hok p _ hp)
 refine call_list_range (n:=j.toNat) (I.ok.hd hh) (show IsRange s.heap p 0 j 1 t u v from e) (small_one (by omega) (by omega) (by omega) (by omega)) (by rw[rangeSize_one];split <;> omega) (by omega) fun h' tk acc c hk hS hacc=>?_
 refine⟨.ref s.heap.objs.size,_,I.laid (a:=s.heap.objs.size) (o:=.lst ((List.range j.toNat).map fun i:Nat=>V.int (i:Int))) (t':=tk) hk (Nat.le_refl _) ⟨?_,acc.toList,c,?_,by simpa using hS⟩,rfl,q _ I.fresh⟩
 ·rw[List.length_map,List.length_range,sizeLine_eq];omega
 ·have go:∀ (n:Nat) (l:List Value),l.length=n->(∀ (k:Nat) (v:Value),l[k]?=some v->∃ t,v=Value.int (0 + (k:Int) * 1) t)->Vals ((List.range n).map fun i:Nat=>V.int (i:Int)) l:=by
   intro n l hl hv
   have gen:∀ (l:List Value) (o:Nat),(∀ (k:Nat) (v:Value),l[k]?=some v->∃ t,v=Value.int ((o + k:Nat):Int) t)->Vals ((List.range' o l.length).map fun i:Nat=>V.int (i:Int)) l:=by
    intro l
    induction l with
    | nil=>intro o _;exact .nil
    | cons x r ih =>
     intro o h
     rw[List.length_cons,List.range'_succ,List.map_cons]
     obtain⟨t,ht⟩:=h 0 x rfl
     refine .cons ⟨t,by simpa using ht⟩ (ih (o + 1) fun k v hk=>?_)
     obtain⟨t,ht⟩:=h (k + 1) v (by simpa using hk)
     exact⟨t,by rw[ht];congr 1;omega⟩
   have:=gen l 0 fun k v hk=>by
    obtain⟨t,ht⟩:=hv k v hk
    exact⟨t,by rw[ht];congr 1;omega⟩
   rw[hl] at this
   rw[List.range_eq_range']
   exact this
  refine go _ _ (by simpa using hacc.1) fun k v hk=>hacc.2 k v (by simpa using hk)
end
theorem erase_perm {α:Type}:∀ (l:List α) (k:Nat) (h:k < l.length),(l[k]::l.eraseIdx k).Perm l
 | [],k,h=>absurd h (Nat.not_lt_zero _)
 | a::l,0,_=>List.Perm.refl _
 | a::l,k + 1,h=>by
  have h':k < l.length:=by simpa using h
  show (l[k]::a::l.eraseIdx k).Perm (a::l)
  exact (List.Perm.swap a l[k] _).trans ((erase_perm l k h').cons a)
theorem map_erase {α β:Type} (f:α->β):∀ (l:List α) (k:Nat),(l.eraseIdx k).map f=(l.map f).eraseIdx k
 | [],_=>rfl
 | _::_,0=>rfl
 | a::l,k + 1=>by
  show f a::(l.eraseIdx k).map f=f a::(l.map f).eraseIdx k
  rw[map_erase f l k]
end L3
namespace L3
open PySem PySem.Spec PyProof.Rows L2
/-- a list's values are tuples of the ties -/
def TieL (H:Hp) (ys:List V) (ts:List Tie):Prop:=Paired (fun (y:V) (t:Tie)=>∃ a,y=.ref a∧H a=some (.tup ((tieI t).map V.int))) ys ts
theorem TieL.keep {H H':Hp} {ys:List V} {ts:List Tie} (h:TieL H ys ts) (k:∀ a xs,H a=some (.tup xs)->H' a=some (.tup xs)):TieL H' ys ts :=
 Paired.mapP h fun y t ⟨a,e1,e2⟩=>⟨a,e1,k _ _ e2⟩
theorem TieL.snoc {H:Hp} {ys:List V} {ts:List Tie} {a:Addr} {t:Tie} (h:TieL H ys ts) (e:H a=some (.tup ((tieI t).map V.int))):TieL H (ys++[.ref a]) (ts++[t]):=Paired.snoc h ⟨a,rfl,e⟩
theorem paired_map {α β γ:Type} {F:β->γ->Prop} (f:α->β) (g:α->γ):∀ {l:List α},(∀ x ∈ l,F (f x) (g x))->Paired F (l.map f) (l.map g)
 | [],_=>.nil
 | x::l,h=>.cons (h x List.mem_cons_self) (paired_map f g fun y hy=>h y (List.mem_cons_of_mem _ hy))
theorem paired_zip {α β γ:Type} {F:α->β->Prop} {f:β->γ}:∀ {l:List α} {r:List β},Paired F l r->∀ q ∈ l.zip (r.map f),∃ b,q.2=f b∧F q.1 b
 | _,_,.nil,q,h=>by cases h
 | _,_,.cons (a:=a) (b:=b) x t,q,h=>by
  rw[List.map_cons,List.zip_cons_cons] at h
  rcases List.mem_cons.mp h with e | h
  ·subst e;exact⟨b,rfl,x⟩
  ·exact paired_zip t q h
theorem paired_keys {F:V->Tie->Prop} {G:V->List Int->Prop} (h:∀ y t,F y t->G y (tieI t)):∀ {ys:List V} {ts:List Tie},Paired F ys ts->Paired G ys (ts.map tieI)
 | _,_,.nil=>.nil
 | _,_,.cons x t=>.cons (h _ _ x) (paired_keys h t)
def tieOf:List Int->Tie
 | [a,b,c]=>(a,b,c)
 | _=>(0,0,0)
theorem tieOf_I (t:Tie):tieOf (tieI t)=t:=rfl
theorem tie_out {H:Hp} {ys:List V} {ts:List Tie} (h:TieL H ys ts) {qs:List (V × List Int)} (p:qs.Perm (ys.zip (ts.map tieI))) (w:qs.Pairwise fun a b=>Srt.lexI b.2 a.2=false) :
  ∃ ts':List Tie,ts'.Perm ts∧TieL H (qs.map (·.1)) ts'∧ts'.Pairwise fun a b=>Srt.lexI (tieI b) (tieI a)=false:=by
 have mem:∀ q ∈ qs,∃ t,q.2=tieI t∧∃ a,q.1=.ref a∧H a=some (.tup ((tieI t).map V.int)):=fun q hq=>paired_zip h q (p.mem_iff.mp hq)
 have back:∀ q ∈ qs,tieI (tieOf q.2)=q.2:=fun q hq=>by
  obtain⟨t,e,_⟩:=mem q hq
  rw[e];rfl
 refine⟨qs.map fun q=>tieOf q.2,?_,paired_map _ _ fun q hq=>?_,?_⟩
 ·have e1:(qs.map fun q=>tieOf q.2).Perm ((ys.zip (ts.map tieI)).map fun q=>tieOf q.2):=p.map _
  have e2:(ys.zip (ts.map tieI)).map (fun q=>tieOf q.2)=ts:=by
   have l:ys.length=(ts.map tieI).length:=by rw[List.length_map];exact Paired.length h
   have:(ys.zip (ts.map tieI)).map (fun q=>tieOf q.2)=((ys.zip (ts.map tieI)).map (·.2)).map tieOf:=by rw[List.map_map];rfl
   rw[this,List.map_snd_zip (Nat.le_of_eq l.symm),List.map_map]
   exact (List.map_congr_left fun t _=>tieOf_I t).trans (List.map_id _)
  rw[e2] at e1
  exact e1
 ·obtain⟨t,e,a,ea,eh⟩:=mem q hq
  refine⟨a,ea,?_⟩
  rw[back q hq,e];exact eh
 ·rw[List.pairwise_map]
  refine w.imp_of_mem fun {a b} ha hb z=>?_
  rw[back a ha,back b hb];exact z
theorem TieL.is {K:PySem.W.Frag} {H:Hp}:∀ {ys:List V} {ts:List Tie},TieL H ys ts->IsAll K H (ts.map tieD) ys
 | _,_,.nil=>rfl
 | _,_,.cons (a:=y) (b:=t) ⟨a,e1,e2⟩ r=>⟨_,_,rfl,⟨a,_,e1,e2,IsAll.ints _⟩,TieL.is r⟩
theorem two_sorted {x y:Int} {ms:List Int} (p:ms.Perm [x,y]) (w:ms.Pairwise (·≤·)):∃ a b,ms=[a,b]∧a≤b∧((a=x∧b=y)∨(a=y∧b=x)):=by
 have hl:=p.length_eq
 match ms,hl,p,w with
 | [a,b],_,p,w =>
  refine⟨a,b,rfl,by simpa using w,?_⟩
  have ha:a ∈ [x,y]:=p.mem_iff.mp (by simp)
  rcases List.mem_cons.mp ha with e | e
  ·subst e
   have:=(List.perm_cons a).mp p
   have e2:b=y:=by simpa using List.perm_singleton.mp this
   exact .inl ⟨rfl,e2⟩
  ·have e':a=y:=by simpa using e
   subst e'
   have p2:[a,b].Perm [a,x]:=p.trans (List.Perm.swap a x [])
   have:=(List.perm_cons a).mp p2
   have e2:b=x:=by simpa using List.perm_singleton.mp this
   exact .inr ⟨rfl,e2⟩
end L3
namespace L3
open PySem PySem.Spec PyProof.Rows L2
def TupKeep (H H':Hp):Prop:=∀ a xs,H a=some (.tup xs)->H' a=some (.tup xs)
section
variable {J:It} {g:TG} {te:TE} {own:List Str} {js:List Nat} {σ:L2.St} {H1:Hp} {Q:VK}
/-- no test, nothing that stands is changed: item i is worth R i -/
theorem comp_map (n:Nat) (Sg:L2.St->Prop) (R:Nat->V->Hp->Prop) (hn:n≤1000) (h0:Sg (start3 own js σ)) (mono:∀ i v H H',TupKeep H H'->R i v H->R i v H')
  (go:∀ i H',i < n->Same H1 H'->J.go i H') (stop:∀ H',Same H1 H'->J.stop n H')
  (step:∀ i x σ' H' H2,i < n->Same H1 H'->J.yld i H' x H2->Sg σ'->∀ C:L2.St->V->Hp->Prop,(∀ σ3 v H5,Sg σ3->Same H' H5->R i v H5->C σ3 v H5)->g x σ' H2 fun σ3 H3=>te σ3 H3 fun v H5=>C σ3 v H5)
  (fin:∀ D ys H',H1 D=none->Same H1 H'->H' D=some (.lst ys)->ys.length=n->(∀ i v,ys[i]?=some v->R i v H')->Q (.ref D) H'):CompGo own js g tTrue te σ Q J H1:=by
 intro D hD
 refine⟨fun i m ys σ' H'=>m=n - i∧i≤n∧Sg σ'∧Same H1 H'∧ys.length=i∧∀ j v,ys[j]?=some v->R j v H',⟨n,rfl,Nat.zero_le _,h0,same_new hD,rfl,fun j v e=>by simp at e⟩,?_⟩
 rintro i m ys σ' H' ⟨rfl,hi,sg,sm,hl,hr⟩ hd
 by_cases hlt:i < n
 ·refine .inr ⟨go i H' hlt sm,fun x H2 hy=>?_⟩
  refine step i x σ' H' H2 hlt sm hy sg (fun σ3 v H5=>H5 D=some (.lst ys)∧ys.length < sizeLine∧∃ m',m' < n - i∧(m'=n - (i + 1)∧i + 1≤n∧Sg σ3∧Same H1 (upd H5 D (.lst (ys++[v])))∧(ys++[v]).length=i + 1∧∀ j u,(ys++[v])[j]?=some u->R j u (upd H5 D (.lst (ys++[v]))))) fun σ3 v H5 sg3 s5 r5=>?_
  have hd5:=s5 _ _ hd
  refine⟨hd5,Nat.lt_of_le_of_lt (by omega:ys.length≤1000) (by decide),n - (i + 1),by omega,rfl,hlt,sg3,fun b o e=>?_,by rw[List.length_append,List.length_singleton,hl],fun j u e=>?_⟩
  ·rw[upd_ne (ne_of_none e hD)];exact s5 _ _ (sm _ _ e)
  ·have tk5:TupKeep H5 (upd H5 D (.lst (ys++[v]))):=fun a xs e=>by rw[upd_ne (fun z=>by rw[z,hd5] at e;cases e)];exact e
   by_cases hj:j < ys.length
   ·rw[List.getElem?_append_left hj] at e
    exact mono _ _ _ _ tk5 (mono _ _ _ _ (fun a xs z=>s5 _ _ z) (hr j u e))
   ·rw[List.getElem?_append_right (by omega)] at e
    have ej:j=ys.length:=by
     have:=(List.getElem?_eq_some_iff.mp e).1
     simp at this;omega
    subst ej
    have eu:v=u:=by simpa using e
    subst eu
    rw[hl]
    exact mono _ _ _ _ tk5 r5
 ·have e:i=n:=by omega
  subst e
  exact .inl ⟨stop H' sm,fin D ys H' hD sm hd hl hr⟩
theorem comp_tup {K:PySem.W.Frag} {a:Addr} {xs:List V} (hx:H1 a=some (.tup xs)) (Sg:L2.St->Prop) (R:Nat->V->Hp->Prop) (hn:xs.length≤1000) (h0:Sg (start3 own js σ)) (mono:∀ i v H H',TupKeep H H'->R i v H->R i v H')
  (step:∀ i x σ' H',xs[i]?=some x->Same H1 H'->Sg σ'->∀ C:L2.St->V->Hp->Prop,(∀ σ3 v H5,Sg σ3->Same H' H5->R i v H5->C σ3 v H5)->g x σ' H' fun σ3 H3=>te σ3 H3 fun v H5=>C σ3 v H5)
  (fin:∀ D ys H',H1 D=none->Same H1 H'->H' D=some (.lst ys)->ys.length=xs.length->(∀ i v,ys[i]?=some v->R i v H')->Q (.ref D) H'):CompGo own js g tTrue te σ Q (Itt K a) H1:=by
 refine comp_map xs.length Sg R hn h0 mono (fun i H' hi s=>⟨xs,xs[i],SqT.of (s _ _ hx),by simp [hi]⟩) (fun H' s=>⟨xs,SqT.of (s _ _ hx),Nat.le_refl _⟩) (fun i x σ' H' H2 hi s hy sg C hC=>?_) fin
 obtain⟨rfl,hy⟩:=hy
 exact step i x σ' _ (hy xs (SqT.of (s _ _ hx))) s sg C hC
theorem SqX.of {t:Bool} {K:PySem.W.Frag} {H:Hp} {a:Addr} {xs:List V} (h:H a=some (if t=true then .tup xs else .lst xs)):SqX t K H a xs:=by
 cases t with
 | true=>exact SqT.of h
 | false=>exact SqL.of h
end
theorem bools_of {f:Nat->Bool} {n:Nat} {ys:List V} (hl:ys.length=n) (h:∀ (i:Nat) (v:V),ys[i]?=some v->v=V.bl (f i)):ys=((List.range n).map f).map V.bl:=by
 refine List.ext_getElem? fun i=>?_
 by_cases hi:i < n
 ·obtain⟨v,hv⟩:∃ v,ys[i]?=some v:=⟨ys[i],List.getElem?_eq_getElem (by omega)⟩
  rw[hv,h i v hv]
  simp [hi]
 ·rw[List.getElem?_eq_none (by omega),List.getElem?_eq_none (by simp;omega)]
def wholeB:PyData->Bool
 | .int _=>true
 | _=>false
def tieB (n:Int):PyData->Bool
 | .tuple [.int a,.int b,.int l]=>decide (0≤a) && decide (a < b) && decide (b < n) && decide (1≤l) && decide (l≤10 ^ 18)
 | _=>false
/-- how many things a tuple or a list has, at most -/
def few:PyData->Prop
 | .tuple ds=>ds.length≤1000
 | .list ds=>ds.length≤1000
 | _=>True
end L3
namespace L3
open PySem PySem.Spec PyProof.Rows L2
section
variable {g:TG} {te:TE} {own:List Str} {js:List Nat} {σ:L2.St} {H1:Hp} {Q:VK}
end
def e2 (e:Int × Int):List Int:=[e.1,e.2]
def risingB (es:List (Int × Int)):Bool:=((List.range (min es.length (es.drop 1).length)).map fun i=>HT.lexLt (e2 (es.getD i (0,0))) (e2 ((es.drop 1).getD i (0,0)))).all id
def TwoL (H:Hp) (ys:List V) (es:List (Int × Int)):Prop:=Paired (fun (y:V) (e:Int × Int)=>∃ a,y=.ref a∧H a=some (.tup [.int e.1,.int e.2])) ys es
theorem TwoL.get {H:Hp}:∀ {ys:List V} {es:List (Int × Int)} {i:Nat} {y:V},TwoL H ys es->ys[i]?=some y->∃ a,y=.ref a∧H a=some (.tup ((e2 (es.getD i (0,0))).map V.int))
 | _,_,_,_,.nil,h=>by simp at h
 | _,_,0,y,.cons (a:=y0) r t,h=>by
  have e:y0=y:=by simpa using h
  subst e
  exact r
 | _,_,i + 1,_,.cons r t,h=>TwoL.get (i:=i) t (by simpa using h)
section
variable {g:TG} {te:TE} {own:List Str} {js:List Nat} {σ:L2.St} {H1:Hp} {Q:VK}
end
theorem TieL.get {H:Hp} {ys:List V} {us:List Tie} {i:Nat} {x:V} (h:TieL H ys us) (e:ys[i]?=some x):∃ a,x=.ref a∧H a=some (.tup ((tieI (us.getD i (0,0,0))).map V.int)):=by
 induction h generalizing i with
 | nil=>simp at e
 | @cons y0 _ _ _ r t ih =>
  cases i with
  | zero =>
   have e':y0=x:=by simpa using e
   rw[← e'];exact r
  | succ i=>exact ih (i:=i) (by simpa using e)
section
variable {X:Cx} {own fr:List Str} {scope:Scope} {fp:List Addr} {pins:List (Addr × Obj)} {s3:Shared} {H3:Hp} {pos:Pos}
theorem ix_tupC:IxR (cxComp X own fr scope fp pins s3 H3) (rIxT X.K):=ix_tup (X:=cxComp X own fr scope fp pins s3 H3)
end
end L3
namespace L3
open PySem PySem.Spec PyProof.Rows L2
def KeepOk (m:Nat) (ks:List Nat):Prop:=ks.Pairwise (· < ·)∧∀ k ∈ ks,k < m
def keepI (ks:List Nat):List Int:=ks.map fun k:Nat=>(k:Int)
def keepD (ks:List Nat):PyData:=.tuple ((keepI ks).map .int)
theorem KeepOk.len {m:Nat} {ks:List Nat} (h:KeepOk m ks):ks.length≤m:=by
 have go:∀ (ks:List Nat) (lo m:Nat),ks.Pairwise (· < ·)->(∀ k ∈ ks,lo≤k∧k < m)->ks.length + lo≤max m lo:=by
  intro ks
  induction ks with
  | nil=>intro lo m _ _;simp;omega
  | cons k r ih =>
   intro lo m hp hb
   have h1:=hb k List.mem_cons_self
   have:=ih (k + 1) m (List.pairwise_cons.mp hp).2 fun j hj=>⟨(List.pairwise_cons.mp hp).1 j hj,(hb j (List.mem_cons_of_mem _ hj)).2⟩
   rw[List.length_cons]
   omega
 have:=go ks 0 m h.1 fun k hk=>⟨Nat.zero_le _,h.2 k hk⟩
 omega
def spKeep (K:PySem.W.Frag):Sp:=fun vs H Q _=>∃ (p:Addr) (n:Int) (ts:List Tie) (v:V),vs=[.ref p,v]∧Pot H p∧Is K H (webD n ts) v∧ts.length≤60∧∀ v' H' ks,But p H H'->Pot H' p->KeepOk ts.length ks->Is K H' (keepD ks) v'->Q v' H'
theorem web_parts {K:PySem.W.Frag} {H:Hp} {n:Int} {ts:List Tie} {v:V} (h:Is K H (webD n ts) v):∃ (p g:Addr) (ws:List V),v=.ref p∧H p=some (.tup [.int n,.ref g])∧H g=some (.tup ws)∧IsAll K H (ts.map tieD) ws∧ws.length=ts.length:=by
 obtain⟨p,vs,rfl,hp,v1,r1,rfl,e1,v2,r2,rfl,⟨g,ws,rfl,hg,hall⟩,e3⟩:=h
 have e1':v1=.int n:=e1
 have e3':r2=[]:=e3
 subst e1' e3'
 exact⟨p,g,ws,rfl,hp,hg,hall,by have:=hall.length;rw[List.length_map] at this;exact this⟩
end L3
namespace Z3
open PySem
section
variable {prog:Program} {w:World} {A:Around} {E:Value->Shared->Prop} {s:Shared}
end
end Z3
namespace L3
open PySem PySem.Spec PyProof.Rows L2
end L3
namespace HT
open PySem PyProof.Rows
section
variable {prog:Program} {w:World} {A:Around} {E:Value->Shared->Prop} {s:Shared}
/-- () + u -/
theorem cat_nil {t b:Addr} {ws:List Value} {Q:Value->Shared->Prop} (ht:IsTup s.heap t ([]:List Value).toArray) (hb:IsTup s.heap b ws.toArray) (h:Q (.ref b) s):wpAny (model prog w) A (binaryOp .Add (.ref t) (.ref b)) Q E s:=by
 obtain⟨⟨cls,dd,data,sl⟩,ho,hc,n,hd⟩:=id ht
 obtain⟨⟨cls2,dd2,data2,sl2⟩,ho2,hc2,n2,hd2⟩:=id hb
 simp only at hc hd hc2 hd2
 subst hc hd hc2 hd2
 exact concat_meets ⟨_,ho,rfl⟩ ⟨_,ho2,rfl⟩ noFill_tuple_add seq_tuple_add PySem.F.slot_tuple_add PySem.F.entry_tuple_add (PySem.F.args_tuple_add_2 _ _) (tuple_addW0 t b _ ws.toArray n n2 dd dd2 sl sl2 rfl) ⟨ho,ho2,h⟩
end
end HT
namespace L3
open PySem PySem.Spec PyProof.Rows L2
section
variable {X:Cx} {pins:List (Addr × Obj)} {σ:L2.St} {H:Hp} {s:Shared} {e:Expr} {te:TE} {pos p2:Pos}
/-- t + u -/
def rCatA:R2:=fun x y H Q=>∃ a b xs ys,x=.ref a∧y=.ref b∧H a=some (.tup xs)∧H b=some (.tup ys)∧xs.length + ys.length≤sizeLine∧∀ p H',Same H H'->H' p=some (.tup (xs++ys))->Q (.ref p) H'
theorem op_catA:OpR X (binaryOp .Add) rCatA:=by
 intro pins s σ H x y v u Q I rx ry h
 obtain⟨a,b,xs,ys,rfl,rfl,ha,hb,hz,q⟩:=h
 by_cases c:xs=[]
 ·subst c
  cases rx
  cases ry
  obtain⟨its,r1,p1,_⟩:=I.tuple (SqT.of ha)
  obtain⟨its2,r2,p2,_⟩:=I.tuple (SqT.of hb)
  cases r1
  exact HT.cat_nil p1 p2 ⟨.ref b,H,I,rfl,q _ _ (Same.refl H) hb⟩
 ·refine op_catT (X:=X) pins s σ H _ _ v u Q I rx ry ⟨a,b,xs,ys,rfl,rfl,SqT.of ha,SqT.of hb,c,hz,fun e=>q _ _ (Same.refl H) (by rw[e,List.append_nil];exact ha),fun _ p hp=>q p _ (same_new hp) upd_same⟩
end
end L3
namespace L3
open PySem PySem.Spec PyProof.Rows L2
theorem iteNB {b:Bool} {A B:Prop} (hb:b=true) (h:B):if (!b)=true then A else B:=by
 subst hb;exact h
theorem iteB2 {b:Bool} {A B:Prop} (h1:b=true->B) (h2:b=false->A):if (!b)=true then A else B:=by
 cases b with
 | true=>exact h1 rfl
 | false=>exact h2 rfl
def numB (m:Nat):PyData->Bool
 | .int i=>decide (0≤i) && decide (i < (m:Int))
 | _=>false
def intOf:PyData->Int
 | .int i=>i
 | _=>0
def risI (ns:List Int):Bool:=((List.range (min ns.length (ns.drop 1).length)).map fun i=>decide (ns.getD i 0 < (ns.drop 1).getD i 0)).all id
def keepB (m:Nat):PyData->Bool
 | .tuple ds=>ds.all (numB m) && risI (ds.map intOf)
 | _=>false
theorem risI_iff (ns:List Int):risI ns=true↔ns.Pairwise (· < ·):=by
 have step:risI ns=true↔∀ i (h:i + 1 < ns.length),ns[i] < ns[i + 1]:=by
  unfold risI
  rw[List.all_map,List.all_eq_true]
  constructor
  ·intro h i hi
   have:=h i (List.mem_range.mpr (by rw[List.length_drop];omega))
   have e1:ns.getD i 0=ns[i]:=by simp [List.getD,show i < ns.length by omega]
   have e2:(ns.drop 1).getD i 0=ns[i + 1]:=by simp [List.getD,hi,Nat.add_comm 1 i]
   have q:decide (ns.getD i 0 < (ns.drop 1).getD i 0)=true:=this
   rw[e1,e2] at q
   exact of_decide_eq_true q
  ·intro h i hi
   have hi':=List.mem_range.mp hi
   rw[List.length_drop] at hi'
   have h1:i + 1 < ns.length:=by omega
   have e1:ns.getD i 0=ns[i]:=by simp [List.getD,show i < ns.length by omega]
   have e2:(ns.drop 1).getD i 0=ns[i + 1]:=by simp [List.getD,h1,Nat.add_comm 1 i]
   show decide (ns.getD i 0 < (ns.drop 1).getD i 0)=true
   rw[e1,e2]
   exact decide_eq_true (h i h1)
 rw[step,List.pairwise_iff_getElem]
 constructor
 ·intro h i j hi hj hij
  have:∀ k (hk:i + 1 + k < ns.length),ns[i] < ns[i + 1 + k]:=by
   intro k
   induction k with
   | zero=>intro hk;exact h i hk
   | succ k ih=>intro hk;exact Int.lt_trans (ih (by omega)) (h (i + 1 + k) hk)
  have:=this (j - i - 1) (by omega)
  have e:i + 1 + (j - i - 1)=j:=by omega
  simpa only [e] using this
 ·intro h i hi
  exact h i (i + 1) (by omega) hi (by omega)
theorem ints_of {ds:List PyData} (h:∀ d ∈ ds,∃ i,d=.int i):ds=(ds.map intOf).map .int:=by
 rw[List.map_map]
 conv=>lhs;rw[← List.map_id ds]
 refine List.map_congr_left fun d hd=>?_
 obtain⟨i,rfl⟩:=h d hd
 rfl
theorem num_int {m:Nat} {d:PyData} (h:numB m d=true):∃ i,d=.int i∧0≤i∧i < m:=by
 cases d with
 | int i =>
  have h':(decide (0≤i) && decide (i < (m:Int)))=true:=h
  rw[Bool.and_eq_true] at h'
  exact⟨i,rfl,of_decide_eq_true h'.1,of_decide_eq_true h'.2⟩
 | _=>cases h
structure Pre (m:Nat) (ds:List PyData) (i:Nat) (a:Int):Prop where
 num:∀ d ∈ ds.take i,numB m d=true
 up:((ds.take i).map intOf).Pairwise (· < ·)
 top:∀ x ∈ (ds.take i).map intOf,x≤a
 at_:a=-1∨a ∈ (ds.take i).map intOf
theorem Pre.zero {m:Nat} {ds:List PyData}:Pre m ds 0 (-1):=⟨fun d h=>(by simp at h),(by simp),fun x h=>(by simp at h),.inl rfl⟩
theorem Pre.lo {m:Nat} {ds:List PyData} {i:Nat} {a:Int} (h:Pre m ds i a):-1≤a:=by
 rcases h.at_ with e | e
 ·omega
 ·obtain⟨d,hd,rfl⟩:=List.mem_map.mp e
  obtain⟨x,rfl,h0,_⟩:=num_int (h.num d hd)
  show -1≤x
  omega
theorem take_next {α:Type} {ds:List α} {i:Nat} {d:α} (e:ds[i]?=some d):ds.take (i + 1)=ds.take i++[d]:=by
 rw[List.take_add_one,e];rfl
theorem Pre.next {m:Nat} {ds:List PyData} {i:Nat} {a x:Int} (h:Pre m ds i a) (e:ds[i]?=some (.int x)) (h1:a < x) (h2:x < m):Pre m ds (i + 1) x:=by
 have lo:=h.lo
 have t:=take_next e
 refine⟨fun d hd=>?_,?_,fun y hy=>?_,.inr ?_⟩
 ·rw[t] at hd
  rcases List.mem_append.mp hd with hd | hd
  ·exact h.num d hd
  ·have ed:d=.int x:=by simpa using hd
   subst ed
   show (decide (0≤x) && decide (x < (m:Int)))=true
   rw[decide_eq_true (by omega:0≤x),decide_eq_true h2];rfl
 ·rw[t,List.map_append,List.pairwise_append]
  refine⟨h.up,(by simp),fun y hy z hz=>?_⟩
  have ez:z=x:=by simpa [intOf] using hz
  subst ez
  have:=h.top y hy
  omega
 ·rw[t,List.map_append] at hy
  rcases List.mem_append.mp hy with hy | hy
  ·have:=h.top y hy;omega
  ·have ey:y=x:=by simpa [intOf] using hy
   omega
 ·rw[t,List.map_append]
  exact List.mem_append_right _ (by simp [intOf])
theorem Pre.full {m:Nat} {ds:List PyData} {a:Int} (h:Pre m ds ds.length a):keepB m (.tuple ds)=true:=by
 have e:ds.take ds.length=ds:=List.take_length
 have h1:=h.num
 have h2:=h.up
 rw[e] at h1 h2
 show (ds.all (numB m) && risI (ds.map intOf))=true
 rw[(risI_iff _).mpr h2,List.all_eq_true.mpr h1];rfl
theorem Pre.bad {m:Nat} {ds:List PyData} {i:Nat} {a:Int} {d:PyData} (h:Pre m ds i a) (e:ds[i]?=some d) (hb:wholeB d=false∨∃ x,d=.int x∧(x≤a∨(m:Int)≤x)):keepB m (.tuple ds)=false:=by
 have mem:d ∈ ds:=List.mem_of_getElem? e
 have noall:numB m d=false->keepB m (.tuple ds)=false:=fun z=>by
  show (ds.all (numB m) && risI (ds.map intOf))=false
  have:ds.all (numB m)=false:=by
   rw[Bool.eq_false_iff]
   intro q
   have:=List.all_eq_true.mp q d mem
   rw[z] at this;cases this
  rw[this];rfl
 rcases hb with hb | ⟨x,rfl,hx⟩
 ·exact noall (by cases d <;> first | rfl | cases hb)
 ·by_cases h0:0≤x∧x < m
  ·rcases hx with hx | hx
   ·rcases h.at_ with ea | ea
    ·omega
    ·show (ds.all (numB m) && risI (ds.map intOf))=false
     have:risI (ds.map intOf)=false:=by
      rw[Bool.eq_false_iff]
      intro q
      have pw:=(risI_iff _).mp q
      have split:ds.map intOf=(ds.take i).map intOf++((ds.drop i).map intOf):=by rw[← List.map_append,List.take_append_drop]
      rw[split,List.pairwise_append] at pw
      have:a < x:=pw.2.2 a ea x (List.mem_map.mpr ⟨.int x,by
       have hi:i < ds.length:=(List.getElem?_eq_some_iff.mp e).1
       rw[List.drop_eq_getElem_cons hi]
       have:ds[i]=.int x:=by rw[List.getElem?_eq_getElem hi] at e;exact Option.some.inj e
       rw[this]
       exact List.mem_cons_self,rfl⟩)
      omega
     rw[this,Bool.and_false]
   ·omega
  ·refine noall ?_
   show (decide (0≤x) && decide (x < (m:Int)))=false
   by_cases h1:0≤x
   ·rw[decide_eq_true h1,decide_eq_false (by omega)];rfl
   ·rw[decide_eq_false h1];rfl
def flatD:V->Bool
 | .non | .bl _ | .int _ | .str _=>true
 | _=>false
theorem cut_mem {xs:List V} {lo hi:Option Int} {x:V} (h:x ∈ cutV xs lo hi):x ∈ xs:=List.mem_of_mem_drop (List.mem_of_mem_take h)
theorem Pot.same {H H':Hp} {p:Addr} (h:Pot H p) (s:Same H H'):Pot H' p:=let ⟨a,b,e,z⟩:=h;⟨a,b,s _ _ e,z⟩
theorem tup_ints:∀ ns:List Int,tupAll (ns.map .int)=true
 | []=>rfl
 | n::ns=>by show (tupD (.int n) && tupAll (ns.map .int))=true;rw[tup_ints ns];rfl
theorem tup_ties:∀ ts:List Tie,tupAll (ts.map tieD)=true
 | []=>rfl
 | t::r=>by show (tupD (tieD t) && tupAll (r.map tieD))=true;rw[tup_ties r];rfl
theorem tup_web (n:Int) (ts:List Tie):tupD (webD n ts)=true:=by
 show (true && (tupAll (ts.map tieD) && true))=true
 rw[tup_ties ts];rfl
theorem tup_keep (ks:List Nat):tupD (keepD ks)=true:=tup_ints _
end L3
namespace L3
end L3
namespace L3
open PySem PySem.Spec PyProof.Rows L2
theorem lI {c:TT} {a b:TS} {D:Ends} {σ:L2.St} {H:Hp} (h:let A:=a;let B:=b;let E:=D;let S:=σ;tIfS c A B E S H):tIfS c a b D σ H:=h
end L3
namespace HT
open PySem PyProof.Rows
section
open PySem.SeqAt
open PySem.AutoSeq1 (wpAny_loadPart')
open PySem.MeetsSeq PySem.MeetsSeq2 PySem.MeetsSeq3
end
section
variable {prog:Program} {w:World} {A:Around} {E:Value->Shared->Prop} {s:Shared}
end
end HT
namespace L3
open PySem PySem.Spec PyProof.Rows L2
section
variable {X:Cx}
end
end L3
namespace L3
open PySem PySem.Spec PyProof.Rows L2
/-- tuples and lists of at most a thousand things, so deep -/
def wide:Nat->PyData->Prop
 | 0,_=>True
 | k + 1,.tuple ds=>ds.length≤1000∧∀ d ∈ ds,wide k d
 | k + 1,.list ds=>ds.length≤1000∧∀ d ∈ ds,wide k d
 | _ + 1,_=>True
theorem wide.few {k:Nat} {d:PyData} (h:wide (k + 1) d):few d:=by
 cases d with
 | tuple ds=>exact (show ds.length≤1000∧_ from h).1
 | list ds=>exact (show ds.length≤1000∧_ from h).1
 | _=>trivial
theorem wide.mem {k:Nat} {ds:List PyData} {d:PyData} (h:wide (k + 1) (.tuple ds)) (m:d ∈ ds):wide k d:=(show _∧∀ d ∈ ds,wide k d from h).2 d m
def endsD:PyData->Int × Int
 | .tuple [.int a,.int b,.int _]=>(a,b)
 | _=>(0,0)
def tiesB (n:Int):PyData->Bool
 | .tuple ds=>decide (ds.length≤60) && ds.all (tieB n) && risingB (ds.map endsD)
 | _=>false
theorem tie_of {n:Int} {d:PyData} (h:tieB n d=true):∃ a b l,d=.tuple [.int a,.int b,.int l]∧0≤a∧a < b∧b < n:=by
 unfold tieB at h
 split at h
 ·rename_i a b l
  simp only [Bool.and_eq_true,decide_eq_true_eq] at h
  obtain⟨⟨⟨⟨h1,h2⟩,h3⟩,h4⟩,h5⟩:=h
  exact⟨a,b,l,rfl,h1,h2,h3⟩
 ·cases h
/-- good values: flat, or tuples and lists of such, or {} -/
def Gd (H:Hp):Nat->V->Prop
 | 0,v=>flatD v=true
 | k + 1,v=>flatD v=true∨(∃ p vs,v=.ref p∧(H p=some (.tup vs)∨H p=some (.lst vs))∧vs.length≤1000∧∀ u ∈ vs,Gd H k u)∨(∃ p,v=.ref p∧H p=some (.dK []))
theorem Gd.same {H H':Hp} (s:Same H H'):∀ {k:Nat} {v:V},Gd H k v->Gd H' k v
 | 0,_,h=>h
 | k + 1,_,h=>by
  rcases h with h | ⟨p,vs,e,h1,h2,h3⟩ | ⟨p,e,h⟩
  ·exact .inl h
  ·exact .inr (.inl ⟨p,vs,e,h1.elim (fun z=>.inl (s _ _ z)) (fun z=>.inr (s _ _ z)),h2,fun u hu=>Gd.same s (h3 u hu)⟩)
  ·exact .inr (.inr ⟨p,e,s _ _ h⟩)
theorem Gd.flat {H:Hp} {k:Nat} {v:V} (h:flatD v=true):Gd H k v:=by
 cases k with
 | zero=>exact h
 | succ k=>exact .inl h
theorem Gd.up {H:Hp}:∀ {k:Nat} {v:V},Gd H k v->Gd H (k + 1) v
 | 0,_,h=>.inl h
 | k + 1,_,h=>by
  rcases h with h | ⟨p,vs,e,h1,h2,h3⟩ | h
  ·exact .inl h
  ·exact .inr (.inl ⟨p,vs,e,h1,h2,fun u hu=>Gd.up (h3 u hu)⟩)
  ·exact .inr (.inr h)
theorem Gd.tup {H:Hp} {k:Nat} {p:Addr} {vs:List V} (h:H p=some (.tup vs)) (hl:vs.length≤1000) (ha:∀ u ∈ vs,Gd H k u):Gd H (k + 1) (.ref p):=.inr (.inl ⟨p,vs,rfl,.inl h,hl,ha⟩)
theorem Gd.lst {H:Hp} {k:Nat} {p:Addr} {vs:List V} (h:H p=some (.lst vs)) (hl:vs.length≤1000) (ha:∀ u ∈ vs,Gd H k u):Gd H (k + 1) (.ref p):=.inr (.inl ⟨p,vs,rfl,.inr h,hl,ha⟩)
theorem wide_flat {K:PySem.W.Frag} {H:Hp} {k:Nat} {v:V} (h:flatD v=true):∃ d,Is K H d v∧wide k d:=by
 cases v with
 | non=>exact⟨.none,rfl,by cases k <;> trivial⟩
 | bl b=>exact⟨.bool b,rfl,by cases k <;> trivial⟩
 | int i=>exact⟨.int i,rfl,by cases k <;> trivial⟩
 | str x=>exact⟨.str x,rfl,by cases k <;> trivial⟩
 | _=>cases h
theorem good_all {K:PySem.W.Frag} {H:Hp} {k:Nat}:∀ {vs:List V},(∀ u ∈ vs,∃ d,Is K H d u∧wide k d)->∃ ds:List PyData,IsAll K H ds vs∧∀ d ∈ ds,wide k d
 | [],_=>⟨[],rfl,fun d h=>by cases h⟩
 | v::vs,h=>by
  obtain⟨d,hd,hw⟩:=h v List.mem_cons_self
  obtain⟨ds,hds,hws⟩:=good_all fun u hu=>h u (List.mem_cons_of_mem _ hu)
  exact⟨d::ds,⟨v,vs,rfl,hd,hds⟩,fun e he=>(List.mem_cons.mp he).elim (fun z=>z ▸ hw) (hws e)⟩
theorem Gd.is {K:PySem.W.Frag} {H:Hp}:∀ {k:Nat} {v:V},Gd H k v->∃ d,Is K H d v∧wide k d
 | 0,_,h=>wide_flat h
 | k + 1,_,h=>by
  rcases h with h | ⟨p,vs,rfl,h1,h2,h3⟩ | ⟨p,rfl,h⟩
  ·exact wide_flat h
  ·obtain⟨ds,hds,hws⟩:=good_all (K:=K) fun u hu=>Gd.is (h3 u hu)
   have hl:ds.length≤1000:=by rw[← hds.length];exact h2
   rcases h1 with h1 | h1
   ·exact⟨.tuple ds,⟨p,vs,rfl,h1,hds⟩,hl,hws⟩
   ·exact⟨.list ds,⟨p,vs,rfl,h1,hds⟩,hl,hws⟩
  ·exact⟨.dict [],⟨rfl,p,rfl,h⟩,trivial⟩
def lt2 (e f:Int × Int):Prop:=e.1 < f.1∨(e.1=f.1∧e.2 < f.2)
theorem lexLt_e2 (e f:Int × Int):HT.lexLt (e2 e) (e2 f)=true↔lt2 e f:=by
 show (if e.1=f.1 then (if e.2=f.2 then false else decide (e.2 < f.2)) else decide (e.1 < f.1))=true↔_
 unfold lt2
 by_cases h:e.1=f.1
 ·rw[if_pos h]
  by_cases h2:e.2=f.2
  ·rw[if_pos h2];simp;omega
  ·rw[if_neg h2,decide_eq_true_eq];omega
 ·rw[if_neg h,decide_eq_true_eq];omega
theorem lt2.trans {e f g:Int × Int} (h:lt2 e f) (k:lt2 f g):lt2 e g:=by unfold lt2 at *;omega
theorem rising_iff (es:List (Int × Int)):risingB es=true↔es.Pairwise lt2:=by
 have step:risingB es=true↔∀ i (h:i + 1 < es.length),lt2 es[i] es[i + 1]:=by
  unfold risingB
  rw[List.all_map,List.all_eq_true]
  constructor
  ·intro h i hi
   have:=h i (List.mem_range.mpr (by rw[List.length_drop];omega))
   have e1:es.getD i (0,0)=es[i]:=by simp [List.getD,show i < es.length by omega]
   have e3:(es.drop 1).getD i (0,0)=es[i + 1]:=by simp [List.getD,hi,Nat.add_comm 1 i]
   have q:HT.lexLt (e2 (es.getD i (0,0))) (e2 ((es.drop 1).getD i (0,0)))=true:=this
   rw[e1,e3] at q
   exact (lexLt_e2 _ _).mp q
  ·intro h i hi
   have hi':=List.mem_range.mp hi
   rw[List.length_drop] at hi'
   have h1:i + 1 < es.length:=by omega
   have e1:es.getD i (0,0)=es[i]:=by simp [List.getD,show i < es.length by omega]
   have e3:(es.drop 1).getD i (0,0)=es[i + 1]:=by simp [List.getD,h1,Nat.add_comm 1 i]
   show HT.lexLt (e2 (es.getD i (0,0))) (e2 ((es.drop 1).getD i (0,0)))=true
   rw[e1,e3]
   exact (lexLt_e2 _ _).mpr (h i h1)
 rw[step,List.pairwise_iff_getElem]
 constructor
 ·intro h i j hi hj hij
  have go:∀ k (hk:i + 1 + k < es.length),lt2 es[i] es[i + 1 + k]:=by
   intro k
   induction k with
   | zero=>intro hk;exact h i hk
   | succ k ih=>intro hk;exact (ih (by omega)).trans (h (i + 1 + k) hk)
  have:=go (j - i - 1) (by omega)
  have e:i + 1 + (j - i - 1)=j:=by omega
  simpa only [e] using this
 ·intro h i hi
  exact h i (i + 1) (by omega) hi (by omega)
structure PreT (n:Int) (ds:List PyData) (i:Nat) (a:Int × Int):Prop where
 tie:∀ d ∈ ds.take i,tieB n d=true
 up:((ds.take i).map endsD).Pairwise lt2
 top:∀ x ∈ (ds.take i).map endsD,x=a∨lt2 x a
 at_:a=(-1,-1)∨a ∈ (ds.take i).map endsD
theorem PreT.zero {n:Int} {ds:List PyData}:PreT n ds 0 (-1,-1):=⟨fun d h=>(by simp at h),(by simp),fun x h=>(by simp at h),.inl rfl⟩
theorem PreT.next {n:Int} {ds:List PyData} {i:Nat} {a:Int × Int} {d:PyData} (h:PreT n ds i a) (e:ds[i]?=some d) (ht:tieB n d=true) (hl:lt2 a (endsD d)):PreT n ds (i + 1) (endsD d):=by
 have t:=take_next e
 refine⟨fun d' hd=>?_,?_,fun y hy=>?_,.inr ?_⟩
 ·rw[t] at hd
  rcases List.mem_append.mp hd with hd | hd
  ·exact h.tie d' hd
  ·rw[List.mem_singleton.mp hd];exact ht
 ·rw[t,List.map_append,List.pairwise_append]
  refine⟨h.up,(by simp),fun y hy z hz=>?_⟩
  have ez:z=endsD d:=by simpa using hz
  subst ez
  rcases h.top y hy with e1 | e1
  ·rw[e1];exact hl
  ·exact e1.trans hl
 ·rw[t,List.map_append] at hy
  rcases List.mem_append.mp hy with hy | hy
  ·right
   rcases h.top y hy with e1 | e1
   ·rw[e1];exact hl
   ·exact e1.trans hl
  ·left;simpa using hy
 ·rw[t,List.map_append]
  exact List.mem_append_right _ (by simp)
theorem PreT.full {n:Int} {ds:List PyData} {a:Int × Int} (h:PreT n ds ds.length a) (h60:ds.length≤60):tiesB n (.tuple ds)=true:=by
 have e:ds.take ds.length=ds:=List.take_length
 have h1:=h.tie
 have h2:=h.up
 rw[e] at h1 h2
 show (decide (ds.length≤60) && ds.all (tieB n) && risingB (ds.map endsD))=true
 rw[(rising_iff _).mpr h2,List.all_eq_true.mpr h1,decide_eq_true h60];rfl
theorem PreT.bad {n:Int} {ds:List PyData} {i:Nat} {a:Int × Int} {d:PyData} (h:PreT n ds i a) (e:ds[i]?=some d) (hb:tieB n d=false∨(tieB n d=true∧¬ lt2 a (endsD d))):tiesB n (.tuple ds)=false:=by
 have mem:d ∈ ds:=List.mem_of_getElem? e
 show (decide (ds.length≤60) && ds.all (tieB n) && risingB (ds.map endsD))=false
 rcases hb with hb | ⟨hb,hn⟩
 ·have:ds.all (tieB n)=false:=by
   rw[Bool.eq_false_iff]
   intro q
   have:=List.all_eq_true.mp q d mem
   rw[hb] at this;cases this
  rw[this,Bool.and_false,Bool.false_and]
 ·have:risingB (ds.map endsD)=false:=by
   rw[Bool.eq_false_iff]
   intro q
   have pw:=(rising_iff _).mp q
   rcases h.at_ with ea | ea
   ·obtain⟨x,y,l,rfl,h0,h1,_⟩:=tie_of hb
    refine hn ?_
    rw[ea]
    show (-1:Int) < x∨_
    omega
   ·have split:ds.map endsD=(ds.take i).map endsD++((ds.drop i).map endsD):=by rw[← List.map_append,List.take_append_drop]
    rw[split,List.pairwise_append] at pw
    refine hn (pw.2.2 a ea _ (List.mem_map.mpr ⟨d,?_,rfl⟩))
    have hi:i < ds.length:=(List.getElem?_eq_some_iff.mp e).1
    rw[List.drop_eq_getElem_cons hi]
    have:ds[i]=d:=by rw[List.getElem?_eq_getElem hi] at e;exact Option.some.inj e
    rw[this]
    exact List.mem_cons_self
  rw[this,Bool.and_false]
end L3
namespace L3
open PySem PySem.Spec PyProof.Rows L2
section
variable {X:Cx} {es:List Expr} {t:TA} {pos:Pos}
def tTupG (t:TA):TE:=fun σ H Q=>t σ H fun xs H1=>xs.length≤1000∧∀ p H',Same H1 H'->H1 p=none->H' p=some (.tup xs)->Q (.ref p) H'
def tLstG (t:TA):TE:=fun σ H Q=>t σ H fun xs H1=>xs.length≤1000∧∀ p H',Same H1 H'->H1 p=none->H' p=some (.lst xs)->Q (.ref p) H'
theorem pe_tupG {x1} (h:PA X es t):PE X (.Tuple es x1 pos) (tTupG t):=by
 intro pins s σ H Q I hq
 refine wpAny_Tuple_spliced (thn (h pos pins s σ H _ I hq) fun us s1 ⟨xs,J,I1,r,z,q⟩=>?_)
 have z':xs.length≤sizeLine:=Nat.le_trans z (by decide)
 have fr:J s1.heap.objs.size=none:=I1.hok.fresh (Nat.le_refl _)
 refine⟨by rw[← r.length];exact z',.ref s1.heap.objs.size,upd J s1.heap.objs.size (.tup xs),I1.laid (t':=s1.toks) (fun b u e=>Heap.get?_push_of_some _ e) (Nat.le_refl _) ⟨z',us,r,⟨_,Heap.get?_push_size _ rfl,rfl,⟨_,rfl⟩,rfl⟩⟩,rfl,q _ _ (same_new fr) fr upd_same⟩
theorem pe_lstG (h:PA X es t):PE X (.List es pos) (tLstG t):=by
 intro pins s σ H Q I hq
 refine wpAny_List_spliced (thn (h pos pins s σ H _ I hq) fun us s1 ⟨xs,J,I1,r,z,q⟩=>?_)
 have z':xs.length≤sizeLine:=Nat.le_trans z (by decide)
 have fr:J s1.heap.objs.size=none:=I1.hok.fresh (Nat.le_refl _)
 refine⟨by rw[← r.length];exact z',.ref s1.heap.objs.size,upd J s1.heap.objs.size (.lst xs),I1.laid (t':=s1.toks) (fun b u e=>Heap.get?_push_of_some _ e) (Nat.le_refl _) ⟨z',us,0,r,Heap.get?_push_size _ rfl⟩,rfl,q _ _ (same_new fr) fr upd_same⟩
def rAppendG:V->List V->Hp->VK->Prop:=fun x vs H Q=>∃ l xs y,x=.ref l∧vs=[y]∧H l=some (.lst xs)∧xs.length < 1000∧∀ H',But l H H'->H' l=some (.lst (xs++[y]))->Q .non H'
theorem mt_appendG:MtM X "list.append" rAppendG:=by
 intro pins s σ H x vs v us Q I rx rv h
 obtain⟨l,xs,y,rfl,rfl,hH,hz,q⟩:=h
 exact mt_append (X:=X) pins s σ H _ _ v us Q I rx rv ⟨l,xs,y,rfl,rfl,hH,Nat.lt_of_lt_of_le hz (by decide),q _ But.upd upd_same⟩
end
def Sm (H:Hp) (t:Addr):Prop:=∃ vs:List V,(H t=some (.tup vs)∨H t=some (.lst vs))∧vs.length≤1000∧vs.all flatD=true
theorem Sm.same {H H':Hp} {t:Addr} (h:Sm H t) (s:Same H H'):Sm H' t:=let ⟨vs,h1,h2⟩:=h;⟨vs,h1.elim (fun e=>.inl (s _ _ e)) (fun e=>.inr (s _ _ e)),h2⟩
theorem Sm.some {H:Hp} {t:Addr} (h:Sm H t):H t≠none:=fun z=>by
 obtain⟨vs,h1,_⟩:=h
 rcases h1 with e | e <;> (rw[z] at e;cases e)
theorem Sm.good {H:Hp} {t:Addr} (h:Sm H t):Gd H 1 (.ref t):=by
 obtain⟨vs,h1,h2,h3⟩:=h
 exact .inr (.inl ⟨t,vs,rfl,h1,h2,fun u hu=>List.all_eq_true.mp h3 u hu⟩)
def GdF (H:Hp) (xs:List V):Prop:=∀ u ∈ xs,∃ t,u=.ref t∧Sm H t
def GdL (l:Addr) (H:Hp) (xs:List V):Prop:=∀ u ∈ xs,∃ t,u=.ref t∧t≠l∧Sm H t
theorem GdF.nil {H:Hp}:GdF H []:=fun u h=>by cases h
theorem GdF.snoc {H H':Hp} {xs:List V} {t:Addr} (h:GdF H xs) (s:Same H H') (ht:Sm H' t):GdF H' (xs++[.ref t]):=fun u hu=>by
 rcases List.mem_append.mp hu with hu | hu
 ·obtain⟨t',e,h'⟩:=h u hu;exact⟨t',e,h'.same s⟩
 ·exact⟨t,List.mem_singleton.mp hu,ht⟩
theorem GdL.same {l:Addr} {H H':Hp} {xs:List V} (h:GdL l H xs) (s:Same H H'):GdL l H' xs:=fun u hu=>let ⟨t,e,n,h'⟩:=h u hu;⟨t,e,n,h'.same s⟩
theorem GdL.but {l:Addr} {H H':Hp} {xs:List V} (h:GdL l H xs) (b:But l H H'):GdL l H' xs:=fun u hu=>by
 obtain⟨t,e,n,vs,h1,h2⟩:=h u hu
 exact⟨t,e,n,vs,h1.elim (fun z=>.inl (b _ _ n z)) (fun z=>.inr (b _ _ n z)),h2⟩
theorem GdL.append {l:Addr} {H:Hp} {xs ys:List V} (h:GdL l H xs) (k:GdL l H ys):GdL l H (xs++ys):=fun u hu=>(List.mem_append.mp hu).elim (h u) (k u)
theorem GdL.nil {l:Addr} {H:Hp}:GdL l H []:=fun u h=>by cases h
theorem GdL.snoc {l:Addr} {H H':Hp} {xs:List V} {t:Addr} (h:GdL l H xs) (s:Same H H') (f:H t=none) (hl:H l≠none) (ht:Sm H' t):GdL l H' (xs++[.ref t]):=fun u hu=>by
 rcases List.mem_append.mp hu with hu | hu
 ·exact h.same s u hu
 ·exact⟨t,List.mem_singleton.mp hu,fun z=>hl (z ▸ f),ht⟩
section
variable {g:TG} {te:TE} {own:List Str} {js:List Nat} {σ:L2.St} {H1:Hp} {Q:VK}
end
theorem call_tupleG {X:Cx}:CallR X (.type "tuple") (fun xs H Q=>∃ p ys,xs=[.ref p]∧H p=some (.lst ys)∧∀ l H',Same H H'->H l=none->H' l=some (.tup ys)->Q (.ref l) H'):=by
 intro pins s σ H xs us Q I r h
 obtain⟨p,ys,rfl,hp,q⟩:=h
 exact call_tuple_of (X:=X) pins s σ H _ us Q I r ⟨p,ys,rfl,.inl ⟨SqL.of hp,fun l hl=>q l _ (same_new hl) hl upd_same⟩⟩
/-- rows of three whole numbers, sorted: the same rows -/
def Row3 (H:Hp) (v:V):Prop:=∃ (t:Addr) (x y z:Int),v=.ref t∧H t=some (.tup [.int x,.int y,.int z])
theorem Row3.keep {H H':Hp} {v:V} (k:TupKeep H H') (h:Row3 H v):Row3 H' v:=let ⟨t,x,y,z,e,h⟩:=h;⟨t,x,y,z,e,k _ _ h⟩
theorem Row3.good {H:Hp} {v:V} (h:Row3 H v):Gd H 1 v:=by
 obtain⟨t,x,y,z,rfl,e⟩:=h
 exact Gd.tup e (by show 3≤1000;decide) fun u hu=>List.all_eq_true.mp (show [V.int x,V.int y,V.int z].all flatD=true from rfl) u hu
section
variable {X:Cx}
end
end L3
namespace Far
/-- walks along arcs, with their lengths -/
inductive Walk (A:List (Nat × Nat × Int)) (s:Nat):Nat->Int->Prop
 | nil:Walk A s s 0
 | snoc {u v:Nat} {l x:Int}:Walk A s u x->(u,v,l) ∈ A->Walk A s v (x + l)
variable {A:List (Nat × Nat × Int)} {s:Nat}
def Pos (A:List (Nat × Nat × Int)):Prop:=∀ u v l,(u,v,l) ∈ A->1≤l
theorem Walk.nonneg (P:Pos A) {v:Nat} {x:Int} (h:Walk A s v x):0≤x:=by
 induction h with
 | nil=>exact Int.le_refl 0
 | snoc _ m ih=>have:=P _ _ _ m;omega
def Dst (A:List (Nat × Nat × Int)) (s v:Nat) (o:Option Int):Prop:=(∀ y,o=some y->Walk A s v y)∧∀ L,Walk A s v L->∃ y,o=some y∧y≤L
theorem Dst.unique {v:Nat} {o p:Option Int} (h:Dst A s v o) (k:Dst A s v p):o=p:=by
 cases o with
 | none =>
  cases p with
  | none=>rfl
  | some y=>obtain⟨_,e,_⟩:=h.2 y (k.1 y rfl);cases e
 | some x =>
  obtain⟨y,rfl,hy⟩:=k.2 x (h.1 x rfl)
  obtain⟨z,e,hz⟩:=h.2 y (k.1 y rfl)
  cases e
  rw[show x=y by omega]
theorem least {P:Nat->Prop}:∀ n,P n->∃ m,P m∧∀ k,P k->m≤k:=by
 intro n
 induction n using Nat.strongRecOn with
 | ind n ih =>
  intro h
  by_cases c:∃ k,k < n∧P k
  ·obtain⟨k,hk,pk⟩:=c;exact ih k hk pk
  ·exact⟨n,h,fun k pk=>by
    by_cases z:k < n
    ·exact absurd ⟨k,z,pk⟩ c
    ·omega⟩
theorem dst_exists (P:Pos A) (s v:Nat):∃ o,Dst A s v o:=by
 by_cases c:∃ x,Walk A s v x
 ·obtain⟨x,hx⟩:=c
  have nn:=hx.nonneg P
  obtain⟨m,hm,mn⟩:=least (P:=fun k=>Walk A s v (k:Int)) x.toNat (by rw[Int.toNat_of_nonneg nn];exact hx)
  refine⟨some m,fun y e=>by cases e;exact hm,fun L hL=>⟨m,rfl,?_⟩⟩
  have n2:=hL.nonneg P
  have:=mn L.toNat (by rw[Int.toNat_of_nonneg n2];exact hL)
  omega
 ·exact⟨none,⟨fun y e=>(by cases e),fun L hL=>absurd ⟨L,hL⟩ c⟩⟩
theorem Walk.cons {u v:Nat} {l:Int} (m:(u,v,l) ∈ A) {w:Nat} {x:Int} (h:Walk A v w x):Walk A u w (x + l):=by
 induction h with
 | nil=>exact .snoc .nil m
 | snoc _ m' ih=>rw[Int.add_right_comm];exact .snoc ih m'
def Sym (A:List (Nat × Nat × Int)):Prop:=∀ u v l,(u,v,l) ∈ A->(v,u,l) ∈ A
theorem Walk.back (S:Sym A) {v:Nat} {x:Int} (h:Walk A s v x):Walk A v s x:=by
 induction h with
 | nil=>exact .nil
 | snoc _ m ih=>exact ih.cons (S _ _ _ m)
theorem Dst.back (S:Sym A) {v:Nat} {o:Option Int} (h:Dst A s v o):Dst A v s o:=⟨fun y e=>(h.1 y e).back S,fun L hL=>h.2 L (hL.back S)⟩
def lt2 (e f:Int × Int):Prop:=e.1 < f.1∨(e.1=f.1∧e.2 < f.2)
def get {α:Type} (cs:List (Option α)) (v:Nat):Option α:=cs.getD v none
theorem get_set {α:Type} {cs:List (Option α)} {v i:Nat} {x:Option α} (h:v < cs.length):get (cs.set v x) i=if i=v then x else get cs i:=by
 unfold get
 rw[List.getD_eq_getElem?_getD,List.getElem?_set,List.getD_eq_getElem?_getD]
 by_cases c:v=i
 ·subst c;simp [h]
 ·simp [c,Ne.symm c]
def ct {α:Type}:List (Option α)->Nat
 | []=>0
 | none::r=>ct r
 | some _::r=>ct r + 1
theorem ct_le {α:Type}:∀ cs:List (Option α),ct cs≤cs.length
 | []=>Nat.le_refl 0
 | none::r=>Nat.le_succ_of_le (ct_le r)
 | some _::r=>Nat.succ_le_succ (ct_le r)
theorem ct_set {α:Type} {c:α}:∀ {cs:List (Option α)} {v:Nat},v < cs.length->ct (cs.set v (some c))=ct cs + (if (get cs v).isSome then 0 else 1)
 | none::r,0,_=>rfl
 | some _::r,0,_=>rfl
 | none::r,v + 1,h=>ct_set (cs:=r) (v:=v) (by simpa using h)
 | some _::r,v + 1,h=>by
  have:=ct_set (c:=c) (cs:=r) (v:=v) (by simpa using h)
  show ct (r.set v (some c)) + 1=ct r + 1 + _
  rw[this]
  show _=ct r + 1 + (if (get r v).isSome then 0 else 1)
  omega
theorem ct_pos {α:Type}:∀ {cs:List (Option α)} {v:Nat} {c:α},get cs v=some c->1≤ct cs
 | [],v,c,h=>by cases h
 | some _::r,_,_,_=>Nat.succ_le_succ (Nat.zero_le _)
 | none::r,0,c,h=>by cases h
 | none::r,v + 1,c,h=>ct_pos (cs:=r) (v:=v) (c:=c) h
/-- the weight of costs, which falls -/
def WM:Int:=2 ^ 130
def mW:Option (Int × Int)->Nat
 | none=>(2 ^ 250)
 | some c=>(c.1 * WM + c.2).toNat
def mu:List (Option (Int × Int))->Nat
 | []=>0
 | c::r=>mW c + mu r
theorem mu_set {x:Option (Int × Int)}:∀ {cs:List (Option (Int × Int))} {v:Nat},v < cs.length->mW x < mW (get cs v)->mu (cs.set v x) < mu cs
 | c::r,0,_,h=>Nat.add_lt_add_right (k:=mu r) h
 | c::r,v + 1,hl,h=>Nat.add_lt_add_left (k:=mW c) (mu_set (cs:=r) (v:=v) (by simpa using hl) h)
structure Good (A:List (Nat × Nat × Int)) (n s:Nat) (cs:List (Option (Int × Int))):Prop where
 len:cs.length=n
 walk:∀ v c,get cs v=some c->Walk A s v c.1
 w0:∀ v c,get cs v=some c->0≤c.2∧c.2≤c.1 * 2 ^ 60
 top:∀ v c,get cs v=some c->c.1≤((ct cs:Nat) - 1:Int) * 10 ^ 18
 start:∃ c,get cs s=some c∧c.1≤0
theorem Good.step {n u v:Nat} {l w:Int} {cs:List (Option (Int × Int))} {c:Int × Int} (P:Pos A) (n24:n≤24) (g:Good A n s cs) (arc:(u,v,l) ∈ A) (l1:l≤10 ^ 18) (w0:0≤w) (w1:w≤2 ^ 60) (hv:v < n) (hu:get cs u=some c)
  (h:get cs v=none∨∃ c',get cs v=some c'∧lt2 (c.1 + l,c.2 + w) c'):Good A n s (cs.set v (some (c.1 + l,c.2 + w)))∧mu (cs.set v (some (c.1 + l,c.2 + w))) < mu cs:=by
 have hv':v < cs.length:=by rw[g.len];exact hv
 have l0:=P _ _ _ arc
 have wk:=Walk.snoc (g.walk _ _ hu) arc
 have c0:=(g.walk _ _ hu).nonneg P
 obtain⟨cw0,cw1⟩:=g.w0 _ _ hu
 have ct24:ct cs≤24:=by have:=ct_le cs;rw[g.len] at this;omega
 have ctp:=ct_pos hu
 have es:=ct_set (c:=(c.1 + l,c.2 + w)) hv'
 have topc:=g.top _ _ hu
 have wbound:c.2 + w≤(c.1 + l) * 2 ^ 60:=by rw[Int.add_mul];omega
 have big:c.1 + l≤((ct (cs.set v (some (c.1 + l,c.2 + w))):Nat) - 1:Int) * 10 ^ 18:=by
  rw[es]
  rcases h with h | ⟨c',h,hlt⟩
  ·rw[h]
   show _≤(((ct cs + 1:Nat):Int) - 1) * 10 ^ 18
   omega
  ·rw[h]
   show _≤(((ct cs + 0:Nat):Int) - 1) * 10 ^ 18
   have:=g.top _ _ h
   unfold lt2 at hlt
   simp only at hlt
   omega
 have ctm:ct cs≤ct (cs.set v (some (c.1 + l,c.2 + w))):=by rw[es];exact Nat.le_add_right _ _
 refine⟨⟨by rw[List.length_set];exact g.len,fun v' d e=>?_,fun v' d e=>?_,fun v' d e=>?_,?_⟩,?_⟩
 ·rw[get_set hv'] at e
  split at e
  ·rename_i z;subst z;cases e;exact wk
  ·exact g.walk _ _ e
 ·rw[get_set hv'] at e
  split at e
  ·cases e;exact⟨by show 0≤c.2 + w;omega,wbound⟩
  ·exact g.w0 _ _ e
 ·rw[get_set hv'] at e
  split at e
  ·cases e;exact big
  ·have:=g.top _ _ e
   omega
 ·obtain⟨d,hd,hd0⟩:=g.start
  rw[get_set hv']
  split
  ·rename_i z;subst z
   refine⟨_,rfl,?_⟩
   rcases h with h | ⟨c',h,hlt⟩
   ·rw[h] at hd;cases hd
   ·rw[h] at hd;cases hd
    unfold lt2 at hlt
    simp only at hlt
    show c.1 + l≤0
    omega
  ·exact⟨d,hd,hd0⟩
 ·refine mu_set hv' ?_
  have ctb:ct (cs.set v (some (c.1 + l,c.2 + w)))≤24:=by have:=ct_le (cs.set v (some (c.1 + l,c.2 + w)));rw[List.length_set,g.len] at this;omega
  have x23:c.1 + l≤23 * 10 ^ 18:=by omega
  have y23:c.2 + w≤23 * 10 ^ 18 * 2 ^ 60:=by omega
  have WMe:WM=1361129467683753853853498429727072845824:=by decide
  rcases h with h | ⟨c',h,hlt⟩
  ·rw[h]
   show ((c.1 + l) * WM + (c.2 + w)).toNat < 2 ^ 250
   have:(c.1 + l) * WM + (c.2 + w) < 2 ^ 250:=by rw[WMe];omega
   omega
  ·rw[h]
   obtain⟨d0,d1⟩:=g.w0 _ _ h
   have t0:=(g.walk _ _ h).nonneg P
   have tt:=g.top _ _ h
   show ((c.1 + l) * WM + (c.2 + w)).toNat < (c'.1 * WM + c'.2).toNat
   unfold lt2 at hlt
   simp only at hlt
   have:(c.1 + l) * WM + (c.2 + w) < c'.1 * WM + c'.2:=by
    rw[WMe]
    rcases hlt with z | ⟨z,z'⟩
    ·omega
    ·rw[z];omega
   have p0:0≤(c.1 + l) * WM + (c.2 + w):=by rw[WMe];omega
   omega
/-- stable along arcs -/
def Stab (A:List (Nat × Nat × Int)) (cs:List (Option (Int × Int))):Prop:=∀ u v l c,(u,v,l) ∈ A->get cs u=some c->∃ c',get cs v=some c'∧c'.1≤c.1 + l
theorem Good.dst {n:Nat} {cs:List (Option (Int × Int))} (g:Good A n s cs) (st:Stab A cs) (v:Nat):Dst A s v ((get cs v).map (·.1)):=by
 refine⟨fun y e=>?_,fun L hL=>?_⟩
 ·cases h:get cs v with
  | none=>rw[h] at e;cases e
  | some c=>rw[h] at e;cases e;exact g.walk _ _ h
 ·have:∃ c,get cs v=some c∧c.1≤L:=by
   induction hL with
   | nil=>exact g.start
   | snoc _ m ih =>
    obtain⟨c,hc,hle⟩:=ih
    obtain⟨c',hc',hle'⟩:=st _ _ _ _ m hc
    exact⟨c',hc',by omega⟩
  obtain⟨c,hc,hle⟩:=this
  exact⟨c.1,by rw[hc];rfl,hle⟩
structure Snd (A:List (Nat × Nat × Int)) (n s:Nat) (D:List (Option Int)):Prop where
 len:D.length=n
 walk:∀ v x,get D v=some x->Walk A s v x
 start:∃ x,get D s=some x∧x≤0
structure Rnd (A:List (Nat × Nat × Int)) (n s:Nat) (δ:Nat->Option Int) (D0:List (Option Int)) (B:(Nat × Nat × Int)->Prop) (D:List (Option Int)):Prop where
 snd:Snd A n s D
 keep:∀ v,get D0 v=δ v->get D v=δ v
 arc:∀ u v l x,B (u,v,l)->get D0 u=δ u->δ u=some x->∃ y,get D v=some y∧y≤x + l
section
variable {n:Nat} {δ:Nat->Option Int} {D0 D:List (Option Int)} {B:(Nat × Nat × Int)->Prop} {u v:Nat} {l:Int}
def plus (B:(Nat × Nat × Int)->Prop) (a:Nat × Nat × Int):(Nat × Nat × Int)->Prop:=fun b=>B b∨b=a
theorem Rnd.no (r:Rnd A n s δ D0 B D) (hu:get D u=none):Rnd A n s δ D0 (plus B (u,v,l)) D:=by
 refine⟨r.snd,r.keep,fun u' v' l' x b e1 e2=>?_⟩
 rcases b with b | b
 ·exact r.arc _ _ _ _ b e1 e2
 ·cases b
  have:=r.keep _ e1
  rw[hu,e2] at this;cases this
theorem Rnd.old (r:Rnd A n s δ D0 B D) {x' y:Int} (hu:get D u=some x') (hv:get D v=some y) (hy:y≤x' + l):Rnd A n s δ D0 (plus B (u,v,l)) D:=by
 refine⟨r.snd,r.keep,fun u' v' l' x b e1 e2=>?_⟩
 rcases b with b | b
 ·exact r.arc _ _ _ _ b e1 e2
 ·cases b
  have:=r.keep _ e1
  rw[hu,e2] at this;cases this
  exact⟨y,hv,hy⟩
theorem Rnd.put (dd:∀ v,Dst A s v (δ v)) (m:(u,v,l) ∈ A) (hn:v < n) (r:Rnd A n s δ D0 B D) {x':Int} (hu:get D u=some x') (hv:get D v=none∨∃ y,get D v=some y∧x' + l < y) (P:Pos A):Rnd A n s δ D0 (plus B (u,v,l)) (D.set v (some (x' + l))):=by
 have hl:v < D.length:=by rw[r.snd.len];exact hn
 have wk:=Walk.snoc (r.snd.walk _ _ hu) m
 obtain⟨d,hd,hdl⟩:=(dd v).2 _ wk
 have bad:get D0 v=δ v->False:=fun e=>by
  have e':=r.keep _ e
  rcases hv with hv | ⟨y,hv,hy⟩
  ·rw[hv,hd] at e';cases e'
  ·rw[hv,hd] at e';cases e';omega
 refine⟨⟨by rw[List.length_set];exact r.snd.len,fun i x e=>?_,?_⟩,fun i e=>?_,fun u' v' l' x b e1 e2=>?_⟩
 ·rw[get_set hl] at e
  split at e
  ·rename_i z;subst z;cases e;exact wk
  ·exact r.snd.walk _ _ e
 ·rw[get_set hl]
  split
  ·rename_i z;subst z
   obtain⟨x,hx,hx0⟩:=r.snd.start
   rcases hv with hv | ⟨y,hv,hy⟩
   ·rw[hv] at hx;cases hx
   ·rw[hv] at hx;cases hx
    exact⟨_,rfl,by omega⟩
  ·exact r.snd.start
 ·rw[get_set hl]
  split
  ·rename_i z;subst z;exact absurd e bad
  ·exact r.keep _ e
 ·rw[get_set hl]
  rcases b with b | b
  ·obtain⟨y',hy',hle⟩:=r.arc _ _ _ _ b e1 e2
   split
   ·rename_i z;subst z
    refine⟨_,rfl,?_⟩
    rcases hv with hv | ⟨y,hv,hy⟩
    ·rw[hv] at hy';cases hy'
    ·rw[hv] at hy';cases hy';omega
   ·exact⟨y',hy',hle⟩
  ·cases b
   have:=r.keep _ e1
   rw[hu,e2] at this;cases this
   rw[if_pos rfl]
   exact⟨_,rfl,Int.le_refl _⟩
theorem Rnd.next (dd:∀ v,Dst A s v (δ v)) (P:Pos A) (inn:∀ u v l,(u,v,l) ∈ A->u < n∧v < n) (s0:Snd A n s D0) (r:Rnd A n s δ D0 B D) (all:∀ a ∈ A,B a):∀ (k:Nat) (v:Nat),v < n->get D0 v≠δ v->(∀ d,δ v=some d->d.toNat≤k)->∃ v,v < n∧get D0 v≠δ v∧get D v=δ v:=by
 intro k
 induction k using Nat.strongRecOn with
 | ind k ih =>
  intro v hv hne hk
  cases e:δ v with
  | none =>
   cases e2:get D0 v with
   | none=>exact absurd (e2.trans e.symm) hne
   | some x =>
    obtain⟨y,hy,_⟩:=(dd v).2 _ (s0.walk _ _ e2)
    rw[e] at hy;cases hy
  | some d =>
   have wk:=(dd v).1 _ e
   have hkd:=hk _ e
   cases hw:wk with
   | nil =>
    obtain⟨x,hx,hx0⟩:=s0.start
    have:=(s0.walk _ _ hx).nonneg P
    have:x=0:=by omega
    subst this
    exact absurd (hx.trans e.symm) hne
   | @snoc u _ l x w m =>
    obtain⟨y,hy,hyx⟩:=(dd u).2 _ w
    obtain⟨d',hd',hle⟩:=(dd v).2 _ (Walk.snoc ((dd u).1 _ hy) m)
    rw[e] at hd';cases hd'
    have yx:y=x:=by omega
    subst yx
    by_cases c:get D0 u=δ u
    ·obtain⟨y',hy',hle'⟩:=r.arc _ _ _ _ (all _ m) c hy
     obtain⟨d',hd',hle2⟩:=(dd v).2 _ (r.snd.walk _ _ hy')
     rw[e] at hd';cases hd'
     have:y'=y + l:=by omega
     subst this
     exact⟨v,hv,hne,hy'.trans e.symm⟩
    ·have l1:=P _ _ _ m
     have y0:=((dd u).1 _ hy).nonneg P
     refine ih (k - 1) (by omega) u (inn _ _ _ m).1 c fun d hd=>?_
     rw[hy] at hd;cases hd;omega
end
theorem countP_lt {α:Type} {p q:α->Bool}:∀ {xs:List α},(∀ x ∈ xs,p x=true->q x=true)->(∃ x ∈ xs,q x=true∧p x=false)->xs.countP p < xs.countP q
 | [],_,⟨x,h,_⟩=>by cases h
 | a::r,h,⟨x,hx,e1,e2⟩=>by
  rw[List.countP_cons,List.countP_cons]
  have le:r.countP p≤r.countP q:=List.countP_mono_left fun x hx=>h x (List.mem_cons_of_mem _ hx)
  rcases List.mem_cons.mp hx with rfl | hx
  ·rw[e1,e2];simp;omega
  ·have:=countP_lt (xs:=r) (fun x hx=>h x (List.mem_cons_of_mem _ hx)) ⟨x,hx,e1,e2⟩
   have:=h a List.mem_cons_self
   cases e:p a <;> cases e':q a <;> simp_all <;> omega
def cnt (n:Nat) (δ:Nat->Option Int) (D:List (Option Int)):Nat:=(List.range n).countP fun v=>decide (get D v=δ v)
def Done (n:Nat) (δ:Nat->Option Int) (D:List (Option Int)) (k:Nat):Prop:=(∀ v,v < n->get D v=δ v)∨k + 1≤cnt n δ D
theorem Done.round {n:Nat} {δ:Nat->Option Int} {D0 D:List (Option Int)} {B:(Nat × Nat × Int)->Prop} {k:Nat} (dd:∀ v,Dst A s v (δ v)) (P:Pos A) (inn:∀ u v l,(u,v,l) ∈ A->u < n∧v < n) (s0:Snd A n s D0) (r:Rnd A n s δ D0 B D) (all:∀ a ∈ A,B a) (h:Done n δ D0 k):Done n δ D (k + 1):=by
 by_cases c:∀ v,v < n->get D0 v=δ v
 ·exact .inl fun v hv=>r.keep v (c v hv)
 ·rcases h with h | h
  ·exact absurd h c
  ·have ⟨v,z⟩:=Classical.not_forall.mp c
   have ⟨hv,hne⟩:=Classical.not_imp.mp z
   obtain⟨v',hv',n0,n1⟩:=r.next dd P inn s0 all ((δ v).getD 0).toNat v hv hne fun d e=>by rw[e];exact Nat.le_refl _
   refine .inr (Nat.lt_of_le_of_lt h (countP_lt (fun x _ e=>?_) ⟨v',List.mem_range.mpr hv',decide_eq_true n1,decide_eq_false n0⟩))
   exact decide_eq_true (r.keep x (of_decide_eq_true e))
theorem Done.first {n:Nat} {δ:Nat->Option Int} {D:List (Option Int)} {v:Nat} (hv:v < n) (h:get D v=δ v):Done n δ D 0:=by
 refine .inr ?_
 exact List.countP_pos_iff.mpr ⟨v,List.mem_range.mpr hv,decide_eq_true h⟩
theorem Done.all {n:Nat} {δ:Nat->Option Int} {D:List (Option Int)} (h:Done n δ D n):∀ v,v < n->get D v=δ v:=by
 rcases h with h | h
 ·exact h
 ·have:cnt n δ D≤n:=by
   have:=List.countP_le_length (p:=fun v=>decide (get D v=δ v)) (l:=List.range n)
   rw[List.length_range] at this;exact this
  omega
def PSt (c0:List (Option (Int × Int))) (B:(Nat × Nat × Int)->Prop) (cs:List (Option (Int × Int))) (ag:Bool):Prop :=
 (ag=false∧cs=c0∧∀ u v l c,B (u,v,l)->get c0 u=some c->∃ c',get c0 v=some c'∧c'.1≤c.1 + l)∨(ag=true∧mu cs < mu c0)
section
variable {c0 cs:List (Option (Int × Int))} {B B':(Nat × Nat × Int)->Prop} {ag:Bool} {u v:Nat} {l w:Int}
theorem PSt.less (h:PSt c0 B cs ag) (k:∀ a,B' a->B a):PSt c0 B' cs ag:=h.elim (fun ⟨a,b,c⟩=>.inl ⟨a,b,fun u v l c' z=>c u v l c' (k _ z)⟩) .inr
theorem PSt.no (h:PSt c0 B cs ag) (hu:get cs u=none):PSt c0 (plus B (u,v,l)) cs ag:=by
 rcases h with ⟨a,b,c⟩ | h
 ·refine .inl ⟨a,b,fun u' v' l' c' z e=>?_⟩
  rcases z with z | z
  ·exact c _ _ _ _ z e
  ·cases z;rw[← b,hu] at e;cases e
 ·exact .inr h
theorem PSt.old (h:PSt c0 B cs ag) {c d:Int × Int} (hu:get cs u=some c) (hv:get cs v=some d) (hn:¬ lt2 (c.1 + l,c.2 + w) d):PSt c0 (plus B (u,v,l)) cs ag:=by
 rcases h with ⟨a,b,z⟩ | h
 ·refine .inl ⟨a,b,fun u' v' l' c' y e=>?_⟩
  rcases y with y | y
  ·exact z _ _ _ _ y e
  ·cases y
   subst b
   rw[hu] at e;cases e
   refine⟨d,hv,?_⟩
   unfold lt2 at hn
   simp only at hn
   omega
 ·exact .inr h
theorem PSt.put (h:PSt c0 B cs ag) {cs':List (Option (Int × Int))} (hm:mu cs' < mu cs):PSt c0 (plus B (u,v,l)) cs' true:=by
 rcases h with ⟨a,b,c⟩ | h
 ·exact .inr ⟨rfl,by rw[← b];exact hm⟩
 ·exact .inr ⟨rfl,Nat.lt_trans hm h.2⟩
end
theorem get_rep {α:Type} (n v:Nat):get (List.replicate n (none:Option α)) v=none:=by
 unfold get
 rw[List.getD_eq_getElem?_getD,List.getElem?_replicate]
 split <;> rfl
theorem ct_rep {α:Type}:∀ n:Nat,ct (List.replicate n (none:Option α))=0
 | 0=>rfl
 | n + 1=>ct_rep n
theorem Good.first {n:Nat} (hs:s < n):Good A n s ((List.replicate n none).set s (some (0,0))):=by
 have hl:s < (List.replicate n (none:Option (Int × Int))).length:=by rw[List.length_replicate];exact hs
 have cases':∀ v c,get ((List.replicate n (none:Option (Int × Int))).set s (some (0,0))) v=some c->v=s∧c=(0,0):=fun v c e=>by
  rw[get_set hl,get_rep] at e
  split at e
  ·rename_i z;cases e;exact⟨z,rfl⟩
  ·cases e
 refine⟨by rw[List.length_set,List.length_replicate],fun v c e=>?_,fun v c e=>?_,fun v c e=>?_,⟨(0,0),?_,Int.le_refl _⟩⟩
 ·obtain⟨rfl,rfl⟩:=cases' _ _ e;exact .nil
 ·obtain⟨rfl,rfl⟩:=cases' _ _ e;exact⟨Int.le_refl _,by decide⟩
 ·obtain⟨rfl,rfl⟩:=cases' _ _ e
  rw[ct_set hl,ct_rep,get_rep];decide
 ·rw[get_set hl,if_pos rfl]
theorem Snd.first {n:Nat} (hs:s < n):Snd A n s ((List.replicate n none).set s (some 0)):=by
 have hl:s < (List.replicate n (none:Option Int)).length:=by rw[List.length_replicate];exact hs
 refine⟨by rw[List.length_set,List.length_replicate],fun v c e=>?_,⟨0,?_,Int.le_refl _⟩⟩
 ·rw[get_set hl,get_rep] at e
  split at e
  ·rename_i z;subst z;cases e;exact .nil
  ·cases e
 ·rw[get_set hl,if_pos rfl]
theorem Rnd.start {n:Nat} {δ:Nat->Option Int} {D:List (Option Int)} (h:Snd A n s D):Rnd A n s δ D (fun _=>False) D:=⟨h,fun _ e=>e,fun _ _ _ _ z=>z.elim⟩
theorem Rnd.less {n:Nat} {δ:Nat->Option Int} {D0 D:List (Option Int)} {B B':(Nat × Nat × Int)->Prop} (h:Rnd A n s δ D0 B D) (k:∀ a,B' a->B a):Rnd A n s δ D0 B' D:=⟨h.snd,h.keep,fun u v l x z=>h.arc u v l x (k _ z)⟩
end Far
namespace L3
open PySem PySem.Spec PyProof.Rows L2
def tieAt (ts:List Tie) (k:Nat):Tie:=ts.getD k (0,0,0)
def arcs2 (t:Tie):List (Nat × Nat × Int):=[(t.1.toNat,t.2.1.toNat,t.2.2),(t.2.1.toNat,t.1.toNat,t.2.2)]
def arcs (ts:List Tie) (ks:List Nat):List (Nat × Nat × Int):=ks.flatMap fun k=>arcs2 (tieAt ts k)
theorem arcs_mem {ts:List Tie} {ks:List Nat} {a:Nat × Nat × Int}:a ∈ arcs ts ks↔∃ k,k ∈ ks∧a ∈ arcs2 (tieAt ts k):=by
 unfold arcs;rw[List.mem_flatMap]
theorem arcs2_mem {t:Tie} {a:Nat × Nat × Int}:a ∈ arcs2 t↔a=(t.1.toNat,t.2.1.toNat,t.2.2)∨a=(t.2.1.toNat,t.1.toNat,t.2.2):=by
 unfold arcs2;simp
theorem tieAt_in {ts:List Tie} {k:Nat} (h:k < ts.length):ts[k]?=some (tieAt ts k)∧tieAt ts k ∈ ts:=by
 have e:ts[k]?=some (tieAt ts k):=by unfold tieAt;rw[List.getD_eq_getElem?_getD,List.getElem?_eq_getElem h];rfl
 exact⟨e,List.mem_of_getElem? e⟩
theorem ends_eq {a b c d:Int} (h1:0≤a) (h2:a < b) (h3:0≤c) (h4:c < d) (h:a.toNat=c.toNat∧b.toNat=d.toNat∨a.toNat=d.toNat∧b.toNat=c.toNat):a=c∧b=d:=by omega
theorem endLt_ne {s t:Tie} (h:endLt s t) (e1:s.1=t.1) (e2:s.2.1=t.2.1):False:=by
 rcases h with h | h
 ·exact Int.lt_irrefl _ (e1 ▸ h)
 ·exact Int.lt_irrefl _ (e2 ▸ h.2)
/-- two ties with the same ends are one -/
theorem tie_ends {n:Int} {ts:List Tie} (ok:WebOk n ts) {k k':Nat} (hk:k < ts.length) (hk':k' < ts.length) (e1:(tieAt ts k).1=(tieAt ts k').1) (e2:(tieAt ts k).2.1=(tieAt ts k').2.1):k=k':=by
 have pw:∀ i j (hi:i < ts.length) (hj:j < ts.length),i < j->endLt (tieAt ts i) (tieAt ts j):=fun i j hi hj z=>by
  have q:=List.pairwise_iff_getElem.mp ok.rise i j hi hj z
  have g:∀ {i:Nat} (hi:i < ts.length),ts[i]=tieAt ts i:=fun {i} hi=>Option.some.inj ((List.getElem?_eq_getElem hi).symm.trans (tieAt_in hi).1)
  rwa [g hi,g hj] at q
 rcases Nat.lt_trichotomy k k' with z | z | z
 ·exact (endLt_ne (pw k k' hk hk' z) e1 e2).elim
 ·exact z
 ·exact (endLt_ne (pw k' k hk' hk z) e1.symm e2.symm).elim
section
variable {n:Int} {ts:List Tie} {ks:List Nat}
theorem arcs_pos (ok:WebOk n ts) (ko:KeepOk ts.length ks):Far.Pos (arcs ts ks):=fun u v l h=>by
 obtain⟨k,hk,h⟩:=arcs_mem.mp h
 have:=ok.tie _ (tieAt_in (ko.2 k hk)).2
 rcases arcs2_mem.mp h with h | h <;> cases h <;> omega
theorem arcs_in (ok:WebOk n ts) (ko:KeepOk ts.length ks):∀ u v l,(u,v,l) ∈ arcs ts ks->u < n.toNat∧v < n.toNat:=fun u v l h=>by
 obtain⟨k,hk,h⟩:=arcs_mem.mp h
 have:=ok.tie _ (tieAt_in (ko.2 k hk)).2
 rcases arcs2_mem.mp h with h | h <;> cases h <;> omega
end
def CV (H:Hp) (v:V):Option (Int × Int)->Prop
 | none=>v=.non
 | some e=>∃ t,v=.ref t∧H t=some (.tup [.int e.1,.int e.2])
theorem CV.keep {H H':Hp} (k:TupKeep H H') {v:V}:∀ {o:Option (Int × Int)},CV H v o->CV H' v o
 | none,h=>h
 | some e,⟨t,h1,h2⟩=>⟨t,h1,k _ _ h2⟩
def CostL (H:Hp) (vs:List V) (cs:List (Option (Int × Int))):Prop:=vs.length=cs.length∧∀ i v,vs[i]?=some v->CV H v (Far.get cs i)
section
variable {H H' J J':Hp} {vs cvs avs ws:List V} {cs:List (Option (Int × Int))} {lw lc la t:Addr} {n k:Nat} {x y:Int}
theorem CostL.keep (h:CostL H vs cs) (k:TupKeep H H'):CostL H' vs cs:=⟨h.1,fun i v e=>(h.2 i v e).keep k⟩
theorem CostL.set {v:V} {c:Int × Int} (h:CostL H vs cs) (hk:k < vs.length) (hv:CV H v (some c)):CostL H (vs.set k v) (cs.set k (some c)):=by
 refine⟨by rw[List.length_set,List.length_set];exact h.1,fun i u e=>?_⟩
 rw[Far.get_set (by rw[← h.1];exact hk)]
 rw[List.getElem?_set] at e
 by_cases z:k=i
 ·subst z;rw[if_pos rfl,if_pos hk] at e;cases e;rw[if_pos rfl];exact hv
 ·rw[if_neg z] at e;rw[if_neg (Ne.symm z)];exact h.2 i u e
theorem CostL.first (n:Nat):CostL H (List.replicate n .non) (List.replicate n none):=by
 refine⟨by rw[List.length_replicate,List.length_replicate],fun i v e=>?_⟩
 rw[Far.get_rep]
 rw[List.getElem?_replicate] at e
 split at e
 ·cases e;rfl
 ·cases e
theorem tk_upd {p:Addr} {xs:List V} {o:HO} (h:J p=some (.lst xs)):TupKeep J (upd J p o):=fun a ys e=>by
 rw[upd_ne (fun z=>by rw[z,h] at e;cases e)];exact e
theorem tk_same (s:Same J J'):TupKeep J J':=fun a xs e=>s _ _ e
/-- the lists of a search: weights, costs, places ahead -/
structure RH (H J:Hp) (lw lc la:Addr) (ws:List V) (n:Nat) (cs:List (Option (Int × Int))):Prop where
 same:Same H J
 fc:H lc=none
 fa:H la=none
 nwc:lw≠lc
 nwa:lw≠la
 nca:lc≠la
 wl:J lw=some (.lst ws)
 co:∃ cvs,J lc=some (.lst cvs)∧CostL J cvs cs
 ah:∃ avs,J la=some (.lst avs)∧avs.length=n
theorem RH.step (h:RH H J lw lc la ws n cs) (s:Same J J'):RH H J' lw lc la ws n cs :=
 ⟨h.same.trans s,h.fc,h.fa,h.nwc,h.nwa,h.nca,s _ _ h.wl,let ⟨c,e,z⟩:=h.co;⟨c,s _ _ e,z.keep (tk_same s)⟩,let ⟨c,e,z⟩:=h.ah;⟨c,s _ _ e,z⟩⟩
theorem RH.put (h:RH H J lw lc la ws n cs) (hc:J lc=some (.lst cvs)) (hk:k < cvs.length) (ht:J t=some (.tup [.int x,.int y])):RH H (upd J lc (.lst (cvs.set k (.ref t)))) lw lc la ws n (cs.set k (some (x,y))):=by
 obtain⟨c,e,z⟩:=h.co
 rw[hc] at e;cases e
 obtain⟨av,ea,la'⟩:=h.ah
 refine⟨fun b o eb=>?_,h.fc,h.fa,h.nwc,h.nwa,h.nca,?_,⟨_,upd_same,CostL.set (z.keep (tk_upd hc)) hk ⟨t,rfl,tk_upd hc _ _ ht⟩⟩,⟨av,?_,la'⟩⟩
 ·rw[upd_ne (ne_of_none eb h.fc)];exact h.same _ _ eb
 ·rw[upd_ne h.nwc];exact h.wl
 ·rw[upd_ne h.nca.symm];exact ea
theorem RH.mark {v:V} (h:RH H J lw lc la ws n cs) (ha:J la=some (.lst avs)):RH H (upd J la (.lst (avs.set k v))) lw lc la ws n cs:=by
 obtain⟨c,e,z⟩:=h.co
 obtain⟨av,ea,la'⟩:=h.ah
 rw[ha] at ea;cases ea
 refine⟨fun b o eb=>?_,h.fc,h.fa,h.nwc,h.nwa,h.nca,?_,⟨c,?_,z.keep (tk_upd ha)⟩,⟨_,upd_same,by rw[List.length_set];exact la'⟩⟩
 ·rw[upd_ne (ne_of_none eb h.fa)];exact h.same _ _ eb
 ·rw[upd_ne h.nwa];exact h.wl
 ·rw[upd_ne h.nca];exact e
end
theorem rep_one {α:Type} (x:α):∀ k:Nat,(List.replicate k [x]).flatten=List.replicate k x
 | 0=>rfl
 | k + 1=>by rw[List.replicate_succ,List.flatten_cons,rep_one x k];rfl
def ov:Option Int->V
 | none=>.non
 | some x=>.int x
theorem ov_at {D:List (Option Int)} {i:Nat} (h:i < D.length):(D.map ov)[i]?=some (ov (Far.get D i)):=by
 rw[List.getElem?_map,List.getElem?_eq_getElem h]
 unfold Far.get
 rw[List.getD_eq_getElem?_getD,List.getElem?_eq_getElem h];rfl
theorem atI_toNat {α:Type} {xs:List α} {i:Int} {x:α} (h0:0≤i) (h:xs[i.toNat]?=some x):atI xs i=some x:=by
 have hl:=(List.getElem?_eq_some_iff.mp h).1
 unfold atI ixN
 rw[if_pos h0,if_pos (by omega)]
 exact h
theorem ixN_nat {n:Nat} {i:Int} (h0:0≤i) (h:i < n):ixN n i=some i.toNat:=by
 unfold ixN;rw[if_pos h0,if_pos h]
/-- [x] * n -/
def rRep1:R2:=fun x y H Q=>∃ l k z,x=.ref l∧y=.int k∧H l=some (.lst [z])∧0≤k∧k≤1000∧∀ p H',Same H H'->H p=none->H' p=some (.lst (List.replicate k.toNat z))->Q (.ref p) H'
theorem op_rep1 {X:Cx}:OpR X (binaryOp .Mult) rRep1:=by
 intro pins s σ H x y v u Q I rx ry h
 obtain⟨l,k,z,rfl,rfl,hH,h1,h2,q⟩:=h
 refine op_rep (X:=X) pins s σ H _ _ v u Q I rx ry ⟨l,k,_,rfl,rfl,hH,by omega,by omega,?_,fun p hp=>q p _ (same_new hp) hp (by rw[upd_same,rep_one])⟩
 exact Nat.le_trans (by show 1 * k.toNat≤1000;omega) (by decide:1000≤sizeLine)
theorem tie_val {K:PySem.W.Frag} {H:Hp}:∀ {ts:List Tie} {ws:List V} {k:Nat},IsAll K H (ts.map tieD) ws->k < ts.length->∃ a,ws[k]?=some (.ref a)∧H a=some (.tup [.int (tieAt ts k).1,.int (tieAt ts k).2.1,.int (tieAt ts k).2.2])
 | t::r,ws,0,h,_=>by
  obtain⟨v,vs,rfl,h1,_⟩:=h
  obtain⟨a,xs,rfl,ha,hx⟩:=h1
  have e:xs=(tieI t).map V.int:=IsAll.of_ints (ns:=tieI t) hx
  subst e
  exact⟨a,rfl,ha⟩
 | t::r,ws,k + 1,h,hk=>by
  obtain⟨v,vs,rfl,_,h2⟩:=h
  obtain⟨a,e,ha⟩:=tie_val (ts:=r) (ws:=vs) (k:=k) h2 (by simpa using hk)
  exact⟨a,e,ha⟩
theorem keep_parts {K:PySem.W.Frag} {H:Hp} {ks:List Nat} {v:V} (h:Is K H (keepD ks) v):∃ p,v=.ref p∧H p=some (.tup ((keepI ks).map V.int)):=by
 obtain⟨p,vs,rfl,hp,hx⟩:=h
 have e:=IsAll.of_ints hx
 subst e
 exact⟨p,rfl,hp⟩
theorem keep_at {ks:List Nat} {i:Nat} {x:V} (h:((keepI ks).map V.int)[i]?=some x):∃ k,ks[i]?=some k∧x=.int (k:Int):=by
 unfold keepI at h
 rw[List.map_map,List.getElem?_map] at h
 cases e:ks[i]? with
 | none=>rw[e] at h;cases h
 | some k=>rw[e] at h;cases h;exact⟨k,rfl,rfl⟩
theorem cost_at {H:Hp} {vs:List V} {cs:List (Option (Int × Int))} {i:Int} (h:CostL H vs cs) (h0:0≤i) (hi:i.toNat < cs.length):∃ v,atI vs i=some v∧CV H v (Far.get cs i.toNat):=by
 have hl:i.toNat < vs.length:=by rw[h.1];exact hi
 have e:vs[i.toNat]?=some vs[i.toNat]:=List.getElem?_eq_getElem hl
 exact⟨_,atI_toNat h0 e,h.2 _ _ e⟩
def pows (m:Nat):List V:=(List.range m).map fun i=>V.int (2 ^ i)
theorem pows_at {m i:Nat} (h:i < m):(pows m)[i]?=some (.int (2 ^ i)):=by unfold pows;rw[List.getElem?_map,List.getElem?_range h];rfl
theorem pows_succ (m:Nat):pows (m + 1)=pows m++[.int (2 ^ m)]:=by unfold pows;rw[List.range_succ,List.map_append];rfl
theorem pow_le {i:Nat} (h:i < 60):(0:Int)≤2 ^ i∧(2:Int) ^ i≤2 ^ 60:=by
 have e:((2 ^ i:Nat):Int)=(2:Int) ^ i:=by norm_cast
 have:2 ^ i≤2 ^ 60:=Nat.pow_le_pow_right (by decide) (by omega)
 constructor
 ·rw[← e];exact Int.natCast_nonneg _
 ·rw[← e];exact_mod_cast this
def spWeights (K:PySem.W.Frag):Sp:=fun vs H Q _=>∃ n ts v,vs=[v]∧Is K H (webD n ts) v∧ts.length≤60∧∀ l H',Same H H'->H l=none->H' l=some (.lst (pows ts.length))->Q (.ref l) H'
def spCost (K:PySem.W.Frag):Sp:=fun vs H Q _=>∃ c x y l w,vs=[.ref c,.int l,.int w]∧H c=some (.tup [.int x,.int y])∧∀ t H',Same H H'->H' t=some (.tup [.int (x + l),.int (y + w)])->Q (.ref t) H'
/-- a web, a keep of it, a place -/
def WK (K:PySem.W.Frag) (H:Hp) (n:Int) (ts:List Tie) (ks:List Nat) (wv kv:V):Prop:=Is K H (webD n ts) wv∧WebOk n ts∧Is K H (keepD ks) kv∧KeepOk ts.length ks
theorem WK.same {K:PySem.W.Frag} {H H':Hp} {n:Int} {ts:List Tie} {ks:List Nat} {wv kv:V} (h:WK K H n ts ks wv kv) (s:Same H H'):WK K H' n ts ks wv kv:=⟨Is.same s _ h.1,h.2.1,Is.same s _ h.2.2.1,h.2.2.2⟩
end L3
namespace HT
open PySem PyProof.Rows
open Sem (wp)
section
variable {prog:Program} {w:World} {A:Around} {E:Value->Shared->Prop} {s:Shared}
end
end HT
namespace L3
open PySem PySem.Spec PyProof.Rows L2
def hAt (hs:List Int) (a:Int):Int:=hs.getD a.toNat 0
def absI (i:Int):Int:=if i < 0 then -i else i
def acrossI (ts:List Tie) (hs:List Int) (k:Nat):Int:=absI (hAt hs (tieAt ts k).1 - hAt hs (tieAt ts k).2.1)
def holdB (n:Int) (ts:List Tie) (ks:List Nat) (hs:List Int):Bool:=decide (hs.length=n.toNat) && ks.all fun k=>decide (acrossI ts hs k≤(tieAt ts k).2.2)
def capO (roof:Int):Option Int->Int
 | none=>roof
 | some x=>if roof < x then roof else x
def IntT (H:Hp) (p:Addr) (hs:List Int):Prop:=H p=some (.tup (hs.map V.int))∧hs.length≤1000
theorem IntT.same {H H':Hp} {p:Addr} {hs:List Int} (h:IntT H p hs) (s:Same H H'):IntT H' p hs:=⟨s _ _ h.1,h.2⟩
theorem IntT.is {K:PySem.W.Frag} {H:Hp} {p:Addr} {hs:List Int} (h:IntT H p hs):Is K H (.tuple (hs.map .int)) (.ref p):=⟨p,_,rfl,h.1,IsAll.ints _⟩
def AllI (xs:List V):Prop:=∃ ns:List Int,xs=ns.map V.int
theorem AllI.of {xs:List V} (h:∀ x ∈ xs,∃ i,x=V.int i):AllI xs:=by
 induction xs with
 | nil=>exact⟨[],rfl⟩
 | cons x r ih =>
  obtain⟨i,rfl⟩:=h x List.mem_cons_self
  obtain⟨ns,rfl⟩:=ih fun y hy=>h y (List.mem_cons_of_mem _ hy)
  exact⟨i::ns,rfl⟩
theorem AllI.mem {xs:List V} (h:AllI xs):∀ x ∈ xs,∃ i,x=V.int i:=by
 obtain⟨ns,rfl⟩:=h
 intro x hx
 obtain⟨i,_,rfl⟩:=List.mem_map.mp hx
 exact⟨i,rfl⟩
theorem AllI.ints (ns:List Int):AllI (ns.map V.int):=⟨ns,rfl⟩
theorem AllI.app {xs ys:List V} (h:AllI xs) (k:AllI ys):AllI (xs++ys):=by
 obtain⟨ns,rfl⟩:=h;obtain⟨ms,rfl⟩:=k
 exact⟨ns++ms,by rw[List.map_append]⟩
theorem AllI.cut {xs:List V} {lo hi:Option Int} (h:AllI xs):AllI (cutV xs lo hi):=.of fun x hx=>h.mem x (cut_mem hx)
theorem AllI.one (i:Int):AllI [V.int i]:=⟨[i],rfl⟩
theorem AllI.rep {xs:List V} (h:AllI xs) (k:Nat):AllI (List.replicate k xs).flatten:=.of fun x hx=>by
 obtain⟨l,hl,hx⟩:=List.mem_flatten.mp hx
 rw[(List.mem_replicate.mp hl).2] at hx
 exact h.mem x hx
theorem lay_ints:∀ hs:List Int,PyData.canLayAll0 (hs.map .int)=true
 | []=>rfl
 | t::r=>by
  show (PyData.canLay0 (.int t) && PyData.canLayAll0 (r.map .int))=true
  rw[lay_ints r]
  rfl
theorem deep_ints:∀ hs:List Int,PyData.depthAll (hs.map .int)≤1
 | []=>Nat.zero_le _
 | t::r=>by
  show max (PyData.depth (.int t)) (PyData.depthAll (r.map .int))≤1
  have h1:=deep_ints r
  have h2:PyData.depth (.int t)≤1:=Nat.le_trans (Nat.le_of_eq (by rfl:PyData.depth (.int t)=0)) (by decide)
  omega
section
variable {g:TG} {te:TE} {own:List Str} {js:List Nat} {σ:L2.St} {H1:Hp} {Q:VK}
end
end L3
namespace L3
open PySem PySem.Spec PyProof.Rows L2
section
variable {J:It} {g:TG} {tt:TT} {te:TE} {own:List Str} {js:List Nat} {σ:L2.St} {H1:Hp} {Q:VK}
end
theorem truth_blF {prog:Program} {w:World} {A:Around} {bs:List Bool} {its:List Value} (r:Vals (bs.map V.bl) its):TruthOf prog w A (fun i v=>its.toArray[i]?=some v) (fun i=>bs.getD i false):=by
 intro i v s Q E hP hq
 have hP':its[i]?=some v:=by simpa using hP
 have hl:=r.length
 have hi:i < its.length:=(List.getElem?_eq_some_iff.mp hP').1
 have hb:i < bs.length:=by rw[List.length_map] at hl;omega
 obtain⟨u,hu,ru⟩:=r.get (i:=i) (x:=V.bl bs[i]) (by rw[List.getElem?_map,List.getElem?_eq_getElem hb];rfl)
 rw[hP'] at hu
 cases hu
 have e:v=Value.bool bs[i]:=ru
 subst e
 have e2:bs.getD i false=bs[i]:=by simp [List.getD,hb]
 have hq':Q (bs.getD i false) s:=hq
 rw[e2] at hq'
 exact wpAny_truthy_bool hq'
theorem any_range (bs:List Bool):((List.range bs.length).any fun i=>bs.getD i false)=bs.any id:=by
 rw[Bool.eq_iff_iff,List.any_eq_true,List.any_eq_true]
 constructor
 ·rintro ⟨i,hi,e⟩
  have hi':=List.mem_range.mp hi
  exact⟨bs[i],List.getElem_mem hi',by simpa [List.getD,hi'] using e⟩
 ·rintro ⟨b,hb,e⟩
  obtain⟨i,hi,e2⟩:=List.getElem_of_mem hb
  exact⟨i,List.mem_range.mpr hi,by rw[← e2] at e;simpa [List.getD,hi] using e⟩
theorem call_any {X:Cx} (hh:X.calm=true):CallR X (.builtin "any") (fun xs H Q=>∃ (p:Addr) (bs:List Bool),xs=[.ref p]∧SqL X.K H p (bs.map V.bl)∧Q (.bl (bs.any id)) H):=by
 intro pins s σ H xs us Q I r h
 obtain⟨p,bs,rfl,hq,q⟩:=h
 obtain⟨u,rfl,rx⟩:=vals1 r
 cases rx
 obtain⟨its,rv,pl,hz⟩:=I.list hq
 have hl:=rv.length
 have lt:p≠s.heap.objs.size:=by obtain⟨o,e,_⟩:=pl.isList;exact Nat.ne_of_lt (Heap.lt_size e)
 refine call_any_walk (wpAny_pyIter_list pl.isList ?_)
 have W:=Walks.list (prog:=X.prog) (w:=X.w) (A:=X.A.in1) (show X.A.in1.handled=none from I.ok.hd hh) s.heap.objs.size p lt its.toArray
 refine⟨s.heap.objs.size,_,_,_,_,_,_,rfl,W,⟨⟨_,Heap.get?_push_size _ rfl,rfl,rfl⟩,pl.isList.push _⟩,truth_blF rv,fun h' tk hk=>?_⟩
 refine⟨.bl (bs.any id),H,I.kept (t':=tk) fun b o e=>hk b o (fun z=>?_) (Heap.get?_push_of_some _ e),?_,q⟩
 ·have:b=s.heap.objs.size:=by simpa using z
  exact absurd (Heap.lt_size e) (by rw[this];exact Nat.lt_irrefl _)
 ·show Value.bool _=Value.bool _
  have e1:its.toArray.size=bs.length:=by rw[List.size_toArray,← hl,List.length_map]
  rw[e1,any_range]
end L3
namespace Far
variable {A:List (Nat × Nat × Int)} {s:Nat}
theorem Walk.trans {u v:Nat} {x y:Int} (h:Walk A s u x) (k:Walk A u v y):Walk A s v (x + y):=by
 induction k with
 | nil=>rw[Int.add_zero];exact h
 | snoc _ m ih=>rw[← Int.add_assoc];exact .snoc ih m
def Con (A:List (Nat × Nat × Int)) (s v:Nat):Prop:=∃ x,Walk A s v x
noncomputable def rB (A:List (Nat × Nat × Int)) (s v:Nat):Bool:=@decide (Con A s v) (Classical.propDecidable _)
theorem rB_iff {v:Nat}:rB A s v=true↔Con A s v:=by unfold rB;exact @decide_eq_true_iff _ (Classical.propDecidable _)
theorem Dst.isSome {v:Nat} {o:Option Int} (h:Dst A s v o):o.isSome=rB A s v:=by
 cases o with
 | none =>
  have:¬ Con A s v:=fun ⟨x,w⟩=>by obtain⟨y,e,_⟩:=h.2 x w;cases e
  have:rB A s v=false:=Bool.eq_false_iff.mpr fun z=>this (rB_iff.mp z)
  rw[this];rfl
 | some x=>rw[rB_iff.mpr ⟨x,h.1 x rfl⟩];rfl
theorem Con.refl:Con A s s:=⟨0,.nil⟩
theorem Con.symm (S:Sym A) {v:Nat} (h:Con A s v):Con A v s:=let ⟨x,w⟩:=h;⟨x,w.back S⟩
theorem Con.trans {u v:Nat} (h:Con A s u) (k:Con A u v):Con A s v:=let ⟨_,w⟩:=h;let ⟨_,z⟩:=k;⟨_,w.trans z⟩
noncomputable def rN (A:List (Nat × Nat × Int)) (n s:Nat):List Nat:=(List.range n).filter (rB A s)
noncomputable def isHd (A:List (Nat × Nat × Int)) (n p:Nat):Bool:=decide ((rN A n p).head?=some p)
noncomputable def pcs (A:List (Nat × Nat × Int)) (n:Nat):List (List Nat):=((List.range n).filter (isHd A n)).map (rN A n)
theorem rN_mem {n v:Nat}:v ∈ rN A n s↔v < n∧Con A s v:=by
 unfold rN;rw[List.mem_filter,List.mem_range,rB_iff]
theorem rN_eq (S:Sym A) {n u:Nat} (h:Con A s u):rN A n u=rN A n s:=by
 unfold rN
 refine List.filter_congr fun v _=>?_
 rw[Bool.eq_iff_iff,rB_iff,rB_iff]
 exact⟨fun k=>h.trans k,fun k=>(h.symm S).trans k⟩
theorem together (S:Sym A) {n a b:Nat} (ha:a < n) (hb:b < n):((pcs A n).any fun ns=>decide (a ∈ ns) && decide (b ∈ ns))=rB A a b:=by
 rw[Bool.eq_iff_iff,List.any_eq_true,rB_iff]
 constructor
 ·rintro ⟨ns,hns,h⟩
  obtain⟨p,hp,rfl⟩:=List.mem_map.mp hns
  rw[Bool.and_eq_true] at h
  have h1:=(rN_mem.mp (of_decide_eq_true h.1)).2
  have h2:=(rN_mem.mp (of_decide_eq_true h.2)).2
  exact (h1.symm S).trans h2
 ·intro h
  have am:a ∈ rN A n a:=rN_mem.mpr ⟨ha,.refl⟩
  have bm:b ∈ rN A n a:=rN_mem.mpr ⟨hb,h⟩
  cases e:rN A n a with
  | nil=>rw[e] at am;cases am
  | cons p r =>
   have pm:p ∈ rN A n a:=by rw[e];exact List.mem_cons_self
   obtain⟨hp,cp⟩:=rN_mem.mp pm
   have ep:=rN_eq S (n:=n) cp
   refine⟨rN A n a,List.mem_map.mpr ⟨p,List.mem_filter.mpr ⟨List.mem_range.mpr hp,?_⟩,ep⟩,?_⟩
   ·unfold isHd;rw[ep,e];exact decide_eq_true rfl
   ·rw[decide_eq_true am,decide_eq_true bm];rfl
end Far
namespace L3
open PySem PySem.Spec PyProof.Rows L2
def natV (ns:List Nat):List V:=ns.map fun v:Nat=>V.int (v:Int)
def pieceD (ns:List Nat):PyData:=.tuple ((keepI ns).map .int)
theorem natV_keep (ns:List Nat):natV ns=(keepI ns).map V.int:=by unfold natV keepI;rw[List.map_map];rfl
theorem is_piece {K:PySem.W.Frag} {H:Hp} {t:Addr} {ns:List Nat} (h:H t=some (.tup (natV ns))):Is K H (pieceD ns) (.ref t):=⟨t,_,rfl,h,by rw[natV_keep];exact IsAll.ints _⟩
theorem IsAll.snoc {K:PySem.W.Frag} {H:Hp} {d:PyData} {v:V} (hv:Is K H d v):∀ {ds:List PyData} {vs:List V},IsAll K H ds vs->IsAll K H (ds++[d]) (vs++[v])
 | [],_,h=>by
  have e:_=[]:=h
  subst e
  exact⟨v,[],rfl,hv,rfl⟩
 | _::_,_,⟨u,r,e,h1,h2⟩=>by
  subst e
  exact⟨u,r++[v],rfl,h1,IsAll.snoc hv h2⟩
theorem inV_nat {a:Int} (h:0≤a) (ns:List Nat):inV (.int a) (natV ns)=decide (a.toNat ∈ ns):=by
 unfold inV natV
 rw[List.any_map,Bool.eq_iff_iff,List.any_eq_true,decide_eq_true_iff]
 constructor
 ·rintro ⟨v,hv,e⟩
  have e':((v:Int) == a)=true:=e
  have:(v:Int)=a:=by simpa using e'
  have e2:a.toNat=v:=by omega
  rw[e2];exact hv
 ·intro m
  exact⟨_,m,show (((a.toNat:Nat):Int) == a)=true by rw[Int.toNat_of_nonneg h];simp⟩
theorem flat_nat (ns:List Nat):(natV ns).all flatV=true:=by
 unfold natV;rw[List.all_map];exact List.all_eq_true.mpr fun _ _=>rfl
theorem call_isiC {X:Cx} {own fr:List Str} {scope:Scope} {fp:List Addr} {pins:List (Addr × Obj)} {s3:Shared} {H3:Hp} {n:String}:CallR (cxComp X own fr scope fp pins s3 H3) (.builtin "isinstance") (fun xs H Q=>∃ x t b,xs=[x,.ty n]∧TyOf X.K H x t∧PySem.W.kitOne X.K t (.type n)=some b∧Q (.bl b) H):=call_isi (X:=cxComp X own fr scope fp pins s3 H3)
end L3
namespace Srt
open PySem PySem.Spec PyProof.Rows PySem.W
section
variable {prog:Program} {w:World} {A:Around} {E:Value->Shared->Prop} {s:Shared}
end
end Srt
namespace HT
open PySem PyProof.Rows
section
variable {prog:Program} {w:World} {A:Around} {E:Value->Shared->Prop} {s:Shared}
end
section
variable {prog:Program} {w:World} {A:Around} {E:Value->Shared->Prop} {s:Shared}
end
end HT
namespace L3
open PySem PySem.Spec PyProof.Rows L2
section
variable {X:Cx}
end
section
variable {g:TG} {tt:TT} {te:TE} {own:List Str} {js:List Nat} {σ:L2.St} {H1:Hp} {Q:VK}
end
def outs (m:Nat) (ks:List Nat):List Nat:=(List.range m).filter fun k=>decide (k ∉ ks)
noncomputable def gO (ts:List Tie) (ks:List Nat) (k:Nat):Option Int :=
 @dite (Option Int) (∃ o,Far.Dst (arcs ts ks) (tieAt ts k).1.toNat (tieAt ts k).2.1.toNat o) (Classical.propDecidable _) (fun h=>Classical.choose h) fun _=>none
theorem gO_eq {ts:List Tie} {ks:List Nat} {k:Nat} {o:Option Int} (h:Far.Dst (arcs ts ks) (tieAt ts k).1.toNat (tieAt ts k).2.1.toNat o):gO ts ks k=o:=by
 unfold gO
 have ex:∃ o,Far.Dst (arcs ts ks) (tieAt ts k).1.toNat (tieAt ts k).2.1.toNat o:=⟨o,h⟩
 rw[dif_pos ex]
 exact Far.Dst.unique (Classical.choose_spec ex) h
theorem nat_at {ns:List Nat} {i:Nat} {x:V} (h:(natV ns)[i]?=some x):∃ k,ns[i]?=some k∧x=.int (k:Int):=by
 rw[natV_keep] at h;exact keep_at h
end L3
namespace Far
variable {A:List (Nat × Nat × Int)} {s:Nat}
/-- the places ahead -/
structure Ahd (A:List (Nat × Nat × Int)) (s:Nat) (cs:List (Option (Int × Int))) (as:List (Option Nat)):Prop where
 len:as.length=cs.length
 root:get as s=none
 has:∀ v c,get cs v=some c->v≠s->get as v≠none
 arc:∀ v u,get as v=some u->∃ l cu cv,(u,v,l) ∈ A∧get cs u=some cu∧get cs v=some cv∧cu.1 + l≤cv.1
theorem Ahd.step {n u v:Nat} {l w:Int} {cs:List (Option (Int × Int))} {as:List (Option Nat)} {c:Int × Int} (P:Pos A) (g:Good A n s cs) (a:Ahd A s cs as) (m:(u,v,l) ∈ A) (hv:v < n) (hu:get cs u=some c)
  (h:get cs v=none∨∃ c',get cs v=some c'∧lt2 (c.1 + l,c.2 + w) c'):Ahd A s (cs.set v (some (c.1 + l,c.2 + w))) (as.set v (some u)):=by
 have hc:v < cs.length:=by rw[g.len];exact hv
 have ha:v < as.length:=by rw[a.len];exact hc
 have l1:=P _ _ _ m
 have c0:=(g.walk _ _ hu).nonneg P
 have vs:v≠s:=fun z=>by
  obtain⟨d,hd,hd0⟩:=g.start
  rw[← z] at hd
  rcases h with h | ⟨c',h,hl⟩
  ·rw[h] at hd;cases hd
  ·rw[h] at hd;cases hd
   unfold lt2 at hl;simp only at hl;omega
 have uv:u≠v:=fun z=>by
  rcases h with h | ⟨c',h,hl⟩
  ·rw[← z,hu] at h;cases h
  ·rw[← z,hu] at h;cases h
   unfold lt2 at hl;simp only at hl;omega
 refine⟨by rw[List.length_set,List.length_set];exact a.len,?_,fun x d e hx=>?_,fun x y e=>?_⟩
 ·rw[get_set ha,if_neg (Ne.symm vs)];exact a.root
 ·rw[get_set ha]
  split
  ·exact fun z=>by cases z
  ·rename_i xv
   rw[get_set hc,if_neg xv] at e
   exact a.has x d e hx
 ·rw[get_set ha] at e
  split at e
  ·rename_i z;subst z;cases e
   exact⟨l,c,_,m,by rw[get_set hc,if_neg uv];exact hu,by rw[get_set hc,if_pos rfl],Int.le_refl _⟩
  ·rename_i xv
   obtain⟨l',cu,cv,m',e1,e2,hle⟩:=a.arc x y e
   by_cases yv:y=v
   ·subst yv
    refine⟨l',_,cv,m',by rw[get_set hc,if_pos rfl],by rw[get_set hc,if_neg xv];exact e2,?_⟩
    rcases h with h | ⟨c',h,hl⟩
    ·rw[h] at e1;cases e1
    ·rw[h] at e1;cases e1
     unfold lt2 at hl;simp only at hl
     show c.1 + l + l'≤cv.1
     omega
   ·exact⟨l',cu,cv,m',by rw[get_set hc,if_neg yv];exact e1,by rw[get_set hc,if_neg xv];exact e2,hle⟩
theorem Ahd.first {n:Nat} (hs:s < n):Ahd A s ((List.replicate n none).set s (some (0,0))) (List.replicate n none):=by
 have hl:s < (List.replicate n (none:Option (Int × Int))).length:=by rw[List.length_replicate];exact hs
 refine⟨by rw[List.length_set,List.length_replicate,List.length_replicate],get_rep _ _,fun v c e hv=>?_,fun v u e=>?_⟩
 ·rw[get_set hl,if_neg hv,get_rep] at e;cases e
 ·rw[get_rep] at e;cases e
/-- the step along the tree -/
theorem Ahd.next {n:Nat} {cs:List (Option (Int × Int))} {as:List (Option Nat)} {v u:Nat} (a:Ahd A s cs as) (st:Stab A cs) (e:get as v=some u):∃ l cu cv,(u,v,l) ∈ A∧get cs u=some cu∧get cs v=some cv∧cu.1 + l=cv.1:=by
 obtain⟨l,cu,cv,m,e1,e2,hle⟩:=a.arc v u e
 obtain⟨c',e3,h3⟩:=st u v l cu m e1
 rw[e2] at e3;cases e3
 exact⟨l,cu,cv,m,e1,e2,by omega⟩
/-- a way, as a list from its start -/
inductive Tr (A:List (Nat × Nat × Int)) (a:Nat):List Nat->Nat->Int->Prop
 | one:Tr A a [a] a 0
 | snoc {ws:List Nat} {u v:Nat} {x l:Int}:Tr A a ws u x->(u,v,l) ∈ A->Tr A a (ws++[v]) v (x + l)
/-- how many places are as far or further -/
def beyond (n:Nat) (cs:List (Option (Int × Int))) (d:Int):Nat:=(List.range n).countP fun v=>match get cs v with | none=>false | some c=>decide (d≤c.1)
theorem beyond_lt {n u:Nat} {cs:List (Option (Int × Int))} {cu:Int × Int} {d:Int} (hu:u < n) (e:get cs u=some cu) (h:cu.1 < d):beyond n cs d < beyond n cs cu.1:=by
 refine countP_lt (fun v _ hv=>?_) ⟨u,List.mem_range.mpr hu,?_,?_⟩
 ·cases e2:get cs v with
  | none=>rw[e2] at hv;cases hv
  | some c=>rw[e2] at hv;have:=of_decide_eq_true hv;exact decide_eq_true (by omega)
 ·rw[e];exact decide_eq_true (Int.le_refl _)
 ·rw[e];exact decide_eq_false (by omega)
theorem beyond_le (n:Nat) (cs:List (Option (Int × Int))) (d:Int):beyond n cs d≤n:=by
 have:=List.countP_le_length (p:=fun v=>match get cs v with | none=>false | some c=>decide (d≤c.1)) (l:=List.range n)
 rw[List.length_range] at this;exact this
theorem beyond_pos {n u:Nat} {cs:List (Option (Int × Int))} {cu:Int × Int} (hu:u < n) (e:get cs u=some cu):1≤beyond n cs cu.1 :=
 List.countP_pos_iff.mpr ⟨u,List.mem_range.mpr hu,by rw[e];exact decide_eq_true (Int.le_refl _)⟩
end Far
namespace L3
open PySem PySem.Spec PyProof.Rows L2
theorem preSum_eq (ns:List Int):∀ i,i≤ns.length->preSum (fun i=>ns.getD i 0) i=(ns.take i).sum
 | 0,_=>rfl
 | i + 1,h=>by
  have e:ns[i]?=some ns[i]:=List.getElem?_eq_getElem (by omega)
  show preSum _ i + ns.getD i 0=_
  rw[preSum_eq ns i (by omega),take_next e,List.sum_append,List.getD_eq_getElem?_getD,e]
  simp
theorem call_sumA {X:Cx} (hh:X.calm=true):CallR X (.builtin "sum") (fun xs H Q=>∃ (p:Addr) (ns:List Int),xs=[.ref p]∧H p=some (.lst (ns.map V.int))∧Q (.int ns.sum) H):=by
 intro pins s σ H xs us Q I r h
 obtain⟨p,ns,rfl,hq,q⟩:=h
 obtain⟨u,rfl,rx⟩:=vals1 r
 cases rx
 obtain⟨its,rv,pl,hz⟩:=I.list (SqL.of hq)
 have hl:=rv.length
 rw[List.length_map] at hl
 have hI:IntsAre its ns:=intsAre_of rv
 have lt:p≠s.heap.objs.size:=by obtain⟨o,e,_⟩:=pl.isList;exact Nat.ne_of_lt (Heap.lt_size e)
 refine call_sum_walkAnyS (wpAny_pyIter_list pl.isList ?_)
 have W:=(Walks.list (prog:=X.prog) (w:=X.w) (A:=X.A.in1) (show X.A.in1.handled=none from I.ok.hd hh) s.heap.objs.size p lt its.toArray).toS
 refine⟨s.heap.objs.size,_,_,_,_,_,_,(fun i=>ns.getD i 0),rfl,W,⟨⟨_,Heap.get?_push_size _ rfl,rfl,rfl⟩,pl.isList.push _⟩,fun b hb=>?_,fun i v hv=>?_,fun s' t' hm=>?_⟩
 ·obtain⟨o,e,_⟩:=pl.isList
  have hlt:p < s.heap.objs.size:=Heap.lt_size e
  show b < (s.heap.push _).objs.size
  rw[Heap.size_push]
  simp only [List.mem_cons,List.not_mem_nil,or_false] at hb
  rcases hb with z | z
  ·rw[z];exact Nat.lt_succ_self _
  ·rw[z];exact Nat.lt_succ_of_lt hlt
 ·exact IntsAre.int_at hI i v (by simpa using hv)
 ·rw[Moved.eq_with hm]
  refine⟨.int ns.sum,H,I.kept (t':=s'.toks) fun b o e=>hm.heap b o (fun z=>?_) (Heap.get?_push_of_some _ e),⟨t',?_⟩,q⟩
  ·have:b=s.heap.objs.size:=by simpa using z
   exact absurd (Heap.lt_size e) (by rw[this];exact Nat.lt_irrefl _)
  ·rw[show its.toArray.size=ns.length by rw[List.size_toArray,← hl],preSum_eq ns _ (Nat.le_refl _),List.take_length]
def oa:Option Nat->V
 | none=>.non
 | some u=>.int (u:Int)
structure RA (H J:Hp) (lw lc la:Addr) (ws:List V) (cs:List (Option (Int × Int))) (as:List (Option Nat)):Prop where
 same:Same H J
 fc:H lc=none
 fa:H la=none
 nwc:lw≠lc
 nwa:lw≠la
 nca:lc≠la
 wl:J lw=some (.lst ws)
 co:∃ cvs,J lc=some (.lst cvs)∧CostL J cvs cs
 ah:J la=some (.lst (as.map oa))
section
variable {H H' J J':Hp} {vs cvs ws:List V} {cs:List (Option (Int × Int))} {as:List (Option Nat)} {lw lc la t:Addr} {k:Nat} {x y:Int}
theorem RA.step (h:RA H J lw lc la ws cs as) (s:Same J J'):RA H J' lw lc la ws cs as :=
 ⟨h.same.trans s,h.fc,h.fa,h.nwc,h.nwa,h.nca,s _ _ h.wl,let ⟨c,e,z⟩:=h.co;⟨c,s _ _ e,z.keep (tk_same s)⟩,s _ _ h.ah⟩
theorem RA.put (h:RA H J lw lc la ws cs as) (hc:J lc=some (.lst cvs)) (hk:k < cvs.length) (ht:J t=some (.tup [.int x,.int y])):RA H (upd J lc (.lst (cvs.set k (.ref t)))) lw lc la ws (cs.set k (some (x,y))) as:=by
 obtain⟨c,e,z⟩:=h.co
 rw[hc] at e;cases e
 refine⟨fun b o eb=>?_,h.fc,h.fa,h.nwc,h.nwa,h.nca,?_,⟨_,upd_same,CostL.set (z.keep (tk_upd hc)) hk ⟨t,rfl,tk_upd hc _ _ ht⟩⟩,?_⟩
 ·rw[upd_ne (ne_of_none eb h.fc)];exact h.same _ _ eb
 ·rw[upd_ne h.nwc];exact h.wl
 ·rw[upd_ne h.nca.symm];exact h.ah
theorem RA.mark {u:Nat} (h:RA H J lw lc la ws cs as):RA H (upd J la (.lst ((as.map oa).set k (.int (u:Int))))) lw lc la ws cs (as.set k (some u)):=by
 obtain⟨c,e,z⟩:=h.co
 refine⟨fun b o eb=>?_,h.fc,h.fa,h.nwc,h.nwa,h.nca,?_,⟨c,?_,z.keep (tk_upd h.ah)⟩,?_⟩
 ·rw[upd_ne (ne_of_none eb h.fa)];exact h.same _ _ eb
 ·rw[upd_ne h.nwa];exact h.wl
 ·rw[upd_ne h.nca];exact e
 ·rw[upd_same,List.map_set];rfl
end
theorem oa_at {D:List (Option Nat)} {i:Nat} (h:i < D.length):(D.map oa)[i]?=some (oa (Far.get D i)):=by
 rw[List.getElem?_map,List.getElem?_eq_getElem h]
 unfold Far.get
 rw[List.getD_eq_getElem?_getD,List.getElem?_eq_getElem h];rfl
/-- a way from a to b, the shortest; or none -/
def WayV (H:Hp) (A:List (Nat × Nat × Int)) (a b:Nat) (v:V):Prop:=(v=.non∧Far.Dst A a b none)∨∃ t ws x,v=.ref t∧H t=some (.tup (natV ws))∧ws.length≤24∧Far.Tr A a ws b x∧Far.Dst A a b (some x)
def isTB (ts:List Tie) (u v:Nat) (k:Nat):Bool:=decide ((tieAt ts k).1=min (u:Int) v) && decide ((tieAt ts k).2.1=max (u:Int) v)
def tbN (ts:List Tie) (u v:Nat):Option Nat:=(List.range ts.length).find? (isTB ts u v)
theorem tb_arc {n:Int} {ts:List Tie} {ks:List Nat} (ok:WebOk n ts) (ko:KeepOk ts.length ks) {u v:Nat} {l:Int} (h:(u,v,l) ∈ arcs ts ks):∃ k,tbN ts u v=some k∧k < ts.length∧(tieAt ts k).2.2=l:=by
 obtain⟨k,hk,m⟩:=arcs_mem.mp h
 have hkl:=ko.2 k hk
 have tk:=ok.tie _ (tieAt_in hkl).2
 have isk:isTB ts u v k=true∧(tieAt ts k).2.2=l:=by
  unfold isTB
  rcases arcs2_mem.mp m with e | e
  ·have e1:u=(tieAt ts k).1.toNat:=congrArg (·.1) e
   have e2:v=(tieAt ts k).2.1.toNat:=congrArg (·.2.1) e
   have e3:l=(tieAt ts k).2.2:=congrArg (·.2.2) e
   have eu:(u:Int)=(tieAt ts k).1:=by rw[e1];exact Int.toNat_of_nonneg tk.1
   have ev:(v:Int)=(tieAt ts k).2.1:=by rw[e2];exact Int.toNat_of_nonneg (Int.le_of_lt (Int.lt_of_le_of_lt tk.1 tk.2.1))
   rw[eu,ev,Int.min_eq_left (Int.le_of_lt tk.2.1),Int.max_eq_right (Int.le_of_lt tk.2.1)]
   exact⟨by rw[decide_eq_true rfl,decide_eq_true rfl];rfl,e3.symm⟩
  ·have e1:u=(tieAt ts k).2.1.toNat:=congrArg (·.1) e
   have e2:v=(tieAt ts k).1.toNat:=congrArg (·.2.1) e
   have e3:l=(tieAt ts k).2.2:=congrArg (·.2.2) e
   have eu:(u:Int)=(tieAt ts k).2.1:=by rw[e1];exact Int.toNat_of_nonneg (Int.le_of_lt (Int.lt_of_le_of_lt tk.1 tk.2.1))
   have ev:(v:Int)=(tieAt ts k).1:=by rw[e2];exact Int.toNat_of_nonneg tk.1
   rw[eu,ev,Int.min_eq_right (Int.le_of_lt tk.2.1),Int.max_eq_left (Int.le_of_lt tk.2.1)]
   exact⟨by rw[decide_eq_true rfl,decide_eq_true rfl];rfl,e3.symm⟩
 cases e:tbN ts u v with
 | none =>
  have:=List.find?_eq_none.mp e k (List.mem_range.mpr hkl)
  exact absurd isk.1 this
 | some k' =>
  have p:=List.find?_some e
  have hk':k' < ts.length:=List.mem_range.mp (List.mem_of_find?_eq_some e)
  refine⟨k',rfl,hk',?_⟩
  have same:k'=k:=by
   have q1:=p
   have q2:=isk.1
   unfold isTB at q1 q2
   rw[Bool.and_eq_true] at q1 q2
   have a1:=of_decide_eq_true q1.1
   have a2:=of_decide_eq_true q1.2
   have b1:=of_decide_eq_true q2.1
   have b2:=of_decide_eq_true q2.2
   have ri:=List.pairwise_iff_getElem.mp ok.rise
   have g:∀ j (hj:j < ts.length),ts[j]=tieAt ts j:=fun j hj=>by
    have:=(tieAt_in hj).1
    rw[List.getElem?_eq_getElem hj] at this
    exact Option.some.inj this
   rcases Nat.lt_trichotomy k' k with z | z | z
   ·have:=ri k' k hk' hkl z
    rw[g k' hk',g k hkl] at this
    exact (this.elim (fun z=>Int.ne_of_lt z (a1.trans b1.symm)) fun z=>Int.ne_of_lt z.2 (a2.trans b2.symm)).elim
   ·exact z
   ·have:=ri k k' hkl hk' z
    rw[g k' hk',g k hkl] at this
    exact (this.elim (fun z=>Int.ne_of_lt z (b1.trans a1.symm)) fun z=>Int.ne_of_lt z.2 (b2.trans a2.symm)).elim
  rw[same];exact isk.2
def tlen (ts:List Tie) (u v:Nat):Int:=(tieAt ts ((tbN ts u v).getD 0)).2.2
def wl (ts:List Tie):List Nat->Int
 | u::v::r=>tlen ts u v + wl ts (v::r)
 | _=>0
def linked (ts:List Tie):List Nat->Prop
 | u::v::r=>(∃ k,tbN ts u v=some k∧k < ts.length)∧linked ts (v::r)
 | _=>True
theorem tr_last {A:List (Nat × Nat × Int)} {a v:Nat} {ws:List Nat} {x:Int} (h:Far.Tr A a ws v x):∃ r,ws=r++[v]:=by
 cases h with
 | one=>exact⟨[],rfl⟩
 | snoc _ _=>exact⟨_,rfl⟩
theorem wl_snoc (ts:List Tie) (u v:Nat):∀ r:List Nat,wl ts (r++[u]++[v])=wl ts (r++[u]) + tlen ts u v
 | []=>by show tlen ts u v + 0=0 + tlen ts u v;omega
 | [a]=>by show tlen ts a u + (tlen ts u v + 0)=tlen ts a u + 0 + tlen ts u v;omega
 | a::b::r=>by
  have:=wl_snoc ts u v (b::r)
  show tlen ts a b + wl ts ((b::r)++[u]++[v])=tlen ts a b + wl ts ((b::r)++[u]) + tlen ts u v
  rw[this];omega
theorem linked_snoc (ts:List Tie) (u v:Nat) (h:∃ k,tbN ts u v=some k∧k < ts.length):∀ r:List Nat,linked ts (r++[u])->linked ts (r++[u]++[v])
 | [],_=>⟨h,trivial⟩
 | [a],hl=>⟨hl.1,h,trivial⟩
 | a::b::r,hl=>⟨hl.1,linked_snoc ts u v h (b::r) hl.2⟩
theorem tr_wl {n:Int} {ts:List Tie} {ks:List Nat} (ok:WebOk n ts) (ko:KeepOk ts.length ks) {a v:Nat} {ws:List Nat} {x:Int} (h:Far.Tr (arcs ts ks) a ws v x):wl ts ws=x∧linked ts ws:=by
 induction h with
 | one=>exact⟨rfl,trivial⟩
 | @snoc ws u v x l t m ih =>
  obtain⟨r,rfl⟩:=tr_last t
  obtain⟨k,e1,e2,e3⟩:=tb_arc ok ko m
  refine⟨?_,linked_snoc ts u v ⟨k,e1,e2⟩ r ih.2⟩
  rw[wl_snoc,ih.1]
  unfold tlen
  rw[e1]
  show x + (tieAt ts k).2.2=x + l
  rw[e3]
/-- the numbers along a way -/
def alongN (ts:List Tie) (ws:List Nat):List Nat:=(List.range (ws.length - 1)).map fun i=>(tbN ts (ws.getD i 0) (ws.getD (i + 1) 0)).getD 0
def but (ks:List Nat) (k:Nat):List Nat:=ks.filter fun j=>decide (j≠k)
def withinB (t l:Int):Option Int->Bool
 | none=>false
 | some x=>decide (x≤t * l)
end L3
namespace Far
def sumP:List Nat->Nat
 | []=>0
 | k::r=>2 ^ k + sumP r
theorem sumP_perm {S S':List Nat} (h:S.Perm S'):sumP S=sumP S':=by
 induction h with
 | nil=>rfl
 | cons x _ ih=>show _ + _=_ + _;rw[ih]
 | swap x y l=>show 2 ^ y + (2 ^ x + sumP l)=2 ^ x + (2 ^ y + sumP l);omega
 | trans _ _ h1 h2=>exact h1.trans h2
theorem sumP_append (S:List Nat):∀ T:List Nat,sumP (S++T)=sumP S + sumP T:=by
 intro T
 induction S with
 | nil=>show sumP T=0 + sumP T;omega
 | cons k r ih=>show 2 ^ k + sumP (r++T)=2 ^ k + sumP r + sumP T;rw[ih];omega
theorem sumP_lt:∀ (m:Nat) {S:List Nat},S.Nodup->(∀ k ∈ S,k < m)->sumP S < 2 ^ m
 | 0,S,_,h=>by
  cases S with
  | nil=>exact Nat.zero_lt_one
  | cons k r=>exact absurd (h k List.mem_cons_self) (Nat.not_lt_zero _)
 | m + 1,S,nd,h=>by
  have e:2 ^ (m + 1)=2 ^ m + 2 ^ m:=by rw[Nat.pow_succ];omega
  by_cases c:m ∈ S
  ·have p:=List.perm_cons_erase c
   have nd':(m::S.erase m).Nodup:=p.nodup_iff.mp nd
   have:=sumP_lt m (S:=S.erase m) (List.nodup_cons.mp nd').2 fun k hk=>by
    have h1:=h k (List.mem_of_mem_erase hk)
    have h2:k≠m:=fun z=>(List.nodup_cons.mp nd').1 (z ▸ hk)
    omega
   rw[sumP_perm p,e]
   show 2 ^ m + sumP (S.erase m) < _
   omega
  ·have:=sumP_lt m nd fun k hk=>by
    have h1:=h k hk
    have h2:k≠m:=fun z=>c (z ▸ hk)
    omega
   omega
theorem sumP_inj:∀ (m:Nat) {S S':List Nat},S.Nodup->S'.Nodup->(∀ k ∈ S,k < m)->(∀ k ∈ S',k < m)->sumP S=sumP S'->∀ k,k ∈ S->k ∈ S'
 | 0,S,S',_,_,h,_,_,k,hk=>absurd (h k hk) (Nat.not_lt_zero _)
 | m + 1,S,S',nd,nd',h,h',e,k,hk=>by
  have lower:∀ {T:List Nat},T.Nodup->(∀ k ∈ T,k < m + 1)->m ∉ T->sumP T < 2 ^ m:=fun {T} n1 n2 n3=>sumP_lt m n1 fun j hj=>by
   have h1:=n2 j hj
   have h2:j≠m:=fun z=>n3 (z ▸ hj)
   omega
  by_cases c:m ∈ S
  ·have p:=List.perm_cons_erase c
   have ndp:(m::S.erase m).Nodup:=p.nodup_iff.mp nd
   have e1:sumP S=2 ^ m + sumP (S.erase m):=sumP_perm p
   by_cases c':m ∈ S'
   ·have p':=List.perm_cons_erase c'
    have ndp':(m::S'.erase m).Nodup:=p'.nodup_iff.mp nd'
    have e2:sumP S'=2 ^ m + sumP (S'.erase m):=sumP_perm p'
    by_cases z:k=m
    ·rw[z];exact c'
    ·have lt:∀ {T:List Nat},(m::T.erase m).Nodup->(∀ k ∈ T,k < m + 1)->∀ j ∈ T.erase m,j < m:=fun {T} n1 n2 j hj=>by
      have h1:=n2 j (List.mem_of_mem_erase hj)
      have h2:j≠m:=fun y=>(List.nodup_cons.mp n1).1 (y ▸ hj)
      omega
     have:=sumP_inj m (List.nodup_cons.mp ndp).2 (List.nodup_cons.mp ndp').2 (lt ndp h) (lt ndp' h') (by omega) k ((List.mem_erase_of_ne z).mpr hk)
     exact List.mem_of_mem_erase this
   ·have:=lower nd' h' c'
    omega
  ·by_cases c':m ∈ S'
   ·have e2:sumP S'=2 ^ m + sumP (S'.erase m):=sumP_perm (List.perm_cons_erase c')
    have:=lower nd h c
    omega
   ·have lt:∀ {T:List Nat},(∀ k ∈ T,k < m + 1)->m ∉ T->∀ j ∈ T,j < m:=fun {T} n1 n2 j hj=>by
     have h1:=n1 j hj
     have h2:j≠m:=fun y=>n2 (y ▸ hj)
     omega
    exact sumP_inj m nd nd' (lt h c) (lt h' c') e k hk
abbrev Arc:=Nat × Nat × Int × Nat
inductive Rt (B:List Arc) (a:Nat):List Nat->List Nat->Nat->Int->Int->Prop
 | one:Rt B a [a] [] a 0 0
 | snoc {ws S:List Nat} {u v:Nat} {x y l:Int} {k:Nat}:Rt B a ws S u x y->(u,v,l,k) ∈ B->v ∉ ws->Rt B a (ws++[v]) (S++[k]) v (x + l) (y + 2 ^ k)
structure Keys (B:List Arc):Prop where
 sym:∀ u v l k,(u,v,l,k) ∈ B->(v,u,l,k) ∈ B
 key:∀ u v l u' v' l' k,(u,v,l,k) ∈ B->(u',v',l',k) ∈ B->l'=l∧((u'=u∧v'=v)∨(u'=v∧v'=u))
 ne:∀ u v l k,(u,v,l,k) ∈ B->u≠v
 pos:∀ u v l k,(u,v,l,k) ∈ B->1≤l
 few:∀ u v l k,(u,v,l,k) ∈ B->k < 60
variable {B:List Arc} {a b:Nat} {ws S:List Nat} {x y:Int}
theorem Rt.last (h:Rt B a ws S b x y):b ∈ ws:=by
 cases h with
 | one=>exact List.mem_singleton.mpr rfl
 | snoc _ _ _=>exact List.mem_append_right _ (List.mem_singleton.mpr rfl)
theorem Rt.ends (K:Keys B) (h:Rt B a ws S b x y):∀ k ∈ S,∃ u v l,(u,v,l,k) ∈ B∧u ∈ ws∧v ∈ ws:=by
 induction h with
 | one=>intro k hk;cases hk
 | @snoc ws S u v x y l k r m nv ih =>
  intro j hj
  rcases List.mem_append.mp hj with hj | hj
  ·obtain⟨p,q,l',h1,h2,h3⟩:=ih j hj
   exact⟨p,q,l',h1,List.mem_append_left _ h2,List.mem_append_left _ h3⟩
  ·rw[List.mem_singleton.mp hj]
   exact⟨u,v,l,m,List.mem_append_left _ r.last,List.mem_append_right _ (List.mem_singleton.mpr rfl)⟩
theorem Rt.fresh (K:Keys B) (h:Rt B a ws S b x y) {u v:Nat} {l:Int} {k:Nat} (m:(u,v,l,k) ∈ B) (nv:v ∉ ws):k ∉ S:=fun hk=>by
 obtain⟨p,q,l',m',hp,hq⟩:=h.ends K k hk
 rcases (K.key _ _ _ _ _ _ _ m m').2 with ⟨e1,e2⟩ | ⟨e1,e2⟩
 ·exact nv (e2 ▸ hq)
 ·exact nv (e1 ▸ hp)
theorem Rt.nodup (K:Keys B) (h:Rt B a ws S b x y):S.Nodup:=by
 induction h with
 | one=>exact List.nodup_nil
 | @snoc ws S u v x y l k r m nv ih =>
  refine List.nodup_append.mpr ⟨ih,by simp,fun p hp q hq z=>?_⟩
  rw[List.mem_singleton.mp hq] at z
  exact r.fresh K m nv (z ▸ hp)
theorem Rt.small (K:Keys B) (h:Rt B a ws S b x y):∀ k ∈ S,k < 60:=fun k hk=>let ⟨u,v,l,m,_⟩:=h.ends K k hk;K.few u v l k m
theorem Rt.sum (h:Rt B a ws S b x y):y=(sumP S:Nat):=by
 induction h with
 | one=>rfl
 | @snoc ws S u v x y l k r m nv ih =>
  rw[sumP_append,ih]
  show ((sumP S:Nat):Int) + 2 ^ k=((sumP S + (2 ^ k + 0):Nat):Int)
  have:((2 ^ k:Nat):Int)=(2:Int) ^ k:=by norm_cast
  omega
theorem Rt.lt (K:Keys B) (h:Rt B a ws S b x y):0≤y∧y < 2 ^ 60:=by
 have e:=h.sum
 have:=sumP_lt 60 (h.nodup K) (h.small K)
 have e2:((2 ^ 60:Nat):Int)=(2:Int) ^ 60:=by norm_cast
 omega
/-- the same sum of powers: the same route -/
theorem Rt.unique (K:Keys B) (h:Rt B a ws S b x y):∀ {ws' S':List Nat} {x':Int},Rt B a ws' S' b x' y->ws'=ws∧x'=x:=by
 induction h with
 | one =>
  intro ws' S' x' r
  generalize ey:(0:Int)=yy at r
  cases r with
  | one=>exact⟨rfl,rfl⟩
  | @snoc ws0 S0 u _ x0 y0 l k r m nv =>
   have p:=r.lt K
   have:(0:Int) < 2 ^ k:=Int.pow_pos (by decide)
   omega
 | @snoc ws0 S0 u v x0 y0 l k r m nv ih =>
  intro ws' S' x' r'
  have full:Rt B a (ws0++[v]) (S0++[k]) v (x0 + l) (y0 + 2 ^ k):=.snoc r m nv
  have se:sumP S'=sumP (S0++[k]):=by
   have e1:=r'.sum
   have e2:=full.sum
   omega
  have sub:=sumP_inj 60 (r'.nodup K) (full.nodup K) (r'.small K) (full.small K) se
  generalize ey:y0 + 2 ^ k=yy at r'
  cases r' with
  | one =>
   have p:=r.lt K
   have:(0:Int) < 2 ^ k:=Int.pow_pos (by decide)
   omega
  | @snoc ws1 S1 u1 _ x1 y1 l1 k1 r1 m1 nv1 =>
   have in1:=sub k1 (List.mem_append_right _ (List.mem_singleton.mpr rfl))
   have k1k:k1=k:=by
    rcases List.mem_append.mp in1 with z | z
    ·exact absurd z (r.fresh K m1 nv)
    ·exact List.mem_singleton.mp z
   subst k1k
   obtain⟨el,eu⟩:=K.key _ _ _ _ _ _ _ m m1
   have uu:u1=u:=by
    rcases eu with ⟨e,_⟩ | ⟨e,e'⟩
    ·exact e
    ·exact absurd e' (K.ne _ _ _ _ m).symm
   subst uu
   have yy1:y1=y0:=by omega
   subst yy1
   obtain⟨e1,e2⟩:=ih r1
   exact⟨by rw[e1],by rw[e2,el]⟩
theorem Rt.cons (K:Keys B) {u:Nat} {l:Int} {k:Nat} (m:(u,a,l,k) ∈ B) (h:Rt B a ws S b x y):u ∉ ws->Rt B u (u::ws) (k::S) b (x + l) (y + 2 ^ k):=by
 induction h with
 | one =>
  intro nu
  have:Rt B u ([u]++[a]) ([]++[k]) a (0 + l) (0 + 2 ^ k):=.snoc .one m (fun z=>nu (by rw[List.mem_singleton] at z ⊢;exact z.symm))
  exact this
 | @snoc ws S w v x y l' k' r m' nv ih =>
  intro nu
  have r2:=ih fun z=>nu (List.mem_append_left _ z)
  have:Rt B u ((u::ws)++[v]) ((k::S)++[k']) v (x + l + l') (y + 2 ^ k + 2 ^ k'):=.snoc r2 m' fun z=>by
   rcases List.mem_cons.mp z with z | z
   ·exact nu (List.mem_append_right _ (List.mem_singleton.mpr z.symm))
   ·exact nv z
  rw[Int.add_right_comm x l l',Int.add_right_comm y] at this
  exact this
theorem Rt.back (K:Keys B) (h:Rt B a ws S b x y):Rt B b ws.reverse S.reverse a x y:=by
 induction h with
 | one=>exact .one
 | @snoc ws S u v x y l k r m nv ih =>
  rw[List.reverse_append,List.reverse_append]
  exact ih.cons K (K.sym _ _ _ _ m) (fun z=>nv (List.mem_reverse.mp z))
end Far
namespace Far
structure Best (B:List Arc) (n s:Nat) (cs:List (Option (Int × Int))) (as:List (Option Nat)):Prop where
 len:cs.length=n
 alen:as.length=n
 start:get cs s=some (0,0)
 root:get as s=none
 has:∀ v c,get cs v=some c->v≠s->get as v≠none
 nn:∀ v c,get cs v=some c->0≤c.1
 stab:∀ u v l k c,(u,v,l,k) ∈ B->get cs u=some c->∃ c',get cs v=some c'∧¬ lt2 (c.1 + l,c.2 + 2 ^ k) c'
 arc:∀ v u,get as v=some u->∃ l k cu,(u,v,l,k) ∈ B∧get cs u=some cu∧get cs v=some (cu.1 + l,cu.2 + 2 ^ k)
/-- the way by the tree, from its root -/
inductive TPw (as:List (Option Nat)) (s:Nat):List Nat->Nat->Prop
 | root:TPw as s [s] s
 | step {ws:List Nat} {u v:Nat}:get as v=some u->TPw as s ws u->TPw as s (ws++[v]) v
section
variable {B:List Arc} {n s:Nat} {cs:List (Option (Int × Int))} {as:List (Option Nat)}
theorem Best.route (K:Keys B) (h:Best B n s cs as):∀ (m:Nat) (v:Nat) (c:Int × Int),get cs v=some c->c.1.toNat≤m->∃ ws S,Rt B s ws S v c.1 c.2∧TPw as s ws v∧∀ w ∈ ws,∃ cw,get cs w=some cw∧cw.1≤c.1:=by
 intro m
 induction m using Nat.strongRecOn with
 | ind m ih =>
  intro v c e hm
  by_cases vs:v=s
  ·subst vs
   rw[h.start] at e;cases e
   exact⟨[v],[],.one,.root,fun w hw=>by rw[List.mem_singleton.mp hw];exact⟨_,h.start,Int.le_refl _⟩⟩
  ·cases ea:get as v with
   | none=>exact absurd ea (h.has v c e vs)
   | some u =>
    obtain⟨l,k,cu,ma,eu,ev⟩:=h.arc v u ea
    rw[e] at ev;cases ev
    have l1:=K.pos _ _ _ _ ma
    have c0:=h.nn _ _ eu
    simp only at hm
    obtain⟨ws,S,r,tp,all⟩:=ih cu.1.toNat (by omega) u cu eu (Nat.le_refl _)
    have nv:v ∉ ws:=fun z=>by
     obtain⟨cw,e1,h1⟩:=all v z
     rw[e] at e1;cases e1
     simp only at h1;omega
    refine⟨ws++[v],S++[k],.snoc r ma nv,.step ea tp,fun w hw=>?_⟩
    rcases List.mem_append.mp hw with hw | hw
    ·obtain⟨cw,e1,h1⟩:=all w hw
     exact⟨cw,e1,by show cw.1≤cu.1 + l;omega⟩
    ·rw[List.mem_singleton.mp hw]
     exact⟨_,e,Int.le_refl _⟩
theorem Best.small (K:Keys B) (h:Best B n s cs as) {v:Nat} {c:Int × Int} (e:get cs v=some c):0≤c.2∧c.2 < 2 ^ 60:=by
 obtain⟨ws,S,r,_⟩:=h.route K _ v c e (Nat.le_refl _)
 exact r.lt K
/-- no route is less -/
theorem Best.least (h:Best B n s cs as) {ws S:List Nat} {v:Nat} {x y:Int} (r:Rt B s ws S v x y):∃ c,get cs v=some c∧¬ lt2 (x,y) c:=by
 induction r with
 | one=>exact⟨_,h.start,fun z=>by unfold lt2 at z;simp only at z;omega⟩
 | @snoc ws S u v x y l k r m nv ih =>
  obtain⟨c,e,hc⟩:=ih
  obtain⟨c',e',hc'⟩:=h.stab _ _ _ _ _ m e
  refine⟨c',e',fun z=>?_⟩
  unfold lt2 at *
  simp only at *
  omega
/-- both ways about the same -/
theorem Best.both (K:Keys B) {s':Nat} {cs':List (Option (Int × Int))} {as':List (Option Nat)} (h:Best B n s cs as) (h':Best B n s' cs' as'):get cs s'=get cs' s:=by
 have one:∀ {a b:Nat} {c1 c2:List (Option (Int × Int))} {a1 a2:List (Option Nat)} {d:Int × Int},Best B n a c1 a1->Best B n b c2 a2->get c1 b=some d->∃ d',get c2 a=some d'∧¬ lt2 d d':=fun {a b c1 c2 a1 a2 d} g1 g2 e=>by
  obtain⟨ws,S,r,_⟩:=g1.route K _ b d e (Nat.le_refl _)
  exact g2.least (r.back K)
 cases e:get cs s' with
 | none =>
  cases e':get cs' s with
  | none=>rfl
  | some d=>obtain⟨d',e2,_⟩:=one h' h e';rw[e] at e2;cases e2
 | some d =>
  obtain⟨d',e2,n1⟩:=one h h' e
  obtain⟨d2,e3,n2⟩:=one h' h e2
  rw[e] at e3;cases e3
  rw[e2]
  congr 1
  unfold lt2 at n1 n2
  exact Prod.ext (by omega) (by omega)
/-- the way by the one tree is the way by the other, turned about -/
theorem Best.turned (K:Keys B) {s':Nat} {cs':List (Option (Int × Int))} {as':List (Option Nat)} (h:Best B n s cs as) (h':Best B n s' cs' as') {ws ws':List Nat} (t:TPw as s ws s') (t':TPw as' s' ws' s) {c:Int × Int} (e:get cs s'=some c):ws'=ws.reverse:=by
 have tp_unique:∀ {as:List (Option Nat)} {s v:Nat} {ws ws':List Nat},get as s=none->TPw as s ws v->TPw as s ws' v->ws'=ws:=by
  intro as s v ws ws' hr t
  induction t generalizing ws' with
  | root =>
   intro t'
   cases t' with
   | root=>rfl
   | step e _=>rw[hr] at e;cases e
  | step e t ih =>
   intro t'
   cases t' with
   | root=>rw[hr] at e;cases e
   | step e' t'=>rw[e] at e';cases e';rw[ih t']
 obtain⟨w1,S1,r1,p1,_⟩:=h.route K _ s' c e (Nat.le_refl _)
 have e':get cs' s=some c:=by rw[← h.both K h'];exact e
 obtain⟨w2,S2,r2,p2,_⟩:=h'.route K _ s c e' (Nat.le_refl _)
 rw[tp_unique h.root p1 t,tp_unique h'.root p2 t']
 have:=(r2.unique K (r1.back K)).1
 exact this.symm
/-- the tree is told by its weights -/
theorem Best.tree (K:Keys B) (h:Best B n s cs as) {u v:Nat} {l:Int} {k:Nat} {cu:Int × Int} (m:(u,v,l,k) ∈ B) (eu:get cs u=some cu) (ev:get cs v=some (cu.1 + l,cu.2 + 2 ^ k)):get as v=some u:=by
 have l1:=K.pos _ _ _ _ m
 have c0:=h.nn _ _ eu
 have vs:v≠s:=fun z=>by
  rw[z,h.start] at ev
  have:(0:Int)=cu.1 + l:=congrArg (fun o:Option (Int × Int)=>(o.getD (0,0)).1) ev
  omega
 cases ea:get as v with
 | none=>exact absurd ea (h.has v _ ev vs)
 | some u0 =>
  obtain⟨l0,k0,c0',m0,e0,ev0⟩:=h.arc v u0 ea
  have mk:∀ {u:Nat} {l:Int} {k:Nat} {cu:Int × Int},(u,v,l,k) ∈ B->get cs u=some cu->get cs v=some (cu.1 + l,cu.2 + 2 ^ k)->∃ r S,Rt B s (r++[u]++[v]) S v (cu.1 + l) (cu.2 + 2 ^ k):=fun {u l k cu} m eu ev=>by
   obtain⟨ws,S,r,tp,all⟩:=h.route K _ u cu eu (Nat.le_refl _)
   have nv:v ∉ ws:=fun z=>by
    obtain⟨cw,e1,h1⟩:=all v z
    rw[ev] at e1;cases e1
    have:=K.pos _ _ _ _ m
    simp only at h1;omega
   obtain⟨q,rfl⟩:∃ q,ws=q++[u]:=by
    cases tp with
    | root=>exact⟨[],rfl⟩
    | step _ _=>exact⟨_,rfl⟩
   exact⟨q,_,.snoc r m nv⟩
  obtain⟨r1,S1,t1⟩:=mk m eu ev
  obtain⟨r2,S2,t2⟩:=mk m0 e0 ev0
  have e2:c0'.2 + 2 ^ k0=cu.2 + 2 ^ k:=congrArg (fun o:Option (Int × Int)=>(o.getD (0,0)).2) (ev0.symm.trans ev)
  rw[e2] at t2
  have:=(t1.unique K t2).1
  have z1:(r2++[u0])=(r1++[u]):=List.append_cancel_right this
  have z2:=congrArg List.getLast? z1
  simp at z2
  rw[z2]
end
/-- lengths and powers in one number -/
def comb (c:Int × Int):Int:=c.1 * 2 ^ 61 + c.2
def arcsC (B:List Arc):List (Nat × Nat × Int):=B.map fun b=>(b.1,b.2.1,b.2.2.1 * 2 ^ 61 + 2 ^ b.2.2.2)
theorem arcsC_mem {B:List Arc} {u v:Nat} {L:Int}:(u,v,L) ∈ arcsC B↔∃ l k,(u,v,l,k) ∈ B∧L=l * 2 ^ 61 + 2 ^ k:=by
 unfold arcsC
 rw[List.mem_map]
 constructor
 ·rintro ⟨⟨a,b,l,k⟩,h,e⟩
  cases e
  exact⟨l,k,h,rfl⟩
 ·rintro ⟨l,k,h,rfl⟩
  exact⟨(u,v,l,k),h,rfl⟩
section
variable {B:List Arc} {n s:Nat} {cs:List (Option (Int × Int))} {as:List (Option Nat)}
theorem two_pos (k:Nat):(1:Int)≤2 ^ k:=Int.pow_pos (by decide)
theorem arcsC_sym (K:Keys B):Sym (arcsC B):=fun u v L h=>by
 obtain⟨l,k,m,rfl⟩:=arcsC_mem.mp h
 exact arcsC_mem.mpr ⟨l,k,K.sym _ _ _ _ m,rfl⟩
theorem Best.dst (K:Keys B) (h:Best B n s cs as) (v:Nat):Dst (arcsC B) s v ((get cs v).map comb):=by
 refine⟨fun y e=>?_,fun L w=>?_⟩
 ·cases ec:get cs v with
  | none=>rw[ec] at e;cases e
  | some c =>
   rw[ec] at e;cases e
   obtain⟨ws,S,r,_⟩:=h.route K _ v c ec (Nat.le_refl _)
   have go:∀ {ws S:List Nat} {v:Nat} {x y:Int},Rt B s ws S v x y->Walk (arcsC B) s v (comb (x,y)):=by
    intro ws S v x y r
    induction r with
    | one=>exact .nil
    | @snoc ws S u v x y l k r m nv ih =>
     have:=Walk.snoc ih (arcsC_mem.mpr ⟨l,k,m,rfl⟩)
     have e:comb (x + l,y + 2 ^ k)=comb (x,y) + (l * 2 ^ 61 + 2 ^ k):=by unfold comb;simp only;omega
     rw[e];exact this
   exact go r
 ·have:∃ c,get cs v=some c∧comb c≤L:=by
   induction w with
   | nil=>exact⟨_,h.start,by decide⟩
   | @snoc u v l x w m ih =>
    obtain⟨c,e,hc⟩:=ih
    obtain⟨l',k,m',rfl⟩:=arcsC_mem.mp m
    obtain⟨c',e',hc'⟩:=h.stab _ _ _ _ _ m' e
    refine⟨c',e',?_⟩
    have s1:=h.small K e
    have s2:=h.small K e'
    have:=two_pos k
    unfold comb at *
    unfold lt2 at hc'
    simp only at hc'
    omega
  obtain⟨c,e,hc⟩:=this
  exact⟨comb c,by rw[e];rfl,hc⟩
theorem comb_inj {c d:Int × Int} (hc:0≤c.2∧c.2 < 2 ^ 61) (hd:0≤d.2∧d.2 < 2 ^ 61) (e:comb c=comb d):c=d:=by
 unfold comb at e
 exact Prod.ext (by omega) (by omega)
end
end Far
namespace Far
variable {B:List Arc} {A:List (Nat × Nat × Int)} {n s:Nat}
structure Run (B:List Arc) (s:Nat) (cs:List (Option (Int × Int))) (as:List (Option Nat)):Prop where
 len:as.length=cs.length
 start:get cs s=some (0,0)
 root:get as s=none
 has:∀ v c,get cs v=some c->v≠s->get as v≠none
 arc:∀ v u,get as v=some u->∃ l k cu cv,(u,v,l,k) ∈ B∧get cs u=some cu∧get cs v=some cv∧¬ lt2 cv (cu.1 + l,cu.2 + 2 ^ k)
theorem Run.step {u v:Nat} {l:Int} {k:Nat} {cs:List (Option (Int × Int))} {as:List (Option Nat)} {c:Int × Int} (P:Pos A) (g:Good A n s cs) (a:Run B s cs as) (m:(u,v,l) ∈ A) (mB:(u,v,l,k) ∈ B) (hv:v < n) (hu:get cs u=some c)
  (h:get cs v=none∨∃ c',get cs v=some c'∧lt2 (c.1 + l,c.2 + 2 ^ k) c'):Run B s (cs.set v (some (c.1 + l,c.2 + 2 ^ k))) (as.set v (some u)):=by
 have hc:v < cs.length:=by rw[g.len];exact hv
 have ha:v < as.length:=by rw[a.len];exact hc
 have l1:=P _ _ _ m
 have c0:=(g.walk _ _ hu).nonneg P
 have vs:v≠s:=fun z=>by
  rw[z] at h
  rcases h with h | ⟨c',h,hl⟩
  ·rw[a.start] at h;cases h
  ·rw[a.start] at h;cases h
   unfold lt2 at hl;simp only at hl;omega
 have uv:u≠v:=fun z=>by
  rcases h with h | ⟨c',h,hl⟩
  ·rw[← z,hu] at h;cases h
  ·rw[← z,hu] at h;cases h
   unfold lt2 at hl;simp only at hl;omega
 refine⟨by rw[List.length_set,List.length_set];exact a.len,by rw[get_set hc,if_neg (Ne.symm vs)];exact a.start,?_,fun x d e hx=>?_,fun x y e=>?_⟩
 ·rw[get_set ha,if_neg (Ne.symm vs)];exact a.root
 ·rw[get_set ha]
  split
  ·exact fun z=>by cases z
  ·rename_i xv
   rw[get_set hc,if_neg xv] at e
   exact a.has x d e hx
 ·rw[get_set ha] at e
  split at e
  ·rename_i z;subst z;cases e
   refine⟨l,k,c,_,mB,by rw[get_set hc,if_neg uv];exact hu,by rw[get_set hc,if_pos rfl],fun z=>?_⟩
   unfold lt2 at z;omega
  ·rename_i xv
   obtain⟨l',k',cu,cv,m',e1,e2,hle⟩:=a.arc x y e
   by_cases yv:y=v
   ·subst yv
    refine⟨l',k',_,cv,m',by rw[get_set hc,if_pos rfl],by rw[get_set hc,if_neg xv];exact e2,fun z=>?_⟩
    rcases h with h | ⟨c',h,hl⟩
    ·rw[h] at e1;cases e1
    ·rw[h] at e1;cases e1
     unfold lt2 at hl hle z
     simp only at hl hle z
     omega
   ·exact⟨l',k',cu,cv,m',by rw[get_set hc,if_neg yv];exact e1,by rw[get_set hc,if_neg xv];exact e2,hle⟩
theorem Run.first (hs:s < n):Run B s ((List.replicate n none).set s (some (0,0))) (List.replicate n none):=by
 have hl:s < (List.replicate n (none:Option (Int × Int))).length:=by rw[List.length_replicate];exact hs
 refine⟨by rw[List.length_set,List.length_replicate,List.length_replicate],by rw[get_set hl,if_pos rfl],get_rep _ _,fun v c e hv=>?_,fun v u e=>?_⟩
 ·rw[get_set hl,if_neg hv,get_rep] at e;cases e
 ·rw[get_rep] at e;cases e
def Stab2 (B:List Arc) (cs:List (Option (Int × Int))):Prop:=∀ u v l k c,(u,v,l,k) ∈ B->get cs u=some c->∃ c',get cs v=some c'∧¬ lt2 (c.1 + l,c.2 + 2 ^ k) c'
def PS2 (c0:List (Option (Int × Int))) (R:Arc->Prop) (cs:List (Option (Int × Int))) (ag:Bool):Prop :=
 (ag=false∧cs=c0∧∀ u v l k c,R (u,v,l,k)->get c0 u=some c->∃ c',get c0 v=some c'∧¬ lt2 (c.1 + l,c.2 + 2 ^ k) c')∨(ag=true∧mu cs < mu c0)
def plusA (R:Arc->Prop) (a:Arc):Arc->Prop:=fun b=>R b∨b=a
section
variable {c0 cs:List (Option (Int × Int))} {R R':Arc->Prop} {ag:Bool} {u v k:Nat} {l:Int}
theorem PS2.less (h:PS2 c0 R cs ag) (z:∀ a,R' a->R a):PS2 c0 R' cs ag:=h.elim (fun ⟨a,b,c⟩=>.inl ⟨a,b,fun u v l k c' y=>c u v l k c' (z _ y)⟩) .inr
theorem PS2.no (h:PS2 c0 R cs ag) (hu:get cs u=none):PS2 c0 (plusA R (u,v,l,k)) cs ag:=by
 rcases h with ⟨a,b,c⟩ | h
 ·refine .inl ⟨a,b,fun u' v' l' k' c' z e=>?_⟩
  rcases z with z | z
  ·exact c _ _ _ _ _ z e
  ·cases z;rw[← b,hu] at e;cases e
 ·exact .inr h
theorem PS2.old (h:PS2 c0 R cs ag) {c d:Int × Int} (hu:get cs u=some c) (hv:get cs v=some d) (hn:¬ lt2 (c.1 + l,c.2 + 2 ^ k) d):PS2 c0 (plusA R (u,v,l,k)) cs ag:=by
 rcases h with ⟨a,b,z⟩ | h
 ·refine .inl ⟨a,b,fun u' v' l' k' c' y e=>?_⟩
  rcases y with y | y
  ·exact z _ _ _ _ _ y e
  ·cases y
   subst b
   rw[hu] at e;cases e
   exact⟨d,hv,hn⟩
 ·exact .inr h
theorem PS2.put (h:PS2 c0 R cs ag) {cs':List (Option (Int × Int))} (hm:mu cs' < mu cs):PS2 c0 (plusA R (u,v,l,k)) cs' true:=by
 rcases h with ⟨a,b,c⟩ | h
 ·exact .inr ⟨rfl,by rw[← b];exact hm⟩
 ·exact .inr ⟨rfl,Nat.lt_trans hm h.2⟩
end
theorem Run.best {cs:List (Option (Int × Int))} {as:List (Option Nat)} (P:Pos A) (g:Good A n s cs) (r:Run B s cs as) (st:Stab2 B cs):Best B n s cs as:=by
 refine⟨g.len,by rw[r.len];exact g.len,r.start,r.root,r.has,fun v c e=>(g.walk v c e).nonneg P,st,fun v u e=>?_⟩
 obtain⟨l,k,cu,cv,m,e1,e2,n1⟩:=r.arc v u e
 obtain⟨c',e3,n2⟩:=st _ _ _ _ _ m e1
 rw[e2] at e3;cases e3
 refine⟨l,k,cu,m,e1,?_⟩
 rw[e2]
 congr 1
 unfold lt2 at n1 n2
 simp only at n1 n2
 exact Prod.ext (by show cv.1=cu.1 + l;omega) (by show cv.2=cu.2 + 2 ^ k;omega)
end Far
namespace L3
open PySem PySem.Spec PyProof.Rows L2
def arcs2B (t:Tie) (k:Nat):List Far.Arc:=[(t.1.toNat,t.2.1.toNat,t.2.2,k),(t.2.1.toNat,t.1.toNat,t.2.2,k)]
def arcsB (ts:List Tie) (ks:List Nat):List Far.Arc:=ks.flatMap fun k=>arcs2B (tieAt ts k) k
theorem arcsB_mem {ts:List Tie} {ks:List Nat} {a:Far.Arc}:a ∈ arcsB ts ks↔∃ k,k ∈ ks∧a ∈ arcs2B (tieAt ts k) k:=by
 unfold arcsB;rw[List.mem_flatMap]
theorem arcs2B_mem {t:Tie} {k:Nat} {a:Far.Arc}:a ∈ arcs2B t k↔a=(t.1.toNat,t.2.1.toNat,t.2.2,k)∨a=(t.2.1.toNat,t.1.toNat,t.2.2,k):=by
 unfold arcs2B;simp
theorem arcsB_take {ts:List Tie} {ks:List Nat} {i k:Nat} (h:ks[i]?=some k) {a:Far.Arc} (m:a ∈ arcsB ts (ks.take (i + 1))):a ∈ arcsB ts (ks.take i)∨a ∈ arcs2B (tieAt ts k) k:=by
 obtain⟨j,hj,m⟩:=arcsB_mem.mp m
 rw[take_next h] at hj
 rcases List.mem_append.mp hj with hj | hj
 ·exact .inl (arcsB_mem.mpr ⟨j,hj,m⟩)
 ·rw[List.mem_singleton.mp hj] at m;exact .inr m
theorem arcsB_keys {n:Int} {ts:List Tie} {ks:List Nat} (ok:WebOk n ts) (ko:KeepOk ts.length ks):Far.Keys (arcsB ts ks):=by
 have at_:∀ {u v l k},(u,v,l,k) ∈ arcsB ts ks->k < ts.length∧((u=(tieAt ts k).1.toNat∧v=(tieAt ts k).2.1.toNat)∨(u=(tieAt ts k).2.1.toNat∧v=(tieAt ts k).1.toNat))∧l=(tieAt ts k).2.2∧k ∈ ks:=fun {u v l k} h=>by
  obtain⟨j,hj,m⟩:=arcsB_mem.mp h
  rcases arcs2B_mem.mp m with e | e <;> cases e
  ·exact⟨ko.2 _ hj,.inl ⟨rfl,rfl⟩,rfl,hj⟩
  ·exact⟨ko.2 _ hj,.inr ⟨rfl,rfl⟩,rfl,hj⟩
 refine⟨fun u v l k h=>?_,fun u v l u' v' l' k h h'=>?_,fun u v l k h=>?_,fun u v l k h=>?_,fun u v l k h=>?_⟩
 ·obtain⟨_,e,rfl,hk⟩:=at_ h
  refine arcsB_mem.mpr ⟨k,hk,arcs2B_mem.mpr ?_⟩
  rcases e with ⟨rfl,rfl⟩ | ⟨rfl,rfl⟩
  ·exact .inr rfl
  ·exact .inl rfl
 ·obtain⟨_,e,rfl,_⟩:=at_ h
  obtain⟨_,e',rfl,_⟩:=at_ h'
  refine⟨rfl,?_⟩
  rcases e with ⟨rfl,rfl⟩ | ⟨rfl,rfl⟩ <;> rcases e' with ⟨rfl,rfl⟩ | ⟨rfl,rfl⟩
  ·exact .inl ⟨rfl,rfl⟩
  ·exact .inr ⟨rfl,rfl⟩
  ·exact .inr ⟨rfl,rfl⟩
  ·exact .inl ⟨rfl,rfl⟩
 ·obtain⟨hk,e,_,_⟩:=at_ h
  have:=ok.tie _ (tieAt_in hk).2
  rcases e with ⟨rfl,rfl⟩ | ⟨rfl,rfl⟩ <;> omega
 ·obtain⟨hk,_,e,_⟩:=at_ h
  have:=ok.tie _ (tieAt_in hk).2
  omega
 ·obtain⟨hk,_⟩:=at_ h
  have:=ok.few
  omega
theorem arcsB_in {n:Int} {ts:List Tie} {ks:List Nat} (ok:WebOk n ts) (ko:KeepOk ts.length ks) {u v k:Nat} {l:Int} (h:(u,v,l,k) ∈ arcsB ts ks):u < n.toNat∧v < n.toNat:=by
 obtain⟨j,hj,m⟩:=arcsB_mem.mp h
 have:=ok.tie _ (tieAt_in (ko.2 j hj)).2
 rcases arcs2B_mem.mp m with e | e <;> cases e <;> omega
def spReachedB (K:PySem.W.Frag):Sp:=fun vs H Q _=>∃ n ts ks wv kv r,vs=[wv,kv,.int r]∧WK K H n ts ks wv kv∧0≤r∧r < n ∧
 ∀ (p lc la:Addr) (cvs:List V) (as:List (Option Nat)) (cs:List (Option (Int × Int))) (H':Hp),Same H H'->H' p=some (.tup [.ref lc,.ref la])->H' lc=some (.lst cvs)->H' la=some (.lst (as.map oa))->CostL H' cvs cs->Far.Best (arcsB ts ks) n.toNat r.toNat cs as->Q (.ref p) H'
def spTreeB (K:PySem.W.Frag):Sp:=fun vs H Q _=>∃ n ts ks wv kv r,vs=[wv,kv,.int r]∧WK K H n ts ks wv kv∧0≤r∧r < n ∧
 ∀ (p:Addr) (as:List (Option Nat)) (cs:List (Option (Int × Int))) (H':Hp),Same H H'->H' p=some (.tup (as.map oa))->Far.Best (arcsB ts ks) n.toNat r.toNat cs as->Q (.ref p) H'
/-- the way from a to b by the tree of b -/
def WayB (H:Hp) (B:List Far.Arc) (n a b:Nat) (v:V):Prop:=∃ cs as,Far.Best B n b cs as∧((v=.non∧Far.get cs a=none)∨∃ t ws c,v=.ref t∧H t=some (.tup (natV ws))∧ws.length≤24∧Far.get cs a=some c∧Far.TPw as b ws.reverse a)
def spWayB (K:PySem.W.Frag):Sp:=fun vs H Q _=>∃ n ts ks wv kv a b,vs=[wv,kv,.int a,.int b]∧WK K H n ts ks wv kv∧0≤a∧a < n∧0≤b∧b < n∧∀ v H',Same H H'->WayB H' (arcsB ts ks) n.toNat a.toNat b.toNat v->Q v H'
end L3
namespace Far
def arcsF (B:List Arc):List (Nat × Nat × Int):=B.map fun b=>(b.1,b.2.1,b.2.2.1)
theorem arcsF_mem {B:List Arc} {u v:Nat} {l:Int}:(u,v,l) ∈ arcsF B↔∃ k,(u,v,l,k) ∈ B:=by
 unfold arcsF
 rw[List.mem_map]
 constructor
 ·rintro ⟨⟨a,b,l',k⟩,h,e⟩
  cases e
  exact⟨k,h⟩
 ·rintro ⟨k,h⟩
  exact⟨(u,v,l,k),h,rfl⟩
section
variable {B:List Arc} {n s:Nat} {cs:List (Option (Int × Int))} {as:List (Option Nat)} {a b:Nat} {ws S:List Nat} {x y:Int}
theorem tp_unique {v:Nat} {ws ws':List Nat} (hr:get as s=none) (t:TPw as s ws v):TPw as s ws' v->ws'=ws:=by
 induction t generalizing ws' with
 | root =>
  intro t'
  cases t' with
  | root=>rfl
  | step e _=>rw[hr] at e;cases e
 | step e t ih =>
  intro t'
  cases t' with
  | root=>rw[hr] at e;cases e
  | step e' t'=>rw[e] at e';cases e';rw[ih t']
theorem Best.rt (K:Keys B) (h:Best B n s cs as) {v:Nat} {c:Int × Int} (t:TPw as s ws v) (e:get cs v=some c):∃ S,Rt B s ws S v c.1 c.2:=by
 obtain⟨w1,S1,r1,p1,_⟩:=h.route K _ v c e (Nat.le_refl _)
 rw[tp_unique h.root p1 t]
 exact⟨S1,r1⟩
theorem Rt.walk (r:Rt B a ws S b x y):Walk (arcsF B) a b x:=by
 induction r with
 | one=>exact .nil
 | snoc r m nv ih=>exact .snoc ih (arcsF_mem.mpr ⟨_,m⟩)
theorem Rt.tr (r:Rt B a ws S b x y):Tr (arcsF B) a ws b x:=by
 induction r with
 | one=>exact .one
 | snoc r m nv ih=>exact .snoc ih (arcsF_mem.mpr ⟨_,m⟩)
theorem Best.dst1 (K:Keys B) (h:Best B n s cs as) (v:Nat):Dst (arcsF B) s v ((get cs v).map (·.1)):=by
 refine⟨fun y e=>?_,fun L w=>?_⟩
 ·cases ec:get cs v with
  | none=>rw[ec] at e;cases e
  | some c =>
   rw[ec] at e;cases e
   obtain⟨ws,S,r,_⟩:=h.route K _ v c ec (Nat.le_refl _)
   exact r.walk
 ·have:∃ c,get cs v=some c∧c.1≤L:=by
   induction w with
   | nil=>exact⟨_,h.start,Int.le_refl _⟩
   | @snoc u v l x w m ih =>
    obtain⟨c,e,hc⟩:=ih
    obtain⟨k,m'⟩:=arcsF_mem.mp m
    obtain⟨c',e',hc'⟩:=h.stab _ _ _ _ _ m' e
    refine⟨c',e',?_⟩
    unfold lt2 at hc'
    simp only at hc'
    omega
  obtain⟨c,e,hc⟩:=this
  exact⟨c.1,by rw[e];rfl,hc⟩
theorem Rt.len (r:Rt B a ws S b x y):ws.length=S.length + 1:=by
 induction r with
 | one=>rfl
 | snoc r m nv ih=>rw[List.length_append,List.length_append,ih];rfl
theorem Rt.unlike (r:Rt B a ws S b x y):ws.Nodup:=by
 induction r with
 | one=>simp
 | snoc r m nv ih =>
  refine List.nodup_append.mpr ⟨ih,by simp,fun p hp q hq z=>?_⟩
  rw[List.mem_singleton.mp hq] at z
  exact nv (z ▸ hp)
theorem Rt.head (r:Rt B a ws S b x y):∃ q,ws=a::q:=by
 induction r with
 | one=>exact⟨[],rfl⟩
 | snoc r m nv ih=>obtain⟨q,rfl⟩:=ih;exact⟨q++[_],rfl⟩
theorem Rt.foot (r:Rt B a ws S b x y):∃ q,ws=q++[b]:=by
 cases r with
 | one=>exact⟨[],rfl⟩
 | snoc r m nv=>exact⟨_,rfl⟩
theorem Rt.step (r:Rt B a ws S b x y):∀ {i k:Nat},S[i]?=some k->∃ u v l,ws[i]?=some u∧ws[i + 1]?=some v∧(u,v,l,k) ∈ B:=by
 induction r with
 | one=>intro i k h;cases h
 | @snoc ws S u v x y l k r m nv ih =>
  intro i j h
  have len:=r.len
  by_cases c:i < S.length
  ·rw[List.getElem?_append_left c] at h
   obtain⟨p,q,l',h1,h2,h3⟩:=ih h
   exact⟨p,q,l',by rw[List.getElem?_append_left (by omega)];exact h1,by rw[List.getElem?_append_left (by omega)];exact h2,h3⟩
  ·have hi:i < (S++[k]).length:=(List.getElem?_eq_some_iff.mp h).1
   rw[List.length_append,List.length_singleton] at hi
   have e:i=S.length:=by omega
   subst e
   rw[List.getElem?_append_right (Nat.le_refl _),Nat.sub_self] at h
   cases h
   obtain⟨q,rfl⟩:=r.foot
   rw[List.length_append,List.length_singleton] at len
   refine⟨u,v,l,?_,?_,m⟩
   ·rw[List.getElem?_append_left (by rw[List.length_append,List.length_singleton];omega),List.getElem?_append_right (by omega)]
    rw[show S.length - q.length=0 by omega];rfl
   ·rw[List.getElem?_append_right (by rw[List.length_append,List.length_singleton];omega),List.length_append,List.length_singleton]
    rw[show S.length + 1 - (q.length + 1)=0 by omega];rfl
theorem Rt.places (r:Rt B a ws S b x y) {N:Nat} (ha:a < N) (inn:∀ u v l k,(u,v,l,k) ∈ B->u < N∧v < N):∀ p ∈ ws,p < N:=by
 induction r with
 | one=>intro p hp;rw[List.mem_singleton.mp hp];exact ha
 | snoc r m nv ih =>
  intro p hp
  rcases List.mem_append.mp hp with hp | hp
  ·exact ih p hp
  ·rw[List.mem_singleton.mp hp];exact (inn _ _ _ _ m).2
theorem Rt.lens (r:Rt B a ws S b x y) {f:Nat->Int} (hf:∀ u v l k,(u,v,l,k) ∈ B->f k=l):(S.map f).sum=x:=by
 induction r with
 | one=>rfl
 | snoc r m nv ih =>
  rw[List.map_append,List.sum_append,ih,List.map_cons,List.map_nil,List.sum_cons,List.sum_nil,hf _ _ _ _ m]
  omega
/-- the least of the routes from a to b -/
structure Uni (B:List Arc) (a b:Nat) (ws S:List Nat) (x y:Int):Prop where
 rt:Rt B a ws S b x y
 least:∀ ws' S' x' y',Rt B a ws' S' b x' y'->¬ lt2 (x',y') (x,y)
theorem Uni.unique (K:Keys B) {ws' S':List Nat} {x' y':Int} (h:Uni B a b ws S x y) (h':Uni B a b ws' S' x' y'):ws'=ws∧x'=x:=by
 have n1:=h.least _ _ _ _ h'.rt
 have n2:=h'.least _ _ _ _ h.rt
 have e:y'=y:=by unfold lt2 at n1 n2;simp only at n1 n2;omega
 have r':=h'.rt
 rw[e] at r'
 exact h.rt.unique K r'
/-- the way from a to b by the tree of b -/
theorem Best.uni (K:Keys B) (h:Best B n s cs as) {v:Nat} {c:Int × Int} (t:TPw as s ws.reverse v) (e:get cs v=some c):∃ S,Uni B v s ws S c.1 c.2:=by
 obtain⟨S,r⟩:=h.rt K t e
 have rb:=r.back K
 rw[List.reverse_reverse] at rb
 refine⟨_,rb,fun ws' S' x' y' r' z=>?_⟩
 obtain⟨c',e',n'⟩:=h.least (r'.back K)
 rw[e] at e';cases e'
 exact n' z
end
end Far
namespace HT
open PySem PyProof.Rows
section
variable {prog:Program} {w:World} {A:Around} {E:Value->Shared->Prop} {s:Shared}
/-- what set(..) of ns holds, how many -/
abbrev setS (ns:List Int) (m:Nat):Int->Bool:=fun x=>(firstMet (fun i=>ns.getD i 0) m).any fun y=>y == x
abbrev setN (ns:List Int) (m:Nat):Nat:=(firstMet (fun i=>ns.getD i 0) m).length
theorem tup_push {h:Heap} {t:Addr} {xs:Array Value} (it:h.IsTuple t xs) (o:Obj):(h.push o).IsTuple t xs:=let ⟨ob,e,r⟩:=it;⟨ob,Heap.get?_push_of_some _ e,r⟩
end
end HT
namespace L3
open PySem PySem.Spec PyProof.Rows L2
section
variable {X:Cx}
end
end L3
namespace L3
open PySem PySem.Spec PyProof.Rows L2
end L3
namespace L3
open PySem PySem.Spec PyProof.Rows L2
end L3
namespace L3
open PySem PySem.Spec PyProof.Rows L2
theorem arcsF_eq (ts:List Tie) (ks:List Nat):Far.arcsF (arcsB ts ks)=arcs ts ks:=by
 unfold arcs Far.arcsF arcsB
 rw[List.map_flatMap]
 rfl
theorem arcs_symm {n:Int} {ts:List Tie} {ks:List Nat} (ok:WebOk n ts) (ko:KeepOk ts.length ks):Far.Sym (arcs ts ks):=fun u v l h=>by
 rw[← arcsF_eq] at h ⊢
 obtain⟨k,m⟩:=Far.arcsF_mem.mp h
 exact Far.arcsF_mem.mpr ⟨k,(arcsB_keys ok ko).sym _ _ _ _ m⟩
/-- what is reached, with the least costs and their tree, and the distances -/
def spReachedC (K:PySem.W.Frag):Sp:=fun vs H Q _=>∃ n ts ks wv kv r,vs=[wv,kv,.int r]∧WK K H n ts ks wv kv∧0≤r∧r < n ∧
 ∀ (p lc la:Addr) (cvs:List V) (as:List (Option Nat)) (cs:List (Option (Int × Int))) (H':Hp),Same H H'->H' p=some (.tup [.ref lc,.ref la])->H' lc=some (.lst cvs)->H' la=some (.lst (as.map oa))->CostL H' cvs cs->Far.Best (arcsB ts ks) n.toNat r.toNat cs as->Far.Good (arcs ts ks) n.toNat r.toNat cs->Far.Stab (arcs ts ks) cs->Q (.ref p) H'
theorem reached_B {K:PySem.W.Frag} (vs:List V) (H:Hp) (Q:VK) (E:XK) (h:spReachedB K vs H Q E):spReachedC K vs H Q E:=by
 obtain⟨n,ts,ks,wv,kv,r,e,wk,r0,r1,q⟩:=h
 exact⟨n,ts,ks,wv,kv,r,e,wk,r0,r1,fun p lc la cvs as cs H' S h1 h2 h3 cl B _ _=>q p lc la cvs as cs H' S h1 h2 h3 cl B⟩
theorem stab_of {ts:List Tie} {ks:List Nat} {cs:List (Option (Int × Int))} (h:Far.Stab2 (arcsB ts ks) cs):Far.Stab (arcs ts ks) cs:=fun u v l c m e=>by
 rw[← arcsF_eq] at m
 obtain⟨k,m⟩:=Far.arcsF_mem.mp m
 obtain⟨c',e',n'⟩:=h _ _ _ _ _ m e
 refine⟨c',e',?_⟩
 unfold Far.lt2 at n'
 simp only at n'
 omega
theorem tie_one {n:Int} {ts:List Tie} {ks:List Nat} (ok:WebOk n ts) (ko:KeepOk ts.length ks) {u v k:Nat} {l:Int} (h:(u,v,l,k) ∈ arcsB ts ks):ks.filter (isTB ts u v)=[k]:=by
 have hk:k ∈ ks∧isTB ts u v k=true:=by
  obtain⟨j,hj,m⟩:=arcsB_mem.mp h
  have tk:=ok.tie _ (tieAt_in (ko.2 j hj)).2
  unfold isTB
  rcases arcs2B_mem.mp m with e | e <;> cases e
  ·exact⟨hj,by rw[decide_eq_true (by omega),decide_eq_true (by omega)];rfl⟩
  ·exact⟨hj,by rw[decide_eq_true (by omega),decide_eq_true (by omega)];rfl⟩
 have one:∀ j ∈ ks,isTB ts u v j=true->j=k:=fun j hj p=>by
  have q:=hk.2
  have hjl:=ko.2 j hj
  have hkl:=ko.2 k hk.1
  unfold isTB at p q
  rw[Bool.and_eq_true] at p q
  have a1:=of_decide_eq_true p.1
  have a2:=of_decide_eq_true p.2
  have b1:=of_decide_eq_true q.1
  have b2:=of_decide_eq_true q.2
  exact tie_ends ok hjl hkl (a1.trans b1.symm) (a2.trans b2.symm)
 have nd:ks.Nodup:=ko.1.imp fun h=>Nat.ne_of_lt h
 have nf:(ks.filter (isTB ts u v)).Nodup:=nd.sublist List.filter_sublist
 have mk:k ∈ ks.filter (isTB ts u v):=List.mem_filter.mpr hk
 have all:∀ j ∈ ks.filter (isTB ts u v),j=k:=fun j hj=>one j (List.mem_filter.mp hj).1 (List.mem_filter.mp hj).2
 match e:ks.filter (isTB ts u v) with
 | []=>rw[e] at mk;cases mk
 | [j]=>rw[all j (by rw[e];exact List.mem_cons_self)]
 | i::j::r =>
  rw[e] at nf all
  have h1:=all i List.mem_cons_self
  have h2:=all j (List.mem_cons_of_mem _ List.mem_cons_self)
  exact absurd (h1.trans h2.symm) (fun z=>(List.nodup_cons.mp nf).1 (by rw[z];exact List.mem_cons_self))
theorem arcsB_len {ts:List Tie} {ks:List Nat} {u v k:Nat} {l:Int} (h:(u,v,l,k) ∈ arcsB ts ks):(tieAt ts k).2.2=l∧k ∈ ks:=by
 obtain⟨j,hj,m⟩:=arcsB_mem.mp h
 rcases arcs2B_mem.mp m with e | e <;> cases e
 ·exact⟨rfl,hj⟩
 ·exact⟨rfl,hj⟩
section
variable {own:List Str} {js:List Nat} {g:TG} {te:TE} {σ:L2.St} {Q:VK} {H1:Hp}
end
end L3
namespace L3
open PySem PySem.Spec PyProof.Rows L2
end L3
namespace L3
open PySem PySem.Spec PyProof.Rows L2
end L3
namespace HT
open PySem PyProof.Rows
section
variable {prog:Program} {w:World} {A:Around} {R:Result->Shared->Prop} {I:Addr} {fp wr:List Addr} {G:Array GenState->Array GenState->Prop} {St:Nat->Shared->Prop} {its:List Value} {ns:List Int}
end
section
variable {prog:Program} {w:World} {A:Around} {E:Value->Shared->Prop} {s:Shared}
end
end HT
namespace L3
open PySem PySem.Spec PyProof.Rows L2
end L3
namespace L3
open PySem PySem.Spec PyProof.Rows L2
theorem IsAll.at_ {K:PySem.W.Frag} {H:Hp}:∀ {ds:List PyData} {vs:List V} {i:Nat} {d:PyData},IsAll K H ds vs->ds[i]?=some d->∃ v,vs[i]?=some v∧Is K H d v
 | [],vs,i,d,_,h=>by cases h
 | d0::ds,vs,0,d,⟨v,r,e,h1,_⟩,h=>by
  cases h
  exact⟨v,by rw[e];rfl,h1⟩
 | d0::ds,vs,i + 1,d,⟨v,r,e,_,h2⟩,h=>by
  obtain⟨u,e1,e2⟩:=IsAll.at_ (i:=i) h2 h
  exact⟨u,by rw[e];exact e1,e2⟩
section
variable {own:List Str} {js:List Nat} {g:TG} {tt:TT} {te:TE} {σ:L2.St} {Q:VK} {H1:Hp}
end
end L3
namespace L3
open PySem PySem.Spec PyProof.Rows L2
def lvl (ls:List (List Nat)) (i:Nat):List Nat:=ls.getD i []
structure LevOk (n:Nat) (ls:List (List Nat)):Prop where
 one:1≤ls.length
 six:ls.length≤6
 first:lvl ls 0=List.range n
 rise:∀ i,(lvl ls i).Pairwise (· < ·)
 inn:∀ i,∀ p ∈ lvl ls i,p < n
 down:∀ i,∀ p ∈ lvl ls (i + 1),p ∈ lvl ls i
theorem lvl_out {ls:List (List Nat)} {i:Nat} (h:ls.length≤i):lvl ls i=[]:=by unfold lvl;rw[List.getD_eq_getElem?_getD,List.getElem?_eq_none h];rfl
theorem LevOk.len {n:Nat} {ls:List (List Nat)} (h:LevOk n ls) (i:Nat):(lvl ls i).length≤n:=KeepOk.len (m:=n) (ks:=lvl ls i) ⟨h.rise i,h.inn i⟩
def IsTop (ls:List (List Nat)) (w b:Nat):Prop:=b < ls.length∧w ∈ lvl ls b∧∀ i,i < ls.length->w ∈ lvl ls i->i≤b
theorem IsTop.unique {ls:List (List Nat)} {w b b':Nat} (h:IsTop ls w b) (h':IsTop ls w b'):b'=b:=by
 have:=h.2.2 b' h'.1 h'.2.1
 have:=h'.2.2 b h.1 h.2.1
 omega
def Bun (ls:List (List Nat)) (D:List (Option Int)) (w:Nat):Prop:=∃ x,Far.get D w=some x∧∀ b p y,IsTop ls w b->p ∈ lvl ls (b + 1)->Far.get D p=some y->x < y
noncomputable def bunB (ls:List (List Nat)) (D:List (Option Int)) (w:Nat):Bool:=@decide (Bun ls D w) (Classical.propDecidable _)
theorem bunB_iff {ls:List (List Nat)} {D:List (Option Int)} {w:Nat}:bunB ls D w=true↔Bun ls D w:=by unfold bunB;exact @decide_eq_true_iff _ (Classical.propDecidable _)
/-- how far all places are, in the web -/
def FarsOf (ts:List Tie) (n s:Nat) (D:List (Option Int)):Prop:=D.length=n∧∀ u,u < n->Far.Dst (arcs ts (List.range ts.length)) s u (Far.get D u)
theorem FarsOf.unique {ts:List Tie} {n s:Nat} {D D':List (Option Int)} (h:FarsOf ts n s D) (h':FarsOf ts n s D'):D'=D:=List.ext_getElem? fun i=>by
 by_cases hi:i < n
 ·have z:=(h'.2 i hi).unique (h.2 i hi)
  have l1:=h.1
  have l2:=h'.1
  unfold Far.get at z
  rw[List.getD_eq_getElem?_getD,List.getElem?_eq_getElem (by omega),List.getD_eq_getElem?_getD,List.getElem?_eq_getElem (by omega)] at z
  rw[List.getElem?_eq_getElem (by omega),List.getElem?_eq_getElem (by omega)]
  exact congrArg some z
 ·have l1:=h.1
  have l2:=h'.1
  rw[List.getElem?_eq_none (by omega),List.getElem?_eq_none (by omega)]
def FarsT (H:Hp) (p lf:Addr) (n:Nat) (ts:List Tie):Prop:=∃ ys,H lf=some (.lst ys)∧lf≠p∧ys.length=n∧∀ i v,ys[i]?=some v->∃ l D,v=.ref l∧l≠p∧H l=some (.lst (D.map ov))∧FarsOf ts n i D
theorem FarsT.same {H H':Hp} {p lf:Addr} {n:Nat} {ts:List Tie} (S:Same H H') (h:FarsT H p lf n ts):FarsT H' p lf n ts:=by
 obtain⟨ys,e,ne,ly,hy⟩:=h
 exact⟨ys,S _ _ e,ne,ly,fun i v ev=>let ⟨l,D,e1,e2,e3,e4⟩:=hy i v ev;⟨l,D,e1,e2,S _ _ e3,e4⟩⟩
theorem FarsT.but {H H':Hp} {p lf:Addr} {n:Nat} {ts:List Tie} (S:But p H H') (h:FarsT H p lf n ts):FarsT H' p lf n ts:=by
 obtain⟨ys,e,ne,ly,hy⟩:=h
 exact⟨ys,S _ _ ne e,ne,ly,fun i v ev=>let ⟨l,D,e1,e2,e3,e4⟩:=hy i v ev;⟨l,D,e1,e2,S _ _ e2 e3,e4⟩⟩
/-- a place is in its own bunch -/
theorem bun_self {n:Int} {ts:List Tie} {ls:List (List Nat)} {D:List (Option Int)} {s:Nat} (ok:WebOk n ts) (hs:s < n.toNat) (F:FarsOf ts n.toNat s D) (lo:LevOk n.toNat ls):bunB ls D s=true∧Far.get D s=some 0:=by
 have P:=arcs_pos ok (⟨List.pairwise_lt_range,fun k hk=>List.mem_range.mp hk⟩:KeepOk ts.length (List.range ts.length))
 have e0:Far.get D s=some 0:=by
  obtain⟨y,e,le⟩:=(F.2 s hs).2 0 .nil
  have:=((F.2 s hs).1 y e).nonneg P
  rw[e,show y=0 by omega]
 refine⟨bunB_iff.mpr ⟨0,e0,fun b p y t hp ep=>?_⟩,e0⟩
 have hpn:=lo.inn _ p hp
 have w:=(F.2 p hpn).1 y ep
 cases hw:w with
 | nil =>
  have bl:b + 1 < ls.length:=by
   rcases Nat.lt_or_ge (b + 1) ls.length with z | z
   ·exact z
   ·rw[lvl_out z] at hp;cases hp
  have:=t.2.2 (b + 1) bl hp
  omega
 | @snoc u _ l x w' m =>
  have:=P _ _ _ m
  have:=w'.nonneg P
  omega
end L3
namespace HT
open PySem PyProof.Rows
section
variable {prog:Program} {w:World} {A:Around} {R:Result->Shared->Prop} {I:Addr} {fp wr:List Addr} {G:Array GenState->Array GenState->Prop} {St:Nat->Shared->Prop} {its:List Value} {ks:List (List Int)}
end
section
variable {prog:Program} {w:World} {A:Around} {E:Value->Shared->Prop} {s:Shared}
end
end HT
namespace L3
open PySem PySem.Spec PyProof.Rows L2
end L3
namespace L3
open PySem PySem.Spec PyProof.Rows L2
noncomputable def topN (ls:List (List Nat)) (w:Nat):Nat:=@dite _ (∃ b,IsTop ls w b) (Classical.propDecidable _) (fun h=>Classical.choose h) (fun _=>0)
theorem topN_eq {ls:List (List Nat)} {w b:Nat} (h:IsTop ls w b):topN ls w=b:=by
 unfold topN
 rw[dif_pos ⟨b,h⟩]
 exact h.unique (Classical.choose_spec (⟨b,h⟩:∃ b,IsTop ls w b))
theorem top_exists {n:Nat} {ls:List (List Nat)} (lo:LevOk n ls) {w:Nat} (hw:w < n):IsTop ls w (topN ls w):=by
 have ex:∃ b,IsTop ls w b:=by
  have go:∀ m,m < ls.length->∃ b,b≤m∧w ∈ lvl ls b∧∀ i,i≤m->w ∈ lvl ls i->i≤b:=fun m=>by
   induction m with
   | zero=>intro _;exact⟨0,Nat.le_refl _,by rw[lo.first];exact List.mem_range.mpr hw,fun i hi _=>hi⟩
   | succ m ih =>
    intro hm
    obtain⟨b,h1,h2,h3⟩:=ih (by omega)
    by_cases c:w ∈ lvl ls (m + 1)
    ·exact⟨m + 1,Nat.le_refl _,c,fun i hi _=>hi⟩
    ·refine⟨b,by omega,h2,fun i hi hm=>?_⟩
     rcases Nat.lt_or_ge i (m + 1) with z | z
     ·exact h3 i (by omega) hm
     ·rw[show i=m + 1 by omega] at hm;exact absurd hm c
  have one:=lo.one
  obtain⟨b,h1,h2,h3⟩:=go (ls.length - 1) (by omega)
  exact⟨b,by omega,h2,fun i hi hm=>h3 i (by omega) hm⟩
 obtain⟨b,hb⟩:=ex
 rw[topN_eq hb];exact hb
/-- the nearest place of a level, of several one of the greatest top, of these the least -/
structure IsPiv (ls:List (List Nat)) (m:Nat) (D:List (Option Int)) (o:Option Nat):Prop where
 no:o=none->∀ q ∈ lvl ls m,Far.get D q=none
 yes:∀ p,o=some p->p ∈ lvl ls m∧∃ x,Far.get D p=some x∧∀ q ∈ lvl ls m,∀ y,Far.get D q=some y->x≤y∧(y=x->topN ls q≤topN ls p∧(topN ls q=topN ls p->p≤q))
theorem IsPiv.unique {ls:List (List Nat)} {m:Nat} {D:List (Option Int)} {o o':Option Nat} (h:IsPiv ls m D o) (h':IsPiv ls m D o'):o'=o:=by
 cases o with
 | none =>
  cases o' with
  | none=>rfl
  | some p =>
   obtain⟨hp,x,ex,_⟩:=h'.yes p rfl
   rw[h.no rfl p hp] at ex;cases ex
 | some p =>
  obtain⟨hp,x,ex,a⟩:=h.yes p rfl
  cases o' with
  | none=>rw[h'.no rfl p hp] at ex;cases ex
  | some p' =>
   obtain⟨hp',x',ex',a'⟩:=h'.yes p' rfl
   have h1:=a p' hp' x' ex'
   have h2:=a' p hp x ex
   have e:x'=x:=by omega
   obtain⟨t1,l1⟩:=h1.2 e
   obtain⟨t2,l2⟩:=h2.2 e.symm
   have e2:topN ls p'=topN ls p:=by omega
   have:=l1 e2
   have:=l2 e2.symm
   rw[show p'=p by omega]
theorem lev_down {n:Nat} {ls:List (List Nat)} (lo:LevOk n ls):∀ {j m:Nat},m≤j->∀ p ∈ lvl ls j,p ∈ lvl ls m
 | 0,m,h,p,hp=>by rw[show m=0 by omega];exact hp
 | j + 1,m,h,p,hp=>by
  rcases Nat.lt_or_ge m (j + 1) with z | z
  ·exact lev_down lo (j:=j) (by omega) p (lo.down j p hp)
  ·rw[show m=j + 1 by omega];exact hp
/-- a pivot is in the bunch -/
theorem piv_bun {n:Nat} {ls:List (List Nat)} {m p:Nat} {D:List (Option Int)} (lo:LevOk n ls) (hm:m < ls.length) (h:IsPiv ls m D (some p)):bunB ls D p=true:=by
 obtain⟨hp,x,ex,a⟩:=h.yes p rfl
 have tp:=top_exists lo (lo.inn m p hp)
 refine bunB_iff.mpr ⟨x,ex,fun b q y t hq ey=>?_⟩
 have eb:=topN_eq t
 have mb:m≤b:=t.2.2 m hm hp
 have hqm:=lev_down lo (show m≤b + 1 by omega) q hq
 obtain⟨h1,h2⟩:=a q hqm y ey
 have tq:=top_exists lo (lo.inn _ q hq)
 have bl:b + 1 < ls.length:=by
  rcases Nat.lt_or_ge (b + 1) ls.length with z | z
  ·exact z
  ·rw[lvl_out z] at hq;cases hq
 have:=tq.2.2 (b + 1) bl hq
 by_cases c:y=x
 ·have:=(h2 c).1;omega
 ·omega
def tupI (k:List Int):PyData:=.tuple (k.map .int)
section
variable {own:List Str} {js:List Nat} {g:TG} {tt:TT} {te:TE} {σ:L2.St} {Q:VK} {H1:Hp}
end
end L3
namespace L3
open PySem PySem.Spec PyProof.Rows L2
noncomputable def pivN (ls:List (List Nat)) (m:Nat) (D:List (Option Int)):Nat:=@dite _ (∃ p,IsPiv ls m D (some p)) (Classical.propDecidable _) (fun h=>Classical.choose h) (fun _=>0)
theorem pivN_eq {ls:List (List Nat)} {m p:Nat} {D:List (Option Int)} (h:IsPiv ls m D (some p)):pivN ls m D=p:=by
 unfold pivN
 rw[dif_pos ⟨p,h⟩]
 exact Option.some.inj (h.unique (Classical.choose_spec (⟨p,h⟩:∃ p,IsPiv ls m D (some p))))
noncomputable def clN (ls:List (List Nat)):Nat->Nat->Nat->Nat->List (Option Int)->List (Option Int)->Int->List (List Int)
 | 0,w,a,b,_,_,x=>[[(w:Int),(a:Int),(b:Int),x]]
 | f + 1,w,a,b,Da,Db,x=>[(w:Int),(a:Int),(b:Int),x]::(if bunB ls Db w=true then [] else clN ls f (pivN ls (topN ls w + 1) Db) b a Db Da ((Far.get Db (pivN ls (topN ls w + 1) Db)).getD 0))
theorem clN_done {ls:List (List Nat)} {f w a b:Nat} {Da Db:List (Option Int)} {x:Int} (h:bunB ls Db w=true):clN ls (f + 1) w a b Da Db x=[[(w:Int),(a:Int),(b:Int),x]]:=by
 rw[clN,if_pos h]
theorem clN_more {ls:List (List Nat)} {f w a b p:Nat} {Da Db:List (Option Int)} {x x':Int} (h:bunB ls Db w=false) (pv:IsPiv ls (topN ls w + 1) Db (some p)) (e:Far.get Db p=some x'):clN ls (f + 1) w a b Da Db x=[(w:Int),(a:Int),(b:Int),x]::clN ls f p b a Db Da x':=by
 rw[clN,if_neg (by rw[h];decide),pivN_eq pv,e];rfl
structure Cs (ts:List Tie) (n:Nat) (ls:List (List Nat)) (d:Int) (j w a b:Nat) (Da Db:List (Option Int)) (x:Int):Prop where
 fa:FarsOf ts n a Da
 fb:FarsOf ts n b Db
 wn:w < n
 an:a < n
 bn:b < n
 xa:Far.get Da w=some x
 lim:x≤j * d
 ab:Far.get Da b=some d
 ba:Far.get Db a=some d
 yb:∃ y,Far.get Db w=some y
 tp:j≤topN ls w
 bu:bunB ls Da w=true
section
variable {n:Int} {ts:List Tie} {ls:List (List Nat)} {d x:Int} {j w a b:Nat} {Da Db:List (Option Int)}
theorem allOk (ts:List Tie):KeepOk ts.length (List.range ts.length):=⟨List.pairwise_lt_range,fun k hk=>List.mem_range.mp hk⟩
theorem Cs.start (ok:WebOk n ts) (lo:LevOk n.toNat ls) (fa:FarsOf ts n.toNat a Da) (fb:FarsOf ts n.toNat b Db) (an:a < n.toNat) (bn:b < n.toNat) (ab:Far.get Da b=some d):Cs ts n.toNat ls d 0 a a b Da Db 0:=by
 obtain⟨bs,e0⟩:=bun_self ok an fa lo
 have ba:Far.get Db a=some d:=by
  have h1:=(fa.2 b bn).back (arcs_symm ok (allOk ts))
  rw[ab] at h1
  exact (fb.2 a an).unique h1
 exact⟨fa,fb,an,an,bn,e0,by simp,ab,ba,⟨d,ba⟩,Nat.zero_le _,bs⟩
theorem Cs.more (lo:LevOk n.toNat ls) (h:Cs ts n.toNat ls d j w a b Da Db x) (nb:bunB ls Db w=false):topN ls w + 1 < ls.length∧∃ q y y',q ∈ lvl ls (topN ls w + 1)∧Far.get Db w=some y∧Far.get Db q=some y'∧y'≤y:=by
 obtain⟨y,ey⟩:=h.yb
 have ex:∃ b' p z,IsTop ls w b'∧p ∈ lvl ls (b' + 1)∧Far.get Db p=some z∧z≤y:=by
  apply Classical.byContradiction
  intro c
  have:bunB ls Db w=true:=bunB_iff.mpr ⟨y,ey,fun b' p z t hp ez=>by
   rcases Int.lt_or_le y z with l | l
   ·exact l
   ·exact absurd ⟨b',p,z,t,hp,ez,l⟩ c⟩
  rw[nb] at this;cases this
 obtain⟨b',p,z,t,hp,ez,le⟩:=ex
 rw[← topN_eq t] at hp
 refine⟨?_,p,y,z,hp,ey,ez,le⟩
 rcases Nat.lt_or_ge (topN ls w + 1) ls.length with z | z
 ·exact z
 ·rw[lvl_out z] at hp;cases hp
theorem Cs.step (ok:WebOk n ts) (lo:LevOk n.toNat ls) (h:Cs ts n.toNat ls d j w a b Da Db x) (nb:bunB ls Db w=false) {o:Option Nat} (pv:IsPiv ls (topN ls w + 1) Db o):∃ p x',o=some p∧Far.get Db p=some x'∧Cs ts n.toNat ls d (j + 1) p b a Db Da x':=by
 obtain⟨ml,q,y,y',hq,ey,ez,le⟩:=h.more lo nb
 cases o with
 | none=>rw[pv.no rfl q hq] at ez;cases ez
 | some p =>
  obtain⟨hp,x',ex',al⟩:=pv.yes p rfl
  have pn:=lo.inn _ p hp
  have sy:=arcs_symm ok (allOk ts)
  have P:=arcs_pos ok (allOk ts)
  have w1:=(h.fa.2 w h.wn).1 x h.xa
  have w2:=(h.fb.2 a h.an).1 d h.ba
  obtain⟨y2,e2,l2⟩:=(h.fb.2 w h.wn).2 _ (w2.trans w1)
  rw[ey] at e2;cases e2
  have l1:=(al q hq y' ez).1
  have w3:=(h.fb.2 p pn).1 x' ex'
  have w4:=(h.fa.2 b h.bn).1 d h.ab
  obtain⟨z,ez',_⟩:=(h.fa.2 p pn).2 _ (w4.trans w3)
  have tp:=top_exists lo pn
  have t1:=tp.2.2 _ ml hp
  have:=h.tp
  have lim:=h.lim
  refine⟨p,x',rfl,ex',h.fb,h.fa,pn,h.bn,h.an,ex',?_,h.ba,h.ab,⟨z,ez'⟩,by omega,piv_bun lo ml pv⟩
  have e:((j + 1:Nat):Int) * d=j * d + d:=by rw[Int.natCast_add,Int.add_mul];simp
  omega
end
/-- the rows of a climb -/
structure RowsOk (ls:List (List Nat)) (n:Nat) (d:Int) (Du Dv:List (Option Int)) (rows:List (List Int)):Prop where
 few:rows.length≤ls.length
 lim:∀ (i:Nat) (r:List Int),rows[i]?=some r->∃ p a b x:Int,r=[p,a,b,x]∧x≤i * d
 last:∃ (pre:List (List Int)) (w:Nat) (a b x:Int),rows=pre++[[(w:Int),a,b,x]]∧w < n∧bunB ls Du w=true∧bunB ls Dv w=true
def ClimbV (K:PySem.W.Frag) (H:Hp) (ls:List (List Nat)) (n u v:Nat) (Du Dv:List (Option Int)) (r:V):Prop:=(r=.non∧Far.get Du v=none)∨∃ t ys d,r=.ref t∧Far.get Du v=some d∧H t=some (.tup ys)∧IsAll K H ((clN ls ls.length u u v Du Dv 0).map tupI) ys∧RowsOk ls n d Du Dv (clN ls ls.length u u v Du Dv 0)
/-- how far all places are from all, as a list of lists -/
def FarsM (H:Hp) (lf:Addr) (n:Nat) (ts:List Tie):Prop:=∃ ys,H lf=some (.lst ys)∧ys.length=n∧∀ i v,ys[i]?=some v->∃ l D,v=.ref l∧H l=some (.lst (D.map ov))∧FarsOf ts n i D
theorem FarsM.same {H H':Hp} {lf:Addr} {n:Nat} {ts:List Tie} (S:Same H H') (h:FarsM H lf n ts):FarsM H' lf n ts:=by
 obtain⟨ys,e,ly,hy⟩:=h
 exact⟨ys,S _ _ e,ly,fun i v ev=>let ⟨l,D,e1,e3,e4⟩:=hy i v ev;⟨l,D,e1,S _ _ e3,e4⟩⟩
theorem FarsT.m {H:Hp} {p lf:Addr} {n:Nat} {ts:List Tie} (h:FarsT H p lf n ts):FarsM H lf n ts:=by
 obtain⟨ys,e,ne,ly,hy⟩:=h
 exact⟨ys,e,ly,fun i v ev=>let ⟨l,D,e1,e2,e3,e4⟩:=hy i v ev;⟨l,D,e1,e3,e4⟩⟩
theorem FarsM.at {H:Hp} {lf:Addr} {n:Nat} {ts:List Tie} (h:FarsM H lf n ts):∃ ys,H lf=some (.lst ys)∧∀ i,i < n->∃ l D,atI ys (i:Int)=some (.ref l)∧H l=some (.lst (D.map ov))∧FarsOf ts n i D∧∀ k,k < n->atI (D.map ov) (k:Int)=some (ov (Far.get D k)):=by
 obtain⟨ys,e,ly,hy⟩:=h
 refine⟨ys,e,fun i hi=>?_⟩
 obtain⟨l,D,e1,e2,F⟩:=hy i ys[i] (List.getElem?_eq_getElem (by omega))
 refine⟨l,D,atI_toNat (Int.natCast_nonneg _) (by rw[Int.toNat_natCast,List.getElem?_eq_getElem (by omega),e1]),e2,F,fun k hk=>atI_toNat (Int.natCast_nonneg _) (by rw[Int.toNat_natCast];exact ov_at (by have:=F.1;omega))⟩
/-- where a climb stands: the rows so far, and what is still to come -/
structure Clb (ts:List Tie) (n:Int) (ls:List (List Nat)) (d:Int) (u v:Nat) (Du Dv:List (Option Int)) (pre:List (List Int)) (w a b:Nat) (Da Db:List (Option Int)) (x:Int):Prop where
 cs:Cs ts n.toNat ls d pre.length w a b Da Db x
 sides:(Da=Du∧Db=Dv)∨(Da=Dv∧Db=Du)
 lim:∀ (i:Nat) (r:List Int),(pre++[[(w:Int),(a:Int),(b:Int),x]])[i]?=some r->∃ p a b x:Int,r=[p,a,b,x]∧x≤i * d
 rest:pre++clN ls (ls.length - pre.length) w a b Da Db x=clN ls ls.length u u v Du Dv 0
section
variable {n:Int} {ts:List Tie} {ls:List (List Nat)} {d x:Int} {u v w a b:Nat} {Du Dv Da Db:List (Option Int)} {pre:List (List Int)}
theorem Clb.first (ok:WebOk n ts) (lo:LevOk n.toNat ls) (fa:FarsOf ts n.toNat u Du) (fb:FarsOf ts n.toNat v Dv) (an:u < n.toNat) (bn:v < n.toNat) (ab:Far.get Du v=some d):Clb ts n ls d u v Du Dv [] u u v Du Dv 0:=by
 refine⟨Cs.start ok lo fa fb an bn ab,.inl ⟨rfl,rfl⟩,fun i r e=>?_,rfl⟩
 cases i with
 | zero=>cases e;exact⟨_,_,_,_,rfl,by simp⟩
 | succ i=>cases e
theorem Clb.lt (lo:LevOk n.toNat ls) (h:Clb ts n ls d u v Du Dv pre w a b Da Db x):pre.length < ls.length:=by
 have t:=(top_exists lo h.cs.wn).1
 have:=h.cs.tp
 omega
theorem Clb.next (ok:WebOk n ts) (lo:LevOk n.toNat ls) (h:Clb ts n ls d u v Du Dv pre w a b Da Db x) (nb:bunB ls Db w=false) {o:Option Nat} (pv:IsPiv ls (topN ls w + 1) Db o):∃ p x',o=some p∧p < n.toNat∧Far.get Db p=some x'∧Clb ts n ls d u v Du Dv (pre++[[(w:Int),(a:Int),(b:Int),x]]) p b a Db Da x':=by
 obtain⟨p,x',rfl,ex,c'⟩:=h.cs.step ok lo nb pv
 have lt:=h.lt lo
 have le:(pre++[[(w:Int),(a:Int),(b:Int),x]]).length=pre.length + 1:=by rw[List.length_append,List.length_singleton]
 refine⟨p,x',rfl,c'.wn,ex,by rw[le];exact c',h.sides.elim (fun ⟨e1,e2⟩=>.inr ⟨e2,e1⟩) (fun ⟨e1,e2⟩=>.inl ⟨e2,e1⟩),fun i r e=>?_,?_⟩
 ·by_cases hi:i < pre.length + 1
  ·rw[List.getElem?_append_left (by omega)] at e
   exact h.lim i r e
  ·rw[List.getElem?_append_right (by omega)] at e
   have hi2:=(List.getElem?_eq_some_iff.mp e).1
   rw[List.length_singleton] at hi2
   have ei:i=pre.length + 1:=by omega
   subst ei
   rw[le,Nat.sub_self] at e
   cases e
   exact⟨_,_,_,_,rfl,c'.lim⟩
 ·rw[le,← h.rest]
  rw[show ls.length - pre.length=(ls.length - (pre.length + 1)) + 1 by omega,clN_more nb pv ex,List.append_assoc]
  rfl
theorem Clb.done (lo:LevOk n.toNat ls) (h:Clb ts n ls d u v Du Dv pre w a b Da Db x) (bd:bunB ls Db w=true):pre++[[(w:Int),(a:Int),(b:Int),x]]=clN ls ls.length u u v Du Dv 0∧RowsOk ls n.toNat d Du Dv (clN ls ls.length u u v Du Dv 0):=by
 have lt:=h.lt lo
 have e:pre++[[(w:Int),(a:Int),(b:Int),x]]=clN ls ls.length u u v Du Dv 0:=by
  rw[← h.rest,show ls.length - pre.length=(ls.length - (pre.length + 1)) + 1 by omega,clN_done bd]
 refine⟨e,?_⟩
 rw[← e]
 refine⟨by rw[List.length_append,List.length_singleton];omega,h.lim,pre,w,_,_,_,rfl,h.cs.wn,?_⟩
 rcases h.sides with ⟨e1,e2⟩ | ⟨e1,e2⟩
 ·rw[← e1,← e2];exact⟨h.cs.bu,bd⟩
 ·rw[← e1,← e2];exact⟨bd,h.cs.bu⟩
end
end L3
namespace L3
open PySem PySem.Spec PyProof.Rows L2
section
variable {K:PySem.W.Frag} {J J':Hp} {ls:List (List Nat)} {n u v:Nat} {Du Dv:List (Option Int)} {r r1 r2:V}
theorem ClimbV.same (S:Same J J') (h:ClimbV K J ls n u v Du Dv r):ClimbV K J' ls n u v Du Dv r:=by
 rcases h with h | ⟨t,ys,d,e,ed,ht,ia,ro⟩
 ·exact .inl h
 ·exact .inr ⟨t,ys,d,e,ed,S _ _ ht,IsAll.same S _ ia,ro⟩
end
end L3
namespace PySem.SeqAt
open PySem.Spec PySem.MeetsSeq PySem.MeetsSeq2 PySem.MeetsSeq3 PySem.SeqRoads2
open AutoSeq1 (wpAny_loadPart')
end PySem.SeqAt
namespace L3
open PySem PySem.Spec PyProof.Rows L2
section
variable {X:Cx} {o e:Expr} {es:List Expr} {to:TE} {t:TA} {name:Str} {apos cpos:Pos} {id:String} {r:V->List V->Hp->VK->Prop}
end
/-- which parts of a slice that goes back are meant: t[::-1] leaves none out, t[:0:-1] the first -/
def bk (hi:Option Int) (n j:Nat):Prop:=(hi=none∧j=0)∨(hi=some 0∧j=1∧1≤n)
section
variable {prog:Program} {w:World} {A:Around} {E:Value->Shared->Prop} {s:Shared}
end
section
variable {X:Cx} {e st:Expr} {te ts:TE} {lo hi:Option Expr} {th:TO} {pos p2:Pos}
end
end L3
namespace Far
section
variable {B:List Arc} {n s a b:Nat} {ws S:List Nat} {x y:Int} {cs:List (Option (Int × Int))} {as:List (Option Nat)}
theorem Rt.walkC (r:Rt B a ws S b x y):Walk (arcsC B) a b (comb (x,y)):=by
 induction r with
 | one=>exact .nil
 | @snoc ws S u v x y l k r m nv ih =>
  have:=Walk.snoc ih (arcsC_mem.mpr ⟨l,k,m,rfl⟩)
  have e:comb (x + l,y + 2 ^ k)=comb (x,y) + (l * 2 ^ 61 + 2 ^ k):=by unfold comb;simp only;omega
  rw[e];exact this
theorem Rt.split (r:Rt B a ws S b x y):∀ {p q:List Nat} {u:Nat},ws=p++u::q->∃ S1 S2 x1 x2 y1 y2,Rt B a (p++[u]) S1 u x1 y1∧Rt B u (u::q) S2 b x2 y2∧x=x1 + x2∧y=y1 + y2:=by
 induction r with
 | one =>
  intro p q u e
  cases p with
  | nil =>
   injection e with e1 e2
   subst e1 e2
   exact⟨[],[],0,0,0,0,.one,.one,rfl,rfl⟩
  | cons z p=>injection e with e1 e2;cases p <;> cases e2
 | @snoc ws S u0 v x y l k r m nv ih =>
  intro p q u e
  rcases List.eq_nil_or_concat q with rfl | ⟨q',v',rfl⟩
  ·have e':ws++[v]=p++[u]:=e
   obtain⟨e1,e2⟩:=List.append_inj' e' rfl
   cases e2
   subst e1
   exact⟨S++[k],[],x + l,0,y + 2 ^ k,0,r.snoc m nv,.one,by omega,by omega⟩
  ·have e':ws++[v]=(p++u::q')++[v']:=by rw[e,List.append_assoc];simp
   obtain⟨e1,e2⟩:=List.append_inj' e' rfl
   cases e2
   obtain⟨S1,S2,x1,x2,y1,y2,r1,r2,ex,ey⟩:=ih e1
   have nv2:v ∉ u::q':=fun h=>nv (by rw[e1];exact List.mem_append_right _ h)
   have r3:=r2.snoc m nv2
   refine⟨S1,S2++[k],x1,x2 + l,y1,y2 + 2 ^ k,r1,?_,by omega,by omega⟩
   simpa using r3
/-- the least of all walks, and a route -/
def MinW (B:List Arc) (a b:Nat) (ws:List Nat):Prop:=∃ S x y,Rt B a ws S b x y∧∀ L,Walk (arcsC B) a b L->comb (x,y)≤L
theorem MinW.unique (K:Keys B) {ws':List Nat} (h:MinW B a b ws) (h':MinW B a b ws'):ws'=ws:=by
 obtain⟨S,x,y,r,l⟩:=h
 obtain⟨S',x',y',r',l'⟩:=h'
 have e1:=l _ r'.walkC
 have e2:=l' _ r.walkC
 have b1:=r.lt K
 have b2:=r'.lt K
 have e:=comb_inj (c:=(x,y)) (d:=(x',y')) ⟨b1.1,Int.lt_trans b1.2 (by decide)⟩ ⟨b2.1,Int.lt_trans b2.2 (by decide)⟩ (by omega)
 injection e with ex ey
 subst ey
 exact (r.unique K r').1
theorem comb_add (x1 x2 y1 y2:Int):comb (x1 + x2,y1 + y2)=comb (x1,y1) + comb (x2,y2):=by unfold comb;simp only;omega
theorem MinW.sub (h:MinW B a b ws) {p m q:List Nat} {u v:Nat} {m1 m2:List Nat} (e:ws=p++m++q) (e1:m=u::m1) (e2:m=m2++[v]):MinW B u v m:=by
 obtain⟨S,x,y,r,l⟩:=h
 obtain⟨S1,S2,x1,x2,y1,y2,r1,r2,ex,ey⟩:=r.split (p:=p) (u:=u) (q:=m1++q) (by rw[e,e1,List.append_assoc];rfl)
 obtain⟨S3,S4,x3,x4,y3,y4,r3,r4,ex2,ey2⟩:=r2.split (p:=m2) (u:=v) (q:=q) (by
  have:u::(m1++q)=m++q:=by rw[e1];rfl
  rw[this,e2,List.append_assoc];rfl)
 rw[← e2] at r3
 refine⟨S3,x3,y3,r3,fun L w=>?_⟩
 have:=l _ ((r1.walkC.trans w).trans r4.walkC)
 subst ex ey ex2 ey2
 rw[comb_add,comb_add] at this
 omega
theorem MinW.back (K:Keys B) (h:MinW B a b ws):MinW B b a ws.reverse:=by
 obtain⟨S,x,y,r,l⟩:=h
 exact⟨S.reverse,x,y,r.back K,fun L w=>l L (w.back (arcsC_sym K))⟩
theorem Best.minw (K:Keys B) (h:Best B n s cs as) {v:Nat} {c:Int × Int} (t:TPw as s ws.reverse v) (e:get cs v=some c):MinW B v s ws:=by
 obtain⟨S,r⟩:=h.rt K t e
 have rb:=r.back K
 rw[List.reverse_reverse] at rb
 refine⟨_,_,_,rb,fun L w=>?_⟩
 obtain⟨z,ez,le⟩:=(h.dst K v).2 L (w.back (arcsC_sym K))
 rw[e] at ez
 cases ez
 exact le
theorem MinW.nodup (h:MinW B a b ws):ws.Nodup:=by
 obtain⟨S,x,y,r,l⟩:=h
 exact r.unlike
end
end Far
namespace L3
open PySem PySem.Spec PyProof.Rows L2
/-- the way from a to b, the least of all walks -/
def WayM (H:Hp) (ts:List Tie) (ks:List Nat) (a b:Nat) (v:V):Prop:=(v=.non∧Far.Dst (arcs ts ks) a b none)∨∃ t ws x,v=.ref t∧H t=some (.tup (natV ws))∧ws.length≤24∧Far.MinW (arcsB ts ks) a b ws∧Far.Tr (arcs ts ks) a ws b x∧Far.Dst (arcs ts ks) a b (some x)
theorem wayB_M {H:Hp} {n:Int} {m:Nat} {ts:List Tie} {ks:List Nat} {a b:Nat} {v:V} (ok:WebOk n ts) (ko:KeepOk ts.length ks) (h:WayB H (arcsB ts ks) m a b v):WayM H ts ks a b v:=by
 obtain⟨cs,as,B,h⟩:=h
 have KB:=arcsB_keys ok ko
 have d:=B.dst1 KB a
 rw[arcsF_eq] at d
 rcases h with ⟨rfl,e⟩ | ⟨t,ws,c,rfl,ht,l24,e,tp⟩
 ·rw[e] at d
  exact .inl ⟨rfl,d.back (arcs_symm ok ko)⟩
 ·rw[e] at d
  obtain⟨S,u⟩:=B.uni KB tp e
  have tr:=u.rt.tr
  rw[arcsF_eq] at tr
  exact .inr ⟨t,ws,c.1,rfl,ht,l24,B.minw KB tp e,tr,d.back (arcs_symm ok ko)⟩
def spWayM (K:PySem.W.Frag):Sp:=fun vs H Q _=>∃ n ts ks wv kv a b,vs=[wv,kv,.int a,.int b]∧WK K H n ts ks wv kv∧0≤a∧a < n∧0≤b∧b < n∧∀ v H',Same H H'->WayM H' ts ks a.toNat b.toNat v->Q v H'
theorem way_M {K:PySem.W.Frag} (vs:List V) (H:Hp) (Q:VK) (E:XK) (h:spWayM K vs H Q E):spWayB K vs H Q E:=by
 obtain⟨n,ts,ks,wv,kv,a,b,e,wk,a0,a1,b0,b1,q⟩:=h
 exact⟨n,ts,ks,wv,kv,a,b,e,wk,a0,a1,b0,b1,fun v H' S h=>q v H' S (wayB_M wk.2.1 wk.2.2.2 h)⟩
theorem tb_arcB {n:Int} {ts:List Tie} {ks:List Nat} (ok:WebOk n ts) (ko:KeepOk ts.length ks) {u v k:Nat} {l:Int} (h:(u,v,l,k) ∈ arcsB ts ks):tbN ts u v=some k:=by
 have h2:(u,v,l,k) ∈ arcsB ts (List.range ts.length):=by
  obtain⟨k',hk',m⟩:=arcsB_mem.mp h
  exact arcsB_mem.mpr ⟨k',List.mem_range.mpr (ko.2 k' hk'),m⟩
 have e:=tie_one ok (allOk ts) h2
 unfold tbN
 rw[← List.head?_filter,e];rfl
theorem along_in {n:Int} {ts:List Tie} {ks:List Nat} (ok:WebOk n ts) (ko:KeepOk ts.length ks) {a b:Nat} {ws S:List Nat} {x y:Int} (r:Far.Rt (arcsB ts ks) a ws S b x y):∀ k ∈ alongN ts ws,k ∈ ks:=fun k hk=>by
 unfold alongN at hk
 obtain⟨i,hi,rfl⟩:=List.mem_map.mp hk
 have hi:=List.mem_range.mp hi
 have hl:=r.len
 obtain⟨u,v,l,eu,ev,m⟩:=r.step (i:=i) (k:=S[i]'(by omega)) (List.getElem?_eq_getElem _)
 rw[List.getD_eq_getElem?_getD,eu,List.getD_eq_getElem?_getD,ev]
 show (tbN ts u v).getD 0 ∈ ks
 rw[tb_arcB ok ko m]
 exact (arcsB_len m).2
end L3
namespace Two
def tw:List Nat->Nat
 | []=>0
 | k::r=>2 ^ k + tw r
theorem tw_perm {a b:List Nat} (h:a.Perm b):tw a=tw b:=by
 induction h with
 | nil=>rfl
 | cons x _ ih=>show 2 ^ x + _=2 ^ x + _;rw[ih]
 | swap x y l=>show 2 ^ y + (2 ^ x + tw l)=2 ^ x + (2 ^ y + tw l);omega
 | trans _ _ h1 h2=>exact h1.trans h2
theorem tw_split (p:Nat->Bool):∀ l:List Nat,tw l=tw (l.filter p) + tw (l.filter fun k=>!p k)
 | []=>rfl
 | k::r=>by
  have ih:=tw_split p r
  show 2 ^ k + tw r=_
  cases e:p k with
  | true =>
   rw[List.filter_cons_of_pos e,List.filter_cons_of_neg (by simp [e])]
   show 2 ^ k + tw r=2 ^ k + tw (r.filter p) + _
   omega
  | false =>
   rw[List.filter_cons_of_neg (by simp [e]),List.filter_cons_of_pos (by simp [e])]
   show 2 ^ k + tw r=_ + (2 ^ k + tw (r.filter fun k=>!p k))
   omega
theorem tw_lt:∀ (m:Nat) {l:List Nat},l.Nodup->(∀ k ∈ l,k < m)->tw l < 2 ^ m
 | 0,l,nd,h=>by
  cases l with
  | nil=>decide
  | cons k r=>exact absurd (h k List.mem_cons_self) (by omega)
 | m + 1,l,nd,h=>by
  have s:=tw_split (fun k=>decide (k=m)) l
  have h2:tw (l.filter fun k=>!decide (k=m)) < 2 ^ m:=tw_lt m (nd.sublist List.filter_sublist) fun k hk=>by
   obtain⟨h1,h2⟩:=List.mem_filter.mp hk
   have:=h k h1
   simp at h2
   omega
  have h1:tw (l.filter fun k=>decide (k=m))≤2 ^ m:=by
   have nd':(l.filter fun k=>decide (k=m)).Nodup:=nd.sublist List.filter_sublist
   have all:∀ k ∈ l.filter (fun k=>decide (k=m)),k=m:=fun k hk=>of_decide_eq_true (List.mem_filter.mp hk).2
   generalize l.filter (fun k=>decide (k=m))=f at nd' all
   match f,nd',all with
   | [],_,_=>exact Nat.zero_le _
   | [k],_,all=>rw[all k List.mem_cons_self];exact Nat.le_refl _
   | k::j::r,nd',all =>
    have e1:=all k List.mem_cons_self
    have e2:=all j (List.mem_cons_of_mem _ List.mem_cons_self)
    exact absurd (by rw[e1,e2];exact List.mem_cons_self) (List.nodup_cons.mp nd').1
  rw[Nat.pow_succ]
  omega
theorem tw_same {a b:List Nat} (na:a.Nodup) (nb:b.Nodup) (h:∀ k,k ∈ a↔k ∈ b):tw a=tw b:=tw_perm ((List.perm_ext_iff_of_nodup na nb).mpr h)
/-- d is in b alone, and above it a and b have the same: b's sum is the greater one -/
theorem tw_less {a b:List Nat} {d:Nat} (na:a.Nodup) (nb:b.Nodup) (ha:d ∉ a) (hb:d ∈ b) (up:∀ k,d < k->(k ∈ a↔k ∈ b)):tw a < tw b:=by
 have sa:=tw_split (fun k=>decide (d < k)) a
 have sb:=tw_split (fun k=>decide (d < k)) b
 have e:tw (a.filter fun k=>decide (d < k))=tw (b.filter fun k=>decide (d < k)):=tw_same (na.sublist List.filter_sublist) (nb.sublist List.filter_sublist) fun k=>by
  rw[List.mem_filter,List.mem_filter]
  constructor
  ·exact fun ⟨h1,h2⟩=>⟨(up k (of_decide_eq_true h2)).mp h1,h2⟩
  ·exact fun ⟨h1,h2⟩=>⟨(up k (of_decide_eq_true h2)).mpr h1,h2⟩
 have la:tw (a.filter fun k=>!decide (d < k)) < 2 ^ d:=tw_lt d (na.sublist List.filter_sublist) fun k hk=>by
  obtain⟨h1,h2⟩:=List.mem_filter.mp hk
  have h3:k≠d:=fun z=>ha (z ▸ h1)
  simp at h2
  omega
 have lb:2 ^ d≤tw (b.filter fun k=>!decide (d < k)):=by
  have m:d ∈ b.filter fun k=>!decide (d < k):=List.mem_filter.mpr ⟨hb,by simp⟩
  have:∀ {l:List Nat},d ∈ l->2 ^ d≤tw l:=fun {l} h=>by
   induction l with
   | nil=>cases h
   | cons k r ih =>
    show 2 ^ d≤2 ^ k + tw r
    rcases List.mem_cons.mp h with rfl | h
    ·omega
    ·exact Nat.le_trans (ih h) (Nat.le_add_left _ _)
  exact this m
 omega
/-- s: the numbers that are in one of the two alone, rising -/
theorem tw_last {a b s:List Nat} (na:a.Nodup) (nb:b.Nodup) (rs:s.Pairwise (· < ·)) (hs:∀ k,k ∈ s↔¬ (k ∈ a↔k ∈ b)) :
  (tw a < tw b↔∃ d,s.getLast?=some d∧d ∉ a)∧(tw a=tw b↔s=[]):=by
 cases e:s.getLast? with
 | none =>
  have s0:s=[]:=List.getLast?_eq_none_iff.mp e
  have same:=tw_same na nb fun k=>by
   by_cases h:k ∈ a↔k ∈ b
   ·exact h
   ·have:=(hs k).mpr h
    rw[s0] at this;cases this
  exact⟨⟨fun h=>by omega,fun ⟨d,h,_⟩=>by cases h⟩,⟨fun _=>s0,fun _=>same⟩⟩
 | some d =>
  have md:d ∈ s:=List.mem_of_getLast? e
  have top:∀ k ∈ s,k≤d:=fun k hk=>by
   obtain⟨r,er⟩:=List.getLast?_eq_some_iff.mp e
   rw[er] at rs hk
   rcases List.mem_append.mp hk with h | h
   ·exact Nat.le_of_lt ((List.pairwise_append.mp rs).2.2 k h d List.mem_cons_self)
   ·rw[List.mem_singleton.mp h];exact Nat.le_refl _
  have up:∀ k,d < k->(k ∈ a↔k ∈ b):=fun k hk=>by
   by_cases h:k ∈ a↔k ∈ b
   ·exact h
   ·have:=top k ((hs k).mpr h);omega
  have one:=(hs d).mp md
  have nz:s≠[]:=fun z=>by rw[z] at md;cases md
  by_cases ha:d ∈ a
  ·have hb:d ∉ b:=fun h=>one ⟨fun _=>h,fun _=>ha⟩
   have:=tw_less nb na hb ha fun k hk=>(up k hk).symm
   exact⟨⟨fun h=>by omega,fun ⟨d',h,n⟩=>by cases h;exact absurd ha n⟩,⟨fun h=>by omega,fun h=>absurd h nz⟩⟩
  ·have hb:d ∈ b:=by
    by_cases h:d ∈ b
    ·exact h
    ·exact absurd ⟨fun x=>absurd x ha,fun x=>absurd x h⟩ one
   have:=tw_less na nb ha hb up
   exact⟨⟨fun _=>⟨d,rfl,ha⟩,fun _=>this⟩,⟨fun h=>by omega,fun h=>absurd h nz⟩⟩
end Two
namespace Peel
/-- ties by their ends -/
abbrev T2:=Nat × Nat
/-- kept ties of p to places that aren't gone -/
def hit (gone:List Nat) (p:Nat) (t:T2):Bool:=(t.1 == p && !gone.contains t.2) || (t.2 == p && !gone.contains t.1)
def deg (ts:List T2) (gone:List Nat) (p:Nat):Nat:=ts.countP (hit gone p)
def may (ts:List T2) (d:Int) (gone:List Nat) (p:Nat):Bool:=!gone.contains p && decide ((deg ts gone p:Int)≤d)
def next (n:Nat) (ts:List T2) (d:Int) (gone:List Nat):Option Nat:=(List.range n).find? (may ts d gone)
def run (n:Nat) (ts:List T2) (d:Int):Nat->List Nat->List Nat
 | 0,g=>g
 | f + 1,g=>match next n ts d g with
  | none=>g
  | some p=>run n ts d f (g++[p])
section
variable {n:Nat} {ts:List T2} {d:Int} {g:List Nat} {p:Nat}
/-- good: places of the web, none twice -/
def Good (n:Nat) (g:List Nat):Prop:=g.Nodup∧∀ p ∈ g,p < n
theorem len_below:∀ (n:Nat) (g:List Nat),g.Nodup->(∀ p ∈ g,p < n)->g.length≤n
 | 0,[],_,_=>Nat.le_refl _
 | 0,p::_,_,h=>absurd (h p List.mem_cons_self) (Nat.not_lt_zero _)
 | n + 1,g,nd,h=>by
  have h1:=len_below n (g.filter fun p=>p != n) (nd.filter _) fun p hp=>by
   have:=List.mem_filter.mp hp
   have a:=h p this.1
   have b:p≠n:=by simpa using this.2
   omega
  have e:g.length=(g.filter fun p=>p != n).length + g.countP (fun p=>p == n):=by
   rw[← List.countP_eq_length_filter]
   have:=List.length_eq_countP_add_countP (fun p=>p == n) (l:=g)
   have e2:g.countP (fun p=>decide ¬(p == n)=true)=g.countP fun p=>p != n:=List.countP_congr fun x _=>by simp
   rw[e2] at this
   omega
  have c:g.countP (fun p=>p == n)≤1:=by
   have:=List.nodup_iff_count.mp nd n
   exact this
  omega
theorem Good.len (h:Good n g):g.length≤n:=len_below n g h.1 h.2
theorem Good.nil:Good n []:=⟨List.nodup_nil,fun p h=>by cases h⟩
theorem Good.snoc (h:Good n g) (hp:p < n) (np:p ∉ g):Good n (g++[p]):=by
 refine⟨List.nodup_append.mpr ⟨h.1,by simp,fun a ha b hb e=>np ?_⟩,fun q hq=>?_⟩
 ·have:b=p:=by simpa using hb
  subst this;subst e;exact ha
 ·rcases List.mem_append.mp hq with hq | hq
  ·exact h.2 q hq
  ·have:q=p:=by simpa using hq
   subst this;exact hp
/-- all that go, from none on -/
def gone (n:Nat) (ts:List T2) (d:Int):List Nat:=run n ts d n []
end
end Peel
namespace L3
open PySem PySem.Spec PyProof.Rows L2
abbrev Row8:=List Nat × List Nat
def atE (ts:List Tie) (v k:Nat):Bool:=decide ((v:Int)=(tieAt ts k).1) || decide ((v:Int)=(tieAt ts k).2.1)
def othN (ts:List Tie) (v k:Nat):Nat:=((tieAt ts k).1 + (tieAt ts k).2.1 - (v:Int)).toNat
def endsN (ts:List Tie) (ks:List Nat) (v:Nat):List (Nat × Nat):=(ks.filter (atE ts v)).map fun k=>(othN ts v k,k)
def lastN (ws:List Nat):Nat:=ws.getLast?.getD 0
def goes (e:Nat) (r:Row8) (q:Nat × Nat):Bool:=decide (q.1 ∉ r.1) && decide (lastN r.1≠e)
def longN (ts:List Tie) (ks:List Nat) (e:Nat) (r:Row8):List Row8:=((endsN ts ks (lastN r.1)).filter (goes e r)).map fun q=>(r.1++[q.1],r.2++[q.2])
def rowsN (ts:List Tie) (ks:List Nat) (s e:Nat):Nat->List Row8
 | 0=>[([s],[])]
 | j + 1=>(rowsN ts ks s e j).flatMap (longN ts ks e)
def endR (e:Nat) (r:Row8):Bool:=decide (lastN r.1=e)
def fndN (ts:List Tie) (ks:List Nat) (s e n:Nat):List Row8:=(List.range n).flatMap fun j=>(rowsN ts ks s e j).filter (endR e)
theorem last_snoc (ws:List Nat) (v:Nat):lastN (ws++[v])=v:=by unfold lastN;simp
section
variable {n:Int} {ts:List Tie} {ks:List Nat}
theorem ends_mem (ok:WebOk n ts) (ko:KeepOk ts.length ks) {v u k:Nat}:(u,k) ∈ endsN ts ks v↔(v,u,(tieAt ts k).2.2,k) ∈ arcsB ts ks:=by
 unfold endsN
 rw[List.mem_map,arcsB_mem]
 constructor
 ·rintro ⟨k',hk',e⟩
  obtain⟨hk,ha⟩:=List.mem_filter.mp hk'
  injection e with e1 e2
  subst e2
  have tk:=ok.tie _ (tieAt_in (ko.2 _ hk)).2
  refine⟨k',hk,arcs2B_mem.mpr ?_⟩
  unfold atE at ha
  rw[Bool.or_eq_true,decide_eq_true_iff,decide_eq_true_iff] at ha
  unfold othN at e1
  rcases ha with h | h
  ·left
   rw[show v=(tieAt ts k').1.toNat by omega,show u=(tieAt ts k').2.1.toNat by omega]
  ·right
   rw[show v=(tieAt ts k').2.1.toNat by omega,show u=(tieAt ts k').1.toNat by omega]
 ·rintro ⟨k',hk',m⟩
  have tk:=ok.tie _ (tieAt_in (ko.2 _ hk')).2
  rcases arcs2B_mem.mp m with e | e
  ·injection e with e1 e;injection e with e2 e;injection e with e3 e4
   subst e4
   refine⟨k,List.mem_filter.mpr ⟨hk',?_⟩,?_⟩
   ·unfold atE;rw[decide_eq_true (show (v:Int)=(tieAt ts k).1 by omega)];rfl
   ·unfold othN;rw[show ((tieAt ts k).1 + (tieAt ts k).2.1 - (v:Int)).toNat=u by omega]
  ·injection e with e1 e;injection e with e2 e;injection e with e3 e4
   subst e4
   refine⟨k,List.mem_filter.mpr ⟨hk',?_⟩,?_⟩
   ·unfold atE;rw[decide_eq_true (show (v:Int)=(tieAt ts k).2.1 by omega),Bool.or_true]
   ·unfold othN;rw[show ((tieAt ts k).1 + (tieAt ts k).2.1 - (v:Int)).toNat=u by omega]
theorem rows_rt (ok:WebOk n ts) (ko:KeepOk ts.length ks) {s e:Nat}:∀ (j:Nat) (r:Row8),r ∈ rowsN ts ks s e j->∃ v x y,Far.Rt (arcsB ts ks) s r.1 r.2 v x y∧lastN r.1=v∧r.2.length=j
 | 0,r,h=>by
  obtain rfl:r=([s],[]):=List.mem_singleton.mp h
  exact⟨s,0,0,.one,rfl,rfl⟩
 | j + 1,r,h=>by
  obtain⟨r0,h0,h1⟩:=List.mem_flatMap.mp h
  obtain⟨v,x,y,rt,el,ll⟩:=rows_rt ok ko j r0 h0
  unfold longN at h1
  obtain⟨q,hq,rfl⟩:=List.mem_map.mp h1
  obtain⟨hq1,hq2⟩:=List.mem_filter.mp hq
  unfold goes at hq2
  rw[Bool.and_eq_true,decide_eq_true_iff,decide_eq_true_iff] at hq2
  rw[el] at hq1
  have m:=(ends_mem (u:=q.1) (k:=q.2) ok ko).mp hq1
  exact⟨q.1,_,_,.snoc rt m hq2.1,last_snoc _ _,by rw[List.length_append,ll];rfl⟩
theorem fnd_rt (ok:WebOk n ts) (ko:KeepOk ts.length ks) {s e m:Nat} {r:Row8} (h:r ∈ fndN ts ks s e m):∃ x y,Far.Rt (arcsB ts ks) s r.1 r.2 e x y:=by
 obtain⟨j,_,h1⟩:=List.mem_flatMap.mp h
 obtain⟨h2,h3⟩:=List.mem_filter.mp h1
 obtain⟨v,x,y,rt,el,_⟩:=rows_rt ok ko j r h2
 have:lastN r.1=e:=of_decide_eq_true h3
 rw[← this,el]
 exact⟨x,y,rt⟩
theorem rt_rows (ok:WebOk n ts) (ko:KeepOk ts.length ks) {s e:Nat} {ws S:List Nat} {v:Nat} {x y:Int} (rt:Far.Rt (arcsB ts ks) s ws S v x y):e ∉ ws.dropLast->(ws,S) ∈ rowsN ts ks s e S.length∧lastN ws=v:=by
 induction rt with
 | one=>intro _;exact⟨List.mem_singleton.mpr rfl,rfl⟩
 | @snoc ws S u v x y l k r m nv ih =>
  intro ne
  rw[List.dropLast_concat] at ne
  obtain⟨h1,h2⟩:=ih fun z=>ne (List.dropLast_subset _ z)
  refine⟨?_,last_snoc _ _⟩
  rw[List.length_append]
  refine List.mem_flatMap.mpr ⟨(ws,S),h1,List.mem_map.mpr ⟨(v,k),List.mem_filter.mpr ⟨?_,?_⟩,rfl⟩⟩
  ·show (v,k) ∈ endsN ts ks (lastN ws)
   rw[h2,ends_mem ok ko]
   have K:=arcsB_keys ok ko
   obtain⟨k',hk',mm⟩:=arcsB_mem.mp m
   rcases arcs2B_mem.mp mm with e' | e' <;> (cases e';exact m)
  ·show (decide (v ∉ ws) && decide (lastN ws≠e))=true
   obtain⟨q,eq⟩:=r.foot
   have:u ∈ ws:=by rw[eq];simp
   rw[h2,decide_eq_true nv,decide_eq_true (show u≠e from fun z=>ne (by rw[← z];exact this))];rfl
theorem rt_fnd (ok:WebOk n ts) (ko:KeepOk ts.length ks) {s e:Nat} {ws S:List Nat} {x y:Int} (hs:s < n.toNat) (rt:Far.Rt (arcsB ts ks) s ws S e x y):(ws,S) ∈ fndN ts ks s e n.toNat:=by
 have nd:=rt.unlike
 obtain⟨q,eq⟩:=rt.foot
 have ne:e ∉ ws.dropLast:=by
  rw[eq,List.dropLast_concat]
  rw[eq] at nd
  intro z
  exact (List.nodup_append.mp nd).2.2 e z e List.mem_cons_self rfl
 obtain⟨h1,h2⟩:=rt_rows ok ko rt ne
 have inn:∀ u v l k,(u,v,l,k) ∈ arcsB ts ks->u < n.toNat∧v < n.toNat:=fun u v l k m=>by
  obtain⟨k',hk',mm⟩:=arcsB_mem.mp m
  have tk:=ok.tie _ (tieAt_in (ko.2 _ hk')).2
  rcases arcs2B_mem.mp mm with e' | e' <;> (cases e';exact⟨by omega,by omega⟩)
 have pl:=rt.places hs inn
 have le:=Peel.len_below n.toNat ws nd pl
 rw[rt.len] at le
 exact List.mem_flatMap.mpr ⟨S.length,List.mem_range.mpr (by omega),List.mem_filter.mpr ⟨h1,decide_eq_true h2⟩⟩
def lenS (ts:List Tie) (S:List Nat):Int:=(S.map fun k=>(tieAt ts k).2.2).sum
def lessR (ts:List Tie) (a b:Row8):Bool:=decide (lenS ts a.2 < lenS ts b.2) || (decide (lenS ts a.2=lenS ts b.2) && decide (Two.tw a.2 < Two.tw b.2))
theorem rt_pow {B:List Far.Arc} {a:Nat} {ws S:List Nat} {b:Nat} {x y:Int} (rt:Far.Rt B a ws S b x y):y=(Two.tw S:Int):=by
 induction rt with
 | one=>rfl
 | @snoc ws S u v x y l k r m nv ih =>
  rw[Two.tw_perm (List.perm_append_comm (l₁:=S) (l₂:=[k])),ih]
  show (Two.tw S:Int) + 2 ^ k=((2 ^ k + Two.tw S:Nat):Int)
  push_cast
  omega
theorem rt_len (ok:WebOk n ts) (ko:KeepOk ts.length ks) {a:Nat} {ws S:List Nat} {b:Nat} {x y:Int} (rt:Far.Rt (arcsB ts ks) a ws S b x y):lenS ts S=x:=rt.lens fun u v l k m=>by
 obtain⟨k',hk',mm⟩:=arcsB_mem.mp m
 rcases arcs2B_mem.mp mm with e' | e' <;> (cases e';rfl)
/-- a row that none is less than is the way -/
theorem least_way (ok:WebOk n ts) (ko:KeepOk ts.length ks) {s e:Nat} (hs:s < n.toNat) {r:Row8} (hr:r ∈ fndN ts ks s e n.toNat) (least:∀ q ∈ fndN ts ks s e n.toNat,lessR ts q r=false) {ws:List Nat} (h:Far.MinW (arcsB ts ks) s e ws):r.1=ws:=by
 have K:=arcsB_keys ok ko
 obtain⟨x,y,rt⟩:=fnd_rt ok ko hr
 refine Far.MinW.unique K h ⟨r.2,x,y,rt,fun L w=>?_⟩
 obtain⟨S',x',y',rt',le⟩:=h
 have l:=least (ws,S') (rt_fnd ok ko hs rt')
 unfold lessR at l
 rw[rt_len ok ko rt,rt_len ok ko rt'] at l
 have e1:=rt_pow rt
 have e2:=rt_pow rt'
 rw[Bool.or_eq_false_iff,Bool.and_eq_false_iff,decide_eq_false_iff_not,decide_eq_false_iff_not,decide_eq_false_iff_not] at l
 have b1:=rt.lt K
 have b2:=rt'.lt K
 have:=le L w
 refine Int.le_trans ?_ this
 unfold Far.comb
 simp only
 obtain⟨l1,l2⟩:=l
 by_cases c:x=x'
 ·have:¬ Two.tw S' < Two.tw r.2:=l2.elim (fun h=>absurd c.symm h) id
  subst c
  omega
 ·have:x < x':=by omega
  have:(x + 1) * 2 ^ 61≤x' * 2 ^ 61:=Int.mul_le_mul_of_nonneg_right (by omega) (by decide)
  omega
theorem ends_len (ok:WebOk n ts) (ko:KeepOk ts.length ks) (v:Nat):(endsN ts ks v).length≤n.toNat:=by
 have nd:((endsN ts ks v).map (·.1)).Nodup:=by
  unfold endsN
  rw[List.map_map,List.Nodup,List.pairwise_map]
  have nk:(ks.filter (atE ts v)).Nodup:=(ko.1.imp fun h=>Nat.ne_of_lt h).sublist List.filter_sublist
  refine List.Pairwise.imp_of_mem ?_ nk
  intro a b ha hb ne z
  have z:othN ts v a=othN ts v b:=z
  have ma:(othN ts v a,a) ∈ endsN ts ks v:=List.mem_map.mpr ⟨a,ha,rfl⟩
  have mb:(othN ts v b,b) ∈ endsN ts ks v:=List.mem_map.mpr ⟨b,hb,rfl⟩
  have e1:=tb_arcB ok ko ((ends_mem ok ko).mp ma)
  have e2:=tb_arcB ok ko ((ends_mem ok ko).mp mb)
  rw[← z,e1] at e2
  exact ne (Option.some.inj e2)
 have:=Peel.len_below n.toNat _ nd fun u hu=>by
  obtain⟨q,hq,rfl⟩:=List.mem_map.mp hu
  obtain⟨k',hk',mm⟩:=arcsB_mem.mp ((ends_mem (u:=q.1) (k:=q.2) ok ko).mp hq)
  have tk:=ok.tie _ (tieAt_in (ko.2 _ hk')).2
  rcases arcs2B_mem.mp mm with e' | e'
  ·injection e' with a1 e';injection e' with a2 e'
   omega
  ·injection e' with a1 e';injection e' with a2 e'
   omega
 rwa [List.length_map] at this
theorem flat8 {α β:Type} (f:α->List β) (m:Nat):∀ l:List α,(∀ x ∈ l,(f x).length≤m)->(l.flatMap f).length≤l.length * m
 | [],_=>Nat.zero_le _
 | x::l,h=>by
  rw[List.flatMap_cons,List.length_append,List.length_cons,Nat.succ_mul]
  have:=flat8 f m l fun y hy=>h y (List.mem_cons_of_mem _ hy)
  have:=h x List.mem_cons_self
  omega
theorem long_len (ok:WebOk n ts) (ko:KeepOk ts.length ks) (n7:n≤7) (e:Nat) (r:Row8):(longN ts ks e r).length≤7:=by
 unfold longN
 rw[List.length_map]
 have:=List.length_filter_le (goes e r) (endsN ts ks (lastN r.1))
 have:=ends_len ok ko (lastN r.1)
 omega
theorem rows_len (ok:WebOk n ts) (ko:KeepOk ts.length ks) (n7:n≤7) (s e:Nat):∀ j,(rowsN ts ks s e j).length≤7 ^ j
 | 0=>Nat.le_refl _
 | j + 1=>by
  have ih:=rows_len ok ko n7 s e j
  have:=flat8 (longN ts ks e) 7 (rowsN ts ks s e j) fun x _=>long_len ok ko n7 e x
  show ((rowsN ts ks s e j).flatMap (longN ts ks e)).length≤_
  rw[Nat.pow_succ]
  exact Nat.le_trans this (Nat.mul_le_mul_right 7 ih)
theorem rows_few (ok:WebOk n ts) (ko:KeepOk ts.length ks) (n7:n≤7) (s e:Nat) {j:Nat} (h:j≤6):(rowsN ts ks s e j).length≤117649:=Nat.le_trans (rows_len ok ko n7 s e j) (Nat.le_trans (Nat.pow_le_pow_right (by decide) h) (by decide))
theorem fnd_few (ok:WebOk n ts) (ko:KeepOk ts.length ks) (n7:n≤7) (s e:Nat) {j:Nat} (h:j≤7):(fndN ts ks s e j).length≤823543:=by
 have:=flat8 (fun j=>(rowsN ts ks s e j).filter (endR e)) 117649 (List.range j) fun x hx=>Nat.le_trans (List.length_filter_le _ _) (rows_few ok ko n7 s e (by have:=List.mem_range.mp hx;omega))
 rw[List.length_range] at this
 exact Nat.le_trans this (by omega)
theorem rows_ne (ok:WebOk n ts) (ko:KeepOk ts.length ks) {s e j:Nat} {r:Row8} (h:r ∈ rowsN ts ks s e j):r.1≠[]∧(s < n.toNat->∀ p ∈ r.1,p < n.toNat)∧r.1.length=j + 1∧r.2.length=j:=by
 obtain⟨v,x,y,rt,el,ll⟩:=rows_rt ok ko j r h
 obtain⟨q,hq⟩:=rt.head
 refine⟨by rw[hq];simp,fun hs=>rt.places hs fun u v l k m=>?_,by rw[rt.len,ll],ll⟩
 obtain⟨k',hk',mm⟩:=arcsB_mem.mp m
 have tk:=ok.tie _ (tieAt_in (ko.2 _ hk')).2
 rcases arcs2B_mem.mp mm with e' | e' <;> (cases e';exact⟨by omega,by omega⟩)
end
end L3
namespace Stb
open PySem
def Asc (xs:Array Nat):Prop:=∀ i j,i < j->j < xs.size->xs.getD i 0 < xs.getD j 0
theorem go_spec (xs:Array Nat) (j:Nat) (asc:Asc xs):∀ (fuel lo hi:Nat),lo≤hi->hi≤xs.size->hi - lo≤fuel->(∀ i,i < lo->xs.getD i 0 < j)->(∀ i,hi≤i->i < xs.size->j≤xs.getD i 0) ->
  (∀ i,i < SetTable.below.go xs j fuel lo hi->xs.getD i 0 < j)∧(∀ i,SetTable.below.go xs j fuel lo hi≤i->i < xs.size->j≤xs.getD i 0)∧SetTable.below.go xs j fuel lo hi≤xs.size
 | 0,lo,hi,h1,h2,h3,a,b=>by
  have e:lo=hi:=by omega
  subst e
  exact⟨a,b,h2⟩
 | fuel + 1,lo,hi,h1,h2,h3,a,b=>by
  unfold SetTable.below.go
  by_cases c:lo < hi
  ·rw[if_pos c]
   have hm:(lo + hi) / 2 < xs.size:=by omega
   have eg:xs.getD ((lo + hi) / 2) j=xs.getD ((lo + hi) / 2) 0:=by rw[Array.getD_eq_getD_getElem?,Array.getD_eq_getD_getElem?,Array.getElem?_eq_getElem hm];rfl
   by_cases d:xs.getD ((lo + hi) / 2) j < j
   ·simp only [if_pos d]
    refine go_spec xs j asc fuel _ hi (by omega) h2 (by omega) (fun i hi'=>?_) b
    rcases Nat.lt_or_eq_of_le (Nat.le_of_lt_succ hi') with z | z
    ·have:=asc i _ z hm;omega
    ·rw[z];omega
   ·simp only [if_neg d]
    refine go_spec xs j asc fuel lo _ (by omega) (by omega) (by omega) a (fun i hi' hs=>?_)
    rcases Nat.lt_or_eq_of_le hi' with z | z
    ·have:=asc _ i z hs;omega
    ·rw[← z];omega
  ·rw[if_neg c]
   have e:lo=hi:=by omega
   subst e
   exact⟨a,b,h2⟩
theorem below_spec (xs:Array Nat) (j:Nat) (asc:Asc xs):(∀ i,i < SetTable.below xs j->xs.getD i 0 < j)∧(∀ i,SetTable.below xs j≤i->i < xs.size->j≤xs.getD i 0)∧SetTable.below xs j≤xs.size:=by
 unfold SetTable.below
 exact go_spec xs j asc _ 0 xs.size (Nat.zero_le _) (Nat.le_refl _) (by omega) (fun i h=>by omega) (fun i h1 h2=>by omega)
/-- the place behind the i-th -/
theorem below_next (xs:Array Nat) (asc:Asc xs) {i p:Nat} (h:xs[i]?=some p):SetTable.below xs (p + 1)=i + 1:=by
 obtain⟨hi,e⟩:=Array.getElem?_eq_some_iff.mp h
 have eg:xs.getD i 0=p:=by rw[Array.getD_eq_getD_getElem?,h];rfl
 obtain⟨h1,h2,h3⟩:=below_spec xs (p + 1) asc
 rcases Nat.lt_trichotomy (SetTable.below xs (p + 1)) (i + 1) with z | z | z
 ·have:=h2 i (by omega) hi;omega
 ·exact z
 ·have a:=h1 (i + 1) z
  have b:=asc i (i + 1) (by omega) (by omega)
  omega
theorem below_zero (xs:Array Nat) (asc:Asc xs):SetTable.below xs 0=0:=by
 obtain⟨h1,_,_⟩:=below_spec xs 0 asc
 rcases Nat.eq_zero_or_pos (SetTable.below xs 0) with z | z
 ·exact z
 ·have:=h1 0 z;omega
theorem Asc.list {xs:Array Nat}:Asc xs↔xs.toList.Pairwise (· < ·):=by
 rw[List.pairwise_iff_getElem]
 have g:∀ i (h:i < xs.toList.length),xs.getD i 0=xs.toList[i]:=fun i h=>by
  have h':i < xs.size:=by simpa using h
  rw[Array.getD_eq_getD_getElem?,Array.getElem?_eq_getElem h'];simp
 constructor
 ·intro a i j hi hj ij
  have:=a i j ij (by simpa using hj)
  rw[g i hi,g j hj] at this
  exact this
 ·intro a i j ij hj
  have hj':j < xs.toList.length:=by simpa using hj
  have:=a i j (by omega) hj' ij
  rw[g i (by omega),g j hj']
  exact this
theorem asc_insert {xs:Array Nat} {j:Nat} (asc:Asc xs) (new:xs[SetTable.below xs j]?≠some j):Asc (SetTable.insertAt xs (SetTable.below xs j) j):=by
 obtain⟨h1,h2,h3⟩:=below_spec xs j asc
 rw[Asc.list,SetTable.toList_insertAt]
 have al:=Asc.list.mp asc
 have g:∀ i (h:i < xs.size),xs.getD i 0=xs[i]:=fun i h=>by rw[Array.getD_eq_getD_getElem?,Array.getElem?_eq_getElem h];rfl
 have lo:∀ x ∈ xs.toList.take (SetTable.below xs j),x < j:=fun x hx=>by
  obtain⟨i,hi,e⟩:=List.getElem_of_mem hx
  rw[List.length_take] at hi
  have hs:i < xs.size:=by simp at hi;omega
  have:=h1 i (by omega)
  rw[g i hs] at this
  rw[List.getElem_take] at e
  have e':xs[i]=x:=by simpa using e
  omega
 have hi:∀ x ∈ xs.toList.drop (SetTable.below xs j),j < x:=fun x hx=>by
  obtain⟨i,hi,e⟩:=List.getElem_of_mem hx
  rw[List.length_drop] at hi
  have hs:SetTable.below xs j + i < xs.size:=by simp at hi;omega
  have:=h2 (SetTable.below xs j + i) (by omega) hs
  rw[g _ hs] at this
  rw[List.getElem_drop] at e
  have e':xs[SetTable.below xs j + i]=x:=by simpa using e
  rcases Nat.lt_or_eq_of_le this with z | z
  ·omega
  ·exfalso
   rcases Nat.eq_zero_or_pos i with i0 | i0
   ·subst i0
    apply new
    rw[Array.getElem?_eq_getElem (by omega)]
    simp at z
    rw[← z]
   ·have b0:SetTable.below xs j < xs.size:=by omega
    have q1:=h2 (SetTable.below xs j) (Nat.le_refl _) b0
    have q2:=asc (SetTable.below xs j) (SetTable.below xs j + i) (by omega) hs
    rw[g _ hs] at q2
    omega
 refine List.pairwise_append.mpr ⟨al.sublist (List.take_sublist _ _),List.pairwise_cons.mpr ⟨fun x hx=>hi x hx,al.sublist (List.drop_sublist _ _)⟩,fun a ha b hb=>?_⟩
 rcases List.mem_cons.mp hb with z | z
 ·rw[z];exact lo a ha
 ·have:=lo a ha;have:=hi b z;omega
theorem asc_range (n:Nat):Asc (Array.range n):=by
 rw[Asc.list]
 simpa using List.pairwise_lt_range
/-- what holds of each table that was made by adding -/
def TI (b:Bool) (t:SetTable):Prop:=Asc t.place∧t.led=b
theorem ti_fresh (b:Bool):TI b (.fresh 0 0 b):=⟨fun i j _ h=>by simp [SetTable.fresh] at h,rfl⟩
theorem ti_standIn {b:Bool} {t:SetTable} (h:TI b t) (n:Nat):TI b (t.standIn n):=⟨asc_range n,h.2⟩
theorem ti_or {b:Bool} {t:SetTable} (h:TI b t) (n:Nat):TI b (t.orStandIn n):=by
 unfold SetTable.orStandIn
 split
 ·exact h
 ·exact ti_standIn h n
theorem ti_plain {b:Bool} {t:SetTable} (h:TI b t):TI b { t with plain:=false }:=h
theorem slot_new {t:SetTable} {j:Nat} (h:t.slot j=.empty∨t.slot j=.dummy):t.place[SetTable.below t.place j]?≠some j:=fun e=>by
 unfold SetTable.slot at h
 have c:(t.place[SetTable.below t.place j]? == some j)=true:=by rw[e];simp
 simp only [c,if_true] at h
 rcases h with h | h <;> cases h
theorem probe_free (t:SetTable) (hashAt:Nat->Int) (h:Int):∀ (f:Nat) (p:SetTable.Probe),(∀ d,p.dummy=some d->t.slot d=.dummy)->∀ j dm,SetTable.probe.go t hashAt h f p=some (.empty j dm)->t.slot j=.empty∧∀ d,dm=some d->t.slot d=.dummy
 | 0,p,_,j,dm,e=>by cases e
 | f + 1,p,hp,j,dm,e=>by
  have adv:∀ q:SetTable.Probe,(t.advance q).dummy=q.dummy:=fun q=>by
   unfold SetTable.advance
   split <;> rfl
  unfold SetTable.probe.go at e
  split at e
  ·rename_i hs
   injection e with e
   injection e with e1 e2
   subst e1;subst e2
   exact⟨hs,hp⟩
  ·rename_i hs
   refine probe_free t hashAt h f _ (fun d hd=>?_) j dm e
   rw[adv] at hd
   have:p.j=d:=by simpa using hd
   rw[← this];exact hs
  ·split at e
   ·cases e
   ·refine probe_free t hashAt h f _ (fun d hd=>?_) j dm e
    rw[adv] at hd
    exact hp d hd
theorem free_new {t:SetTable} {h:Int} {s:Nat} {w:Bool} (e:t.freeSlot h=some (s,w)):t.place[SetTable.below t.place s]?≠some s:=by
 unfold SetTable.freeSlot at e
 split at e
 ·rename_i j dm hm
  unfold SetTable.probe at hm
  obtain⟨h1,h2⟩:=probe_free t _ h _ _ (fun d hd=>by cases hd) j dm hm
  injection e with e
  injection e with e1 _
  cases dm with
  | none=>exact slot_new (.inl (by rw[← e1];exact h1))
  | some d=>exact slot_new (.inr (by rw[← e1];exact h2 d rfl))
 ·cases e
theorem ti_layNew {b:Bool} {t:SetTable} (h:TI b t) (es:Array (Int × Value)) (k:Int) (x:Value):TI b (layNew t es k x).2.1:=by
 unfold layNew
 split
 ·rename_i s w e
  exact ti_or (t:=(t.put s).1) ⟨asc_insert h.1 (free_new e),h.2⟩ _
 ·exact ti_standIn h _
theorem fm_sub {f:Nat->Option Nat} (hf:∀ j y,f j=some y->y=j):∀ l:List Nat,(l.filterMap f).Sublist l
 | []=>.slnil
 | j::l=>by
  rw[List.filterMap_cons]
  cases e:f j with
  | none=>exact (fm_sub hf l).cons j
  | some y=>rw[hf j y e];exact (fm_sub hf l).cons₂ j
theorem ti_relay {b:Bool} {t:SetTable} (h:TI b t) (es:Array (Int × Value)) (wanted:Nat):TI b (relayAll t es wanted).2.1:=by
 unfold relayAll
 split
 ·rename_i t' order e
  dsimp only
  split
  ·unfold SetTable.relaid SetTable.laid at e
   simp only [Option.bind_eq_bind,Option.bind_eq_some_iff] at e
   obtain⟨owner,_,e⟩:=e
   injection e with e
   injection e with e1 _
   rw[← e1]
   refine⟨?_,h.2⟩
   rw[Asc.list]
   simp only [List.map_filterMap]
   refine List.pairwise_lt_range.sublist (fm_sub (fun j y hy=>?_) _)
   cases c:owner.getD j none with
   | none=>rw[c] at hy;cases hy
   | some z=>rw[c] at hy;exact (Option.some.inj hy).symm
  ·exact ti_standIn h _
 ·exact ti_standIn h _
end Stb
namespace Stb
open PySem PyProof.Rows
/-- whether sets of this world are led -/
def ledOf (w:World):Bool:=!w.params.followText "set-order"
/-- the table of the set at a -/
def TIat (w:World) (h:Heap) (a:Addr):Prop:=∃ o es ep t,h.get? a=some o∧o.data=.set es ep t∧TI (ledOf w) t
abbrev SetT (P:Program) (w:World) (h:Heap) (a:Addr) (S:Int->Bool) (n:Nat):Prop:=h.SetOf (intKind P w) a S n∧TIat w h a
section
variable {prog:Program} {w:World} {A:Around} {E:Value->Shared->Prop} {s:Shared}
theorem SetT.keep {h h':Heap} {a:Addr} {S:Int->Bool} {n:Nat} (x:SetT prog w h a S n) (k:∀ o,h.get? a=some o->h'.get? a=some o):SetT prog w h' a S n:=by
 obtain⟨⟨o,es,ep,t,ho,r⟩,o',es',ep',t',ho',r'⟩:=x
 exact⟨⟨o,es,ep,t,k _ ho,r⟩,o',es',ep',t',k _ ho',r'⟩
/-- what is behind the finding of a place -/
theorem lay_tail {g:Bool->Sem Unit} (gp:∀ (b:Bool) (z:Shared) (U:Unit->Shared->Prop),U () z->wpAny (model prog w) A (g b) U E z) {S':Int->Bool}
  {a:Addr} {o:Obj} {es es1:Array (Int × Value)} {ep:Nat} {t t2:SetTable} (ho:s.heap.get? a=some o) (ox:o.ExactSet) (od:o.data=.set es ep t)
  (el:ElemsOf (intKind prog w) es1.toList) (me:∀ k,S' k=true↔∃ e ∈ es1.toList,(intKind prog w).is k e.2=true) (small:es1.size < scanBound) (fit:t2.fits es1.size=true) (ti:TI (ledOf w) t2) {dum:Bool} {R:Option Bool->Shared->Prop}
  (fin:∀ h',Heap.SameBut a s.heap h'->SetT prog w h' a S' es1.size->R (some true) { s with heap:=h' }) :
  wpAny (model prog w) A (do
      storeSet a es1 t2
      if (!dum && t2.tooFull) = true then do
          g (relayAll t2 es1 (SetTable.grown es1.size)).2.2
          storeSet a (relayAll t2 es1 (SetTable.grown es1.size)).1 (relayAll t2 es1 (SetTable.grown es1.size)).2.1
          pure (some true)
        else pure (some true)) R E s:=by
 refine wpAny_bind (wpAny_storeSet_of ho od ?_ (fits_of_scanBound small))
 obtain⟨g1,s1⟩:=SetOf_store (knd:=intKind prog w) ho ox od el me small fit
 have sb:=Heap.SameBut.update s.heap a (Obj.putSet es1 t2)
 split
 ·have pm:=relayAll_perm t2 es1 (SetTable.grown es1.size)
  have fr:=relayAll_fits t2 es1 (SetTable.grown es1.size)
  have tr:=ti_relay ti es1 (SetTable.grown es1.size)
  generalize relayAll t2 es1 (SetTable.grown es1.size)=Rl at pm fr tr ⊢
  obtain⟨es2,t3,gv⟩:=Rl
  dsimp only at pm fr tr ⊢
  have sz:es2.size=es1.size:=by rw[← Array.length_toList,pm.length_eq,Array.length_toList]
  have sm2:es2.size < scanBound:=sz ▸ small
  refine wpAny_bind (gp _ _ _ (wpAny_bind (wpAny_storeSet_of g1 rfl ?_ (fits_of_scanBound sm2))))
  obtain⟨g2,s2⟩:=SetOf_store (knd:=intKind prog w) g1 ox rfl (el.perm pm) (fun k=>(me k).trans ⟨fun ⟨e,he,q⟩=>⟨e,pm.mem_iff.mpr he,q⟩,fun ⟨e,he,q⟩=>⟨e,pm.mem_iff.mp he,q⟩⟩) sm2 fr
  rw[sz] at s2
  exact wpAny_pure (fin _ (sb.trans (Heap.SameBut.update _ a _)) ⟨s2,_,_,_,_,g2,rfl,tr⟩)
 ·exact wpAny_pure (fin _ sb ⟨s1,_,_,_,_,g1,rfl,ti⟩)
/-- one more -/
theorem add_T {a:Addr} {S:Int->Bool} {n:Nat} {k:Int} {x:Value} {Q:Bool->Shared->Prop} (kx:(intKind prog w).is k x=true) (sx:x.scannable=true) (st:SetT prog w s.heap a S n) (room:n + 1 < scanBound)
  (fin:∀ h',Heap.SameBut a s.heap h'->SetT prog w h' a (fun y=>S y || decide (y=k)) (if S k then n else n + 1)->Q (!S k) { s with heap:=h' }) :
  wpAny (model prog w) A (setAddHashed a x ((intKind prog w).hash k)) Q E s:=by
 obtain⟨⟨o,es,ep,t,ho,ox,od,el,me,small,fit,en⟩,o',es',ep',t',ho',od',ti⟩:=st
 rw[ho] at ho';cases ho'
 rw[od] at od';cases od'
 have small1:es.size + 1 < scanBound:=en ▸ room
 unfold setAddHashed setAddHashedIn
 refine wpAny_holding (wpAny_bind (wpAny_setState_of ho od fit ?_))
 dsimp only
 rw[byScan_of sx small el,if_pos rfl]
 unfold setAddByScan
 refine wpAny_bind (wpAny_bind (wpAny_rule (wpAny_bind (wpAny_setScan_of kx ho od fit el ?_))))
 cases fd:List.findIdx? (fun e=>(intKind prog w).is k e.2) es.toList with
 | some j =>
  dsimp only
  obtain⟨jl,jp,_⟩:=List.findIdx?_eq_some_iff_getElem.mp fd
  have sk:S k=true:=(me k).mpr ⟨es.toList[j],List.getElem_mem jl,jp⟩
  refine wpAny_pure (wpAny_pure ?_)
  have es0:s={ s with heap:=s.heap }:=by cases s;rfl
  have q:=fin s.heap (Heap.SameBut.refl a s.heap) ⟨⟨o,es,ep,t,ho,ox,od,el,fun y=>by
   rw[Bool.or_eq_true,decide_eq_true_eq,← me y]
   exact⟨fun z=>z.elim id (fun e=>e ▸ sk),.inl⟩,small,fit,by rw[sk];exact en⟩,o,es,ep,t,ho,od,ti⟩
  rw[sk] at q;rw[es0];exact q
 | none =>
  dsimp only
  have sk:S k=false:=by
   cases c:S k with
   | false=>rfl
   | true=>obtain⟨e,he,hp⟩:=(me k).mp c;have:=List.findIdx?_eq_none_iff.mp fd e he;rw[hp] at this;cases this
  have pm:=layNew_perm t es ((intKind prog w).hash k) x
  have ft:=layNew_fits t es ((intKind prog w).hash k) x
  have tl:=ti_layNew ti es ((intKind prog w).hash k) x
  generalize layNew t es ((intKind prog w).hash k) x=L at pm ft tl ⊢
  obtain⟨es1,t1,dum,gv⟩:=L
  dsimp only at pm ft tl ⊢
  rw[Array.toList_push] at pm
  have el1:ElemsOf (intKind prog w) es1.toList:=(el.push kx sx).perm pm
  have me1:∀ y,(S y || decide (y=k))=true↔∃ e ∈ es1.toList,(intKind prog w).is y e.2=true:=mem_push_iff kx me pm
  have ez:es1.size=es.size + 1:=by rw[← Array.length_toList,pm.length_eq,List.length_append,Array.length_toList];rfl
  have small2:es1.size < scanBound:=ez ▸ small1
  have gw:∀ (b:Bool) (z:Shared) (U:Unit->Shared->Prop),U () z->wpAny (model prog w) A (match b with | true=>rule "set.scan.the-table-gave-way" | false=>pure ()) U E z :=
   fun b z U hq=>by cases b <;> first | exact wpAny_pure hq | exact wpAny_rule hq
  refine wpAny_bind (gw _ _ _ ?_)
  have last:∀ h',Heap.SameBut a s.heap h'->SetT prog w h' a (fun y=>S y || decide (y=k)) es1.size->Q true { s with heap:=h' }:=fun h' sb z=>by
   have q:=fin h' sb;rw[sk] at q;rw[ez,en] at z;exact q z
  split
  ·refine wpAny_bind ?_
   rw[hashByValue_scannable 8 sx]
   refine wpAny_pure (lay_tail (fun b z U hq=>?_) ho ox od el1 me1 small2 ?_ ?_ fun h' sb z=>?_)
   ·cases b <;> first | exact wpAny_pure hq | exact wpAny_rule hq
   ·split
    ·exact ft
    ·exact SetTable.fits_plain_off ft
   ·split
    ·exact tl
    ·exact ti_plain tl
   ·dsimp only;exact wpAny_pure (last h' sb z)
  ·refine wpAny_bind (wpAny_pure ?_)
   simp only [↓reduceIte]
   refine lay_tail (fun b z U hq=>?_) ho ox od el1 me1 small2 ft tl fun h' sb z=>?_
   ·cases b <;> first | exact wpAny_pure hq | exact wpAny_rule hq
   ·dsimp only;exact wpAny_pure (last h' sb z)
/-- all that an iterator gives -/
theorem fill_T {R:Result->Shared->Prop} {I:Addr} {fp wr:List Addr} {G:Array GenState->Array GenState->Prop} {n:Nat} {P:Nat->Value->Prop} {St:Nat->Shared->Prop} (W:WalksS prog w A.in1 I fp wr G n P St) (a:Addr) (af:a ∉ fp)
  (val:Nat->Int) (hv:∀ i v,P i v->∃ t,v=.int (val i) t) (hb:n + 1 < scanBound) :
  ∀ (k i:Nat) (s:Shared),n - i=k->i≤n->St i s->SetT prog w s.heap a (fun y=>(firstMet val i).any (· == y)) (firstMet val i).length ->
   (∀ s',Moved (a::wr) G s s'->SetT prog w s'.heap a (fun y=>(firstMet val n).any (· == y)) (firstMet val n).length->R (.ok (.ret .none)) s') ->
   codeAny (model prog w) A (.builtin "set.update.loop" ⟨[.ref a,.ref I],[]⟩) R s:=by
 have aw:a ∉ wr:=fun h=>af (W.sub _ h)
 have up:∀ b ∈ wr,b ∈ a::wr:=fun b hb=>List.mem_cons_of_mem _ hb
 intro k
 induction k with
 | zero =>
  intro i s hk hi st x fin
  obtain rfl:i=n:=by omega
  refine codeAny_builtin PyProof.Rows.F.entry_set_update_loop ?_
  rw[Around.under_plainId PyProof.Rows.F.plain_set_update_loop _]
  show wpAny _ A.in1 (pyNext (.ref I) >>= _) _ _ s
  refine wpAny_bind (W.done s _ _ st fun s' hm=>?_)
  show wpAny _ A.in1 (ret Value.none) _ _ s'
  exact wpAny_pure (fin s' (hm.mono up) (x.keep fun o e=>hm.heap a o aw e))
 | succ k ih =>
  intro i s hk hi st x fin
  have lt:i < n:=by omega
  refine codeAny_builtin PyProof.Rows.F.entry_set_update_loop ?_
  rw[Around.under_plainId PyProof.Rows.F.plain_set_update_loop _]
  show wpAny _ A.in1 (pyNext (.ref I) >>= _) _ _ s
  refine wpAny_bind (W.item i s _ _ lt st fun v s' hP st' hm=>?_)
  obtain⟨t,rfl⟩:=hv i v hP
  have x':=x.keep (prog:=prog) fun o e=>hm.heap a o aw e
  show wpAny _ A.in1 (holding [Value.int (val i) t] (setAdd a (.int (val i) t)) >>= _) _ _ s'
  refine wpAny_bind (wpAny_holding ?_)
  unfold setAdd
  refine wpAny_holding (wpAny_bind ((intKind prog w).pyHash (k:=val i) (intKind_is _ _ _ _) ?_))
  refine add_T (s:={ s' with toks:=s'.toks + 1 }) (intKind_is _ _ _ _) rfl x' (by have:=firstMet_length_le val i;omega) fun h' sb x2=>?_
  have x3:SetT prog w h' a (fun y=>(firstMet val (i + 1)).any (· == y)) (firstMet val (i + 1)).length :=
   ⟨SetOf_congr x2.1 (fun y=>by rw[firstMet_succ,step_any]) (by rw[firstMet_succ,step_length]),x2.2⟩
  refine wpAny_pure ⟨plainId_quiet PyProof.Rows.F.plain_set_update_loop _,ih (i + 1) _ (by omega) lt (W.frame _ s' _ _ st' (Nat.le_succ _) fun b hb o e=>?_) x3 fun s'' hm2 x4=>?_⟩
  ·rw[sb.2 b (fun h:b=a=>af (by rw[← h];exact hb))];exact e
  ·refine fin s'' (Moved.trans W.gtrans ((hm.mono up).then_heap (Nat.le_succ _) fun b o hb e=>?_) hm2) x4
   rw[sb.2 b (fun h:b=a=>hb (by rw[h];exact List.mem_cons_self))];exact e
end
end Stb
namespace Stb
open PySem PyProof.Rows
section
variable {prog:Program} {w:World} {A:Around} {E:Value->Shared->Prop} {s:Shared}
/-- an empty set -/
abbrev emp (w:World):Obj:={ cls:=.type "set",dict:=none,data:=.set #[] 0 (.fresh 0 0 (ledOf w)) }
theorem new_T (x:Value) {U:Value->Shared->Prop} (fin:U (.ref s.heap.objs.size) { s with heap:=s.heap.push (emp w) }) :
  codeAny (model prog w) A (.call (.builtin "set.__new__") ⟨[.type "set",x],[]⟩) (wants U E) s:=by
 refine codeAny_of_tree ?_
 show wpAny _ A.in1 (checkBuiltinCall "set.__new__" ⟨[.type "set",x],[]⟩ >>= fun _=>again (.builtin "set.__new__" ⟨[.type "set",x],[]⟩)) _ _ s
 refine wpAny_bind (wpAny_of_eq (PySem.F.newCall_set_1 x) (wpAny_pure ⟨plainId_quiet PySem.F.plain_set_new _,codeAny_builtin PySem.F.entry_set_new ?_⟩))
 rw[Around.under_plainId PySem.F.plain_set_new _]
 unfold Builtin.«set.__new__» Builtin.Frozenset.newClass
 have sub1:=PySem.sub_set_self
 obtain⟨hp,g,d,tk,os⟩:=s
 dsimp only
 wp_walk
 refine wpAny_askSetting (wpAny_pure ?_)
 simp only [newObj]
 exact wpAny_bind (wpAny_alloc (wpAny_pure (wpAny_pure fin)))
theorem emp_T (h:Heap):SetT prog w (h.push (emp w)) h.objs.size (fun y=>(firstMet (fun i=>([]:List Int).getD i 0) 0).any (· == y)) 0 :=
 ⟨SetOf_congr ((setObjOf_fresh (knd:=intKind prog w) (ledOf w)).setOf (Heap.get?_push_size _ rfl) (by unfold scanBound;omega)) (fun _=>rfl) rfl,_,_,_,_,Heap.get?_push_size _ rfl,rfl,ti_fresh _⟩
/-- set(t), t a tuple of whole numbers -/
theorem of_tup {t:Addr} {xs:Array Value} {ns:List Int} {Q:Value->Shared->Prop} (hh:A.handled=none) (ht:s.heap.IsTuple t xs) (hi:IntsAre xs.toList ns) (hb:xs.size + 1 < scanBound)
  (fin:∀ (h':Heap) (tk:Nat),SetT prog w h' s.heap.objs.size (HT.setS ns xs.size) (HT.setN ns xs.size)->(∀ b o,b < s.heap.objs.size->s.heap.get? b=some o->h'.get? b=some o)->Q (.ref s.heap.objs.size) { s with heap:=h',toks:=tk }) :
  wpAny (model prog w) A (call (.type "set") [.ref t]) Q E s:=by
 obtain⟨c,tl,hmro⟩:=PySem.F.called_set.mro
 have hmade:=PySem.F.called_set.made;have hsub:=PySem.F.called_set.sub
 refine wpAny_call (codeAny_of_tree ?_);show wpAny _ _ (callAny (.type "set") _) _ _ _
 refine wpAny_pure ⟨Code.quiet_builtin _ (by decide +kernel),codeAny_builtin PySem.F.entry_type_call ?_⟩
 rw[Around.under_plain (PySem.weight_type_call_type "set" [.ref t] []) rfl]
 have h1:=PySem.F.called_set.notType;have h2:=PySem.F.called_set.canCreate;have hct:=PySem.F.typeCall_set_1 (.ref t)
 repeat (any_goals (first | assumption | wp_step))
 refine codeAny_mono (new_T (.ref t) (E:=E) (U:=fun obj s₁=>obj=.ref s.heap.objs.size∧s₁={ s with heap:=s.heap.push (emp w) }) ⟨rfl,rfl⟩) fun r s₁ hr=>?_
 match r,hr with
 | .error e,hr=>exact hr
 | .ok .next,hr=>exact hr.elim
 | .ok .brk,hr=>exact hr.elim
 | .ok .cont,hr=>exact hr.elim
 | .ok (.ret obj),hr =>
  obtain⟨rfl,rfl⟩:=hr
  have gS:(s.heap.push (emp w)).get? s.heap.objs.size=some (emp w):=Heap.get?_push_size _ rfl
  have hT:Shared.TypeIs { s with heap:=s.heap.push (emp w) } (.ref s.heap.objs.size) "set":=⟨_,gS,rfl⟩
  have hli:=PySem.F.called_set.init.lookup;have hbi:=PySem.F.called_set.init.bind (.ref s.heap.objs.size)
  repeat (any_goals (first | assumption | wp_step))
  refine codeAny_mono (codeAny_call_builtin (R:=wants (fun r s₂=>r=.none∧∃ h' tk,s₂={ s with heap:=h',toks:=tk }∧SetT prog w h' s.heap.objs.size (HT.setS ns xs.size) (HT.setN ns xs.size)∧(∀ b o,b < s.heap.objs.size->s.heap.get? b=some o->h'.get? b=some o)) E) PySem.F.called_set.init.plain PySem.F.entry_set_init (PySem.check_set_init_1 hT ?_)) fun r₂ s₂ hr₂=>?_
  ·obtain⟨ot,ho,hc,m,hd⟩:=id ht
   obtain⟨ocls,odict,odata,oslots⟩:=ot
   simp only at hc hd;subst hc hd
   have ho':(s.heap.push (emp w)).get? t=some { cls:=.type "tuple",dict:=odict,data:=.seq xs m,slots:=oslots }:=Heap.get?_push_of_some _ ho
   have f1:=PySem.F.sub_tuple_set;have f2:=PySem.F.sub_tuple_frozenset
   have f3:(Value.type "tuple" == Value.type "dict")=false:=by decide
   have it1:(s.heap.push (emp w)).IsTuple t xs:=⟨_,ho',rfl,m,rfl⟩
   unfold Builtin.«set.__init__» noKeywords Builtin.Frozenset.updateFrom
   generalize hPI:pyIter=PI
   wp_walk;subst hPI
   refine wpAny_pyIter_tuple it1 (wpAny_bind (wpAny_runValue ?_))
   have lt:t < s.heap.objs.size:=Heap.lt_size ho
   have hh3:A.in1.in1.in1.handled=none:=by simp [hh]
   have sz1:(s.heap.push (emp w)).objs.size=s.heap.objs.size + 1:=Heap.size_push ..
   have tI:t≠(s.heap.push (emp w)).objs.size:=by rw[sz1];exact Nat.ne_of_lt (Nat.lt_succ_of_lt lt)
   have Sfp:s.heap.objs.size ∉ [(s.heap.push (emp w)).objs.size,t]:=by
    rw[sz1];simp only [List.mem_cons,List.not_mem_nil,or_false,not_or];exact⟨Nat.ne_of_lt (Nat.lt_succ_self _),(Nat.ne_of_lt lt).symm⟩
   have vals:∀ (i:Nat) (v:Value),xs[i]?=some v->∃ u,v=.int ((fun i=>ns.getD i 0) i) u:=fun i v hv=>IntsAre.int_at hi i v (by rw[Array.getElem?_toList];exact hv)
   refine fill_T ((Walks.tuple hh3 _ t tI xs).toS) s.heap.objs.size Sfp (fun i=>ns.getD i 0) vals hb (xs.size - 0) 0 _ (by omega) (Nat.zero_le _) ?st ?s0 ?fin
   case st=>exact⟨⟨_,Heap.get?_push_size _ rfl,rfl,rfl⟩,HT.tup_push it1 _⟩
   case s0=>exact (emp_T s.heap).keep fun o e=>Heap.get?_push_of_some _ e
   case fin =>
    rintro ⟨h',g',d',tk',os'⟩ hm hS'
    obtain rfl:g'=s.gens:=hm.gens
    obtain rfl:d'=s.drawn:=hm.drawn
    obtain rfl:os'=s.os:=hm.os
    refine wpAny_pure (wpAny_pure ⟨rfl,h',tk',rfl,hS',fun b o hlt e=>hm.heap b o ?_ (Heap.get?_push_of_some _ (Heap.get?_push_of_some _ e))⟩)
    rw[sz1];simp only [List.mem_cons,List.not_mem_nil,or_false,not_or]
    exact⟨Nat.ne_of_lt hlt,Nat.ne_of_lt (Nat.lt_succ_of_lt hlt)⟩
  ·match r₂,hr₂ with
   | .error e,hr₂=>exact hr₂
   | .ok .next,hr₂=>exact hr₂.elim
   | .ok .brk,hr₂=>exact hr₂.elim
   | .ok .cont,hr₂=>exact hr₂.elim
   | .ok (.ret v),hr₂ =>
    obtain⟨rfl,h',tk,rfl,hS',hk⟩:=hr₂
    repeat (any_goals (first | assumption | wp_step))
    exact fin h' tk hS' hk
end
end Stb
namespace Stb
open PySem PyProof.Rows
theorem sl_next:Slot "set_iterator" "__next__" "set_iterator.__next__":=.of (owner:="set_iterator") (n:="__next__") (by rw[typeLookup_type,builtinLookup_eq_fast];kernel_rfl) (by decide +kernel) (by decide +kernel) (by decide +kernel) (by first | exact .inl (by decide +kernel) | exact .inr (by decide +kernel)) (by rw[isSubtype_type];kernel_rfl)
theorem en_next:entryFor table "set_iterator.__next__"=some Builtin.«set_iterator.__next__»:=entryFor_of_tree (by kernel_rfl)
theorem ow_next:Manifest.owners.lookup (String.ofList ['r','o','t','a','r','e','t','i','_','t','e','s'].reverse)=some Manifest.sig_set_iterator:=by kernel_rfl
theorem ar_next (a:Value):argsOk "set_iterator.__next__" ⟨[a],[]⟩:=by
 unfold argsOk;rw[signature?_of (id:="set_iterator.__next__") (n:=['_','_','t','x','e','n','_','_']) (o:=['r','o','t','a','r','e','t','i','_','t','e','s']) (by kernel_rfl) ow_next];kernel_rfl
theorem en_iter:entryFor table "set.__iter__"=some Builtin.«frozenset.__iter__»:=entryFor_alias (id':="frozenset.__iter__") (by kernel_rfl) rfl (by decide +kernel) (by kernel_rfl)
theorem out_in {α:Type} {l:List α} {i:Nat} (h:i < l.length):(l[i]::l.eraseIdx i).Perm l:=by
 rw[List.eraseIdx_eq_take_drop_succ]
 refine List.perm_middle.symm.trans ?_
 rw[← List.drop_eq_getElem_cons h,List.take_append_drop]
theorem pick_go {α:Type} (next:Nat->Nat):∀ (f k:Nat) (left:List α) (out:Array α),left.length=f->(pickOrder.go next f k left out).toList.Perm (out.toList++left)
 | 0,k,left,out,h=>by
  have:left=[]:=List.length_eq_zero_iff.mp h
  subst this
  unfold pickOrder.go
  simp
 | f + 1,k,left,out,h=>by
  have lt:next k % left.length < left.length:=Nat.mod_lt _ (by omega)
  unfold pickOrder.go
  rw[List.getElem?_eq_getElem lt]
  dsimp only
  refine (pick_go next f (k + 1) _ _ (by rw[List.length_eraseIdx_of_lt lt];omega)).trans ?_
  rw[Array.toList_push,List.append_assoc]
  refine List.Perm.append_left _ ?_
  exact out_in lt
theorem pick_perm {α:Type} (next:Nat->Nat) (xs:Array α):(pickOrder next xs).toList.Perm xs.toList:=by
 unfold pickOrder
 simpa using pick_go next xs.size 0 xs.toList #[] (by simp)
section
variable {prog:Program} {w:World} {A:Around} {E:Value->Shared->Prop} {s:Shared}
theorem wp_chosen {M:Model} {src:Source} {n:Nat} {Q:Nat->Shared->Prop} (hn:n≠0) (h:∀ i,i < n->Q i { s with drawn:=s.drawn.bump src }):wpAny M A (choose src n) Q E s:=fun Γ p hΓ=>by
 unfold choose
 rw[Sem.wp_choose]
 exact⟨hn,by exact h _ (Nat.mod_lt _ (Nat.pos_of_ne_zero hn))⟩
theorem wp_drawOrder {α:Type} {M:Model} (n:Nat):∀ (xs:List α) (s:Shared) (Q:List α->Shared->Prop),xs.length=n->(∀ ys d',ys.Perm xs->Q ys { s with drawn:=d' })->wpAny M A (drawOrder n xs) Q E s:=by
 induction n with
 | zero =>
  intro xs s Q h hQ
  have:xs=[]:=List.length_eq_zero_iff.mp h
  subst this
  unfold drawOrder
  exact wpAny_pure (hQ [] s.drawn .nil)
 | succ n ih =>
  intro xs s Q h hQ
  cases xs with
  | nil=>cases h
  | cons x xs =>
   unfold drawOrder
   refine wpAny_bind (wp_chosen (by simp) fun i hi=>?_)
   rw[List.getElem?_eq_getElem hi]
   refine wpAny_bind (ih _ _ _ (by rw[List.length_eraseIdx_of_lt hi];simp at h ⊢;omega) fun ys d' pm=>wpAny_pure (hQ _ d' ?_))
   exact (List.Perm.cons _ pm).trans (out_in hi)
end
end Stb
namespace Stb
open PySem PyProof.Rows
/-- how an iterator of a set goes -/
inductive Knd where
 | text
 | drawn (p:Addr) (pl:List Nat)
 | places
def First (w:World) (a:Addr) (es:Array (Int × Value)) (ep:Nat) (t:SetTable) (ord:List (Int × Value)) (i:Nat) (h:Heap) (first:Value):Knd->Prop
 | .text=>ledOf w=false∧ord=(pickOrder (w.params.setOrder a ep) es).toList∧∃ z:Nat,first=.int z 0
 | .drawn p pl=>first=.ref p∧h.IsTuple p (pl.map fun i=>rawInt (i:Nat)).toArray∧ord.length=pl.length∧∀ j k:Nat,pl[j]?=some k->∃ e,es[k]?=some e∧ord[j]?=some e
 | .places=>ledOf w=true∧(t.plain=true∨es.size≤1)∧ord=es.toList∧∃ z:Nat,first=.int z 0∧SetTable.below t.place z=i
def IsSet (h:Heap) (a:Addr) (es:Array (Int × Value)) (ep:Nat) (t:SetTable):Prop:=∃ o,h.get? a=some o∧o.cls=.type "set"∧o.data=.set es ep t
def IsIt (h:Heap) (I a:Addr) (n ep i:Nat) (first:Value):Prop:=∃ o,h.get? I=some o∧o.cls=.type "set_iterator"∧o.data=.fields #[first,.int i 0,.ref a,.int n 0,.int ep 0]
section
variable {prog:Program} {w:World} {A:Around} {E:Value->Shared->Prop} {s:Shared} {a I:Addr} {es:Array (Int × Value)} {ep:Nat} {t:SetTable}
theorem next_text {Q:Option (Value × Nat)->Shared->Prop} {z i:Nat} (hs:IsSet s.heap a es ep t) (fit:t.fits es.size=true) (hl:ledOf w=false)
  (h:Q (((pickOrder (w.params.setOrder a ep) es)[i]?).map fun e=>(e.2,z)) s):wpAny (model prog w) A (setNext a z i ep) Q E s:=by
 obtain⟨o,ho,_,od⟩:=hs
 have ft:w.params.followText "set-order"=true:=by simpa [ledOf] using hl
 unfold setNext setsByText
 refine wpAny_bind (wpAny_setState_of ho od fit ?_)
 refine wpAny_bind (wpAny_bind (wpAny_askSetting (wpAny_pure ?_)))
 show wpAny _ _ (if w.params.followText "set-order"=true then _ else _) _ _ _
 rw[if_pos ft]
 dsimp only
 rw[if_neg (by simp)]
 refine wpAny_bind ?_
 unfold setWalk setsByText
 refine wpAny_bind (wpAny_setState_of ho od fit ?_)
 refine wpAny_bind (wpAny_bind (wpAny_askSetting (wpAny_pure ?_)))
 show wpAny _ _ (if w.params.followText "set-order"=true then _ else _) _ _ _
 rw[if_pos ft]
 exact wpAny_bind (wpAny_askSetting (wpAny_pure (wpAny_pure h)))
theorem next_places {Q:Option (Value × Nat)->Shared->Prop} {z i:Nat} (hs:IsSet s.heap a es ep t) (fit:t.fits es.size=true) (ti:TI (ledOf w) t) (hl:ledOf w=true) (hp:t.plain=true∨es.size≤1)
  (h:Q (match es[SetTable.below t.place z]?,t.place[SetTable.below t.place z]? with | some (_,x),some j=>some (x,j + 1) | _,_=>none) s):wpAny (model prog w) A (setNext a z i ep) Q E s:=by
 obtain⟨o,ho,_,od⟩:=hs
 have ft:w.params.followText "set-order"=false:=by simpa [ledOf] using hl
 unfold setNext setsByText
 refine wpAny_bind (wpAny_setState_of ho od fit ?_)
 refine wpAny_bind (wpAny_bind (wpAny_askSetting (wpAny_pure ?_)))
 show wpAny _ _ (if w.params.followText "set-order"=true then _ else _) _ _ _
 rw[if_neg (by rw[ft];exact Bool.false_ne_true)]
 dsimp only
 show wpAny _ _ (if (!t.plain && decide (es.size > 1))=true then _ else _) _ _ _
 rw[if_neg (by rcases hp with z | z <;> simp [z])]
 show wpAny _ _ ((if (!t.led && !es.isEmpty)=true then unsupported "set:maker-not-led" else pure ()) >>= _) _ _ _
 rw[if_neg (by rw[ti.2,hl];simp)]
 exact wpAny_bind (wpAny_pure (wpAny_pure h))
/-- two fields anew -/
theorem IsIt.set0 {h:Heap} {n ep i:Nat} {first:Value} (x:IsIt h I a n ep i first) (v:Value):IsIt (h.update I (Obj.mapFields (·.setIfInBounds 0 v))) I a n ep i v:=by
 obtain⟨o,ho,hc,hd⟩:=x
 exact⟨_,Heap.get?_update_self _ ho (Obj.isFreed_of_fields (Obj.data_mapFields hd _)),(Obj.cls_mapFields ..).trans hc,by rw[Obj.data_mapFields hd];simp⟩
theorem IsIt.set1 {h:Heap} {n ep i:Nat} {first:Value} (x:IsIt h I a n ep i first):IsIt (h.update I (Obj.mapFields (·.setIfInBounds 1 (rawInt ((i:Int) + 1))))) I a n ep (i + 1) first:=by
 obtain⟨o,ho,hc,hd⟩:=x
 exact⟨_,Heap.get?_update_self _ ho (Obj.isFreed_of_fields (Obj.data_mapFields hd _)),(Obj.cls_mapFields ..).trans hc,by rw[Obj.data_mapFields hd];simp [rawInt]⟩
theorem stop_now {Q:PySem.Fin->Shared->Prop} (hh:A.handled=none) (hE:∀ (e:Value) (h':Heap),(∀ b o,s.heap.get? b=some o->h'.get? b=some o)->Shared.TypeIs { s with heap:=h' } e "StopIteration"->E e { s with heap:=h' }) :
  wpAny (model prog w) A (newExc (.type "StopIteration") [] >>= fun e=>raiseNew e) Q E s:=by
 refine wpAny_bind ?_
 simp only [newExc,newTuple]
 refine wpAny_bind (wpAny_newObj_type ?_ (by size_fits))
 refine wpAny_bind (m:=firstArgMember _ _) (wpAny_of_eq (a:=Value.none) (by first | rfl | (simp only [firstArgMember];rfl)) (wpAny_newObj_type ?_ (by size_fits)))
 simp only [raiseNew]
 refine wpAny_bind (wpAny_handled ?_)
 rw[hh]
 refine wpAny_bind (wpAny_pure (wpAny_throw ?_))
 refine hE _ _ (fun b o e=>Heap.get?_push_of_some _ (Heap.get?_push_of_some _ e)) ?_
 exact⟨_,Heap.get?_push_size _ rfl,rfl⟩
section
variable {Q:Option Value->Shared->Prop} {i:Nat}
theorem int_item {x:Value} {z nx:Nat} (hs:IsSet s.heap a es ep t) (fit:t.fits es.size=true) (hit:IsIt s.heap I a es.size ep i (.int z 0))
  (hn:∀ (A':Around) (Q':Option (Value × Nat)->Shared->Prop) (E':Value->Shared->Prop),Q' (some (x,nx)) s->wpAny (model prog w) A' (setNext a z i ep) Q' E' s)
  (hQ:∀ h',IsIt h' I a es.size ep (i + 1) (.int nx 0)->Heap.SameBut I s.heap h'->Q (some x) { s with heap:=h' }):wpAny (model prog w) A (pyNext (.ref I)) Q E s:=by
 obtain⟨oi,hi,ci,di⟩:=id hit
 obtain⟨o,ho,_,od⟩:=hs
 unfold pyNext
 refine wpAny_bind (wpAny_attempt (wpAny_callSpecial?_slot (name:=Str.ofString "__next__") ⟨oi,hi,ci⟩ sl_next (wpAny_call_entry sl_next ⟨oi,hi,ci⟩ en_next ?_ (ar_next _))))
 show wpAny _ _ (fieldsOf (.ref I) >>= _) _ _ s
 refine wpAny_bind (wpAny_fieldsOf hi di ?_)
 show wpAny _ _ (setEntries a >>= _) _ _ s
 refine wpAny_bind (wpAny_setEntries_of ho od fit ?_)
 dsimp only
 rw[if_neg (by simp)]
 show wpAny _ _ (setNext a z i ep >>= _) _ _ s
 refine wpAny_bind (hn _ _ _ ?_)
 dsimp only
 refine wpAny_bind (wpAny_setField hi di (by simp) ?_)
 obtain⟨o1,hi1,ci1,di1⟩:=id (hit.set0 (rawInt nx))
 refine wpAny_bind (wpAny_setField hi1 di1 (by simp) (wpAny_pure ⟨x,rfl,wpAny_pure (hQ _ ?_ ((Heap.SameBut.update ..).trans (Heap.SameBut.update ..)))⟩))
 exact (hit.set0 (rawInt nx)).set1
theorem int_end {z:Nat} (hh:A.handled=none) (hs:IsSet s.heap a es ep t) (fit:t.fits es.size=true) (hit:IsIt s.heap I a es.size ep i (.int z 0))
  (hn:∀ (A':Around) (Q':Option (Value × Nat)->Shared->Prop) (E':Value->Shared->Prop),Q' none s->wpAny (model prog w) A' (setNext a z i ep) Q' E' s)
  (hQ:∀ h',(∀ b o,b≠I->s.heap.get? b=some o->h'.get? b=some o)->Q none { s with heap:=h' }):wpAny (model prog w) A (pyNext (.ref I)) Q E s:=by
 obtain⟨oi,hi,ci,di⟩:=id hit
 obtain⟨o,ho,_,od⟩:=hs
 unfold pyNext
 refine wpAny_bind (wpAny_attempt (wpAny_callSpecial?_slot (name:=Str.ofString "__next__") ⟨oi,hi,ci⟩ sl_next (wpAny_call_entry sl_next ⟨oi,hi,ci⟩ en_next ?_ (ar_next _))))
 show wpAny _ _ (fieldsOf (.ref I) >>= _) _ _ s
 refine wpAny_bind (wpAny_fieldsOf hi di ?_)
 show wpAny _ _ (setEntries a >>= _) _ _ s
 refine wpAny_bind (wpAny_setEntries_of ho od fit ?_)
 dsimp only
 rw[if_neg (by simp)]
 show wpAny _ _ (setNext a z i ep >>= _) _ _ s
 refine wpAny_bind (hn _ _ _ ?_)
 dsimp only
 refine wpAny_bind (wpAny_setField hi di (by simp) (stop_now hh fun e h' hk ty=>?_))
 refine wpAny_bind (wpAny_isInstance (T:="StopIteration") (b:=true) ty isSubtype_stop (wpAny_pure (hQ _ fun b o hb e=>hk b o ?_)))
 exact (Heap.get?_update_other _ _ (Ne.symm hb)).trans e
theorem ref_item {x:Value} {p:Addr} {pl:List Nat} {k:Nat} {hx:Int} (hs:IsSet s.heap a es ep t) (fit:t.fits es.size=true) (hit:IsIt s.heap I a es.size ep i (.ref p)) (hp:s.heap.IsTuple p (pl.map fun i=>rawInt (i:Nat)).toArray)
  (hk:pl[i]?=some k) (he:es[k]?=some (hx,x)) (hQ:∀ h',IsIt h' I a es.size ep (i + 1) (.ref p)->Heap.SameBut I s.heap h'->Q (some x) { s with heap:=h' }):wpAny (model prog w) A (pyNext (.ref I)) Q E s:=by
 obtain⟨oi,hi,ci,di⟩:=id hit
 obtain⟨o,ho,_,od⟩:=hs
 obtain⟨ol,hol,_,nl,hdl⟩:=hp
 unfold pyNext
 refine wpAny_bind (wpAny_attempt (wpAny_callSpecial?_slot (name:=Str.ofString "__next__") ⟨oi,hi,ci⟩ sl_next (wpAny_call_entry sl_next ⟨oi,hi,ci⟩ en_next ?_ (ar_next _))))
 show wpAny _ _ (fieldsOf (.ref I) >>= _) _ _ s
 refine wpAny_bind (wpAny_fieldsOf hi di ?_)
 show wpAny _ _ (setEntries a >>= _) _ _ s
 refine wpAny_bind (wpAny_setEntries_of ho od fit ?_)
 dsimp only
 rw[if_neg (by simp)]
 show wpAny _ _ (seqItems? (.ref p) >>= _) _ _ s
 refine wpAny_bind (wpAny_seqItems hol hdl ?_)
 have ek:(pl.map fun i=>rawInt (i:Nat)).toArray[i]?=some (.int k 0):=by rw[List.getElem?_toArray,List.getElem?_map,hk];rfl
 simp only [Int.toNat_natCast,ek]
 show wpAny _ _ (setNextDrawn a k ep >>= _) _ _ s
 refine wpAny_bind ?_
 unfold setNextDrawn
 refine wpAny_bind (wpAny_setState_of ho od fit ?_)
 dsimp only
 rw[if_neg (by simp),he]
 refine wpAny_pure (wpAny_bind (wpAny_setField hi di (by simp) (wpAny_pure ⟨x,rfl,wpAny_pure (hQ _ hit.set1 (Heap.SameBut.update ..))⟩)))
theorem ref_end {p:Addr} {pl:List Nat} (hh:A.handled=none) (hs:IsSet s.heap a es ep t) (fit:t.fits es.size=true) (hit:IsIt s.heap I a es.size ep i (.ref p)) (hp:s.heap.IsTuple p (pl.map fun i=>rawInt (i:Nat)).toArray)
  (hk:pl[i]?=none) (hQ:∀ h',(∀ b o,b≠I->s.heap.get? b=some o->h'.get? b=some o)->Q none { s with heap:=h' }):wpAny (model prog w) A (pyNext (.ref I)) Q E s:=by
 obtain⟨oi,hi,ci,di⟩:=id hit
 obtain⟨o,ho,_,od⟩:=hs
 obtain⟨ol,hol,_,nl,hdl⟩:=hp
 unfold pyNext
 refine wpAny_bind (wpAny_attempt (wpAny_callSpecial?_slot (name:=Str.ofString "__next__") ⟨oi,hi,ci⟩ sl_next (wpAny_call_entry sl_next ⟨oi,hi,ci⟩ en_next ?_ (ar_next _))))
 show wpAny _ _ (fieldsOf (.ref I) >>= _) _ _ s
 refine wpAny_bind (wpAny_fieldsOf hi di ?_)
 show wpAny _ _ (setEntries a >>= _) _ _ s
 refine wpAny_bind (wpAny_setEntries_of ho od fit ?_)
 dsimp only
 rw[if_neg (by simp)]
 show wpAny _ _ (seqItems? (.ref p) >>= _) _ _ s
 refine wpAny_bind (wpAny_seqItems hol hdl ?_)
 have ek:(pl.map fun i=>rawInt (i:Nat)).toArray[i]?=none:=by rw[List.getElem?_toArray,List.getElem?_map,hk];rfl
 simp only [Int.toNat_natCast,ek]
 refine wpAny_bind (wpAny_setField hi di (by simp) ?_)
 obtain⟨o1,hi1,ci1,di1⟩:=id (hit.set0 (rawInt 0))
 refine wpAny_bind (wpAny_setField hi1 di1 (by simp) (stop_now hh fun e h' hk ty=>?_))
 refine wpAny_bind (wpAny_isInstance (T:="StopIteration") (b:=true) ty isSubtype_stop (wpAny_pure (hQ _ fun b o hb e=>hk b o ?_)))
 exact (Heap.get?_update_other _ _ (Ne.symm hb)).trans ((Heap.get?_update_other _ _ (Ne.symm hb)).trans e)
end
end
end Stb
namespace Stb
open PySem PyProof.Rows
theorem sl_iter:Slot "set_iterator" "__iter__" "set_iterator.__iter__":=.of (owner:="set_iterator") (n:="__iter__") (by rw[typeLookup_type,builtinLookup_eq_fast];kernel_rfl) (by decide +kernel) (by decide +kernel) (by decide +kernel) (by first | exact .inl (by decide +kernel) | exact .inr (by decide +kernel)) (by rw[isSubtype_type];kernel_rfl)
theorem en_iter2:entryFor table "set_iterator.__iter__"=some Builtin.«dict_keyiterator.__iter__»:=entryFor_alias (id':="dict_keyiterator.__iter__") (by kernel_rfl) (by first | rfl | decide +kernel | (unfold String.splitOn;simp +decide [String.splitOnAux])) (by decide +kernel) (by kernel_rfl)
theorem ar_iter (a:Value):argsOk "set_iterator.__iter__" ⟨[a],[]⟩:=by
 unfold argsOk;rw[signature?_of (id:="set_iterator.__iter__") (n:=['_','_','r','e','t','i','_','_']) (o:=['r','o','t','a','r','e','t','i','_','t','e','s']) (by kernel_rfl) ow_next];kernel_rfl
section
variable {prog:Program} {w:World} {A:Around} {E:Value->Shared->Prop} {s:Shared} {a I:Addr} {es:Array (Int × Value)} {ep:Nat} {t:SetTable}
theorem iter_self {Q:Value->Shared->Prop} {n i:Nat} {f:Value} (hit:IsIt s.heap I a n ep i f) (h:Q (.ref I) s):wpAny (model prog w) A (pyIter (.ref I)) Q E s:=by
 obtain⟨oi,hi,ci,di⟩:=id hit
 refine wpAny_pyIter_slot ⟨oi,hi,ci⟩ sl_iter (wpAny_call_entry sl_iter ⟨oi,hi,ci⟩ en_iter2 ?_ (ar_iter _))
 show wpAny _ _ (ret (.ref I)) _ _ s
 exact wpAny_pure ⟨_,rfl,"set_iterator",_,⟨oi,hi,ci⟩,sl_next.lookup,h⟩
def fpK (I a:Addr):Knd->List Addr
 | .drawn p _=>[I,a,p]
 | _=>[I,a]
def StK (w:World) (a I:Addr) (es:Array (Int × Value)) (ep:Nat) (t:SetTable) (ord:List (Int × Value)) (kd:Knd) (i:Nat) (h:Heap):Prop :=
 IsSet h a es ep t∧∃ first,IsIt h I a es.size ep i first∧First w a es ep t ord i h first kd
theorem fp_I (I a:Addr):∀ kd,I ∈ fpK I a kd∧a ∈ fpK I a kd
 | .text=>by simp [fpK]
 | .drawn _ _=>by simp [fpK]
 | .places=>by simp [fpK]
theorem walk_set {ord:List (Int × Value)} {kd:Knd} (hh:A.handled=none) (aI:a≠I) (fit:t.fits es.size=true) (ti:TI (ledOf w) t) (hpI:∀ p pl,kd=.drawn p pl->p≠I) (pm:ord.Perm es.toList) :
  Walks prog w A I (fpK I a kd) [I] ord.length (fun i v=>∃ e,ord[i]?=some e∧v=e.2) (StK w a I es ep t ord kd) where
 sub:=fun b hb=>by simp at hb;rw[hb];exact (fp_I I a kd).1
 frame:=fun i h h' st hk=>by
  obtain⟨⟨o,ho,r⟩,f,⟨oi,hi,ri⟩,fk⟩:=st
  refine⟨⟨o,hk a (fp_I I a kd).2 o ho,r⟩,f,⟨oi,hk I (fp_I I a kd).1 oi hi,ri⟩,?_⟩
  cases kd with
  | text=>exact fk
  | places=>exact fk
  | drawn p pl =>
   obtain⟨e,⟨op,hp,rp⟩,rest⟩:=fk
   exact⟨e,⟨op,hk p (by simp [fpK]) op hp,rp⟩,rest⟩
 self:=fun i s Q E st hQ=>by
  obtain⟨_,f,hit,_⟩:=st
  exact iter_self hit hQ
 item:=fun i s Q E hi st hQ=>by
  obtain⟨hs,f,hit,fk⟩:=st
  have hsK:∀ h',Heap.SameBut I s.heap h'->IsSet h' a es ep t:=fun h' sb=>by
   obtain⟨o,ho,r⟩:=hs
   exact⟨o,sb.extBut a o aI ho,r⟩
  have kp:∀ h',Heap.SameBut I s.heap h'->∀ b o,b ∉ [I]->s.heap.get? b=some o->h'.get? b=some o:=fun h' sb b o hb e=>sb.extBut b o (fun z=>hb (by simp [z])) e
  have oi:ord[i]?=some ord[i]:=List.getElem?_eq_getElem hi
  cases kd with
  | text =>
   obtain⟨hl,eo,z,rfl⟩:=fk
   have ei:(pickOrder (w.params.setOrder a ep) es)[i]?=some ord[i]:=by rw[← Array.getElem?_toList,← eo];exact oi
   refine int_item (x:=ord[i].2) (nx:=z) hs fit hit (fun A' Q' E' q=>next_text hs fit hl ?_) fun h' hit' sb=>hQ _ h' s.toks ⟨_,oi,rfl⟩ ⟨hsK h' sb,_,hit',hl,eo,z,rfl⟩ (kp h' sb)
   rw[ei];exact q
  | places =>
   obtain⟨hl,hp,eo,z,rfl,eb⟩:=fk
   have ei:es[i]?=some ord[i]:=by rw[← Array.getElem?_toList,← eo];exact oi
   have szp:t.place.size=es.size:=by
    simp only [SetTable.fits,Bool.and_eq_true,beq_iff_eq] at fit
    exact fit.1
   have il:i < t.place.size:=by rw[szp];exact (Array.getElem?_eq_some_iff.mp ei).1
   have ep':t.place[i]?=some t.place[i]:=Array.getElem?_eq_getElem il
   refine int_item (x:=ord[i].2) (nx:=t.place[i] + 1) hs fit hit (fun A' Q' E' q=>next_places hs fit ti hl hp ?_) fun h' hit' sb=>hQ _ h' s.toks ⟨_,oi,rfl⟩ ⟨hsK h' sb,_,hit',hl,hp,eo,_,rfl,below_next _ ti.1 ep'⟩ (kp h' sb)
   rw[eb,ei,ep'];exact q
  | drawn p pl =>
   obtain⟨rfl,hp,el,hj⟩:=fk
   have il:i < pl.length:=el ▸ hi
   obtain⟨e,ek,eo⟩:=hj i _ (List.getElem?_eq_getElem il)
   obtain⟨hx,x⟩:=e
   refine ref_item (x:=x) hs fit hit hp (List.getElem?_eq_getElem il) ek fun h' hit' sb=>hQ _ h' s.toks ⟨_,eo,rfl⟩ ⟨hsK h' sb,_,hit',rfl,?_,el,hj⟩ (kp h' sb)
   obtain⟨op,hop,rp⟩:=hp
   exact⟨op,sb.extBut p op (hpI p pl rfl) hop,rp⟩
 done:=fun s Q E st hQ=>by
  obtain⟨hs,f,hit,fk⟩:=st
  have lo:ord.length=es.size:=by rw[pm.length_eq,Array.length_toList]
  have kp:∀ h':Heap,(∀ b o,b≠I->s.heap.get? b=some o->h'.get? b=some o)->∀ b o,b ∉ [I]->s.heap.get? b=some o->h'.get? b=some o:=fun h' k b o hb e=>k b o (fun z=>hb (by simp [z])) e
  cases kd with
  | text =>
   obtain⟨hl,eo,z,rfl⟩:=fk
   refine int_end hh hs fit hit (fun A' Q' E' q=>next_text hs fit hl ?_) fun h' k=>hQ h' s.toks (kp h' k)
   have:(pickOrder (w.params.setOrder a ep) es)[ord.length]?=none:=by rw[← Array.getElem?_toList,← eo,List.getElem?_eq_none (Nat.le_refl _)]
   rw[this];exact q
  | places =>
   obtain⟨hl,hp,eo,z,rfl,eb⟩:=fk
   refine int_end hh hs fit hit (fun A' Q' E' q=>next_places hs fit ti hl hp ?_) fun h' k=>hQ h' s.toks (kp h' k)
   have:es[ord.length]?=none:=by rw[lo];simp
   rw[eb,this];exact q
  | drawn p pl =>
   obtain⟨rfl,hp,el,hj⟩:=fk
   exact ref_end hh hs fit hit hp (by rw[el,List.getElem?_eq_none (Nat.le_refl _)]) fun h' k=>hQ h' s.toks (kp h' k)
end
end Stb
namespace Stb
open PySem PyProof.Rows
section
variable {prog:Program} {w:World} {A:Around} {E:Value->Shared->Prop} {s:Shared} {a:Addr} {es:Array (Int × Value)} {ep:Nat} {t:SetTable}
theorem is_drawn {Q:Bool->Shared->Prop} (hs:IsSet s.heap a es ep t) (fit:t.fits es.size=true) (h:Q (ledOf w && (!t.plain && decide (es.size > 1))) s):wpAny (model prog w) A (setDrawn a) Q E s:=by
 obtain⟨o,ho,_,od⟩:=hs
 unfold setDrawn setsByText
 refine wpAny_bind (wpAny_setState_of ho od fit ?_)
 exact wpAny_bind (wpAny_bind (wpAny_askSetting (wpAny_pure (wpAny_pure h))))
/-- iter of a set -/
theorem iter_set {Q:Value->Shared->Prop} (hs:IsSet s.heap a es ep t) (fit:t.fits es.size=true) (ti:TI (ledOf w) t) (small:es.size≤4096)
  (h:∀ (I:Addr) (h':Heap) (d':Drawn) (ord:List (Int × Value)) (kd:Knd),(∀ b o,s.heap.get? b=some o->h'.get? b=some o)->s.heap.objs.size≤I->(∀ p pl,kd=.drawn p pl->p≠I∧s.heap.objs.size≤p)->ord.Perm es.toList->StK w a I es ep t ord kd 0 h' ->
   Q (.ref I) { s with heap:=h',drawn:=d' }):wpAny (model prog w) A (pyIter (.ref a)) Q E s:=by
 obtain⟨o,ho,oc,od⟩:=id hs
 refine wpAny_pyIter_slot ⟨o,ho,oc⟩ PySem.F.slot_set_iter (wpAny_call_entry PySem.F.slot_set_iter ⟨o,ho,oc⟩ en_iter ?_ (PySem.F.args_set_iter_1 _))
 unfold Builtin.«frozenset.__iter__» Builtin.Frozenset.sizeOf
 show wpAny _ _ ((setEntries a >>= fun x=>pure x.size) >>= _) _ _ s
 refine wpAny_bind (wpAny_bind (wpAny_setEntries_of ho od fit (wpAny_pure (wpAny_bind (is_drawn hs fit ?_)))))
 have lastT : ∀ (h1 : Heap) (first : Value) (d' : Drawn) (ord : List (Int × Value)) (kd : Knd), (∀ b o, s.heap.get? b = some o → h1.get? b = some o) → s.heap.objs.size ≤ h1.objs.size → (∀ p pl, kd = .drawn p pl → p < h1.objs.size ∧ s.heap.objs.size ≤ p) → ord.Perm es.toList → (∀ h', (∀ b o, h1.get? b = some o → h'.get? b = some o) → First w a es ep t ord 0 h' first kd) →
     wpAny (model prog w) A.in1 (setEpoch a >>= fun e=>newFields "set_iterator" [first,rawInt 0,.ref a,rawInt es.size,rawInt e] >>= fun v=>ret v) (fun fin s'=>∃ v,fin=.done (.ret v)∧∃ T' r,s'.TypeIs v T'∧typeLookup (.type T') (Str.ofString "__next__")=pure (some r)∧Q v s') E { s with heap:=h1,drawn:=d' }:=fun h1 first d' ord kd hk sz hp pm hf=>by
  refine wpAny_bind (wpAny_setEpoch_of (hk a o ho) od fit (wpAny_bind (wpAny_newObj_type (wpAny_pure ⟨_,rfl,"set_iterator",_,⟨_,Heap.get?_push_size _ rfl,rfl⟩,sl_next.lookup,?_⟩))))
  exact h _ _ d' ord kd (fun b o e=>Heap.get?_push_of_some _ (hk b o e)) sz (fun p pl e=>⟨Nat.ne_of_lt (hp p pl e).1,(hp p pl e).2⟩) pm ⟨⟨o,Heap.get?_push_of_some _ (hk a o ho),oc,od⟩,first,⟨_,Heap.get?_push_size _ rfl,rfl,rfl⟩,hf _ fun b o e=>Heap.get?_push_of_some _ e⟩
 dsimp only
 have es0:s={ s with heap:=s.heap,drawn:=s.drawn }:=by cases s;rfl
 by_cases c:(ledOf w && (!t.plain && decide (es.size > 1)))=true
 ·rw[if_pos c]
  refine wpAny_bind (wp_drawOrder _ _ _ _ (by simp) fun ys d' pm=>?_)
  have yl:ys.length=es.size:=by rw[pm.length_eq,List.length_range]
  have line:es.size≤sizeLine:=by rw[sizeLine_eq];omega
  refine wpAny_bind (wpAny_newObj_type ?_ (by show (ys.map fun i=>rawInt (i:Nat)).toArray.size≤sizeLine;simpa [yl] using line))
  have ordE:∀ k ∈ ys,∃ e,es[k]?=some e:=fun k hk=>by
   have:k < es.size:=by simpa using pm.mem_iff.mp hk
   exact⟨_,Array.getElem?_eq_getElem this⟩
  have fm:∀ l:List Nat,(∀ k ∈ l,∃ e,es[k]?=some e)->(l.filterMap (es[·]?)).length=l.length∧∀ j k:Nat,l[j]?=some k->∃ e,es[k]?=some e∧(l.filterMap (es[·]?))[j]?=some e:=fun l=>by
   induction l with
   | nil=>exact fun _=>⟨rfl,fun j k e=>by simp at e⟩
   | cons x l ih =>
    intro hx
    obtain⟨e,he⟩:=hx x (by simp)
    obtain⟨h1,h2⟩:=ih fun k hk=>hx k (List.mem_cons_of_mem _ hk)
    rw[List.filterMap_cons_some (b:=e) he]
    refine⟨by simp [h1],fun j k ej=>?_⟩
    cases j with
    | zero=>simp at ej;subst ej;exact⟨e,he,rfl⟩
    | succ j=>simp only [List.getElem?_cons_succ] at ej ⊢;exact h2 j k ej
  obtain⟨f1,f2⟩:=fm ys ordE
  refine lastT _ (.ref s.heap.objs.size) d' (ys.filterMap (es[·]?)) (.drawn s.heap.objs.size ys) (fun b o e=>Heap.get?_push_of_some _ e) (by rw[Heap.size_push];exact Nat.le_succ _) (fun p pl e=>by cases e;rw[Heap.size_push];exact⟨Nat.lt_succ_self _,Nat.le_refl _⟩) ?_ fun h' k=>⟨rfl,⟨_,k _ _ (Heap.get?_push_size _ rfl),rfl,_,rfl⟩,f1,f2⟩
  exact (pm.filterMap _).trans (by rw[filterMap_getElem?_range])
 ·rw[if_neg c]
  refine wpAny_bind (wpAny_pure ?_)
  cases cl:ledOf w with
  | false =>
   rw[es0]
   exact lastT s.heap (rawInt 0) s.drawn _ .text (fun _ _ e=>e) (Nat.le_refl _) (fun p pl e=>nomatch e) (pick_perm _ es) fun h' k=>⟨cl,rfl,0,rfl⟩
  | true =>
   rw[es0]
   refine lastT s.heap (rawInt 0) s.drawn es.toList .places (fun _ _ e=>e) (Nat.le_refl _) (fun p pl e=>nomatch e) (.refl _) fun h' k=>⟨cl,?_,rfl,0,rfl,below_zero _ ti.1⟩
   rw[cl] at c
   cases pl:t.plain with
   | true=>exact .inl rfl
   | false=>rw[pl] at c;exact .inr (by simpa using c)
theorem hint_set {Q:Bool->Shared->Prop} (hT:s.TypeIs (.ref a) "set") (h:Q false s):wpAny (model prog w) A (Builtin.List.listLengthHint (.ref a)) Q E s:=by
 unfold Builtin.List.listLengthHint
 refine wpAny_bind (wpAny_specialOf hT PySem.F.slot_set_len.lookup ?_)
 generalize hid:("set.__len__":String)=id0
 wp_delta
 rw[show splitId id0=some ("set","__len__") from by subst hid;decide +kernel]
 subst hid
 refine wpAny_bind (wpAny_isInstance (T:="set") (b:=true) hT (by rw[isSubtype_type];kernel_rfl) (wpAny_ite_split (fun z=>absurd z (by decide)) fun _=>?_))
 refine wpAny_ite_split (fun _=>wpAny_bind (wpAny_typeOf hT (wpAny_pure h))) (fun z=>absurd (by decide +kernel) z)
theorem ints_of:∀ l:List (Int × Value),ElemsOf (intKind prog w) l->∃ ks,IntsAre (l.map (·.2)) ks∧ks.length=l.length∧∀ k,k ∈ ks↔∃ e ∈ l,(intKind prog w).is k e.2=true
 | [],_=>⟨[],.nil,rfl,fun k=>by simp⟩
 | e::l,h=>by
  obtain⟨ks,h1,h2,h3⟩:=ints_of l h.tail
  obtain⟨⟨k,hk,_⟩,_⟩:=h.head
  obtain⟨hx,x⟩:=e
  obtain⟨u,rfl⟩:=Value.isInt_shape hk
  refine⟨k::ks,.cons k u h1,by simp [h2],fun y=>?_⟩
  rw[List.mem_cons,h3 y]
  constructor
  ·rintro (rfl | ⟨e,he,q⟩)
   ·exact⟨_,List.mem_cons_self,hk⟩
   ·exact⟨e,List.mem_cons_of_mem _ he,q⟩
  ·rintro ⟨e,he,q⟩
   rcases List.mem_cons.mp he with rfl | he
   ·exact .inl ((intKind prog w).inj _ _ _ q hk)
   ·exact .inr ⟨e,he,q⟩
theorem got_all {ord:List (Int × Value)} {acc:Array Value} (h:ItemsOf (fun i v=>∃ e,ord[i]?=some e∧v=e.2) acc ord.length):acc.toList=ord.map (·.2):=by
 refine List.ext_getElem (by simp [h.1]) fun i h1 h2=>?_
 have hi:i < acc.size:=by simpa using h1
 obtain⟨e,e1,e2⟩:=h.2 i _ (Array.getElem?_eq_getElem hi)
 have hi2:i < ord.length:=by simpa using h2
 rw[List.getElem?_eq_getElem hi2] at e1
 cases e1
 simpa using e2
/-- all of a set, as a list -/
theorem collect_set {Q:List Value->Shared->Prop} {S:Int->Bool} {n:Nat} (hh:A.handled=none) (st:SetT prog w s.heap a S n)
  (hQ:∀ (h':Heap) (tk:Nat) (d':Drawn) (vs:List Value) (ks:List Int),(∀ b o,s.heap.get? b=some o->h'.get? b=some o)->IntsAre vs ks->ks.length=n->(∀ k,S k=true↔k ∈ ks)->Q vs { s with heap:=h',toks:=tk,drawn:=d' }) :
  wpAny (model prog w) A (collect (.ref a)) Q E s:=by
 obtain⟨⟨o,es,ep,t,ho,ox,od,el,me,small,fit,en⟩,o',es',ep',t',ho',od',ti⟩:=st
 rw[ho] at ho';cases ho'
 rw[od] at od';cases od'
 unfold collect
 refine wpAny_bind (wpAny_runValue (codeAny_builtin PySem.F.entry_proto_collect ?_))
 rw[Around.under_plainId PySem.F.plain_proto_collect _]
 show wpAny _ A.in1 (newList [] >>= fun l=>again (.builtin "list.__iadd__" ⟨[l,.ref a],[]⟩)) _ _ s
 refine wpAny_bind (wpAny_newObj_type ?_)
 refine wpAny_pure ⟨plainId_quiet PySem.F.plain_list_iadd _,codeAny_builtin PySem.F.entry_list_iadd ?_⟩
 rw[Around.under_plainId PySem.F.plain_list_iadd _]
 show wpAny _ A.in1 (Builtin.List.listExtendWith (.ref s.heap.objs.size) (.ref a) (.ref s.heap.objs.size)) _ _ _
 have alt:a < s.heap.objs.size:=Heap.lt_size ho
 have hS:(s.heap.push { cls:=.type "list",data:=.seq ([]:List Value).toArray }).get? s.heap.objs.size=some { cls:=.type "list",data:=.seq #[] }:=Heap.get?_push_size _ rfl
 have szL:(s.heap.push { cls:=.type "list",data:=.seq ([]:List Value).toArray }).objs.size=s.heap.objs.size + 1:=Heap.size_push ..
 unfold Builtin.List.listExtendWith
 have tS:Shared.TypeIs { s with heap:=s.heap.push { cls:=.type "list",data:=.seq ([]:List Value).toArray } } (.ref a) "set":=⟨o,Heap.get?_push_of_some _ ho,ox.1⟩
 refine wpAny_bind (wpAny_typeOf (T:="set") tS ?_)
 have h1:Builtin.List.listSameRef (.ref s.heap.objs.size) (.ref a)=false:=by simp only [Builtin.List.listSameRef,beq_eq_false_iff_ne];exact Nat.ne_of_gt alt
 have h2:(Value.type "set" == Value.type "list")=false:=by decide
 have h3:(Value.type "set" == Value.type "tuple")=false:=by decide
 simp only [h1,h2,h3,Bool.or_false,Bool.false_eq_true,if_false]
 refine wpAny_bind (iter_set (t:=t) ⟨o,Heap.get?_push_of_some _ ho,ox.1,od⟩ fit ti (Nat.le_of_lt small) fun I h1 d1 ord kd hk lI hp pm stk=>?_)
 refine wpAny_bind (wpAny_holding (hint_set ⟨o,hk a o (Heap.get?_push_of_some _ ho),ox.1⟩ ?_))
 refine wpAny_ite_split (fun _=>?_) (fun z=>absurd (by decide) z)
 refine wpAny_bind (wpAny_rule ?_)
 refine wpAny_bind ?_
 show wpAny _ _ (updateSeq s.heap.objs.size (·.push .none) >>= fun _=>updateSeq s.heap.objs.size (·.pop)) _ _ _
 have g1:=hk _ _ hS
 refine wpAny_bind (wpAny_updateSeq g1 rfl ?_)
 have g2:=Heap.get?_update_self (Obj.mapSeq (·.push Value.none)) g1 rfl
 refine wpAny_updateSeq (hz:=by seq_fits) g2 rfl ?_
 have g3:=Heap.get?_update_self (Obj.mapSeq (·.pop)) g2 rfl
 have neI:s.heap.objs.size≠I:=Nat.ne_of_lt (Nat.lt_of_lt_of_le (by rw[szL];exact Nat.lt_succ_self _) lI)
 have nfp:s.heap.objs.size ∉ fpK I a kd:=by
  cases kd with
  | text=>simp only [fpK,List.mem_cons,List.not_mem_nil,or_false,not_or];exact⟨neI,Nat.ne_of_gt alt⟩
  | places=>simp only [fpK,List.mem_cons,List.not_mem_nil,or_false,not_or];exact⟨neI,Nat.ne_of_gt alt⟩
  | drawn p pl =>
   simp only [fpK,List.mem_cons,List.not_mem_nil,or_false,not_or]
   exact⟨neI,Nat.ne_of_gt alt,Nat.ne_of_lt (Nat.lt_of_lt_of_le (by rw[szL];exact Nat.lt_succ_self _) (hp p pl rfl).2)⟩
 have aI:a≠I:=Nat.ne_of_lt (Nat.lt_of_lt_of_le (by rw[szL];exact Nat.lt_succ_of_lt alt) lI)
 have W:=walk_set (prog:=prog) (w:=w) (A:=A.in1) (ep:=ep) (ord:=ord) (kd:=kd) hh aI fit ti (fun p pl e=>(hp p pl e).1) pm
 have kU:∀ b o,b≠s.heap.objs.size->h1.get? b=some o->((h1.update s.heap.objs.size (Obj.mapSeq (·.push Value.none))).update s.heap.objs.size (Obj.mapSeq (·.pop))).get? b=some o:=fun b o hb e =>
  (Heap.get?_update_other _ _ (Ne.symm hb)).trans ((Heap.get?_update_other _ _ (Ne.symm hb)).trans e)
 have st1:=W.frame 0 _ _ stk fun b hb o e=>kU b o (fun z=>nfp (z ▸ hb)) e
 have lo:ord.length=n:=by rw[pm.length_eq,Array.length_toList,en]
 refine wpAny_pure ⟨plainId_quiet PySem.F.plain_extend_loop _,codeAny_extend_loopS W.toS (by rw[lo,← en];exact fits_of_scanBound small) s.heap.objs.size nfp _ ord.length 0 _ #[] _ rfl (Nat.zero_le _) st1 g3 (ItemsOf.nil _) fun s' acc' c' hm hS' hacc=>?_⟩
 rw[Moved.eq_with hm]
 refine wpAny_bind (wpAny_load hS' (wpAny_pure ?_))
 obtain⟨ks,i1,i2,i3⟩:=ints_of (prog:=prog) (w:=w) ord (el.perm pm)
 rw[got_all hacc]
 refine hQ _ _ _ _ ks (fun b o e=>hm.heap b o ?_ (kU b o (Nat.ne_of_lt (Heap.lt_size e)) (hk b o (Heap.get?_push_of_some _ e)))) i1 (i2.trans lo) fun k=>(me k).trans ?_
 ·simp only [List.mem_cons,List.not_mem_nil,or_false,not_or]
  have:=Heap.lt_size e
  exact⟨Nat.ne_of_lt this,Nat.ne_of_lt (Nat.lt_of_lt_of_le (by rw[szL];exact Nat.lt_succ_of_lt this) lI)⟩
 ·rw[i3 k]
  exact⟨fun ⟨e,he,q⟩=>⟨e,pm.mem_iff.mpr he,q⟩,fun ⟨e,he,q⟩=>⟨e,pm.mem_iff.mp he,q⟩⟩
end
end Stb
namespace Lay9
open PySem
/-- from a place on, by 5 i + 1 -/
def it (m:Nat):Nat->Nat->Nat
 | 0,i=>i
 | n + 1,i=>it m n ((i * 5 + 1) % m)
/-- each place comes -/
def Full (m:Nat):Prop:=∀ i,i < m->∀ j,j < m->∃ n,n < m∧it m n i=j
theorem none_step {mask:Nat} {ow:Array (Option Nat)} {f i p:Nat} (h:SetTable.layClean.free mask ow (f + 1) i p=none):(ow.getD i (some 0)).isNone=false∧SetTable.layClean.free mask ow f ((i * 5 + 1 + p / 32) % (mask + 1)) (p / 32)=none:=by
 unfold SetTable.layClean.free at h
 split at h
 ·cases h
 ·rename_i e
  refine⟨?_,h⟩
  have r:i≤SetTable.runEnd mask i:=by unfold SetTable.runEnd;split <;> omega
  have:=List.find?_eq_none.mp e 0 (List.mem_range.mpr (by omega))
  rw[Nat.add_zero] at this
  exact Bool.eq_false_iff.mpr this
theorem none_iter {mask:Nat} {ow:Array (Option Nat)}:∀ {n f i:Nat},SetTable.layClean.free mask ow (f + n + 1) i 0=none->(ow.getD (it (mask + 1) n i) (some 0)).isNone=false
 | 0,f,i,h=>(none_step h).1
 | n + 1,f,i,h=>none_iter (n:=n) (f:=f) (by have:=(none_step h).2;rw[Nat.add_zero] at this;exact this)
theorem none_zero {mask:Nat} {ow:Array (Option Nat)}:∀ {k f i p:Nat},p < 32 ^ k->SetTable.layClean.free mask ow (f + k) i p=none->i < mask + 1->∃ i',i' < mask + 1∧SetTable.layClean.free mask ow f i' 0=none
 | 0, f, i, p, hp, h, hi => ⟨i, hi, by have : p = 0 := by simpa using hp
                                       subst this;exact h⟩
 | k + 1,f,i,p,hp,h,hi=>none_zero (k:=k) (f:=f) (p:=p / 32) (by rw[Nat.pow_succ] at hp;exact (Nat.div_lt_iff_lt_mul (by decide)).mpr hp) (none_step h).2 (Nat.mod_lt _ (by omega))
/-- a free place is found where there is one -/
theorem free_some {mask:Nat} {ow:Array (Option Nat)} (full:Full (mask + 1)) {j:Nat} (hj:j < mask + 1) (free:ow.getD j (some 0)=none) {i p:Nat} (hi:i < mask + 1) (hp:p < 2 ^ 64):∃ k,SetTable.layClean.free mask ow (SetTable.turns mask) i p=some k:=by
 cases e:SetTable.layClean.free mask ow (SetTable.turns mask) i p with
 | some k=>exact⟨k,rfl⟩
 | none =>
  have t:SetTable.turns mask=(mask + 2) + 13:=by unfold SetTable.turns;omega
  rw[t] at e
  obtain⟨i',hi',e'⟩:=none_zero (k:=13) (Nat.lt_of_lt_of_le hp (by decide)) e hi
  obtain⟨n,hn,en⟩:=full i' hi' j hj
  have:=none_iter (n:=n) (f:=mask + 1 - n) (by rw[show mask + 1 - n + n + 1=mask + 2 by omega];exact e')
  rw[en,free] at this
  cases this
theorem free_is {mask:Nat} {ow:Array (Option Nat)}:∀ {f i p k:Nat},SetTable.layClean.free mask ow f i p=some k->ow.getD k (some 0)=none
 | 0,i,p,k,h=>by cases h
 | f + 1,i,p,k,h=>by
  unfold SetTable.layClean.free at h
  split at h
  ·rename_i d e
   cases h
   have:=List.find?_some e
   simpa using this
  ·exact free_is h
theorem it_add {m:Nat}:∀ {a b i:Nat},it m (a + b) i=it m b (it m a i)
 | 0,b,i=>by rw[Nat.zero_add];rfl
 | a + 1,b,i=>by rw[Nat.add_right_comm];exact it_add (a:=a)
def orb (m:Nat):Nat->Nat->List Nat
 | 0,_=>[]
 | n + 1,i=>i::orb m n ((i * 5 + 1) % m)
theorem orb_mem {m:Nat}:∀ {n i j:Nat},j ∈ orb m n i->∃ b,b < n∧it m b i=j
 | 0,i,j,h=>by cases h
 | n + 1,i,j,h=>by
  rcases List.mem_cons.mp h with rfl | h
  ·exact⟨0,by omega,rfl⟩
  ·obtain⟨b,hb,e⟩:=orb_mem h
   exact⟨b + 1,by omega,e⟩
theorem full_of {m:Nat} (h1:((List.range m).all fun j=>(orb m m 0).contains j)=true) (h2:it m m 0=0):Full m:=by
 have at0:∀ j,j < m->∃ b,b < m∧it m b 0=j:=fun j hj=>orb_mem (List.contains_iff_mem.mp (List.all_eq_true.mp h1 j (List.mem_range.mpr hj)))
 intro i hi j hj
 obtain⟨a,ha,ea⟩:=at0 i hi
 obtain⟨b,hb,eb⟩:=at0 j hj
 by_cases c:a≤b
 ·refine⟨b - a,by omega,?_⟩
  rw[← ea,← it_add,show a + (b - a)=b by omega];exact eb
 ·refine⟨m - a + b,by omega,?_⟩
  rw[← ea,← it_add,show a + (m - a + b)=m + b by omega,it_add,h2];exact eb
theorem full8:Full 8:=full_of (by decide +kernel) (by decide +kernel)
theorem full16:Full 16:=full_of (by decide +kernel) (by decide +kernel)
theorem full32:Full 32:=full_of (by decide +kernel) (by decide +kernel)
theorem full64:Full 64:=full_of (by decide +kernel) (by decide +kernel)
theorem full128:Full 128:=full_of (by decide +kernel) (by decide +kernel)
theorem full256:Full 256:=full_of (by decide +kernel) (by decide +kernel)
theorem full512:Full 512:=full_of (by decide +kernel) (by decide +kernel)
/-- as large as wanted, and each place comes -/
theorem size_full {n:Nat} (h:n < 512):Full (SetTable.sizeAbove n)∧n < SetTable.sizeAbove n∧SetTable.sizeAbove n≤512:=by
 have go:∀ f s,SetTable.sizeAbove.go n (f + 1) s=if s≤n then SetTable.sizeAbove.go n f (s * 2) else s:=fun _ _=>rfl
 unfold SetTable.sizeAbove
 rw[go 63];split
 ·rw[go 62];split
  ·rw[go 61];split
   ·rw[go 60];split
    ·rw[go 59];split
     ·rw[go 58];split
      ·rw[go 57];split
       ·omega
       ·exact⟨full512,by omega,by decide⟩
      ·exact⟨full256,by omega,by decide⟩
     ·exact⟨full128,by omega,by decide⟩
    ·exact⟨full64,by omega,by decide⟩
   ·exact⟨full32,by omega,by decide⟩
  ·exact⟨full16,by omega,by decide⟩
 ·exact⟨full8,by omega,by decide⟩
theorem nodup_sub:∀ {l m:List Nat},l.Nodup->(∀ x ∈ l,x ∈ m)->l.length≤m.length
 | [],_,_,_=>Nat.zero_le _
 | a::l,m,nd,h=>by
  have ha:=h a (List.mem_cons_self ..)
  have nc:=List.nodup_cons.mp nd
  have:=nodup_sub (l:=l) (m:=m.erase a) nc.2 fun x hx=>by
   have ne:x≠a:=fun z=>nc.1 (by rw[← z];exact hx)
   exact (List.mem_erase_of_ne ne).mpr (h x (List.mem_cons_of_mem _ hx))
  rw[List.length_erase_of_mem ha] at this
  have pos:0 < m.length:=List.length_pos_of_mem ha
  rw[List.length_cons]
  omega
/-- the places of the first k: each once -/
structure Own (mask:Nat) (ow:Array (Option Nat)) (k:Nat):Prop where
 size:ow.size=mask + 1
 lt:∀ j v,ow.getD j none=some v->v < k
 has:∀ v,v < k->∃ j,ow.getD j none=some v
 one:∀ j j' v,ow.getD j none=some v->ow.getD j' none=some v->j=j'
theorem getD_some {ow:Array (Option Nat)} {j:Nat}:ow.getD j (some 0)=none->j < ow.size∧ow.getD j none=none:=fun h=>by
 by_cases c:j < ow.size
 ·refine⟨c,?_⟩
  simp only [Array.getD,c,dif_pos] at h ⊢
  exact h
 ·simp only [Array.getD,c,dif_neg,not_false_eq_true] at h
  cases h
theorem Own.free {mask k:Nat} {ow:Array (Option Nat)} (o:Own mask ow k) (hk:k≤mask):∃ j,j < mask + 1∧ow.getD j (some 0)=none:=by
 by_cases c:∃ j,j < mask + 1∧ow.getD j (some 0)=none
 ·exact c
 ·exfalso
  have all:∀ j,j < mask + 1->∃ v,ow.getD j none=some v:=fun j hj=>by
   have hs:j < ow.size:=by rw[o.size];exact hj
   cases e:ow.getD j none with
   | some v=>exact⟨v,rfl⟩
   | none =>
    refine absurd ⟨j,hj,?_⟩ c
    simp only [Array.getD,hs,dif_pos] at e ⊢
    exact e
  have l:=nodup_sub (l:=(List.range (mask + 1)).map fun j=>(ow.getD j none).getD 0) (m:=List.range k) ?_ ?_
  ·rw[List.length_map,List.length_range,List.length_range] at l;omega
  ·rw[List.nodup_iff_pairwise_ne,List.pairwise_map]
   refine List.Pairwise.imp_of_mem ?_ (List.pairwise_lt_range (n:=mask + 1))
   intro a b ha hb lt e
   obtain⟨va,ea⟩:=all a (List.mem_range.mp ha)
   obtain⟨vb,eb⟩:=all b (List.mem_range.mp hb)
   rw[ea,eb] at e
   have e:va=vb:=e
   rw[← e] at eb
   have:=o.one _ _ _ ea eb
   omega
  ·intro x hx
   obtain⟨j,hj,rfl⟩:=List.mem_map.mp hx
   obtain⟨v,ev⟩:=all j (List.mem_range.mp hj)
   rw[ev]
   exact List.mem_range.mpr (o.lt _ _ ev)
theorem Own.next {mask k j:Nat} {ow:Array (Option Nat)} (o:Own mask ow k) (hj:ow.getD j (some 0)=none):Own mask (ow.setIfInBounds j (some k)) (k + 1):=by
 obtain⟨hs,hn⟩:=getD_some hj
 have at_:∀ i,(ow.setIfInBounds j (some k)).getD i none=if i=j then some k else ow.getD i none:=fun i=>by
  rw[Array.getD_eq_getD_getElem?,Array.getD_eq_getD_getElem?,Array.getElem?_setIfInBounds]
  by_cases c:j=i
  ·subst c
   rw[if_pos rfl,if_pos hs,if_pos rfl];rfl
  ·rw[if_neg c,if_neg (Ne.symm c)]
 refine⟨by rw[Array.size_setIfInBounds];exact o.size,fun i v h=>?_,fun v hv=>?_,fun i i' v h h'=>?_⟩
 ·rw[at_] at h
  split at h
  ·cases h;omega
  ·have:=o.lt _ _ h;omega
 ·by_cases c:v=k
  ·exact⟨j,by rw[at_,if_pos rfl,c]⟩
  ·obtain⟨i,hi⟩:=o.has v (by omega)
   refine⟨i,?_⟩
   rw[at_,if_neg (fun z=>by rw[z,hn] at hi;cases hi)];exact hi
 ·rw[at_] at h h'
  split at h
  ·rename_i e
   cases h
   split at h'
   ·rename_i e';rw[e,e']
   ·exact absurd (o.lt _ _ h') (by omega)
  ·split at h'
   ·cases h';exact absurd (o.lt _ _ h) (by omega)
   ·exact o.one _ _ _ h h'
theorem bits_lt (h:Int):SetTable.bits h < 2 ^ 64:=by
 unfold SetTable.bits
 have:=Int.emod_lt_of_pos h (show (0:Int) < 2 ^ 64 by decide)
 have:=Int.emod_nonneg h (show (2:Int) ^ 64≠0 by decide)
 omega
theorem lay_list {mask:Nat} (full:Full (mask + 1)):∀ (hs:List Int) (ow:Array (Option Nat)) (k:Nat),Own mask ow k->k + hs.length≤mask + 1 ->
  ∃ ow',hs.foldl (fun (acc:Option (Array (Option Nat) × Nat)) h=>do
   let (owner,k) ← acc
   let j ← SetTable.layClean.free mask owner (SetTable.turns mask) (SetTable.bits h % (mask + 1)) (SetTable.bits h)
   pure (owner.setIfInBounds j (some k),k + 1)) (some (ow,k))=some (ow',k + hs.length)∧Own mask ow' (k + hs.length)
 | [],ow,k,o,_=>⟨ow,rfl,o⟩
 | h::hs,ow,k,o,hk=>by
  rw[List.length_cons] at hk
  obtain⟨j,hj,fj⟩:=o.free (by omega)
  obtain⟨i,ei⟩:=free_some full hj fj (i:=SetTable.bits h % (mask + 1)) (p:=SetTable.bits h) (Nat.mod_lt _ (by omega)) (bits_lt h)
  have fi:=free_is ei
  obtain⟨ow',e,o'⟩:=lay_list full hs _ (k + 1) (o.next fi) (by omega)
  refine⟨ow',?_,by rw[List.length_cons,show k + (hs.length + 1)=k + 1 + hs.length by omega];exact o'⟩
  rw[List.foldl_cons,List.length_cons,show k + (hs.length + 1)=k + 1 + hs.length by omega,← e]
  show List.foldl _ (do let j ← SetTable.layClean.free mask ow (SetTable.turns mask) (SetTable.bits h % (mask + 1)) (SetTable.bits h);pure (ow.setIfInBounds j (some k),k + 1)) hs=_
  rw[ei];rfl
theorem own_start (mask:Nat):Own mask (Array.replicate (mask + 1) none) 0:=by
 have n:∀ j:Nat,(Array.replicate (mask + 1) (none:Option Nat)).getD j none=none:=fun j=>by
  rw[Array.getD_eq_getD_getElem?,Array.getElem?_replicate]
  split <;> rfl
 exact⟨by simp,fun j v h=>(by rw[n] at h;cases h),fun v h=>(by omega),fun j j' v h=>(by rw[n] at h;cases h)⟩
theorem layClean_some {mask:Nat} (full:Full (mask + 1)) {hs:Array Int} (h:hs.size≤mask + 1):∃ ow,SetTable.layClean mask hs=some ow∧Own mask ow hs.size:=by
 obtain⟨ow,e,o⟩:=lay_list full hs.toList _ 0 (own_start mask) (by simpa using h)
 refine⟨ow,?_,by simpa using o⟩
 unfold SetTable.layClean
 rw[← Array.foldl_toList]
 have:=congrArg (Option.map (·.1)) e
 exact this
/-- what is laid anew: a table whose places rise, and an order of all -/
theorem laid_some {mask finger moves:Nat} {led plain:Bool} (full:Full (mask + 1)) {hs:Array Int} (h:hs.size≤mask + 1) :
  ∃ t order,SetTable.laid mask finger moves led plain hs=some (t,order)∧order.toList.Perm (List.range hs.size)∧t.place.toList.Pairwise (· < ·)∧t.place.size=hs.size∧t.led=led∧t.plain=plain∧t.mask=mask∧t.dummies=#[]∧t.finger=finger∧t.moves=moves:=by
 obtain⟨ow,e,o⟩:=layClean_some full h
 have pm:(((List.range (mask + 1)).filterMap fun j=>(ow.getD j none).map (j,·)).map (·.2)).Perm (List.range hs.size):=by
  have e2:((List.range (mask + 1)).filterMap fun j=>(ow.getD j none).map (j,·)).map (·.2)=(List.range (mask + 1)).filterMap fun j=>ow.getD j none:=by
   rw[List.map_filterMap]
   refine congrArg (fun g=>List.filterMap g _) (funext fun j=>?_)
   cases ow.getD j none <;> rfl
  rw[e2]
  refine (List.perm_ext_iff_of_nodup ?_ List.nodup_range).mpr fun v=>?_
  ·rw[List.nodup_iff_pairwise_ne,List.pairwise_filterMap]
   refine List.pairwise_lt_range.imp fun lt v hv v' hv' z=>?_
   subst z
   have:=o.one _ _ _ hv hv'
   omega
  ·rw[List.mem_filterMap,List.mem_range]
   constructor
   ·rintro ⟨j,_,hj⟩
    exact o.lt _ _ hj
   ·intro hv
    obtain⟨j,hj⟩:=o.has v hv
    refine⟨j,List.mem_range.mpr ?_,hj⟩
    rcases Nat.lt_or_ge j (mask + 1) with z | z
    ·exact z
    ·rw[Array.getD_eq_getD_getElem?,Array.getElem?_eq_none (by rw[o.size];exact z)] at hj
     cases hj
 refine⟨_,_,by unfold SetTable.laid;rw[e];rfl,pm,?_,?_,rfl,rfl,rfl,rfl,rfl,rfl⟩
 ·show (((List.range (mask + 1)).filterMap fun j=>(ow.getD j none).map (j,·)).map (·.1)).Pairwise (· < ·)
  rw[List.pairwise_map,List.pairwise_filterMap]
  refine List.pairwise_lt_range.imp fun lt v hv v' hv'=>?_
  cases e1:ow.getD _ none with
  | none=>rw[e1] at hv;cases hv
  | some x =>
   rw[e1] at hv;cases hv
   rename_i b
   cases e3:ow.getD b none with
   | none=>rw[e3] at hv';cases hv'
   | some y=>rw[e3] at hv';cases hv';exact lt
 ·have:=pm.length_eq
  simpa using this
end Lay9
namespace Stb
open PySem PyProof.Rows
section
variable {prog:Program} {w:World} {A:Around} {E:Value->Shared->Prop} {s:Shared}
theorem order_perm {es:Array (Int × Value)} {order:Array Nat} (pm:order.toList.Perm (List.range es.size)):(order.filterMap (es[·]?)).toList.Perm es.toList:=by
 have h:=pm.filterMap (es[·]?)
 rw[filterMap_getElem?_range] at h
 simpa using h
end
end Stb
namespace Stb
open PySem PyProof.Rows
section
variable {prog:Program} {w:World} {A:Around} {E:Value->Shared->Prop} {s:Shared}
/-- a set with nothing in it, whose table can be filled -/
def Fr (w:World) (h:Heap) (a:Addr) (m:Nat):Prop:=∃ o ep t,h.get? a=some o∧o.ExactSet∧o.data=.set #[] ep t∧t.place=#[]∧t.dummies=#[]∧Lay9.Full (t.mask + 1)∧t.led=ledOf w∧m≤t.mask
theorem fr_fits {t:SetTable} (h1:t.place=#[]) (h2:t.dummies=#[]):t.fits 0=true:=by
 unfold SetTable.fits SetTable.fill
 rw[h1,h2];simp
theorem room_Fr {a:Addr} {more:Nat} {Q:Unit->Shared->Prop} (fr:Fr w s.heap a 0) (hm:0 < more) (hl:more * 2 < 512)
  (fin:∀ h',Heap.SameBut a s.heap h'->Fr w h' a more->Q () { s with heap:=h' }):wpAny (model prog w) A (setRoomFor a more) Q E s:=by
 obtain⟨o,ep,t,ho,ox,od,pl,du,full,led,_⟩:=fr
 have fit:=fr_fits pl du
 unfold setRoomFor
 refine wpAny_bind (wpAny_setState_of ho od fit ?_)
 dsimp only
 unfold SetTable.roomFor
 have f0:t.fill=0:=by unfold SetTable.fill;rw[pl,du];rfl
 split
 ·rename_i wanted e
  rw[f0,pl] at e
  split at e
  ·cases e
   have ew:((#[]:Array Nat).size + more) * 2=more * 2:=by simp
   rw[ew]
   obtain⟨full2,gt,le⟩:=Lay9.size_full hl
   have hm':SetTable.sizeAbove (more * 2) - 1 + 1=SetTable.sizeAbove (more * 2):=by omega
   obtain⟨t2,order,e,pm,asc,sz,eled,eplain,emask,edum,_,_⟩:=Lay9.laid_some (mask:=SetTable.sizeAbove (more * 2) - 1) (finger:=t.finger) (moves:=t.movedTo (SetTable.sizeAbove (more * 2) - 1)) (led:=t.led) (plain:=t.plain) (hm' ▸ full2) (hs:=(#[]:Array (Int × Value)).map (·.1)) (by simp)
   have er:t.relaid ((#[]:Array (Int × Value)).map (·.1)) (more * 2)=some (t2,order):=e
   unfold setRelay
   refine wpAny_bind (wpAny_setState_of ho od fit ?_)
   have line:¬ SetTable.sizeAbove (more * 2) > sizeLine:=by rw[sizeLine_eq];omega
   dsimp only
   rw[if_neg line,er]
   refine wpAny_bind ?_
   wp_delta
   have o0:order=#[]:=by
    have:=pm.length_eq
    simp at this
    exact this
   subst o0
   dsimp only
   refine wpAny_ite_split (fun z=>absurd z (by decide)) fun _=>?_
   refine wpAny_pure (wpAny_storeSet_of ho od ?_ (Nat.zero_le _))
   have hg:(s.heap.update a (Obj.putSet #[] t2)).get? a=some { o with data:=.set #[] (ep + 1) t2 }:=by
    have:=Heap.get?_update_self (Obj.putSet #[] t2) ho (by rw[putSet_of #[] t2 od];rfl)
    rw[putSet_of #[] t2 od] at this;exact this
   have p0:t2.place=#[]:=by
    have:=sz
    simp at this
    exact this
   exact fin _ (Heap.SameBut.update s.heap a _) ⟨_,_,_,hg,ox,rfl,p0,edum,by rw[emask,hm'];exact full2,eled.trans led,by rw[emask];omega⟩
  ·cases e
 ·rename_i e
  rw[f0,pl] at e
  by_cases c:(0 + more) * 5 ≥ t.mask * 3
  ·rw[if_pos c] at e
   exact (e _ rfl).elim
  ·have e0:s={ s with heap:=s.heap }:=by cases s;rfl
   exact wpAny_pure (by rw[e0];exact fin _ (Heap.SameBut.refl _ _) ⟨o,ep,t,ho,ox,od,pl,du,full,led,by omega⟩)
/-- a copy into a set with nothing in it -/
theorem merge_Fr {a b:Addr} {S:Int->Bool} {n:Nat} {each:Sem Unit} {Q:Unit->Shared->Prop} (ne:a≠b) (fr:Fr w s.heap a 0) (st:SetT prog w s.heap b S n) (hl:n * 2 < 512)
  (fin:∀ h',Heap.SameBut a s.heap h'->SetT prog w h' a S n->Q () { s with heap:=h' }):wpAny (model prog w) A (setMerge a b each) Q E s:=by
 obtain⟨⟨o,es,ep,t,ho,ox,od,el,me,small,fit,en⟩,o',es',ep',t',ho',od',ti⟩:=id st
 rw[ho] at ho';cases ho'
 rw[od] at od';cases od'
 unfold setMerge
 have nb:(a == b)=false:=by simpa using ne
 rw[nb]
 refine wpAny_ite_split (fun z=>absurd z (by decide)) fun _=>?_
 refine wpAny_bind (wpAny_setState_of ho od fit ?_)
 dsimp only
 refine wpAny_ite_split (fun z=>?_) fun z=>?_
 ·have e0:es=#[]:=by simpa using z
  subst e0
  obtain⟨oa,epa,ta,hoa,oxa,oda,pla,dua,_,leda,_⟩:=fr
  have e1:s={ s with heap:=s.heap }:=by cases s;rfl
  have asc:Asc ta.place:=by
   rw[pla]
   intro i j _ h
   simp at h
  exact wpAny_pure (by rw[e1];exact fin _ (Heap.SameBut.refl _ _) ⟨⟨oa,#[],epa,ta,hoa,oxa,oda,el,me,small,fr_fits pla dua,en⟩,oa,#[],epa,ta,hoa,oda,asc,leda⟩)
 ·have pos:0 < es.size:=by
   have:es≠#[]:=by simpa using z
   exact Array.size_pos_iff.mpr this
  refine wpAny_bind (room_Fr fr pos (by omega) fun h1 sb1 fr1=>?_)
  obtain⟨oa,epa,ta,hoa,oxa,oda,pla,dua,fulla,leda,room⟩:=fr1
  refine wpAny_bind (wpAny_setState_of hoa oda (fr_fits pla dua) ?_)
  dsimp only
  have f0:ta.fill=0:=by unfold SetTable.fill;rw[pla,dua];rfl
  have rd:ta.road t=if ta.mask == t.mask && t.dummies.isEmpty then .slotForSlot else .clean:=by
   unfold SetTable.road
   rw[f0];rfl
  rw[rd]
  have ledB:(ta.led && t.led)=ledOf w:=by rw[leda,ti.2,Bool.and_self]
  by_cases c:(ta.mask == t.mask && t.dummies.isEmpty)=true
  ·rw[if_pos c]
   dsimp only
   refine wpAny_storeSet_of hoa oda ?_ (fits_of_scanBound small)
   have fit2:SetTable.fits { t with finger:=ta.finger,led:=ta.led && t.led,moves:=ta.moves,plain:=ta.plain && t.plain } es.size=true:=fit
   obtain⟨g1,s1⟩:=SetOf_store (knd:=intKind prog w) hoa oxa oda el me small fit2
   rw[en] at s1
   exact fin _ (sb1.trans (Heap.SameBut.update _ a _)) ⟨s1,_,_,_,_,g1,rfl,ti.1,ledB⟩
  ·rw[if_neg c]
   dsimp only
   obtain⟨t2,order,e,pm,asc,sz,eled,eplain,emask,edum,_,_⟩:=Lay9.laid_some (mask:=ta.mask) (finger:=ta.finger) (moves:=ta.moves) (led:=ta.led && t.led) (plain:=ta.plain && t.plain) fulla (hs:=es.map (·.1)) (by rw[Array.size_map];omega)
   rw[Array.size_map] at pm sz
   have pe:=order_perm pm
   have esz:(order.filterMap (es[·]?)).size=es.size:=by rw[← Array.length_toList,pe.length_eq,Array.length_toList]
   have fit2:t2.fits (order.filterMap (es[·]?)).size=true:=by
    unfold SetTable.fits SetTable.fill
    rw[esz,sz,emask,edum]
    simp
    omega
   rw[e]
   refine wpAny_bind ?_
   wp_delta
   have nb:((order.filterMap (es[·]?)).size != es.size)=false:=by rw[esz];simp
   dsimp only
   rw[nb]
   refine wpAny_ite_split (fun z=>absurd z (by decide)) fun _=>?_
   refine wpAny_pure (wpAny_storeSet_of hoa oda ?_ (fits_of_scanBound (esz ▸ small)))
   obtain⟨g1,s1⟩:=SetOf_store (knd:=intKind prog w) hoa oxa oda (el.perm pe) (fun k=>(me k).trans ⟨fun ⟨e,he,q⟩=>⟨e,pe.mem_iff.mpr he,q⟩,fun ⟨e,he,q⟩=>⟨e,pe.mem_iff.mp he,q⟩⟩) (esz ▸ small) fit2
   rw[esz,en] at s1
   exact fin _ (sb1.trans (Heap.SameBut.update _ a _)) ⟨s1,_,_,_,_,g1,rfl,Asc.list.mpr asc,eled.trans ledB⟩
end
end Stb
namespace Stb
open PySem PyProof.Rows
/-- as many as there are -/
def Cn (S:Int->Bool) (n:Nat):Prop:=∃ l:List Int,l.Nodup∧l.length=n∧∀ k,S k=true↔k ∈ l
theorem Cn.add {S:Int->Bool} {n:Nat} (c:Cn S n) (k:Int):Cn (fun y=>S y || decide (y=k)) (if S k then n else n + 1):=by
 obtain⟨l,nd,ll,hm⟩:=c
 cases e:S k with
 | true =>
  refine⟨l,nd,by rw[if_pos rfl];exact ll,fun y=>?_⟩
  rw[Bool.or_eq_true,decide_eq_true_eq,← hm y]
  exact⟨fun z=>z.elim id fun y=>y ▸ e,.inl⟩
 | false =>
  refine⟨l++[k],?_,by rw[List.length_append,ll];rfl,fun y=>?_⟩
  ·refine List.nodup_append.mpr ⟨nd,by simp,fun a ha b hb z=>?_⟩
   rw[List.mem_singleton.mp hb] at z
   have:=(hm k).mpr (z ▸ ha)
   rw[e] at this;cases this
  ·rw[Bool.or_eq_true,decide_eq_true_eq,List.mem_append,List.mem_singleton,hm y]
section
variable {prog:Program} {w:World} {A:Around} {E:Value->Shared->Prop} {s:Shared}
/-- the entries of a set in some order -/
theorem walk_perm {a:Addr} {es:Array (Int × Value)} {ep:Nat} {t:SetTable} {Q:Array (Int × Value)->Shared->Prop} {o:Obj} (ho:s.heap.get? a=some o) (od:o.data=.set es ep t) (fit:t.fits es.size=true) (led:t.led=ledOf w)
  (h:∀ ord d',ord.toList.Perm es.toList->Q ord { s with drawn:=d' }):wpAny (model prog w) A (setWalk a) Q E s:=by
 have e0:s={ s with drawn:=s.drawn }:=by cases s;rfl
 unfold setWalk setsByText
 refine wpAny_bind (wpAny_setState_of ho od fit ?_)
 refine wpAny_bind (wpAny_bind (wpAny_askSetting (wpAny_pure ?_)))
 dsimp only
 refine wpAny_ite_split (fun z=>?_) fun z=>?_
 ·refine wpAny_bind (wpAny_askSetting (wpAny_pure ?_))
  rw[e0]
  exact h _ _ (pick_perm _ _)
 ·have lt:ledOf w=true:=by
   have z':w.params.followText "set-order"=false:=Bool.eq_false_iff.mpr z
   unfold ledOf;rw[z'];rfl
  refine wpAny_ite_split (fun z2=>?_) fun z2=>?_
  ·refine wpAny_bind (wp_drawOrder _ _ _ _ (by simp) fun ys d' pm=>wpAny_pure (h _ d' (by simpa using pm)))
  ·refine wpAny_bind ?_
   wp_delta
   rw[led,lt]
   refine wpAny_ite_split (fun z3=>absurd z3 (by simp)) fun _=>?_
   refine wpAny_pure (wpAny_pure ?_)
   rw[e0]
   exact h _ _ (List.Perm.refl _)
theorem forIn_list {α β:Type} (b:β) (f:α->β->Sem (ForInStep β)):∀ es:List α,(∀ x ∈ es,f x b=pure (.yield b))->forIn es b f=(pure b:Sem β)
 | [],_=>by rw[List.forIn_nil]
 | x::es,hf=>by
  rw[List.forIn_cons,hf x List.mem_cons_self]
  show forIn es b f=pure b
  exact forIn_list b f es fun y hy=>hf y (List.mem_cons_of_mem _ hy)
theorem forIn_arr {α β:Type} (b:β) (f:α->β->Sem (ForInStep β)) (es:Array α) (hf:∀ x ∈ es.toList,f x b=pure (.yield b)):forIn es b f=(pure b:Sem β):=by
 rw[← Array.forIn_toList];exact forIn_list b f _ hf
theorem elem_int {es:List (Int × Value)} (el:ElemsOf (intKind prog w) es) {e:Int × Value} (he:e ∈ es):∃ k t,e.2=.int k t∧(intKind prog w).is k e.2=true∧e.1=(intKind prog w).hash k∧e.2.scannable=true:=by
 obtain⟨⟨k,h1,h2⟩,h3⟩:=el e he
 obtain⟨t,ht⟩:∃ t,e.2=.int k t:=by
  obtain⟨hx,x⟩:=e
  have h1':Value.isInt k x=true:=h1
  cases x <;> simp [Value.isInt] at h1'
  rename_i i t
  exact⟨t,by rw[h1']⟩
 exact⟨k,t,ht,h1,h2,h3⟩
theorem quiet_T {a b:Addr} {S S':Int->Bool} {n m:Nat} {Q:Bool->Shared->Prop} (sa:SetT prog w s.heap a S n) (sb:SetT prog w s.heap b S' m) (h:Q true s):wpAny (model prog w) A (setsQuiet [a,b]) Q E s:=by
 obtain⟨oa,ea,epa,ta,hoa,_,oda,ela,_,_,fita,_⟩:=sa.1
 obtain⟨ob,eb,epb,tb,hob,_,odb,elb,_,_,fitb,_⟩:=sb.1
 have go : ∀ {es : Array (Int × Value)}, ElemsOf (intKind prog w) es.toList → ∀ (x : Int × Value), x ∈ es.toList → (match x.2 with
     | Value.ref a=>do
       let r ← specialOf x.2 (Str.ofString "__eq__")
       if (r != some (Value.builtin "object.__eq__"))=true then pure (ForInStep.done (some false,()))
       else pure (ForInStep.yield (none,()))
     | x=>(pure (ForInStep.yield (none,())):Sem (ForInStep (Option Bool × Unit))))=pure (.yield (none,())):=fun el x hx=>by
  obtain⟨k,t,e,_⟩:=elem_int el hx
  rw[e]
 unfold setsQuiet
 simp only [List.forIn_cons,List.forIn_nil]
 refine wpAny_bind (wpAny_bind (wpAny_bind (wpAny_setEntries_of hoa oda fita ?_)))
 rw[forIn_arr _ _ _ (go ela)]
 refine wpAny_bind (wpAny_pure (wpAny_pure ?_))
 dsimp only
 refine wpAny_bind (wpAny_bind (wpAny_setEntries_of hob odb fitb ?_))
 rw[forIn_arr _ _ _ (go elb)]
 exact wpAny_bind (wpAny_pure (wpAny_pure (wpAny_pure (wpAny_pure h))))
/-- the entries of another set, to be put in -/
theorem unseen_T {a b:Addr} {S S':Int->Bool} {n m:Nat} {Q:Array (Int × Value)->Shared->Prop} (ne:a≠b) (sa:SetT prog w s.heap a S n) (sb:SetT prog w s.heap b S' m) {ob:Obj} {eb:Array (Int × Value)} {epb:Nat} {tb:SetTable} (hob:s.heap.get? b=some ob) (odb:ob.data=.set eb epb tb)
  (h:∀ ord h' d',ord.toList.Perm eb.toList->Heap.SameBut a s.heap h'->SetT prog w h' a S n->Q ord { s with heap:=h',drawn:=d' }):wpAny (model prog w) A (setWalkUnseen b [a] (some a)) Q E s:=by
 obtain⟨⟨o,es,ep,t,ho,ox,od,el,me,small,fit,en⟩,o',es',ep',t',ho',od',ti⟩:=id sb
 rw[ho] at ho';cases ho'
 rw[od] at od';cases od'
 obtain rfl:o=ob:=Option.some.inj (ho.symm.trans hob)
 obtain⟨rfl,rfl,rfl⟩:es=eb∧ep=epb∧t=tb:=by
  have:=od.symm.trans odb
  injection this with a b c
  exact⟨a,b,c⟩
 have e0:∀ d,({ s with drawn:=d }:Shared)={ s with heap:=s.heap,drawn:=d }:=fun d=>rfl
 have wk:∀ {Q':Array (Int × Value)->Shared->Prop},(∀ ord d',ord.toList.Perm es.toList->Q' ord { s with drawn:=d' })->wpAny (model prog w) A (setWalk b) Q' E s:=fun h=>walk_perm ho od fit ti.2 h
 have done:∀ ord d',ord.toList.Perm es.toList->Q ord { s with drawn:=d' }:=fun ord d' pm=>by rw[e0];exact h ord s.heap d' pm (Heap.SameBut.refl _ _) sa
 unfold setWalkUnseen setsByText
 refine wpAny_bind (wpAny_setState_of ho od fit ?_)
 refine wpAny_bind (wpAny_bind (wpAny_askSetting (wpAny_pure ?_)))
 dsimp only
 refine wpAny_ite_split (fun z=>wk done) fun z=>?_
 refine wpAny_bind (quiet_T sb sa ?_)
 refine wpAny_ite_split (fun z=>absurd z (by decide)) fun _=>?_
 refine wpAny_bind (wpAny_rule ?_)
 obtain⟨⟨oa,ea,epa,ta,hoa,oxa,oda,ela,mea,smalla,fita,ena⟩,oa',ea',epa',ta',hoa',oda',tia⟩:=id sa
 rw[hoa] at hoa';cases hoa'
 rw[oda] at oda';cases oda'
 refine wpAny_bind (wpAny_setState_of hoa oda fita ?_)
 dsimp only
 refine wpAny_ite_split (fun z=>?_) fun z=>?_
 ·refine wpAny_bind (wpAny_storeSet_of hoa oda (wpAny_pure ?_) (fits_of_scanBound smalla))
  obtain⟨g1,s1⟩:=SetOf_store (knd:=intKind prog w) (t':={ ta with led:=ta.led && t.led,plain:=ta.plain && t.plain }) hoa oxa oda ela mea smalla fita
  rw[ena] at s1
  exact h es _ s.drawn (List.Perm.refl _) (Heap.SameBut.update _ a _) ⟨s1,_,_,_,_,g1,rfl,tia.1,by show (ta.led && t.led)=_;rw[tia.2,ti.2,Bool.and_self]⟩
 ·exact wpAny_pure (done es s.drawn (List.Perm.refl _))
end
end Stb
namespace Stb
open PySem PyProof.Rows
section
variable {prog:Program} {w:World} {A:Around} {E:Value->Shared->Prop} {s:Shared}
end
end Stb
namespace Srt
open PySem PySem.Spec PyProof.Rows PySem.W
section
variable {prog:Program} {w:World} {A:Around} {E:Value->Shared->Prop} {s:Shared}
/-- sorted(x), x what collect makes some list of -/
theorem sorted_from {x:Value} {Q:Value->Shared->Prop} {Good:List Value->Shared->Prop}
  (hcol:∀ (A':Around) (E':Value->Shared->Prop) (Q':List Value->Shared->Prop),A'.handled=A.handled->(∀ vs s',Good vs s'->Q' vs s')->wpAny (model prog w) A' (collect x) Q' E' s)
  (hg:∀ vs s1,Good vs s1->∃ (r:Nat->Int) (κ:SortKind),vs.length < 64∧(2≤vs.length->∀ (A':Around) (s':Shared) (Q:SortKind->Shared->Prop),Q κ s'->wpAny (model prog w) A' (keyKind' vs.toArray) Q (fun _ _=>False) s') ∧
   (∀ (A':Around) (s':Shared) (i j:Nat) (C:Bool->Shared->Prop),i < vs.length->j < vs.length->C (decide (r i < r j)) s'->kas_ask prog w A' κ vs i j C s') ∧
   ∀ (p:Array Nat) (h':Heap) (c:Nat),Gd vs.length p->Up r p vs.length->(∀ b o,s1.heap.get? b=some o->h'.get? b=some o)->h'.get? s1.heap.objs.size=some (seqObj "list" (outOf vs p).toArray c)->Q (.ref s1.heap.objs.size) { s1 with heap:=h' }) :
  wpAny (model prog w) A (call (.builtin "sorted") [x]) Q E s:=by
 have line:(64:Nat)≤sizeLine:=by rw[sizeLine_eq];decide
 refine Calls.call_function_entry kind_sorted plain_sorted entry_sorted (args_sorted1 _) ?_
 unfold Builtin.«sorted»
 refine wpAny_bind (m:=checkCount "sorted" 1 1 _) (wpAny_pure (wpAny_bind (hcol _ _ _ rfl fun vs s1 g=>?_)))
 obtain⟨r,κ,h64,hk,hc,h⟩:=hg vs s1 g
 refine wpAny_bind (wpAny_newList ?_ (by omega))
 have hoL:(s1.heap.push { cls:=.type "list",data:=.seq vs.toArray }).get? s1.heap.objs.size=some (seqObj "list" vs.toArray 0):=Heap.get?_push_size _ rfl
 have ne2:∀ b o,s1.heap.get? b=some o->b≠s1.heap.objs.size:=fun b o q=>Nat.ne_of_lt (Heap.lt_size q)
 show wpAny _ _ _ _ _ { s1 with heap:=s1.heap.push { cls:=.type "list",data:=.seq vs.toArray } }
 refine wpAny_bind (wpAny_holding (wpAny_call_entry slot_list_sort ⟨_,hoL,rfl⟩ entry_list_sort ?_ (args_list_sort _)))
 refine lsort (s:={ s1 with heap:=s1.heap.push { cls:=.type "list",data:=.seq vs.toArray } }) (r:=r) (κ:=κ) hoL h64 (fun h2 s' Q' st q=>hk h2 _ s' Q' q) (fun s' i j C st hi hj q=>hc _ s' i j C hi hj q) fun p h' c g1 u1 st e=>⟨_,rfl,?_⟩
 exact wpAny_pure ⟨_,rfl,h p h' c g1 u1 (fun b o q=>st b o (ne2 b o q) (Heap.get?_push_of_some _ q)) e⟩
end
end Srt
namespace L3
open PySem PySem.Spec PyProof.Rows L2
/-- a set that can be walked -/
def SetO (P:Program) (w:World) (a:Addr) (S:Int->Bool) (n:Nat):HO:=.ext fun h=>Stb.SetT P w h a S n
section
variable {X:Cx}
theorem call_setX (hh:X.calm=true):CallR X (.type "set") (fun xs H Q=>∃ (p:Addr) (ns:List Int),xs=[.ref p]∧H p=some (.tup (ns.map V.int))∧ns.length≤1000∧∀ q H',Same H H'->H q=none->H' q=some (SetO X.prog X.w q (HT.setS ns ns.length) (HT.setN ns ns.length))->Q (.ref q) H'):=by
 intro pins s σ H xs us Q I r h
 obtain⟨p,ns,rfl,hp,hl,q⟩:=h
 obtain⟨u,rfl,rx⟩:=vals1 r
 cases rx
 obtain⟨its,rv,pt,hz⟩:=I.tuple (SqT.of hp)
 have hlen:=rv.length
 rw[List.length_map] at hlen
 have fr:H s.heap.objs.size=none:=I.hok.fresh (Nat.le_refl _)
 have esz:its.toArray.size=ns.length:=by rw[List.size_toArray,← hlen]
 refine Stb.of_tup (ns:=ns) (I.ok.hd hh) (show s.heap.IsTuple p its.toArray from pt) (by simpa using intsAre_of rv) (by rw[esz];unfold scanBound;omega) fun h' tk hS hk=>?_
 rw[esz] at hS
 refine⟨.ref s.heap.objs.size,_,I.laid (a:=s.heap.objs.size) (o:=SetO X.prog X.w s.heap.objs.size (HT.setS ns ns.length) (HT.setN ns ns.length)) (t':=tk) (fun b o e=>hk b o (Heap.lt_size e) e) (Nat.le_refl _) ⟨hS,?_,fun h1 h2 x k=>x.keep k⟩,rfl,q _ _ (same_new fr) fr upd_same⟩
 obtain⟨⟨o,_,_,_,ho,_⟩,_⟩:=hS
 exact⟨o,ho⟩
theorem call_sortedS (hh:X.calm=true):CallR X (.builtin "sorted") (fun xs H Q=>∃ (p:Addr) (S:Int->Bool) (n:Nat),xs=[.ref p]∧H p=some (SetO X.prog X.w p S n)∧n < 64∧∀ ms:List Int,ms.length=n->(∀ k,S k=true↔k ∈ ms)->ms.Pairwise (·≤·)->∀ l H',Same H H'->H l=none->H' l=some (.lst (ms.map V.int))->Q (.ref l) H'):=by
 intro pins s σ H xs us Q I r h
 obtain⟨p,S,n,rfl,hp,h64,q⟩:=h
 obtain⟨u,rfl,rx⟩:=vals1 r
 cases rx
 have hS:Stb.SetT X.prog X.w s.heap p S n:=(show ObjOk X.prog X.w H s.heap p (SetO X.prog X.w p S n) from I.hok p _ hp).1
 refine Srt.sorted_from (Good:=fun vs s1=>∃ (h1:Heap) (tk:Nat) (d':Drawn) (ns:List Int),s1={ s with heap:=h1,toks:=tk,drawn:=d' }∧(∀ b o,s.heap.get? b=some o->h1.get? b=some o)∧IntsAre vs ns∧ns.length=n∧∀ k,S k=true↔k ∈ ns)
  (fun A' E' Q' eh hQ=>Stb.collect_set (eh.trans (I.ok.hd hh)) hS fun h1 tk d' vs ns hk hI hl hm=>hQ vs _ ⟨h1,tk,d',ns,rfl,hk,hI,hl,hm⟩) fun its s1 g=>?_
 obtain⟨gg,tk,d',ns,rfl,kg,hI,hn,hm⟩:=g
 have hl:its.length=ns.length:=by
  clear hn hm
  induction hI with
  | nil=>rfl
  | cons n t _ ih=>simp [ih]
 refine⟨fun i=>ns.getD i 0,oneType',by omega,fun h2 A' s' Q' q'=>Srt.int_kind hI h2 q',fun A' s' i j C hi hj q'=>Srt.int_ask hI hi hj q',fun pp h' c g u kp e=>?_⟩
 have g':Srt.Gd ns.length pp:=by rw[← hl];exact g
 have u':Srt.Up (fun i=>ns.getD i 0) pp ns.length:=by rw[← hl];exact u
 have pm:(pp.toList.map fun i=>ns.getD i 0).Perm ns:=by
  have:=gd_perm g' fun i=>ns.getD i 0
  rw[range_getD] at this
  exact this
 have pw:(pp.toList.map fun i=>ns.getD i 0).Pairwise (·≤·):=by
  rw[List.pairwise_map]
  exact up_pair g' u' fun i j _ _ z=>z
 have I1:Inv X pins σ H { s with heap:=gg,toks:=tk,drawn:=d' }:=by
  have:=I.kept (t':=tk) kg
  exact⟨this.ok,this.os,this.bare,this.base,this.loc,this.cell,this.free,this.freeC,this.pin,this.hok,this.len⟩
 have fr:H gg.objs.size=none:=I1.hok.fresh (Nat.le_refl _)
 have ev:((pp.toList.map fun i=>ns.getD i 0).map V.int)=pp.toList.map fun i=>(ns.map V.int).getD i .non:=by
  rw[List.map_map]
  refine List.map_congr_left fun i hi=>?_
  have:=gd_mem g' i hi
  simp [List.getD,this]
 have rv:Vals (ns.map V.int) its:=by
  clear hn hm g' u' pm pw ev hl g u e kp
  induction hI with
  | nil=>exact .nil
  | cons n t _ ih=>exact .cons ⟨t,rfl⟩ ih
 refine⟨.ref gg.objs.size,_,I1.laid (a:=gg.objs.size) (o:=.lst ((pp.toList.map fun i=>ns.getD i 0).map V.int)) (t':=tk) kp (Nat.le_refl _) ⟨?_,Srt.outOf its pp,c,?_,e⟩,rfl,q _ (pm.length_eq.trans hn) (fun k=>(hm k).trans pm.mem_iff.symm) pw _ _ (same_new fr) fr upd_same⟩
 ·have:=pm.length_eq
  have line:(64:Nat)≤sizeLine:=by rw[sizeLine_eq];decide
  rw[List.length_map,this];omega
 ·rw[ev]
  exact vals_out rv pp.toList fun i hi=>by rw[List.length_map];exact gd_mem g' i hi
end
end L3
namespace L3
open PySem PySem.Spec PyProof.Rows L2
theorem WK.but {K:PySem.W.Frag} {J J':Hp} {l:Addr} {n:Int} {ts:List Tie} {ks:List Nat} {wv kv:V} {xs:List V} (wk:WK K J n ts ks wv kv) (b:But l J J') (e:J l=some (.lst xs)):WK K J' n ts ks wv kv :=
 ⟨Is.but b e _ (tup_web n ts) wk.1,wk.2.1,Is.but b e _ (tup_keep ks) wk.2.2.1,wk.2.2.2⟩
/-- the ways that were told so far -/
def WaysL (J:Hp) (ts:List Tie) (ks:List Nat) (ys:List V):Prop:=∀ v ∈ ys,∃ t W a b,v=.ref t∧J t=some (.tup (natV W))∧W.length≤24∧Far.MinW (arcsB ts ks) a b W
theorem WaysL.but {J J':Hp} {l:Addr} {ts:List Tie} {ks:List Nat} {ys xs:List V} (h:WaysL J ts ks ys) (b:But l J J') (e:J l=some (.lst xs)):WaysL J' ts ks ys:=fun v hv=>by
 obtain⟨t,W,a,b',e1,e2,r⟩:=h v hv
 exact⟨t,W,a,b',e1,b _ _ (fun z=>by rw[z,e] at e2;cases e2) e2,r⟩
theorem WaysL.same {J J':Hp} {ts:List Tie} {ks:List Nat} {ys:List V} (h:WaysL J ts ks ys) (s:Same J J'):WaysL J' ts ks ys:=fun v hv=>by
 obtain⟨t,W,a,b',e1,e2,r⟩:=h v hv
 exact⟨t,W,a,b',e1,s _ _ e2,r⟩
theorem WaysL.snoc {J:Hp} {ts:List Tie} {ks:List Nat} {ys:List V} {t:Addr} {W:List Nat} {a b:Nat} (h:WaysL J ts ks ys) (e:J t=some (.tup (natV W))) (l:W.length≤24) (m:Far.MinW (arcsB ts ks) a b W):WaysL J ts ks (ys++[.ref t]):=fun v hv=>by
 rcases List.mem_append.mp hv with z | z
 ·exact h v z
 ·rw[List.mem_singleton.mp z];exact⟨t,W,a,b,rfl,e,l,m⟩
theorem sb2 {H J J':Hp} {l:Addr} (s:Same H J) (b:But l J J') (f:H l=none):Same H J':=fun c o e=>b _ _ (ne_of_none e f) (s _ _ e)
end L3
namespace Far
inductive W2 (B:List Arc) (s:Nat):Nat->Int->Int->Prop
 | nil:W2 B s s 0 0
 | snoc {u v:Nat} {x y l:Int} {k:Nat}:W2 B s u x y->(u,v,l,k) ∈ B->W2 B s v (x + l) (y + 2 ^ k)
theorem W2.nonneg {B:List Arc} (K:Keys B) {s v:Nat} {x y:Int} (h:W2 B s v x y):0≤x∧0≤y:=by
 induction h with
 | nil=>exact⟨Int.le_refl _,Int.le_refl _⟩
 | @snoc u v x y l k h m ih =>
  have h1:=K.pos _ _ _ _ m
  have h2:=two_pos k
  omega
end Far
namespace L3
open PySem PySem.Spec PyProof.Rows L2
/-- a web and a keep of it that is a list -/
def WKL (K:PySem.W.Frag) (H:Hp) (n:Int) (ts:List Tie) (ks:List Nat) (wv:V) (kp:Addr):Prop:=Is K H (webD n ts) wv∧WebOk n ts∧H kp=some (.lst ((keepI ks).map V.int))∧KeepOk ts.length ks
theorem WKL.same {K:PySem.W.Frag} {H H':Hp} {n:Int} {ts:List Tie} {ks:List Nat} {wv:V} {kp:Addr} (h:WKL K H n ts ks wv kp) (s:Same H H'):WKL K H' n ts ks wv kp:=⟨Is.same s _ h.1,h.2.1,s _ _ h.2.2.1,h.2.2.2⟩
end L3
namespace Far
def chn (R:Nat->Nat->Prop):List Nat->Prop
 | []=>True
 | [_]=>True
 | a::b::r=>R a b∧chn R (b::r)
section
variable {R:Nat->Nat->Prop}
theorem chn_join:∀ {l m:List Nat} {x y:Nat},chn R (l++[x])->R x y->chn R (y::m)->chn R (l++[x]++y::m)
 | [],m,x,y,_,r,h=>⟨r,h⟩
 | [a],m,x,y,h1,r,h=>⟨h1.1,chn_join (l:=[]) (x:=x) (y:=y) h1.2 r h⟩
 | a::b::l,m,x,y,h1,r,h=>⟨h1.1,chn_join (l:=b::l) (x:=x) (y:=y) h1.2 r h⟩
theorem chn_split:∀ {l m:List Nat} {x:Nat},chn R (l++x::m)->chn R (l++[x])∧chn R (x::m)
 | [],m,x,h=>⟨trivial,h⟩
 | [a],m,x,h=>⟨⟨h.1,trivial⟩,h.2⟩
 | a::b::l,m,x,h=>⟨⟨h.1,(chn_split (l:=b::l) (x:=x) h.2).1⟩,(chn_split (l:=b::l) (x:=x) h.2).2⟩
theorem chn_rev (sy:∀ u v,R u v->R v u):∀ {l:List Nat},chn R l->chn R l.reverse
 | [],_=>trivial
 | [_],_=>trivial
 | a::b::r,h=>by
  have ih:=chn_rev sy h.2
  rw[List.reverse_cons] at ih
  rw[List.reverse_cons,List.reverse_cons]
  exact chn_join (l:=r.reverse) (m:=[]) ih (sy _ _ h.1) trivial
theorem chn_at:∀ {l:List Nat} {i u v:Nat},chn R l->l[i]?=some u->l[i + 1]?=some v->R u v
 | [],i,u,v,_,e,_=>by cases e
 | [a],i,u,v,_,_,e=>by cases e
 | a::b::r,0,u,v,h,e1,e2=>by cases e1;cases e2;exact h.1
 | a::b::r,i + 1,u,v,h,e1,e2=>chn_at (l:=b::r) h.2 e1 e2
theorem Rt.chn {B:List Arc} {a b:Nat} {ws S:List Nat} {x y:Int} (hR:∀ u v l k,(u,v,l,k) ∈ B->R u v) (r:Rt B a ws S b x y):chn R ws:=by
 induction r with
 | one=>exact trivial
 | @snoc ws S u v x y l k r m nv ih =>
  obtain⟨q,e⟩:=r.foot
  rw[e] at ih ⊢
  exact chn_join (m:=[]) ih (hR _ _ _ _ m) trivial
/-- a way made a ring: turned so that h stands first, one way about or the other -/
def RingOf (ws:List Nat) (h:Nat) (tl:List Nat):Prop:=∃ p q,ws=p++h::q∧(tl=q++p∨tl=(q++p).reverse)
theorem RingOf.mem {ws tl:List Nat} {h:Nat} (r:RingOf ws h tl) {x:Nat}:x ∈ h::tl↔x ∈ ws:=by
 obtain⟨p,q,e,t⟩:=r
 rw[e]
 rcases t with t | t
 ·rw[t];simp only [List.mem_cons,List.mem_append];constructor
  ·rintro (z | z | z)
   ·exact .inr (.inl z)
   ·exact .inr (.inr z)
   ·exact .inl z
  ·rintro (z | z | z)
   ·exact .inr (.inr z)
   ·exact .inl z
   ·exact .inr (.inl z)
 ·rw[t];simp only [List.mem_cons,List.mem_append,List.mem_reverse];constructor
  ·rintro (z | z | z)
   ·exact .inr (.inl z)
   ·exact .inr (.inr z)
   ·exact .inl z
  ·rintro (z | z | z)
   ·exact .inr (.inr z)
   ·exact .inl z
   ·exact .inr (.inl z)
theorem RingOf.len {ws tl:List Nat} {h:Nat} (r:RingOf ws h tl):tl.length + 1=ws.length:=by
 obtain⟨p,q,e,t⟩:=r
 rw[e]
 rcases t with t | t
 ·rw[t];simp only [List.length_append,List.length_cons];omega
 ·rw[t];simp only [List.length_append,List.length_cons,List.length_reverse];omega
theorem RingOf.nodup {ws tl:List Nat} {h:Nat} (r:RingOf ws h tl) (nd:ws.Nodup):(h::tl).Nodup:=by
 obtain⟨p,q,e,t⟩:=r
 rw[e] at nd
 have n1:(h::(q++p)).Nodup:=by
  have:(h::q++p).Nodup:=(List.perm_append_comm.nodup_iff).mp nd
  simpa using this
 rcases t with t | t
 ·rw[t];exact n1
 ·rw[t]
  rw[List.nodup_cons] at n1 ⊢
  exact⟨fun z=>n1.1 (List.mem_reverse.mp z),(List.reverse_perm _).nodup_iff.mpr n1.2⟩
theorem RingOf.chn (sy:∀ u v,R u v->R v u) {ws tl:List Nat} {h a b:Nat} {w1 w2:List Nat} (r:RingOf ws h tl) (c:chn R ws) (e1:ws=a::w1) (e2:ws=w2++[b]) (l:R b a):Far.chn R (h::tl++[h]):=by
 obtain⟨p,q,e,t⟩:=r
 have key:Far.chn R (h::(q++p)++[h]):=by
  obtain⟨c1,c2⟩:=chn_split (l:=p) (x:=h) (m:=q) (by rw[← e];exact c)
  obtain⟨q2,eq⟩:∃ q2,h::q=q2++[b]:=by
   rcases List.eq_nil_or_concat q with rfl | ⟨q',z,rfl⟩
   ·have:w2++[b]=p++[h]:=by rw[← e2,e]
    obtain⟨_,z⟩:=List.append_inj' this rfl
    cases z
    exact⟨[],rfl⟩
   ·have:w2++[b]=(p++h::q')++[z]:=by rw[← e2,e];simp
    obtain⟨_,y⟩:=List.append_inj' this rfl
    cases y
    exact⟨h::q',by simp⟩
  cases p with
  | nil =>
   have:a=h:=by rw[e] at e1;injection e1 with z _;exact z.symm
   subst this
   rw[List.append_nil,eq]
   rw[eq] at c2
   exact chn_join (m:=[]) c2 l trivial
  | cons a' p' =>
   have:a=a':=by rw[e] at e1;injection e1 with z _;exact z.symm
   subst this
   have e3:h::(q++a::p')++[h]=(h::q)++(a::(p'++[h])):=by simp
   rw[e3,eq]
   rw[eq] at c2
   exact chn_join c2 l c1
 rcases t with t | t
 ·rw[t];exact key
 ·have e4:h::tl++[h]=(h::(q++p)++[h]).reverse:=by rw[t];simp
  rw[e4]
  exact chn_rev sy key
end
end Far
namespace L3
open PySem PySem.Spec PyProof.Rows L2
/-- two places with a tie of the keep between them -/
def adjK (ts:List Tie) (ks:List Nat) (u v:Nat):Prop:=∃ k,k ∈ ks∧tbN ts u v=some k
theorem tb_comm (ts:List Tie) (u v:Nat):tbN ts u v=tbN ts v u:=by
 unfold tbN
 congr 1
 funext k
 unfold isTB
 rw[Int.min_comm,Int.max_comm]
theorem adjK.sym {ts:List Tie} {ks:List Nat} (u v:Nat) (h:adjK ts ks u v):adjK ts ks v u:=by
 obtain⟨k,hk,e⟩:=h
 exact⟨k,hk,by rw[tb_comm];exact e⟩
/-- a ring in its least turn -/
def Turn (h:Nat) (tl:List Nat):Prop:=(∀ x ∈ tl,h≤x)∧∀ u v p q,tl=u::p->tl=q++[v]->u≤v
end L3
namespace L3
open PySem PySem.Spec PyProof.Rows L2
end L3
namespace L3
open PySem PySem.Spec PyProof.Rows L2
theorem firstMet_nodup (val:Nat->Int):∀ i,(firstMet val i).Nodup∧∀ k,k ∈ firstMet val i↔k ∈ (List.range i).map val
 | 0=>⟨by rw[firstMet_zero];exact List.nodup_nil,fun k=>by rw[firstMet_zero];simp⟩
 | i + 1=>by
  obtain⟨h1,h2⟩:=firstMet_nodup val i
  rw[firstMet_succ,List.range_succ,List.map_append]
  unfold step_dedup
  by_cases c:(firstMet val i).any (fun y=>y == val i)=true
  ·rw[if_pos c]
   obtain⟨y,hy,e⟩:=List.any_eq_true.mp c
   have e':y=val i:=by simpa using e
   refine⟨h1,fun k=>?_⟩
   rw[h2 k,List.mem_append]
   refine⟨.inl,fun z=>z.elim id fun z=>?_⟩
   have:k=val i:=by simpa using z
   rw[this,← e',← h2 y];exact hy
  ·rw[if_neg c]
   refine⟨List.nodup_append.mpr ⟨h1,by simp,fun a ha b hb e=>c (List.any_eq_true.mpr ⟨a,ha,?_⟩)⟩,fun k=>by rw[List.mem_append,List.mem_append,h2 k];simp⟩
   have:b=val i:=by simpa using hb
   simp [e,this]
theorem setS_mem (ns:List Int) (k:Int):HT.setS ns ns.length k=true↔k ∈ ns:=by
 have:=(firstMet_nodup (fun i=>ns.getD i 0) ns.length).2 k
 rw[range_getD] at this
 rw[← this]
 unfold HT.setS
 rw[List.any_eq_true]
 exact⟨fun ⟨y,hy,e⟩=>by rw[← show y=k by simpa using e];exact hy,fun h=>⟨k,h,by simp⟩⟩
def inB (n:Int) (ns:List Int):Bool:=ns.all fun i=>decide (0≤i) && decide (i < n)
end L3
namespace L3
open PySem PySem.Spec PyProof.Rows L2
end L3
namespace L3
open PySem PySem.Spec PyProof.Rows L2
theorem tb_one {n:Int} {ts:List Tie} (ok:WebOk n ts) {u v j k:Nat} (hj:j < ts.length) (hk:k < ts.length) (h1:isTB ts u v j=true) (h2:isTB ts u v k=true):j=k:=by
 unfold isTB at h1 h2
 obtain⟨a1,b1⟩:=(Bool.and_eq_true _ _).mp h1
 obtain⟨a2,b2⟩:=(Bool.and_eq_true _ _).mp h2
 have ea:(tieAt ts j).1=(tieAt ts k).1:=(of_decide_eq_true a1).trans (of_decide_eq_true a2).symm
 have eb:(tieAt ts j).2.1=(tieAt ts k).2.1:=(of_decide_eq_true b1).trans (of_decide_eq_true b2).symm
 clear a1 a2 b1 b2 h1 h2
 have pw:=List.pairwise_iff_getElem.mp ok.rise
 have g:∀ {i:Nat} (hi:i < ts.length),ts[i]=tieAt ts i:=fun {i} hi=>by
  have:=(tieAt_in hi).1
  rw[List.getElem?_eq_getElem hi] at this
  exact Option.some.inj this
 rcases Nat.lt_trichotomy j k with z | z | z
 ·have q:=pw j k hj hk z
  rw[g hj,g hk] at q
  unfold endLt at q
  omega
 ·exact z
 ·have q:=pw k j hk hj z
  rw[g hj,g hk] at q
  unfold endLt at q
  omega
end L3
namespace L3
open PySem PySem.Spec PyProof.Rows L2
section
variable {g:TG} {tt:TT} {te:TE} {own:List Str} {js:List Nat} {σ:L2.St} {H1:Hp} {Q:VK}
end
/-- a row of whole numbers, of so many at the most -/
def RowV (lo hi:Nat) (J:Hp) (v:V):Prop:=∃ (p:Addr) (ns:List Int),v=.ref p∧J p=some (.tup (ns.map V.int))∧lo≤ns.length∧ns.length≤hi
theorem RowV.tk {lo hi:Nat} {J J':Hp} {v:V} (k:TupKeep J J') (h:RowV lo hi J v):RowV lo hi J' v:=let ⟨p,ns,e,e1,r⟩:=h;⟨p,ns,e,k _ _ e1,r⟩
end L3
namespace L3
open PySem PySem.Spec PyProof.Rows L2
end L3
namespace L3
open PySem PySem.Spec PyProof.Rows L2
mutual
theorem Is.tk {K:PySem.W.Frag} {H H':Hp} (e:TupKeep H H'):∀ (d:PyData) {v:V},tupD d=true->Is K H d v->Is K H' d v
 | .none,_,_,h=>h
 | .bool _,_,_,h=>h
 | .int _,_,_,h=>h
 | .str _,_,_,h=>h
 | .tuple ds,_,t,h=>let ⟨q,vs,q1,q2,q3⟩:=h;⟨q,vs,q1,e _ _ q2,IsAll.tk e ds t q3⟩
 | .list ds,_,t,h=>by cases t
 | .dict _,_,t,h=>by cases t
theorem IsAll.tk {K:PySem.W.Frag} {H H':Hp} (e:TupKeep H H'):∀ (ds:List PyData) {vs:List V},tupAll ds=true->IsAll K H ds vs->IsAll K H' ds vs
 | [],_,_,h=>h
 | d::ds,_,t,h=>by
  have t':(tupD d && tupAll ds)=true:=t
  rw[Bool.and_eq_true] at t'
  obtain⟨v,r,q1,q2,q3⟩:=h
  exact⟨v,r,q1,Is.tk e d t'.1 q2,IsAll.tk e ds t'.2 q3⟩
end
end L3
namespace Stb
open PySem PyProof.Rows
section
variable {prog:Program} {w:World} {A:Around} {E:Value->Shared->Prop} {s:Shared}
end
end Stb
namespace L3
open PySem PySem.Spec PyProof.Rows L2
section
variable {X:Cx}
end
end L3
namespace Far
variable {A:List (Nat × Nat × Int)} {s:Nat}
def Unit1 (A:List (Nat × Nat × Int)):Prop:=∀ u v l,(u,v,l) ∈ A->l=1
/-- k steps away, and no fewer -/
def AtK (A:List (Nat × Nat × Int)) (s k v:Nat):Prop:=Walk A s v (k:Int)∧∀ x,Walk A s v x->(k:Int)≤x
theorem Unit1.pos (U:Unit1 A):Pos A:=fun u v l h=>by rw[U u v l h];exact Int.le_refl 1
theorem Walk.nat (U:Unit1 A) {v:Nat} {x:Int} (h:Walk A s v x):∃ k:Nat,x=k:=⟨x.toNat,(Int.toNat_of_nonneg (h.nonneg U.pos)).symm⟩
theorem AtK.one {j k v:Nat} (h:AtK A s j v) (h':AtK A s k v):j=k:=by
 have a:=h.2 _ h'.1
 have b:=h'.2 _ h.1
 omega
theorem AtK.ex (U:Unit1 A) {v:Nat}:∀ (k:Nat),Walk A s v (k:Int)->∃ j,j≤k∧AtK A s j v:=fun k=>by
 induction k using Nat.strongRecOn with
 | _ k ih =>
  intro h
  by_cases c:∃ x,Walk A s v x∧x < (k:Int)
  ·obtain⟨x,hx,lt⟩:=c
   obtain⟨j,rfl⟩:=hx.nat U
   obtain⟨i,hi,a⟩:=ih j (by omega) hx
   exact⟨i,by omega,a⟩
  ·exact⟨k,Nat.le_refl _,h,fun x hx=>by
    rcases Int.lt_or_le x k with z | z
    ·exact absurd ⟨x,hx,z⟩ c
    ·exact z⟩
theorem Walk.last (U:Unit1 A) {v:Nat} {x:Int} (h:Walk A s v x):(v=s∧x=0)∨∃ u,Walk A s u (x - 1)∧(u,v,1) ∈ A:=by
 cases h with
 | nil=>exact .inl ⟨rfl,rfl⟩
 | @snoc u v l x h m =>
  have e:=U _ _ _ m
  subst e
  exact .inr ⟨u,by rw[Int.add_sub_cancel];exact h,m⟩
theorem AtK.zero (U:Unit1 A) {v:Nat}:AtK A s 0 v↔v=s:=by
 constructor
 ·intro h
  rcases h.1.last U with ⟨e,_⟩ | ⟨u,h',_⟩
  ·exact e
  ·have:=h'.nonneg U.pos
   have:((0:Nat):Int)=0:=rfl
   omega
 ·rintro rfl
  exact⟨Walk.nil,fun x hx=>hx.nonneg U.pos⟩
theorem AtK.next (U:Unit1 A) {k v:Nat}:AtK A s (k + 1) v↔(∃ u,AtK A s k u∧(u,v,1) ∈ A)∧∀ j,j≤k->¬ AtK A s j v:=by
 constructor
 ·intro h
  refine⟨?_,fun j hj a=>by have:=a.one h;omega⟩
  rcases h.1.last U with ⟨_,e⟩ | ⟨u,h',m⟩
  ·exfalso
   have:((k + 1:Nat):Int)=0:=e
   omega
  ·have e:((k + 1:Nat):Int) - 1=(k:Int):=by omega
   rw[e] at h'
   refine⟨u,⟨h',fun x hx=>?_⟩,m⟩
   have:=h.2 _ (hx.snoc m)
   omega
 ·rintro ⟨⟨u,a,m⟩,no⟩
  have h:=a.1.snoc m
  have e:(k:Int) + 1=((k + 1:Nat):Int):=by omega
  rw[e] at h
  refine⟨h,fun x hx=>?_⟩
  obtain⟨y,rfl⟩:=hx.nat U
  obtain⟨j,hj,aj⟩:=AtK.ex U y hx
  rcases Nat.lt_or_ge j (k + 1) with z | z
  ·exact absurd aj (no j (by omega))
  ·omega
theorem AtK.dst {k v:Nat} (h:AtK A s k v):Dst A s v (some (k:Int)):=⟨fun y e=>(by cases e;exact h.1),fun L hL=>⟨_,rfl,h.2 L hL⟩⟩
theorem AtK.none (U:Unit1 A) {v:Nat} (h:∀ k,¬ AtK A s k v):Dst A s v Option.none:=by
 refine⟨fun y e=>(by cases e),fun L hL=>?_⟩
 obtain⟨k,rfl⟩:=hL.nat U
 obtain⟨j,_,a⟩:=AtK.ex U k hL
 exact absurd a (h j)
/-- a place of each number of steps below -/
theorem AtK.chain (U:Unit1 A):∀ {k v:Nat},AtK A s k v->∃ us:List Nat,us.length=k + 1∧us.Nodup∧∀ u ∈ us,∃ j,j≤k∧AtK A s j u
 | 0,v,h=>⟨[v],rfl,by simp,fun u hu=>by rw[List.mem_singleton.mp hu];exact⟨0,Nat.le_refl _,h⟩⟩
 | k + 1,v,h=>by
  obtain⟨⟨u,a,_⟩,_⟩:=(AtK.next U).mp h
  obtain⟨us,h1,h2,h3⟩:=AtK.chain U a
  refine⟨v::us,by simp [h1],List.nodup_cons.mpr ⟨fun m=>?_,h2⟩,fun w hw=>?_⟩
  ·obtain⟨j,hj,aj⟩:=h3 v m
   have:=aj.one h
   omega
  ·rcases List.mem_cons.mp hw with rfl | hw
   ·exact⟨k + 1,Nat.le_refl _,h⟩
   ·obtain⟨j,hj,aj⟩:=h3 w hw
    exact⟨j,by omega,aj⟩
/-- i rings gone through -/
structure Bfs (A:List (Nat × Nat × Int)) (s i:Nat) (D:Nat->Option Nat) (ring:List Nat):Prop where
 found:∀ v d,D v=some d↔AtK A s d v∧d < i
 ring:∀ v,v ∈ ring↔AtK A s i v
theorem Bfs.start (U:Unit1 A):Bfs A s 0 (fun _=>none) [s]:=⟨fun v d=>by simp,fun v=>by rw[AtK.zero U];simp⟩
theorem Bfs.step (U:Unit1 A) {i:Nat} {D D':Nat->Option Nat} {ring ring':List Nat} (b:Bfs A s i D ring) (hD:∀ v,D' v=if v ∈ ring then some i else D v) (hr:∀ c,c ∈ ring'↔(∃ u,u ∈ ring∧(u,c,1) ∈ A)∧D' c=none):Bfs A s (i + 1) D' ring':=by
 have fd:∀ v d,D' v=some d↔AtK A s d v∧d < i + 1:=fun v d=>by
  rw[hD v]
  by_cases m:v ∈ ring
  ·rw[if_pos m]
   have a:=(b.ring v).mp m
   constructor
   ·intro e;cases e;exact⟨a,Nat.lt_succ_self _⟩
   ·rintro ⟨a',_⟩;rw[a'.one a]
  ·rw[if_neg m,b.found v d]
   constructor
   ·rintro ⟨a,lt⟩;exact⟨a,by omega⟩
   ·rintro ⟨a,lt⟩
    refine⟨a,?_⟩
    rcases Nat.lt_or_ge d i with z | z
    ·exact z
    ·have e:d=i:=by omega
     subst e
     exact absurd ((b.ring v).mpr a) m
 refine⟨fd,fun c=>?_⟩
 rw[hr c,AtK.next U]
 have e1:(∃ u,u ∈ ring∧(u,c,1) ∈ A)↔∃ u,AtK A s i u∧(u,c,1) ∈ A:=⟨fun ⟨u,m,e⟩=>⟨u,(b.ring u).mp m,e⟩,fun ⟨u,m,e⟩=>⟨u,(b.ring u).mpr m,e⟩⟩
 have e2:D' c=none↔∀ j,j≤i->¬ AtK A s j c:=by
  constructor
  ·intro e j hj a
   have:=(fd c j).mpr ⟨a,by omega⟩
   rw[e] at this;cases this
  ·intro h
   cases e:D' c with
   | none=>rfl
   | some d =>
    have:=(fd c d).mp e
    exact absurd this.1 (h d (by omega))
 rw[e1,e2]
end Far
namespace Lr
open Far (chn chn_join chn_split chn_rev chn_at RingOf)
section
variable {R:Nat->Nat->Prop}
theorem chn_mono {R':Nat->Nat->Prop} (h:∀ u v,R u v->R' u v):∀ {l:List Nat},chn R l->chn R' l
 | [],_=>trivial
 | [_],_=>trivial
 | _::_::_,c=>⟨h _ _ c.1,chn_mono h c.2⟩
/-- a ring: h, then tl, and back to h -/
structure Rg (R:Nat->Nat->Prop) (h:Nat) (tl:List Nat):Prop where
 len:2≤tl.length
 nd:(h::tl).Nodup
 ch:chn R (h::tl++[h])
/-- a ring told as it should be: from its least place on, the smaller neighbour first -/
def Cano (h:Nat) (tl:List Nat):Prop:=(∀ v ∈ tl,h < v)∧∃ x m y,tl=x::(m++[y])∧x < y
theorem two_ends {tl:List Nat} (h:2≤tl.length):∃ x m y,tl=x::(m++[y]):=by
 match tl,h with
 | x::y::r,_ =>
  rcases List.eq_nil_or_concat (y::r) with e | ⟨m,z,e⟩
  ·cases e
  ·exact⟨x,m,z,by rw[e,List.concat_eq_append]⟩
theorem least_of:∀ {l:List Nat},l≠[]->∃ m ∈ l,∀ v ∈ l,m≤v
 | [],h=>absurd rfl h
 | [a],_=>⟨a,List.mem_cons_self,fun v hv=>by rw[List.mem_singleton.mp hv];exact Nat.le_refl _⟩
 | a::b::r,_=>by
  obtain⟨m,hm,h⟩:=least_of (l:=b::r) (by simp)
  by_cases c:a≤m
  ·refine⟨a,List.mem_cons_self,fun v hv=>?_⟩
   rcases List.mem_cons.mp hv with z | z
   ·rw[z];exact Nat.le_refl _
   ·exact Nat.le_trans c (h v z)
  ·refine⟨m,List.mem_cons_of_mem _ hm,fun v hv=>?_⟩
   rcases List.mem_cons.mp hv with z | z
   ·rw[z];omega
   ·exact h v z
/-- a ring turned -/
theorem Rg.turn (sy:∀ u v,R u v->R v u) {a:Nat} {w:List Nat} (r:Rg R a w) {h:Nat} {tl:List Nat} (o:RingOf (a::w) h tl):Rg R h tl:=by
 obtain⟨x,m,y,e⟩:=two_ends r.len
 have c:=r.ch
 have c0:chn R (a::w):=(chn_split (l:=a::w) (m:=[]) (x:=a) c |>.1 |> fun _=>by
  rcases List.eq_nil_or_concat w with z | ⟨w',z,ez⟩
  ·rw[z];trivial
  ·rw[ez,List.concat_eq_append] at c ⊢
   have:=(chn_split (l:=a::w') (x:=z) (m:=[a]) (by simpa using c)).1
   simpa using this)
 have cl:R y a:=by
  rw[e] at c
  have:=(chn_split (l:=a::x::m) (x:=y) (m:=[a]) (by simpa using c)).2
  exact this.1
 refine⟨?_,o.nodup r.nd,o.chn sy c0 (a:=a) (b:=y) (w1:=w) (w2:=a::x::m) rfl (by rw[e];simp) cl⟩
 have:=o.len
 have:=r.len
 simp at *
 omega
theorem Rg.cano (sy:∀ u v,R u v->R v u) {a:Nat} {w:List Nat} (r:Rg R a w):∃ h tl,Rg R h tl∧Cano h tl∧tl.length=w.length∧∀ v,v ∈ h::tl↔v ∈ a::w:=by
 obtain⟨h,hm,hl⟩:=least_of (l:=a::w) (by simp)
 obtain⟨p,q,e⟩:=List.append_of_mem hm
 have fin:∀ tl,RingOf (a::w) h tl->(∀ v ∈ tl,h < v)∧tl.length=w.length∧∀ v,v ∈ h::tl↔v ∈ a::w:=fun tl o=>by
  have nd:=o.nodup r.nd
  refine⟨fun v hv=>?_,?_,fun v=>o.mem⟩
  ·have:=hl v (o.mem.mp (List.mem_cons_of_mem _ hv))
   have ne:h≠v:=fun z=>(List.nodup_cons.mp nd).1 (z ▸ hv)
   omega
  ·have:=o.len
   simp at this;omega
 have o1:RingOf (a::w) h (q++p):=⟨p,q,e,.inl rfl⟩
 have o2:RingOf (a::w) h (q++p).reverse:=⟨p,q,e,.inr rfl⟩
 have r1:=r.turn sy o1
 obtain⟨x,m,y,e1⟩:=two_ends r1.len
 have ne:x≠y:=fun z=>by
  have nd:=(List.nodup_cons.mp r1.nd).2
  rw[e1] at nd
  exact (List.nodup_cons.mp nd).1 (by rw[z];simp)
 obtain⟨f1,f2,f3⟩:=fin _ o1
 obtain⟨g1,g2,g3⟩:=fin _ o2
 by_cases lt:x < y
 ·exact⟨h,_,r1,⟨f1,x,m,y,e1,lt⟩,f2,f3⟩
 ·refine⟨h,_,r.turn sy o2,⟨g1,y,m.reverse,x,?_,by omega⟩,g2,g3⟩
  rw[e1];simp
theorem chn_left:∀ {l m:List Nat},chn R (l++m)->chn R l
 | [],_,_=>trivial
 | [_],_,_=>trivial
 | a::b::l,m,h=>⟨h.1,chn_left (l:=b::l) h.2⟩
def stepW (rows:Nat->List Nat) (w:List Nat):List (List Nat):=((rows (w.getLast?.getD 0)).filter fun o=>decide (w.headD 0 < o) && !decide (o ∈ w)).map fun o=>w++[o]
def ways (rows:Nat->List Nat) (n:Nat):Nat->List (List Nat)
 | 0=>(List.range n).map fun v=>[v]
 | s + 1=>(ways rows n s).flatMap (stepW rows)
structure PW (R:Nat->Nat->Prop) (n:Nat) (w:List Nat):Prop where
 ne:w≠[]
 nd:w.Nodup
 ch:chn R w
 lt:∀ v ∈ w,v < n
 up:∀ h t,w=h::t->∀ v ∈ t,h < v
theorem snoc_parts {w:List Nat} (h:w≠[]):∃ p x,w=p++[x]:=by
 rcases List.eq_nil_or_concat w with z | ⟨p,x,e⟩
 ·exact absurd z h
 ·exact⟨p,x,by rw[e,List.concat_eq_append]⟩
section
variable {rows:Nat->List Nat} {n:Nat}
theorem PW.init {w:List Nat} {o:Nat} (hw:w≠[]) (h:PW R n (w++[o])):PW R n w :=
 ⟨hw,(List.nodup_append.mp h.nd).1,chn_left h.ch,fun v hv=>h.lt v (List.mem_append_left _ hv),fun a b e v hv=>h.up a (b++[o]) (by rw[e];rfl) v (List.mem_append_left _ hv)⟩
end
end
end Lr
namespace Lr
open Far (chn chn_join chn_split chn_rev chn_at RingOf)
/-- at most, as rows of numbers -/
def lle:List Nat->List Nat->Prop
 | [],_=>True
 | _::_,[]=>False
 | a::l,b::m=>a < b∨(a=b∧lle l m)
theorem lle_init:∀ {l m:List Nat} {x y:Nat},l.length=m.length->lle (l++[x]) (m++[y])->lle l m
 | [],_,_,_,_,_=>trivial
 | a::l,[],_,_,e,_=>by cases e
 | a::l,b::m,x,y,e,h=>h.imp id fun z=>⟨z.1,lle_init (by simpa using e) z.2⟩
section
variable {R:Nat->Nat->Prop}
/-- a shortest chain from v to z -/
structure Sh (R:Nat->Nat->Prop) (z v:Nat) (l:List Nat):Prop where
 ch:chn R (v::l)
 last:(v::l).getLast?=some z
 min:∀ l',chn R (v::l')->(v::l').getLast?=some z->l.length≤l'.length
theorem last_cons {u v:Nat} {l:List Nat}:(v::u::l).getLast?=(u::l).getLast?:=by simp
theorem Sh.tail {z v u:Nat} {l:List Nat} (h:Sh R z v (u::l)):Sh R z u l :=
 ⟨h.ch.2,by rw[← last_cons (v:=v)];exact h.last,fun l' c e=>by
  have:=h.min (u::l') ⟨h.ch.1,c⟩ (by rw[last_cons];exact e)
  simpa using this⟩
theorem Sh.nodup {z:Nat}:∀ {l:List Nat} {v:Nat},Sh R z v l->(v::l).Nodup
 | [],v,_=>by simp
 | u::l,v,h=>by
  refine List.nodup_cons.mpr ⟨fun m=>?_,h.tail.nodup⟩
  obtain⟨p,q,e⟩:=List.append_of_mem m
  have c:=h.ch
  have la:=h.last
  rw[e] at c la
  have c2:chn R (v::q):=(chn_split (l:=v::p) (x:=v) (m:=q) (by simpa using c)).2
  have l2:(v::q).getLast?=some z:=by
   rw[← la,← List.cons_append,List.getLast?_append]
   have:(v::q).getLast?=some ((v::q).getLast (by simp)):=List.getLast?_eq_some_getLast (by simp)
   rw[this];rfl
  have:=h.min q c2 l2
  have le:=congrArg List.length e
  simp only [List.length_append,List.length_cons] at this le
  omega
/-- how far, in steps -/
def Ds (R:Nat->Nat->Prop) (z:Nat) (D:Nat->Option Nat):Prop:=∀ v,(∀ m,D v=some m->∃ l,chn R (v::l)∧(v::l).getLast?=some z∧l.length=m)∧∀ l,chn R (v::l)->(v::l).getLast?=some z->∃ m,D v=some m∧m≤l.length
theorem Ds.sh {z:Nat} {D:Nat->Option Nat} (d:Ds R z D) {v m:Nat} {l:List Nat} (e:D v=some m) (c:chn R (v::l)) (la:(v::l).getLast?=some z):Sh R z v l↔l.length=m:=by
 constructor
 ·intro h
  obtain⟨l',c',e',len⟩:=(d v).1 m e
  have h1:=h.min l' c' e'
  obtain⟨m',em,le⟩:=(d v).2 l c la
  rw[e] at em
  cases em
  omega
 ·intro h
  refine⟨c,la,fun l' c' e'=>?_⟩
  obtain⟨m',em,le⟩:=(d v).2 l' c' e'
  rw[e] at em
  cases em
  omega
/-- without the tie between a and b -/
def Rm (R:Nat->Nat->Prop) (a b u v:Nat):Prop:=R u v∧¬ (u=a∧v=b)∧¬ (u=b∧v=a)
theorem Rm.sy (sy:∀ u v,R u v->R v u) {a b:Nat} (u v:Nat) (h:Rm R a b u v):Rm R a b v u:=⟨sy _ _ h.1,fun z=>h.2.2 ⟨z.2,z.1⟩,fun z=>h.2.1 ⟨z.2,z.1⟩⟩
theorem chn_imp {R':Nat->Nat->Prop} {z:Nat}:∀ {l:List Nat},(∀ u v,u ∈ l->R u v->R' u v)->chn R (l++[z])->chn R' (l++[z])
 | [],_,_=>trivial
 | [a],h,c=>⟨h _ _ List.mem_cons_self c.1,trivial⟩
 | a::b::l,h,c=>⟨h _ _ List.mem_cons_self c.1,chn_imp (l:=b::l) (fun u v hu=>h u v (List.mem_cons_of_mem _ hu)) c.2⟩
/-- a ring gives a chain round its first tie -/
theorem Rg.round {h x:Nat} {t:List Nat} (r:Rg R h (x::t)):chn (Rm R h x) (x::(t++[h]))∧(x::(t++[h])).getLast?=some h∧R h x:=by
 have nd:=r.nd
 have c:=r.ch
 have hx:h ∉ x::t:=(List.nodup_cons.mp nd).1
 have xt:x ∉ t:=(List.nodup_cons.mp (List.nodup_cons.mp nd).2).1
 refine⟨?_,by rw[← List.cons_append,List.getLast?_append];simp,c.1⟩
 have len:=r.len
 match t,len with
 | y::t',_ =>
  have c2:chn R (x::y::t'++[h]):=c.2
  refine⟨⟨c2.1,fun z=>hx (by rw[← z.1];simp),fun z=>hx (by rw[← z.2];simp)⟩,?_⟩
  refine chn_imp (l:=y::t') (fun u v hu ruv=>⟨ruv,fun z=>hx (by rw[← z.1];exact List.mem_cons_of_mem _ hu),fun z=>xt (by rw[← z.1];exact hu)⟩) c2.2
/-- and a shortest chain round a tie gives a ring -/
theorem Sh.ring {a b:Nat} {l:List Nat} (ab:R a b) (ne:a≠b) (s:Sh (Rm R a b) a b l):∃ m,l=m++[a]∧Rg R a (b::m):=by
 have la:=s.last
 cases l with
 | nil=>exact absurd (by simpa using la.symm) ne
 | cons y t =>
  obtain⟨m,x,e⟩:=snoc_parts (w:=y::t) (by simp)
  have ex:x=a:=by
   rw[last_cons,e] at la
   simpa using la
  subst ex
  refine⟨m,e,?_⟩
  have c:=s.ch
  rw[e] at c
  have nd:=s.nodup
  rw[e] at nd
  refine⟨?_,?_,?_⟩
  ·cases m with
   | nil=>exact absurd ⟨rfl,rfl⟩ c.1.2.2
   | cons _ _=>simp
  ·have p:(x::b::m).Perm (b::(m++[x])):=(List.perm_append_singleton x (b::m)).symm.trans (by simp)
   exact p.nodup_iff.mpr nd
  ·exact⟨ab,chn_mono (fun u v h=>h.1) c⟩
end
end Lr
namespace Lr
open Far (chn chn_join chn_split chn_rev chn_at RingOf)
structure Ties (R:Nat->Nat->Prop) (ks:List Nat) (ends:Nat->Nat × Nat):Prop where
 sy:∀ u v,R u v->R v u
 of:∀ k ∈ ks,(ends k).1 < (ends k).2∧R (ends k).1 (ends k).2
 to:∀ u v,R u v->u < v->∃ k ∈ ks,ends k=(u,v)
 up:∀ k ∈ ks,∀ j ∈ ks,k≤j->(ends k).1 < (ends j).1∨((ends k).1=(ends j).1∧(ends k).2≤(ends j).2)
section
variable {R:Nat->Nat->Prop} {ks:List Nat} {ends:Nat->Nat × Nat}
/-- a ring told as it should be has its first tie, and a chain round it -/
theorem Ties.first (T:Ties R ks ends) {h:Nat} {tl:List Nat} (r:Rg R h tl) (up:∀ v ∈ tl,h < v):∃ k ∈ ks,∃ x t,tl=x::t∧ends k=(h,x)∧chn (Rm R (ends k).1 (ends k).2) ((ends k).2::(t++[h]))∧((ends k).2::(t++[h])).getLast?=some (ends k).1∧(t++[h]).length=tl.length:=by
 obtain⟨x,m,y,e⟩:=two_ends r.len
 rw[e] at r
 obtain⟨c,la,rx⟩:=r.round
 obtain⟨k,hk,ek⟩:=T.to h x rx (up x (by rw[e];exact List.mem_cons_self))
 refine⟨k,hk,x,m++[y],e,ek,?_,?_,?_⟩
 ·rw[ek];exact c
 ·rw[ek];exact la
 ·rw[e];simp
theorem Ties.none (T:Ties R ks ends) (hno:∀ k ∈ ks,∀ l,chn (Rm R (ends k).1 (ends k).2) ((ends k).2::l)->((ends k).2::l).getLast?=some (ends k).1->False) (h:Nat) (tl:List Nat):¬ Rg R h tl:=fun r=>by
 obtain⟨h',tl',r',cn,_⟩:=r.cano T.sy
 obtain⟨k,hk,x,t,_,_,c,la,_⟩:=T.first r' cn.1
 exact hno k hk _ c la
theorem Ties.least (T:Ties R ks ends) {k0:Nat} (hk0:k0 ∈ ks) {l:List Nat} (sh:Sh (Rm R (ends k0).1 (ends k0).2) (ends k0).1 (ends k0).2 l) (lx:∀ l',Sh (Rm R (ends k0).1 (ends k0).2) (ends k0).1 (ends k0).2 l'->lle l l')
  (hm:∀ k ∈ ks,∀ l',chn (Rm R (ends k).1 (ends k).2) ((ends k).2::l')->((ends k).2::l').getLast?=some (ends k).1->l.length≤l'.length∧(k < k0->l.length < l'.length)) :
  ∃ m,l=m++[(ends k0).1]∧Rg R (ends k0).1 ((ends k0).2::m)∧Cano (ends k0).1 ((ends k0).2::m)∧(∀ h tl,Rg R h tl->((ends k0).2::m).length≤tl.length)∧∀ h tl,Rg R h tl->Cano h tl->tl.length=((ends k0).2::m).length->lle ((ends k0).1::(ends k0).2::m) (h::tl):=by
 obtain⟨ab,rab⟩:=T.of k0 hk0
 obtain⟨m,em,rg⟩:=sh.ring rab (Nat.ne_of_lt ab)
 have ll:l.length=((ends k0).2::m).length:=by rw[em];simp
 have low:∀ h tl,Rg R h tl->(∀ v ∈ tl,h < v)->l.length≤tl.length∧(tl.length=l.length->∃ x t,tl=x::t∧((ends k0).1 < h∨((ends k0).1=h∧(ends k0).2≤x))∧(x=(ends k0).2->h=(ends k0).1->Sh (Rm R (ends k0).1 (ends k0).2) (ends k0).1 (ends k0).2 (t++[h]))):=fun h tl r up=>by
  obtain⟨k,hk,x,t,e,ek,c,la,len⟩:=T.first r up
  have q:=hm k hk _ c la
  rw[len] at q
  refine⟨q.1,fun el=>⟨x,t,e,?_,fun ex eh=>?_⟩⟩
  ·have le:k0≤k:=Nat.le_of_not_lt fun z=>by have:=q.2 z;omega
   have:=T.up k0 hk0 k hk le
   rw[ek] at this
   exact this
  ·rw[ek] at c la
   simp only at c la
   rw[ex,eh] at c la
   refine⟨?_,?_,fun l' c' e'=>?_⟩
   ·rw[eh];exact c
   ·rw[eh];exact la
   ·have:=(hm k0 hk0 l' c' e').1
    rw[len,el];exact this
 have least:∀ v ∈ (ends k0).2::m,(ends k0).1 < v:=by
  obtain⟨h',tl',r',cn,len,mem⟩:=rg.cano T.sy
  obtain⟨_,q⟩:=low h' tl' r' cn.1
  obtain⟨x,t,e,o,_⟩:=q (by rw[len,ll])
  have ha:(ends k0).1 ∈ h'::tl':=(mem _).mpr List.mem_cons_self
  have hle:h'≤(ends k0).1:=by
   rcases List.mem_cons.mp ha with z | z
   ·rw[z];exact Nat.le_refl _
   ·exact Nat.le_of_lt (cn.1 _ z)
  have eh:h'=(ends k0).1:=by omega
  intro v hv
  have hv':v ∈ h'::tl':=(mem v).mpr (List.mem_cons_of_mem _ hv)
  rcases List.mem_cons.mp hv' with z | z
  ·exfalso
   rw[eh] at z
   exact (List.nodup_cons.mp rg.nd).1 (z ▸ hv)
  ·rw[← eh];exact cn.1 v z
 obtain⟨x,m',y,e⟩:=two_ends rg.len
 have ex:x=(ends k0).2:=by injection e with e _;exact e.symm
 have r2:Rg R (ends k0).1 ((ends k0).2::m).reverse:=rg.turn T.sy ⟨[],(ends k0).2::m,rfl,.inr (by simp)⟩
 have cano:Cano (ends k0).1 ((ends k0).2::m):=by
  refine⟨least,x,m',y,e,?_⟩
  obtain⟨_,q⟩:=low _ _ r2 fun v hv=>least v (List.mem_reverse.mp hv)
  obtain⟨x2,t,e2,o,_⟩:=q (by rw[List.length_reverse,ll])
  have ey:x2=y:=by
   rw[e] at e2
   simp at e2
   exact e2.1.symm
  have nd:=(List.nodup_cons.mp rg.nd).2
  rw[e] at nd
  have ne:x≠y:=fun z=>(List.nodup_cons.mp nd).1 (by rw[z];simp)
  omega
 refine⟨m,em,rg,cano,fun h tl r=>?_,fun h tl r cn el=>?_⟩
 ·obtain⟨h',tl',r',cn,len,_⟩:=r.cano T.sy
  have:=(low h' tl' r' cn.1).1
  omega
 ·obtain⟨_,q⟩:=low h tl r cn.1
  obtain⟨x,t,e,o,s2⟩:=q (by omega)
  rcases o with o | ⟨o1,o2⟩
  ·exact .inl o
  ·refine .inr ⟨o1,?_⟩
   rw[e]
   rcases Nat.lt_or_eq_of_le o2 with z | z
   ·exact .inl z
   ·refine .inr ⟨z,?_⟩
    have:=lx _ (s2 z.symm o1.symm)
    rw[em] at this
    refine lle_init ?_ this
    rw[e] at el
    simpa using el.symm
end
section
variable {R:Nat->Nat->Prop} {rows:Nat->List Nat} {n:Nat}
theorem last_snoc (p:List Nat) (z:Nat):(p++[z]).getLast?.getD 0=z:=by simp
end
end Lr
namespace L3
open PySem PySem.Spec PyProof.Rows L2
section
variable {g:TG} {tt:TT} {te:TE} {own:List Str} {js:List Nat} {σ:L2.St} {H1:Hp} {Q:VK}
end
end L3
namespace L3
open PySem PySem.Spec PyProof.Rows L2
section
variable {own:List Str} {js:List Nat} {g:TG} {te:TE} {σ:L2.St} {Q:VK} {H1:Hp}
end
/-- the list at l holds the lists at as, each its own, with these rows -/
structure Bes (H:Hp) (l:Addr) (as:List Addr) (rows:Nat->List V):Prop where
 top:H l=some (.lst (as.map V.ref))
 nd:as.Nodup
 own:l ∉ as
 row:∀ i a,as[i]?=some a->H a=some (.lst (rows i))
theorem Bes.new {H:Hp} {l:Addr} {as:List Addr} (h:H l=some (.lst (as.map V.ref))) (nd:as.Nodup) (no:l ∉ as) (r:∀ a ∈ as,H a=some (.lst [])):Bes H l as fun _=>[]:=⟨h,nd,no,fun _ a e=>r a (List.mem_of_getElem? e)⟩
theorem Bes.same {H H':Hp} {l:Addr} {as:List Addr} {rows:Nat->List V} (b:Bes H l as rows) (S:Same H H'):Bes H' l as rows:=⟨S _ _ b.top,b.nd,b.own,fun i a e=>S _ _ (b.row i a e)⟩
theorem Bes.put {H H':Hp} {l:Addr} {as:List Addr} {rows:Nat->List V} (b:Bes H l as rows) {i:Nat} {a:Addr} {xs:List V} (ha:as[i]?=some a) (B:But a H H') (e:H' a=some (.lst xs)):Bes H' l as fun j=>if j=i then xs else rows j:=by
 have nl:l≠a:=fun z=>b.own (z ▸ List.mem_of_getElem? ha)
 refine⟨B _ _ nl b.top,b.nd,b.own,fun j c hc=>?_⟩
 by_cases z:j=i
 ·subst z
  rw[hc] at ha;cases ha
  rw[if_pos rfl];exact e
 ·rw[if_neg z]
  refine B _ _ (fun x=>z ?_) (b.row j c hc)
  subst x
  obtain⟨h1,e1⟩:=List.getElem?_eq_some_iff.mp hc
  obtain⟨h2,e2⟩:=List.getElem?_eq_some_iff.mp ha
  have pw:=List.pairwise_iff_getElem.mp b.nd
  rcases Nat.lt_trichotomy j i with z | z | z
  ·exact absurd (e1.trans e2.symm) (pw j i h1 h2 z)
  ·exact z
  ·exact absurd (e2.trans e1.symm) (pw i j h2 h1 z)
/-- two ties with the same ends are one -/
theorem tie_oneB {n:Int} {ts:List Tie} (ok:WebOk n ts) {k k' a b:Nat} {l l':Int} (hk:k < ts.length) (hk':k' < ts.length) (h:(a,b,l) ∈ arcs2 (tieAt ts k)) (h':(a,b,l') ∈ arcs2 (tieAt ts k')):k=k':=by
 have t1:=ok.tie _ (tieAt_in hk).2
 have t2:=ok.tie _ (tieAt_in hk').2
 have E:=fun z=>ends_eq t1.1 t1.2.1 t2.1 t2.2.1 z
 have e:(tieAt ts k).1=(tieAt ts k').1∧(tieAt ts k).2.1=(tieAt ts k').2.1:=by
  rcases arcs2_mem.mp h with e | e <;> rcases arcs2_mem.mp h' with e' | e' <;> injection e with e1 e2 <;> injection e2 with e2 _ <;> injection e' with e3 e4 <;> injection e4 with e4 _
  ·exact E (.inl ⟨e1.symm.trans e3,e2.symm.trans e4⟩)
  ·exact E (.inr ⟨e1.symm.trans e3,e2.symm.trans e4⟩)
  ·exact E (.inr ⟨e2.symm.trans e4,e1.symm.trans e3⟩)
  ·exact E (.inl ⟨e2.symm.trans e4,e1.symm.trans e3⟩)
 exact tie_ends ok hk hk' e.1 e.2
/-- m unlike places beside j -/
def Uniq (ts:List Tie) (ks:List Nat) (j m:Nat):Prop:=∃ cs:List Nat,cs.Nodup∧cs.length=m∧∀ c ∈ cs,∃ k ∈ ks,∃ l,(j,c,l) ∈ arcs2 (tieAt ts k)
theorem Uniq.nil {ts:List Tie} {ks:List Nat} {j:Nat}:Uniq ts ks j 0:=⟨[],List.nodup_nil,rfl,fun c h=>by cases h⟩
theorem Uniq.same {ts:List Tie} {ks ks':List Nat} {j m:Nat} (h:Uniq ts ks j m) (s:∀ k ∈ ks,k ∈ ks'):Uniq ts ks' j m:=let ⟨cs,h1,h2,h3⟩:=h;⟨cs,h1,h2,fun c hc=>let ⟨k,hk,r⟩:=h3 c hc;⟨k,s k hk,r⟩⟩
theorem Uniq.more {n:Int} {ts:List Tie} {ks:List Nat} {j m c k:Nat} {l:Int} (ok:WebOk n ts) (ko:∀ k ∈ ks,k < ts.length) (hk:k < ts.length) (nk:k ∉ ks) (h:Uniq ts ks j m) (e:(j,c,l) ∈ arcs2 (tieAt ts k)):Uniq ts (ks++[k]) j (m + 1):=by
 obtain⟨cs,h1,h2,h3⟩:=h
 have nc:c ∉ cs:=fun z=>by
  obtain⟨k',hk',l',e'⟩:=h3 c z
  exact nk (tie_oneB ok hk (ko k' hk') e e' ▸ hk')
 refine⟨cs++[c],List.nodup_append.mpr ⟨h1,(by simp),fun a ha b hb x=>?_⟩,by rw[List.length_append,h2];rfl,fun d hd=>?_⟩
 ·have:b=c:=by simpa using hb
  subst this;subst x;exact nc ha
 ·rcases List.mem_append.mp hd with z | z
  ·obtain⟨k',hk',r⟩:=h3 d z
   exact⟨k',List.mem_append_left _ hk',r⟩
  ·rw[List.mem_singleton.mp z]
   exact⟨k,List.mem_append_right _ List.mem_cons_self,l,e⟩
theorem Uniq.few {n:Int} {ts:List Tie} {ks:List Nat} {j m:Nat} (ok:WebOk n ts) (ko:KeepOk ts.length ks) (h:Uniq ts ks j m):m≤n.toNat:=by
 obtain⟨cs,h1,h2,h3⟩:=h
 rw[← h2]
 exact Peel.len_below _ cs h1 fun c hc=>by
  obtain⟨k,hk,l,e⟩:=h3 c hc
  exact (arcs_in ok ko _ _ _ (arcs_mem.mpr ⟨k,hk,e⟩)).2
section
variable {X:Cx}
/-- l.append, l.extend up to the model's own line -/
def rAppendB:V->List V->Hp->VK->Prop:=fun x vs H Q=>∃ l xs y,x=.ref l∧vs=[y]∧H l=some (.lst xs)∧xs.length < 10 ^ 7∧∀ H',But l H H'->H' l=some (.lst (xs++[y]))->Q .non H'
theorem mt_appendB:MtM X "list.append" rAppendB:=by
 intro pins s σ H x vs v us Q I rx rv h
 obtain⟨l,xs,y,rfl,rfl,hH,hz,q⟩:=h
 exact mt_append (X:=X) pins s σ H _ _ v us Q I rx rv ⟨l,xs,y,rfl,rfl,hH,Nat.lt_of_lt_of_le hz (by decide),q _ But.upd upd_same⟩
end
end L3
namespace L3
open PySem PySem.Spec PyProof.Rows L2
def Adj (ts:List Tie) (ks:List Nat) (u v:Nat):Prop:=∃ k ∈ ks,(u,v,(tieAt ts k).2.2) ∈ arcs2 (tieAt ts k)
def en (ts:List Tie) (k:Nat):Nat × Nat:=((tieAt ts k).1.toNat,(tieAt ts k).2.1.toNat)
section
variable {n:Int} {ts:List Tie} {ks:List Nat} {u v k:Nat}
end
theorem is_nkeepL {K:PySem.W.Frag} {H:Hp} {p:Addr} {ks:List Nat} (h:H p=some (.tup (natV ks))):Is K H (keepD ks) (.ref p):=⟨p,_,rfl,h,by rw[natV_keep];exact IsAll.ints _⟩
def IsLR (ts:List Tie) (ks:List Nat) (h:Nat) (tl:List Nat):Prop:=Lr.Rg (Adj ts ks) h tl∧Lr.Cano h tl∧(∀ h' tl',Lr.Rg (Adj ts ks) h' tl'->tl.length≤tl'.length)∧∀ h' tl',Lr.Rg (Adj ts ks) h' tl'->Lr.Cano h' tl'->tl'.length=tl.length->Lr.lle (h::tl) (h'::tl')
theorem lle_anti:∀ {l m:List Nat},l.length=m.length->Lr.lle l m->Lr.lle m l->l=m
 | [],[],_,_,_=>rfl
 | [],_::_,e,_,_=>by cases e
 | _::_,[],e,_,_=>by cases e
 | a::l,b::m,e,h1,h2=>by
  rcases h1 with z | ⟨z,h1⟩
  ·rcases h2 with y | ⟨y,_⟩ <;> omega
  ·subst z
   rcases h2 with y | ⟨_,h2⟩
   ·omega
   ·rw[lle_anti (by simpa using e) h1 h2]
theorem IsLR.one {ts:List Tie} {ks:List Nat} {h h':Nat} {tl tl':List Nat} (a:IsLR ts ks h tl) (b:IsLR ts ks h' tl'):h::tl=h'::tl':=by
 have l1:=a.2.2.1 _ _ b.1
 have l2:=b.2.2.1 _ _ a.1
 have e:tl.length=tl'.length:=Nat.le_antisymm l1 l2
 exact lle_anti (by simp [e]) (a.2.2.2 _ _ b.1 b.2.1 e.symm) (b.2.2.2 _ _ a.1 a.2.1 e)
end L3
namespace L3
open PySem PySem.Spec PyProof.Rows L2
section
variable {J:It} {g:TG} {tt:TT} {te:TE} {own:List Str} {js:List Nat} {σ:L2.St} {H1:Hp} {Q:VK}
end
end L3
namespace L3
end L3
namespace L3
open PySem PySem.Spec PyProof.Rows L2
theorem Bes.but {H H':Hp} {l c:Addr} {as:List Addr} {rows:Nat->List V} (b:Bes H l as rows) (nl:l≠c) (na:c ∉ as) (B:But c H H'):Bes H' l as rows:=⟨B _ _ nl b.top,b.nd,b.own,fun i a e=>B _ _ (fun z=>na (z ▸ List.mem_of_getElem? e)) (b.row i a e)⟩
theorem natV_append (a b:List Nat):natV (a++b)=natV a++natV b:=by unfold natV;rw[List.map_append]
theorem natV_length (a:List Nat):(natV a).length=a.length:=by unfold natV;rw[List.length_map]
theorem get_set (E:List (Option Nat)) {i v:Nat} (x:Nat) (h:i < E.length):Far.get (E.set i (some x)) v=if v=i then some x else Far.get E v:=by
 unfold Far.get
 rw[List.getD_eq_getElem?_getD,List.getD_eq_getElem?_getD]
 by_cases z:v=i
 ·subst z
  rw[if_pos rfl,List.getElem?_set_self h];rfl
 ·rw[if_neg z,List.getElem?_set_ne (Ne.symm z)]
section
variable {n g:Int} {ts:List Tie} {ks:List Nat} {k:Nat}
end
def tupH (hs:List Int):PyData:=.tuple (hs.map .int)
end L3
namespace Stb
open PySem PyProof.Rows
section
variable {prog:Program} {w:World} {A:Around} {E:Value->Shared->Prop} {s:Shared}
theorem any_T {a:Addr} {Q:Bool->Shared->Prop} (hT:s.TypeIs (.ref a) "set") (h:Q true s):wpAny (model prog w) A (Builtin.Frozenset.isAnySet (.ref a)) Q E s:=by
 unfold Builtin.Frozenset.isAnySet
 unfold orM
 refine wpAny_bind (wpAny_isInstance (T:="set") (b:=true) hT (by rw[isSubtype_type];kernel_rfl) ?_)
 exact wpAny_pure h
theorem SetT.typ {h:Heap} {a:Addr} {S:Int->Bool} {n:Nat} (st:SetT prog w h a S n):∃ o,h.get? a=some o∧o.cls=.type "set":=by
 obtain⟨⟨o,es,ep,t,ho,ox,od,_⟩,_⟩:=st
 exact⟨o,ho,ox.1⟩
end
end Stb
namespace L3
open PySem PySem.Spec PyProof.Rows L2
section
variable {X:Cx}
theorem cn_set (ns:List Int):Stb.Cn (HT.setS ns ns.length) (HT.setN ns ns.length):=by
 obtain⟨h1,h2⟩:=firstMet_nodup (fun i=>ns.getD i 0) ns.length
 refine⟨firstMet (fun i=>ns.getD i 0) ns.length,h1,rfl,fun k=>?_⟩
 show ((firstMet (fun i=>ns.getD i 0) ns.length).any (· == k))=true↔_
 rw[List.any_eq_true]
 exact⟨fun ⟨x,hx,e⟩=>by rw[← (by simpa using e:x=k)];exact hx,fun h=>⟨k,h,by simp⟩⟩
theorem cn_few {S:Int->Bool} {n m:Nat} (c:Stb.Cn S n) (h:∀ k,S k=true->0≤k∧k < m):n≤m:=by
 obtain⟨l,nd,ll,hm⟩:=c
 have e:l.length=(l.map Int.toNat).length:=(List.length_map _).symm
 rw[← ll,e]
 refine Peel.len_below m _ ?_ fun p hp=>?_
 ·rw[List.Nodup,List.pairwise_map]
  refine List.Pairwise.imp_of_mem ?_ nd
  intro a b ha hb ne z
  have:=h a ((hm a).mpr ha)
  have:=h b ((hm b).mpr hb)
  omega
 ·obtain⟨x,hx,rfl⟩:=List.mem_map.mp hp
  have:=h x ((hm x).mpr hx)
  omega
end
end L3
namespace Stb
open PySem PyProof.Rows
theorem en_xor:entryFor table "set.__xor__"=some Builtin.«frozenset.__xor__»:=entryFor_alias (id':="frozenset.__xor__") (by kernel_rfl) rfl (by decide +kernel) (by kernel_rfl)
theorem erase_list {α:Type} (xs:Array α) {i:Nat} (h:i < xs.size):(SetTable.eraseAt xs i).toList=xs.toList.take i++xs.toList.drop (i + 1):=by
 unfold SetTable.eraseAt
 simp [Array.toList_extract,List.extract]
 exact List.take_of_length_le (by rw[List.length_drop,Array.length_toList];omega)
theorem nd_int:∀ {l m:List Int},l.Nodup->(∀ x ∈ l,x ∈ m)->l.length≤m.length
 | [],_,_,_=>Nat.zero_le _
 | x::l,m,nd,h=>by
  obtain⟨p,q,rfl⟩:=List.append_of_mem (h x List.mem_cons_self)
  obtain⟨n1,n2⟩:=List.nodup_cons.mp nd
  have:=nd_int (m:=p++q) n2 fun y hy=>by
   have:=h y (List.mem_cons_of_mem _ hy)
   rcases List.mem_append.mp this with z | z
   ·exact List.mem_append_left _ z
   ·rcases List.mem_cons.mp z with z | z
    ·exact absurd (z ▸ hy) n1
    ·exact List.mem_append_right _ z
  rw[List.length_append] at this
  rw[List.length_cons,List.length_append,List.length_cons]
  omega
theorem nd_of:∀ {l m:List Int},l.Nodup->(∀ x ∈ l,x ∈ m)->m.length≤l.length->m.Nodup
 | [],m,_,_,h=>by
  rw[List.eq_nil_of_length_eq_zero (Nat.le_zero.mp h)];exact List.nodup_nil
 | x::l,m,nd,h,le=>by
  obtain⟨p,q,rfl⟩:=List.append_of_mem (h x List.mem_cons_self)
  obtain⟨n1,n2⟩:=List.nodup_cons.mp nd
  have sub:∀ y ∈ l,y ∈ p++q:=fun y hy=>by
   have:=h y (List.mem_cons_of_mem _ hy)
   rcases List.mem_append.mp this with z | z
   ·exact List.mem_append_left _ z
   ·rcases List.mem_cons.mp z with z | z
    ·exact absurd (z ▸ hy) n1
    ·exact List.mem_append_right _ z
  have le':(p++q).length≤l.length:=by
   rw[List.length_append,List.length_cons,List.length_cons] at le
   rw[List.length_append];omega
  have ih:=nd_of n2 sub le'
  have nx:x ∉ p++q:=fun z=>by
   have:=nd_int (m:=p++q) nd fun y hy=>(List.mem_cons.mp hy).elim (fun e=>e ▸ z) (sub y)
   rw[List.length_cons] at this
   omega
  have pm:(p++x::q).Perm (x::(p++q)):=List.perm_middle
  exact pm.nodup_iff.mpr (List.nodup_cons.mpr ⟨nx,ih⟩)
def keyE (e:Int × Value):Int:=match e.2 with
 | .int k _=>k
 | _=>0
section
variable {prog:Program} {w:World} {A:Around} {E:Value->Shared->Prop} {s:Shared}
theorem key_is {es:List (Int × Value)} (el:ElemsOf (intKind prog w) es) {e:Int × Value} (he:e ∈ es) (k:Int):(intKind prog w).is k e.2=true↔keyE e=k:=by
 obtain⟨k',t,ek,_,_,_⟩:=elem_int el he
 unfold keyE
 rw[ek]
 show Value.isInt k (.int k' t)=true↔k'=k
 simp [Value.isInt]
/-- no key twice -/
theorem keys_nd {es:List (Int × Value)} {S:Int->Bool} {n:Nat} (el:ElemsOf (intKind prog w) es) (me:∀ k,S k=true↔∃ e ∈ es,(intKind prog w).is k e.2=true) (en:es.length=n) (c:Cn S n):(es.map keyE).Nodup:=by
 obtain⟨l,nd,ll,hm⟩:=c
 refine nd_of nd (fun x hx=>?_) (by rw[List.length_map];omega)
 obtain⟨e,he,h⟩:=(me x).mp ((hm x).mpr hx)
 exact List.mem_map.mpr ⟨e,he,(key_is el he x).mp h⟩
theorem Cn.del {S:Int->Bool} {n:Nat} (c:Cn S n) (k:Int) (h:S k=true):Cn (fun y=>S y && !decide (y=k)) (n - 1):=by
 obtain⟨l,nd,ll,hm⟩:=c
 refine⟨l.erase k,nd.erase k,by rw[List.length_erase_of_mem ((hm k).mp h),ll],fun y=>?_⟩
 rw[nd.mem_erase_iff,Bool.and_eq_true,hm y,Bool.not_eq_true',decide_eq_false_iff_not]
 exact⟨fun ⟨a,b⟩=>⟨b,a⟩,fun ⟨a,b⟩=>⟨b,a⟩⟩
theorem ti_drop {b:Bool} {t:SetTable} (h:TI b t) {i:Nat} (hi:i < t.place.size):TI b (t.drop i):=by
 unfold SetTable.drop
 rw[Array.getElem?_eq_getElem hi]
 refine⟨?_,h.2⟩
 show Asc (SetTable.eraseAt t.place i)
 rw[Asc.list,erase_list _ hi]
 have al:=Asc.list.mp h.1
 have:(t.place.toList.take i++t.place.toList.drop (i + 1)).Sublist t.place.toList:=by
  have e:t.place.toList.take i++t.place.toList.drop i=t.place.toList:=List.take_append_drop _ _
  conv=>rhs;rw[← e]
  refine List.Sublist.append (List.Sublist.refl _) ?_
  rw[show i + 1=i + 1 from rfl,← List.drop_drop]
  exact List.drop_sublist _ _
 exact al.sublist this
theorem fits_drop {t:SetTable} {n:Nat} (h:t.fits n=true) {i:Nat} (hi:i < n):(t.drop i).fits (n - 1)=true:=by
 unfold SetTable.fits at h ⊢
 rw[Bool.and_eq_true,beq_iff_eq,decide_eq_true_iff] at h
 obtain⟨h1,h2⟩:=h
 have hp:i < t.place.size:=by omega
 unfold SetTable.drop
 rw[Array.getElem?_eq_getElem hp]
 have e1:(SetTable.eraseAt t.place i).size=n - 1:=by
  rw[← Array.length_toList,erase_list _ hp,List.length_append,List.length_take,List.length_drop,Array.length_toList]
  omega
 have e2:∀ j,(SetTable.insertAt t.dummies (SetTable.below t.dummies j) j).size=t.dummies.size + 1:=fun j=>by
  rw[← Array.length_toList,SetTable.toList_insertAt,← Array.length_toList (xs:=t.dummies)]
  simp
  omega
 rw[Bool.and_eq_true,beq_iff_eq,decide_eq_true_iff]
 refine⟨e1,?_⟩
 unfold SetTable.fill at h2 ⊢
 dsimp only
 rw[e1,e2]
 omega
/-- one taken out, if it is there -/
theorem discard_T {a:Addr} {S:Int->Bool} {n:Nat} {k:Int} {x:Value} {Q:Bool->Shared->Prop} (kx:(intKind prog w).is k x=true) (sx:x.scannable=true) (st:SetT prog w s.heap a S n) (c:Cn S n)
  (fin:∀ h',Heap.SameBut a s.heap h'->(S k=true->SetT prog w h' a (fun y=>S y && !decide (y=k)) (n - 1))->(S k=false->SetT prog w h' a S n)->Q (S k) { s with heap:=h' }) :
  wpAny (model prog w) A (setDiscardHashed a x ((intKind prog w).hash k)) Q E s:=by
 obtain⟨⟨o,es,ep,t,ho,ox,od,el,me,small,fit,en⟩,o',es',ep',t',ho',od',ti⟩:=id st
 rw[ho] at ho';cases ho'
 rw[od] at od';cases od'
 have es0:s={ s with heap:=s.heap }:=by cases s;rfl
 unfold setDiscardHashed setFind setFindIn
 refine wpAny_bind (wpAny_bind (wpAny_setState_of ho od fit ?_))
 dsimp only
 rw[byScan_of sx small el,if_pos rfl]
 refine wpAny_bind (wpAny_rule (wpAny_bind (wpAny_setScan_of kx ho od fit el ?_)))
 have nd:=keys_nd el me (by rw[Array.length_toList];exact en) c
 cases fd:List.findIdx? (fun e=>(intKind prog w).is k e.2) es.toList with
 | none =>
  dsimp only
  have sk:S k=false:=by
   cases c:S k with
   | false=>rfl
   | true=>obtain⟨e,he,hp⟩:=(me k).mp c;have:=List.findIdx?_eq_none_iff.mp fd e he;rw[hp] at this;cases this
  refine wpAny_pure (wpAny_pure ?_)
  have q:=fin s.heap (Heap.SameBut.refl a s.heap) (fun z=>by rw[sk] at z;cases z) fun _=>st
  rw[sk] at q;rw[es0];exact q
 | some j =>
  dsimp only
  obtain⟨jl,jp,_⟩:=List.findIdx?_eq_some_iff_getElem.mp fd
  have sk:S k=true:=(me k).mpr ⟨es.toList[j],List.getElem_mem jl,jp⟩
  have jl':j < es.size:=by simpa using jl
  refine wpAny_pure ?_
  rw[Nat.zero_add]
  have psz:t.place.size=es.size:=by
   simp only [SetTable.fits,Bool.and_eq_true,beq_iff_eq] at fit
   exact fit.1
  have er:=erase_list es jl'
  have ez:(SetTable.eraseAt es j).size=es.size - 1:=by
   rw[← Array.length_toList,er,List.length_append,List.length_take,List.length_drop,Array.length_toList]
   omega
  have split:es.toList=es.toList.take j++es.toList[j]::es.toList.drop (j + 1):=by
   rw[← List.drop_eq_getElem_cons jl,List.take_append_drop]
  have sub:∀ e ∈ (SetTable.eraseAt es j).toList,e ∈ es.toList:=fun e he=>by
   rw[er] at he
   rw[split]
   exact (List.mem_append.mp he).elim (List.mem_append_left _) fun h=>List.mem_append_right _ (List.mem_cons_of_mem _ h)
  have kj:keyE es.toList[j]=k:=(key_is el (List.getElem_mem jl) k).mp jp
  have me2:∀ y,(S y && !decide (y=k))=true↔∃ e ∈ (SetTable.eraseAt es j).toList,(intKind prog w).is y e.2=true:=fun y=>by
   rw[Bool.and_eq_true,me y,Bool.not_eq_true',decide_eq_false_iff_not]
   have nd2:(es.toList.take j++es.toList[j]::es.toList.drop (j + 1)).map keyE=es.toList.map keyE:=by rw[← split]
   rw[← nd2,List.map_append,List.map_cons] at nd
   have pm:((es.toList.take j).map keyE++keyE es.toList[j]::(es.toList.drop (j + 1)).map keyE).Perm (keyE es.toList[j]::((es.toList.take j).map keyE++(es.toList.drop (j + 1)).map keyE)):=List.perm_middle
   have nj:=(List.nodup_cons.mp (pm.nodup_iff.mp nd)).1
   constructor
   ·rintro ⟨⟨e,he,hp⟩,ne⟩
    refine⟨e,?_,hp⟩
    have ke:=(key_is el he y).mp hp
    rw[er]
    rw[split] at he
    rcases List.mem_append.mp he with h | h
    ·exact List.mem_append_left _ h
    ·rcases List.mem_cons.mp h with h | h
     ·exfalso;apply ne;rw[← ke,h];exact kj
     ·exact List.mem_append_right _ h
   ·rintro ⟨e,he,hp⟩
    refine⟨⟨e,sub e he,hp⟩,fun z=>nj ?_⟩
    have ke:=(key_is el (sub e he) y).mp hp
    rw[kj,← z,← ke,← List.map_append]
    rw[er] at he
    exact List.mem_map.mpr ⟨e,he,rfl⟩
  refine wpAny_bind (wpAny_setState_of ho od fit ?_)
  dsimp only
  have sm2:(SetTable.eraseAt es j).size < scanBound:=by omega
  have ft2:(t.drop j).fits (SetTable.eraseAt es j).size=true:=by rw[ez];exact fits_drop fit jl'
  refine wpAny_bind (wpAny_storeSet_of ho od ?_ (fits_of_scanBound sm2))
  obtain⟨g1,s1⟩:=SetOf_store (knd:=intKind prog w) ho ox od (es':=SetTable.eraseAt es j) (t':=t.drop j) (fun e he=>el e (sub e he)) me2 sm2 ft2
  refine wpAny_bind (wpAny_point (wpAny_pure ?_))
  have q:=fin _ (Heap.SameBut.update s.heap a (Obj.putSet (SetTable.eraseAt es j) (t.drop j))) (fun _=>⟨by rw[ez,en] at s1;exact s1,_,_,_,_,g1,rfl,ti_drop ti (by omega)⟩) fun z=>by rw[sk] at z;cases z
  rw[sk] at q
  exact q
/-- each of a row of keys turned over -/
theorem loop_X {a b:Addr} {flip:Int->Value->Sem Unit} {each:Sem Unit} {ob:Obj} {eb:Array (Int × Value)} {epb:Nat} {tb:SetTable} (ne:a≠b) (odb:ob.data=.set eb epb tb) (elb:ElemsOf (intKind prog w) eb.toList)
  (hflip:∀ h x,flip h x=holding [x] (do
   let __do_lift ← setDiscardHashed a x h
   if (!__do_lift) = true then do
       let _ ← setAddHashed a x h
       pure ()
    else pure ()))
  (heach:∀ (z:Shared) (U:Unit->Shared->Prop),z.heap.get? b=some ob->U () z->wpAny (model prog w) A each U E z) :
  ∀ (l:List (Int × Value)) (s:Shared) (S:Int->Bool) (n:Nat) (Q:PUnit->Shared->Prop),(∀ e ∈ l,e ∈ eb.toList)->(l.map keyE).Nodup->s.heap.get? b=some ob->SetT prog w s.heap a S n->Cn S n->n + l.length + 1 < scanBound ->
  (∀ h' S2 n2,Heap.SameBut a s.heap h'->SetT prog w h' a S2 n2->Cn S2 n2->(∀ k,S2 k=true↔¬ (S k=true↔k ∈ l.map keyE))->Q PUnit.unit { s with heap:=h' }) ->
  wpAny (model prog w) A (forIn l PUnit.unit fun x (_:PUnit)=>do
   flip x.1 x.2
   each
   pure (ForInStep.yield PUnit.unit)) Q E s
 | [],s,S,n,Q,_,_,_,st,c,_,fin=>by
  rw[List.forIn_nil]
  have e0:s={ s with heap:=s.heap }:=by cases s;rfl
  refine wpAny_pure ?_
  rw[e0]
  exact fin s.heap S n (Heap.SameBut.refl _ _) st c fun k=>by simp
 | e::l,s,S,n,Q,hl,nd,hb,st,c,room,fin=>by
  rw[List.forIn_cons]
  obtain⟨k,t,ek,h1,h2,h3⟩:=elem_int elb (hl e List.mem_cons_self)
  have ke:keyE e=k:=by unfold keyE;rw[ek]
  rw[List.map_cons,ke] at nd
  obtain⟨nk,nd'⟩:=List.nodup_cons.mp nd
  rw[List.length_cons] at room
  have more : ∀ (R : ForInStep PUnit → Shared → Prop) (_ : ∀ s', wpAny (model prog w) A (forIn l PUnit.unit fun x (_ : PUnit) => do
        flip x.1 x.2
        each
        pure (ForInStep.yield PUnit.unit)) Q E s'->R (.yield PUnit.unit) s') (h':Heap) (S1:Int->Bool) (n1:Nat),Heap.SameBut a s.heap h'->SetT prog w h' a S1 n1->Cn S1 n1->n1≤n + 1->(∀ y,S1 y=true↔¬ (S y=true↔y=k))->wpAny (model prog w) A (do
      each
      pure (ForInStep.yield PUnit.unit)) R E { s with heap:=h' }:=fun R hR h' S1 n1 sb st1 c1 l1 m1=>by
   have hb':h'.get? b=some ob:=sb.extBut _ _ ne.symm hb
   refine wpAny_bind (heach _ _ hb' (wpAny_pure (hR _ ?_)))
   refine loop_X ne odb elb hflip heach l { s with heap:=h' } S1 n1 _ (fun y hy=>hl y (List.mem_cons_of_mem _ hy)) nd' hb' st1 c1 (by omega) fun h2' S2 n2 sb2 st2 c2 m2=>?_
   refine fin h2' S2 n2 (sb.trans sb2) st2 c2 fun y=>?_
   rw[m2 y,m1 y,List.map_cons,ke,List.mem_cons]
   by_cases yk:y=k
   ·subst yk
    by_cases sy:S y=true <;> simp [sy,nk]
   ·by_cases sy:S y=true <;> by_cases ym:y ∈ l.map keyE <;> simp [sy,ym,yk]
  refine wpAny_bind ?_
  rw[hflip]
  refine wpAny_bind (wpAny_holding (wpAny_bind ?_))
  rw[h2]
  refine discard_T h1 h3 st c fun h' sb d1 d2=>?_
  cases sk:S k with
  | true =>
   refine wpAny_ite_split (fun z=>absurd z (by simp)) fun _=>wpAny_pure ?_
   refine more _ (fun _ h=>h) h' _ _ sb (d1 sk) (c.del k sk) (by omega) fun y=>?_
   rw[Bool.and_eq_true,Bool.not_eq_true',decide_eq_false_iff_not]
   by_cases yk:y=k
   ·subst yk;simp [sk]
   ·simp [yk]
  | false =>
   refine wpAny_ite_split (fun _=>?_) fun z=>absurd rfl z
   refine wpAny_bind (add_T (s:={ s with heap:=h' }) h1 h3 (d2 sk) (by omega) fun h3' sb3 st3=>wpAny_pure ?_)
   rw[sk] at st3
   have ca:=c.add k
   rw[sk] at ca
   refine more _ (fun _ h=>h) h3' _ _ (sb.trans sb3) st3 ca (Nat.le_refl _) fun y=>?_
   rw[Bool.or_eq_true,decide_eq_true_iff]
   by_cases yk:y=k
   ·subst yk;simp [sk]
   ·simp [yk]
theorem xor_T {a b:Addr} {S S':Int->Bool} {n m:Nat} {Q:Value->Shared->Prop} (sa:SetT prog w s.heap a S n) (sb:SetT prog w s.heap b S' m) (ca:Cn S n) (cb:Cn S' m) (hl:(n + m) * 2 < 512) (ne:a≠b)
  (fin:∀ h' d' S2 n2,(∀ c o,s.heap.get? c=some o->h'.get? c=some o)->SetT prog w h' s.heap.objs.size S2 n2->Cn S2 n2->(∀ k,S2 k=true↔¬ (S k=true↔S' k=true))->Q (.ref s.heap.objs.size) { s with heap:=h',drawn:=d' }) :
  wpAny (model prog w) A (binaryOp .BitXor (.ref a) (.ref b)) Q E s:=by
 obtain⟨oa,hoa,oca⟩:=sa.typ
 obtain⟨ob,hob,ocb⟩:=sb.typ
 have tA:s.TypeIs (.ref a) "set":=⟨oa,hoa,oca⟩
 have tB:s.TypeIs (.ref b) "set":=⟨ob,hob,ocb⟩
 refine wpAny_binaryOp_same (op:=.BitXor) (T:="set") tA tB PySem.F.fills_set_xor PySem.F.slot_set_xor ?_
 refine wpAny_call_entry PySem.F.slot_set_xor tA en_xor ?_ (PySem.F.args_set_xor_2 _ _)
 unfold Builtin.«frozenset.__xor__»
 wp_delta
 refine wpAny_bind (m:=Builtin.Frozenset.slot1 "__xor__" { pos:=[Value.ref a,Value.ref b] }) (wpAny_pure ?_)
 dsimp only
 rw[if_neg (by decide)]
 dsimp only
 unfold andM
 refine wpAny_bind (wpAny_bind (any_T tA ?_))
 refine any_T tB ?_
 refine wpAny_ite_split (fun z=>absurd z (by decide)) fun _=>?_
 refine wpAny_bind (m:=Builtin.Frozenset.addrOf (.ref a)) (wpAny_pure ?_)
 refine wpAny_bind ?_
 wp_delta
 refine wpAny_bind ?_
 unfold Builtin.Frozenset.baseOf
 refine wpAny_bind (wpAny_isInstance (T:="set") (b:=true) tA (by rw[isSubtype_type];kernel_rfl) (wpAny_pure ?_))
 rw[if_pos rfl]
 refine wpAny_bind ?_
 unfold Builtin.Frozenset.newFrom newSet setsByText
 refine wpAny_bind (wpAny_bind (wpAny_bind (wpAny_askSetting (wpAny_pure (wpAny_newObj_type ?_)))))
 have lo:(!(model prog w).w.params.followText "set-order")=ledOf w:=rfl
 rw[lo]
 generalize hR:s.heap.objs.size=R
 rw[hR] at fin
 have hnew:(s.heap.push { cls:=.type "set",data:=.set #[] 0 (.fresh 0 0 (ledOf w)) }).get? R=some { cls:=.type "set",data:=.set #[] 0 (.fresh 0 0 (ledOf w)) }:=by rw[← hR];exact Heap.get?_push_size _ rfl
 have up:∀ c o,s.heap.get? c=some o->(s.heap.push { cls:=.type "set",data:=.set #[] 0 (.fresh 0 0 (ledOf w)) }).get? c=some o:=fun c o e=>Heap.get?_push_of_some _ e
 have nR:∀ c o,s.heap.get? c=some o->c≠R:=fun c o e=>by rw[← hR];exact Nat.ne_of_lt (Heap.lt_size e)
 generalize s.heap.push { cls:=.type "set",data:=.set #[] 0 (.fresh 0 0 (ledOf w)) }=h1 at hnew up ⊢
 have full8:Lay9.Full 8:=by
  have:=(Lay9.size_full (n:=1) (by decide)).1
  exact this
 have fr:Fr w h1 R 0:=⟨_,_,_,hnew,⟨rfl,rfl,rfl⟩,rfl,rfl,rfl,full8,rfl,Nat.zero_le _⟩
 have saR:SetT prog w h1 a S n:=sa.keep fun x hx=>up _ _ hx
 have sbR:SetT prog w h1 b S' m:=sb.keep fun x hx=>up _ _ hx
 have neA:=nR a oa hoa
 have neB:=nR b ob hob
 have ob1:h1.get? b=some ob:=up _ _ hob
 refine wpAny_bind (m:=Builtin.Frozenset.addrOf (.ref R)) (wpAny_pure (wpAny_bind (wpAny_holding ?_)))
 obtain⟨o2,es2,ep2,t2,ho2,ox2,od2,el2,me2,small2,fit2,en2⟩:=sbR.1
 unfold Builtin.Frozenset.updateFrom Builtin.Frozenset.merge
 refine wpAny_bind (any_T ⟨ob,ob1,ocb⟩ ?_)
 refine wpAny_ite_split (fun _=>?_) fun z=>absurd rfl z
 refine wpAny_bind (m:=Builtin.Frozenset.addrOf (.ref b)) (wpAny_pure ?_)
 refine wpAny_bind (wpAny_setEpoch_of ho2 od2 fit2 ?_)
 refine merge_Fr (s:={ s with heap:=h1 }) neB.symm fr sbR (by omega) fun h3 sb3 st3=>?_
 refine wpAny_pure ?_
 refine wpAny_bind (m:=Builtin.Frozenset.addrOf (.ref R)) (wpAny_pure (wpAny_bind (wpAny_holding ?_)))
 have saX:SetT prog w h3 a S n:=saR.keep fun x hx=>sb3.extBut _ _ neA hx
 obtain⟨oa3,hoa3,oca3⟩:=saX.typ
 obtain⟨o4,es4,ep4,t4,ho4,ox4,od4,el4,me4,small4,fit4,en4⟩:=saX.1
 unfold Builtin.Frozenset.symmetricDifferenceUpdate
 have nbR:(Value.ref a == Value.ref R)=false:=by
  have:Value.ref a≠Value.ref R:=fun z=>by injection z with z;exact neA z
  simpa using this
 rw[nbR]
 refine wpAny_ite_split (fun z=>absurd z (by decide)) fun _=>?_
 refine wpAny_bind (wpAny_typeOf (T:="set") ⟨oa3,hoa3,oca3⟩ ?_)
 refine wpAny_ite_split (fun z=>absurd z (by decide)) fun _=>?_
 refine wpAny_bind (any_T ⟨oa3,hoa3,oca3⟩ ?_)
 refine wpAny_ite_split (fun _=>?_) fun z=>absurd rfl z
 refine wpAny_bind (wpAny_pure ?_)
 refine wpAny_bind (m:=Builtin.Frozenset.addrOf (.ref a)) (wpAny_pure ?_)
 refine wpAny_bind (wpAny_setEpoch_of ho4 od4 fit4 ?_)
 refine wpAny_holding ?_
 have ns:R≠a:=neA.symm
 refine wpAny_bind (unseen_T (s:={ s with heap:=h3 }) ns st3 saX ho4 od4 fun ord h5 d5 pm sb5 st5=>?_)
 have ho5:h5.get? a=some o4:=sb5.extBut _ _ neA ho4
 rw[← Array.forIn_toList]
 have sc:600≤scanBound:=by unfold scanBound;decide
 have lo5:ord.toList.length=n:=by rw[pm.length_eq,Array.length_toList,en4]
 have kn:=keys_nd el4 me4 (by rw[Array.length_toList];exact en4) ca
 have kn5:(ord.toList.map keyE).Nodup:=(pm.map keyE).nodup_iff.mpr kn
 refine wpAny_bind (loop_X (flip := fun h x => holding [x] (do
     let __do_lift ← setDiscardHashed R x h
     if (!__do_lift) = true then do
         let _ ← setAddHashed R x h
         pure ()
       else pure ())) ns od4 el4 (fun _ _=>rfl) (fun z U hz hU=>?_) ord.toList { s with heap:=h5,drawn:=d5 } S' m _ (fun e he=>pm.mem_iff.mp he) kn5 ho5 st5 cb (by omega) fun h6 S6 n6 sb6 st6 c6 m6=>?_)
 ·unfold Builtin.Frozenset.unchanged
  refine wpAny_bind (wpAny_setEpoch_of hz od4 fit4 ?_)
  have:(ep4 != ep4)=false:=by simp
  rw[this]
  exact wpAny_pure hU
 ·refine wpAny_pure (wpAny_pure (wpAny_pure ⟨_,rfl,by simp,fin h6 d5 S6 n6 (fun c o e=>sb6.extBut _ _ (nR c o e) (sb5.extBut _ _ (nR c o e) (sb3.extBut _ _ (nR c o e) (up _ _ e)))) st6 c6 fun k=>?_⟩))
  rw[m6 k]
  have:k ∈ ord.toList.map keyE↔S k=true:=by
   rw[me4 k,List.mem_map]
   constructor
   ·rintro ⟨e,he,z⟩
    exact⟨e,pm.mem_iff.mp he,(key_is el4 (pm.mem_iff.mp he) k).mpr z⟩
   ·rintro ⟨e,he,z⟩
    exact⟨e,pm.mem_iff.mpr he,(key_is el4 he k).mp z⟩
  rw[this]
  exact not_congr ⟨fun h=>h.symm,fun h=>h.symm⟩
end
end Stb
namespace L3
open PySem PySem.Spec PyProof.Rows L2
section
variable {X:Cx}
/-- set ^ set -/
theorem op_xorS:OpR X (binaryOp .BitXor) (fun x y H Q=>∃ (p q:Addr) (S S':Int->Bool) (n m:Nat),x=.ref p∧y=.ref q∧p≠q∧H p=some (SetO X.prog X.w p S n)∧H q=some (SetO X.prog X.w q S' m)∧Stb.Cn S n∧Stb.Cn S' m∧(n + m) * 2 < 512 ∧
  ∀ r S2 n2 H',Same H H'->H r=none->H' r=some (SetO X.prog X.w r S2 n2)->Stb.Cn S2 n2->(∀ k,S2 k=true↔¬ (S k=true↔S' k=true))->Q (.ref r) H'):=by
 intro pins s σ H x y u v Q I rx ry h
 obtain⟨p,q,S,S',n,m,rfl,rfl,ne,hp,hq,cp,cq,hl,fin⟩:=h
 cases rx
 cases ry
 have sp:Stb.SetT X.prog X.w s.heap p S n:=(show ObjOk X.prog X.w H s.heap p (SetO X.prog X.w p S n) from I.hok p _ hp).1
 have sq:Stb.SetT X.prog X.w s.heap q S' m:=(show ObjOk X.prog X.w H s.heap q (SetO X.prog X.w q S' m) from I.hok q _ hq).1
 refine Stb.xor_T sp sq cp cq hl ne fun h' d' S2 n2 hk st c2 m2=>?_
 have fr:H s.heap.objs.size=none:=I.hok.fresh (Nat.le_refl _)
 have I1:=I.laid (a:=s.heap.objs.size) (o:=SetO X.prog X.w s.heap.objs.size S2 n2) (t':=s.toks) hk (Nat.le_refl _) ⟨st,by obtain⟨o,e,_⟩:=st.typ;exact⟨o,e⟩,fun h1 h2 x k=>x.keep k⟩
 have I2:Inv X pins σ (upd H s.heap.objs.size (SetO X.prog X.w s.heap.objs.size S2 n2)) { s with heap:=h',drawn:=d' }:=⟨I1.ok,I1.os,I1.bare,I1.base,I1.loc,I1.cell,I1.free,I1.freeC,I1.pin,I1.hok,I1.len⟩
 exact⟨.ref s.heap.objs.size,_,I2,rfl,fin _ S2 n2 _ (same_new fr) fr upd_same c2 m2⟩
end
end L3
namespace Far
section
variable {A B:List (Nat × Nat × Int)} {s u v:Nat} {x y:Int}
theorem Walk.app (h:Walk B s u x) (k:Walk B u v y):Walk B s v (x + y):=by
 induction k with
 | nil=>rw[Int.add_zero];exact h
 | @snoc w v l y k m ih =>
  have:=Walk.snoc ih m
  rw[Int.add_assoc] at this
  exact this
/-- each arc's ends are in B at most p / q times as far: so are any two places -/
theorem grow {p q:Int} (h:∀ u v l,(u,v,l) ∈ A->∃ y,Walk B u v y∧y * q≤p * l) (w:Walk A s v x):∃ y,Walk B s v y∧y * q≤p * x:=by
 induction w with
 | nil=>exact⟨0,.nil,by simp⟩
 | @snoc u v l x w m ih =>
  obtain⟨y1,w1,e1⟩:=ih
  obtain⟨y2,w2,e2⟩:=h _ _ _ m
  refine⟨y1 + y2,w1.app w2,?_⟩
  rw[Int.add_mul,Int.mul_add];omega
end
end Far
namespace Far
section
variable {G:Nat->Option Int} {len:Nat->Int}
end
end Far
namespace Far
section
variable {A:List (Nat × Nat × Int)} {s:Nat}
theorem settle {n:Nat} (P:Pos A) (n24:n≤24) (inn:∀ u v l,(u,v,l) ∈ A->u < n∧v < n) (top:∀ u v l,(u,v,l) ∈ A->l≤10 ^ 18):∀ (m:Nat) (cs:List (Option (Int × Int))),mu cs=m->Good A n s cs->∃ cs',Good A n s cs'∧Stab A cs':=by
 intro m
 induction m using Nat.strongRecOn with
 | ind m ih =>
  intro cs em g
  by_cases c:∃ u v l e,(u,v,l) ∈ A∧get cs u=some e∧(get cs v=none∨∃ c',get cs v=some c'∧lt2 (e.1 + l,e.2 + 0) c')
  ·obtain⟨u,v,l,e,m1,h1,h2⟩:=c
   obtain⟨g2,lt⟩:=Good.step P n24 g m1 (top _ _ _ m1) (by decide) (by decide) (inn _ _ _ m1).2 h1 h2
   exact ih _ (by omega) _ rfl g2
  ·refine⟨cs,g,fun u v l e m1 h1=>?_⟩
   cases h:get cs v with
   | none=>exact absurd ⟨u,v,l,e,m1,h1,.inl h⟩ c
   | some c' =>
    refine⟨c',rfl,?_⟩
    rcases Int.lt_or_le (e.1 + l) c'.1 with z | z
    ·exact absurd ⟨u,v,l,e,m1,h1,.inr ⟨c',h,.inl z⟩⟩ c
    ·omega
/-- no distance is greater than this -/
theorem Dst.top {n:Nat} (P:Pos A) (n24:n≤24) (hs:s < n) (inn:∀ u v l,(u,v,l) ∈ A->u < n∧v < n) (top:∀ u v l,(u,v,l) ∈ A->l≤10 ^ 18) {v:Nat} {x:Int} (h:Dst A s v (some x)):x≤((n:Int) - 1) * 10 ^ 18:=by
 obtain⟨cs,g,st⟩:=settle P n24 inn top _ _ rfl (Good.first (A:=A) hs)
 have e:=(g.dst st v).unique h
 obtain⟨c,hc,e⟩:=Option.map_eq_some_iff.mp e
 have t:=g.top v c hc
 have l:=ct_le cs
 rw[g.len] at l
 omega
end
end Far
namespace L3
open PySem PySem.Spec PyProof.Rows L2
/-- the word alone -/
def allIn (ts:List Tie) (ks:List Nat) (t:Int):Prop:=∀ k,k ∈ outs ts.length ks->withinB t (tieAt ts k).2.2 (gO ts ks k)=true
section
variable {n:Int} {ts:List Tie} {ks:List Nat} {prs:List (Option Int × Int)}
theorem gO_dst (ok:WebOk n ts) (ko:KeepOk ts.length ks) (k:Nat):Far.Dst (arcs ts ks) (tieAt ts k).1.toNat (tieAt ts k).2.1.toNat (gO ts ks k):=by
 obtain⟨o,h⟩:=Far.dst_exists (arcs_pos ok ko) (tieAt ts k).1.toNat (tieAt ts k).2.1.toNat
 rw[gO_eq h];exact h
end
end L3
namespace L3
open PySem PySem.Spec PyProof.Rows L2
section
variable {P:Program} {w:World} {K:PySem.W.Frag} {mg:Str->Option Value} {base:Heap}
end
end L3
namespace L3
open PySem PySem.Spec PyProof.Rows L2
section
variable {X:Cx} {pins:List (Addr × Obj)} {σ:L2.St} {A:Around} {E:Value->Shared->Prop}
/-- a key that was made: a tuple of whole numbers -/
def KeyV (H:Hp) (v:V) (k:List Int):Prop:=∃ t,v=.ref t∧H t=some (.tup (k.map V.int))
theorem KeyV.same {H H':Hp} {v:V} {k:List Int} (h:KeyV H v k) (S:Same H H'):KeyV H' v k:=let ⟨t,e,q⟩:=h;⟨t,e,S _ _ q⟩
theorem KeyV.but {H H':Hp} {v:V} {k:List Int} {p:Addr} {xs:List V} (h:KeyV H v k) (S:But p H H') (hp:H p=some (.lst xs)):KeyV H' v k:=let ⟨t,e,q⟩:=h;⟨t,e,S _ _ (fun z=>by rw[z,hp] at q;cases q) q⟩
/-- the list that is sorted stands empty meanwhile -/
abbrev still (a:Addr) (e1:Nat):HO:=.ext fun h=>h.get? a=some (seqObj "list" #[] e1)
end
end L3
namespace L3
open PySem PySem.Spec PyProof.Rows L2
section
variable {X:Cx} {pins:List (Addr × Obj)} {σ:L2.St} {H:Hp} {s:Shared}
/-- the table: empty, or with the lambda's code -/
def Tb (Pt:Addr) (lpos:Pos) (qual:Str) (H:Hp):Prop:=∃ ps,H Pt=some (.tbl ps)∧(ps=#[]∨∃ c',ps=#[rawInt lpos.line,rawInt lpos.col,.ref c']∧H c'=some (.ext fun h=>h.CodeRec (.ref c') qual))
/-- .. with the lambda's code -/
def Tf (Pt:Addr) (lpos:Pos) (qual:Str) (H:Hp):Prop:=∃ c',H Pt=some (.tbl #[rawInt lpos.line,rawInt lpos.col,.ref c'])∧H c'=some (.ext fun h=>h.CodeRec (.ref c') qual)
theorem Tf.tb {Pt:Addr} {lpos:Pos} {qual:Str} (h:Tf Pt lpos qual H):Tb Pt lpos qual H:=let ⟨c',e,r⟩:=h;⟨_,e,.inr ⟨c',rfl,r⟩⟩
theorem Tf.same {Pt:Addr} {lpos:Pos} {qual:Str} {H':Hp} (h:Tf Pt lpos qual H) (S:Same H H'):Tf Pt lpos qual H':=let ⟨c',e,r⟩:=h;⟨c',S _ _ e,S _ _ r⟩
theorem Tf.but {Pt p:Addr} {lpos:Pos} {qual:Str} {H':Hp} {xs:List V} (h:Tf Pt lpos qual H) (S:But p H H') (hp:H p=some (.lst xs)):Tf Pt lpos qual H' :=
 let ⟨c',e,r⟩:=h;⟨c',S _ _ (fun z=>by rw[z,hp] at e;cases e) e,S _ _ (fun z=>by rw[z,hp] at r;cases r) r⟩
theorem Tb.same {Pt:Addr} {lpos:Pos} {qual:Str} {H':Hp} (h:Tb Pt lpos qual H) (S:Same H H'):Tb Pt lpos qual H' :=
 let ⟨ps,e,r⟩:=h;⟨ps,S _ _ e,r.imp id fun ⟨c',e1,e2⟩=>⟨c',e1,S _ _ e2⟩⟩
theorem Tb.but {Pt p:Addr} {lpos:Pos} {qual:Str} {H':Hp} {xs:List V} (h:Tb Pt lpos qual H) (S:But p H H') (hp:H p=some (.lst xs)):Tb Pt lpos qual H' :=
 let ⟨ps,e,r⟩:=h;⟨ps,S _ _ (fun z=>by rw[z,hp] at e;cases e) e,r.imp id fun ⟨c',e1,e2⟩=>⟨c',e1,S _ _ (fun z=>by rw[z,hp] at e2;cases e2) e2⟩⟩
end
end L3
namespace L3
open PySem PySem.Spec PyProof.Rows L2
section
variable {P:Program} {w:World} {K:PySem.W.Frag} {mg:Str->Option Value} {base:Heap} {x:Str} {ps N:List Str} {sp:Sp} {k:Nat} {st:Stmt} {c:Addr}
end
def okey (ts:List Tie) (k:Nat):List Int:=[(tieAt ts k).2.2,(k:Int)]
/-- all numbers, by length, then by number -/
def OrdOk (ts:List Tie) (os:List Nat):Prop:=os.Perm (List.range ts.length)∧os.Pairwise fun a b=>Srt.lexI (okey ts b) (okey ts a)=false
theorem OrdOk.one {ts:List Tie} {os os':List Nat} (a:OrdOk ts os) (b:OrdOk ts os'):os=os':=by
 refine List.Perm.eq_of_pairwise (le:=fun x y=>Srt.lexI (okey ts y) (okey ts x)=false) (fun x y _ _ h1 h2=>?_) a.2 b.2 (a.1.trans b.1.symm)
 have:=Srt.lexI_tot _ _ h2 h1
 unfold okey at this
 injection this with _ h
 injection h with h
 omega
end L3
namespace Frs
abbrev T2:=Nat × Nat
inductive Cn (E:List T2) (u:Nat):Nat->Prop
 | nil:Cn E u u
 | snoc {v w:Nat}:Cn E u v->((v,w) ∈ E∨(w,v) ∈ E)->Cn E u w
section
variable {E F:List T2} {u v w a b:Nat}
theorem Cn.app (h:Cn E u v) (k:Cn E v w):Cn E u w:=by
 induction k with
 | nil=>exact h
 | snoc _ m ih=>exact .snoc ih m
theorem Cn.back (h:Cn E u v):Cn E v u:=by
 induction h with
 | nil=>exact .nil
 | snoc _ m ih=>exact (Cn.snoc .nil m.symm).app ih
theorem Cn.more (h:Cn E u v) (k:∀ t ∈ E,t ∈ F):Cn F u v:=by
 induction h with
 | nil=>exact .nil
 | snoc _ m ih=>exact .snoc ih (m.imp (k _) (k _))
theorem Cn.one (m:(a,b) ∈ E):Cn E a b:=.snoc .nil (.inl m)
/-- one tie more -/
theorem cn_more:Cn (E++[(a,b)]) u v↔Cn E u v∨(Cn E u a∧Cn E b v)∨(Cn E u b∧Cn E a v):=by
 have up:∀ {x y},Cn E x y->Cn (E++[(a,b)]) x y:=fun h=>h.more fun t m=>List.mem_append_left _ m
 have ab:Cn (E++[(a,b)]) a b:=.one (List.mem_append_right _ List.mem_cons_self)
 constructor
 ·intro h
  induction h with
  | nil=>exact .inl .nil
  | @snoc v w _ m ih =>
   have split:((v,w) ∈ E∨(w,v) ∈ E)∨(v=a∧w=b)∨(v=b∧w=a):=by
    rcases m with m | m
    ·rcases List.mem_append.mp m with m | m
     ·exact .inl (.inl m)
     ·have:=List.mem_singleton.mp m;cases this;exact .inr (.inl ⟨rfl,rfl⟩)
    ·rcases List.mem_append.mp m with m | m
     ·exact .inl (.inr m)
     ·have:=List.mem_singleton.mp m;cases this;exact .inr (.inr ⟨rfl,rfl⟩)
   rcases split with m | ⟨rfl,rfl⟩ | ⟨rfl,rfl⟩
   ·rcases ih with h | ⟨h1,h2⟩ | ⟨h1,h2⟩
    ·exact .inl (.snoc h m)
    ·exact .inr (.inl ⟨h1,.snoc h2 m⟩)
    ·exact .inr (.inr ⟨h1,.snoc h2 m⟩)
   ·rcases ih with h | ⟨h1,h2⟩ | ⟨h1,h2⟩
    ·exact .inr (.inl ⟨h,.nil⟩)
    ·exact .inr (.inl ⟨h1,.nil⟩)
    ·exact .inl h1
   ·rcases ih with h | ⟨h1,h2⟩ | ⟨h1,h2⟩
    ·exact .inr (.inr ⟨h,.nil⟩)
    ·exact .inl h1
    ·exact .inr (.inr ⟨h1,.nil⟩)
 ·rintro (h | ⟨h1,h2⟩ | ⟨h1,h2⟩)
  ·exact up h
  ·exact (up h1).app (ab.app (up h2))
  ·exact (up h1).app (ab.back.app (up h2))
end
/-- marks that tell what hangs together -/
def Mk (n:Nat) (E:List T2) (M:List Nat):Prop:=M.length=n∧∀ u v,u < n->v < n->(M.getD u 0=M.getD v 0↔Cn E u v)
def join (M:List Nat) (p q:Nat):List Nat:=M.map fun m=>if m=q then p else m
theorem join_at {M:List Nat} {p q u:Nat} (h:u < M.length):(join M p q).getD u 0=if M.getD u 0=q then p else M.getD u 0:=by
 unfold join
 rw[List.getD_eq_getElem?_getD,List.getElem?_map,List.getD_eq_getElem?_getD,List.getElem?_eq_getElem h];rfl
section
variable {n:Nat} {E:List T2} {M:List Nat} {a b:Nat}
theorem Mk.first:Mk n [] (List.range n):=by
 refine⟨List.length_range,fun u v hu hv=>?_⟩
 have e:∀ {x},x < n->(List.range n).getD x 0=x:=fun h=>by rw[List.getD_eq_getElem?_getD,List.getElem?_range h];rfl
 rw[e hu,e hv]
 constructor
 ·rintro rfl;exact .nil
 ·intro h
  cases h with
  | nil=>rfl
  | snoc _ m=>rcases m with m | m <;> cases m
theorem Mk.same (h:Mk n E M) (ha:a < n) (hb:b < n) (e:M.getD a 0=M.getD b 0):Mk n (E++[(a,b)]) M:=by
 refine⟨h.1,fun u v hu hv=>(h.2 u v hu hv).trans ?_⟩
 rw[cn_more]
 have ab:=(h.2 a b ha hb).mp e
 exact⟨.inl,fun z=>z.elim id fun z=>z.elim (fun z=>z.1.app (ab.app z.2)) fun z=>z.1.app (ab.back.app z.2)⟩
theorem Mk.join (h:Mk n E M) (ha:a < n) (hb:b < n) (ne:M.getD a 0≠M.getD b 0):Mk n (E++[(a,b)]) (join M (M.getD a 0) (M.getD b 0)):=by
 refine⟨by unfold Frs.join;rw[List.length_map];exact h.1,fun u v hu hv=>?_⟩
 rw[join_at (by rw[h.1];exact hu),join_at (by rw[h.1];exact hv),cn_more,← h.2 u v hu hv,← h.2 u a hu ha,← h.2 b v hb hv,← h.2 u b hu hb,← h.2 a v ha hv]
 by_cases c1:M.getD u 0=M.getD b 0 <;> by_cases c2:M.getD v 0=M.getD b 0
 ·rw[if_pos c1,if_pos c2]
  exact⟨fun _=>.inl (c1.trans c2.symm),fun _=>rfl⟩
 ·rw[if_pos c1,if_neg c2]
  constructor
  ·intro z;exact .inr (.inr ⟨c1,z⟩)
  ·rintro (z | ⟨_,z⟩ | ⟨_,z⟩)
   ·exact absurd (z.symm.trans c1) c2
   ·exact absurd z.symm c2
   ·exact z
 ·rw[if_neg c1,if_pos c2]
  constructor
  ·intro z;exact .inr (.inl ⟨z,c2.symm⟩)
  ·rintro (z | ⟨z,_⟩ | ⟨z,_⟩)
   ·exact absurd (z.trans c2) c1
   ·exact z
   ·exact absurd z c1
 ·rw[if_neg c1,if_neg c2]
  constructor
  ·exact .inl
  ·rintro (z | ⟨_,z⟩ | ⟨z,_⟩)
   ·exact z
   ·exact absurd z.symm c2
   ·exact absurd z c1
end
end Frs
namespace L3
open PySem PySem.Spec PyProof.Rows L2
def t2 (ts:List Tie) (k:Nat):Frs.T2:=((tieAt ts k).1.toNat,(tieAt ts k).2.1.toNat)
theorem OrdOk.nodup {ts:List Tie} {os:List Nat} (h:OrdOk ts os):os.Nodup:=h.1.nodup_iff.mpr List.nodup_range
mutual
theorem Is.tbl {K:PySem.W.Frag} {H H':Hp} {p:Addr} {ps:Array Value} (e:But p H H') (hp:H p=some (.tbl ps)):∀ (d:PyData) {v:V},tupD d=true->Is K H d v->Is K H' d v
 | .none,_,_,h=>h
 | .bool _,_,_,h=>h
 | .int _,_,_,h=>h
 | .str _,_,_,h=>h
 | .tuple ds,_,t,h=>let ⟨q,vs,q1,q2,q3⟩:=h;⟨q,vs,q1,e _ _ (fun z=>by subst z;rw[hp] at q2;cases q2) q2,IsAll.tbl e hp ds t q3⟩
 | .list ds,_,t,h=>by cases t
 | .dict _,_,t,h=>by cases t
theorem IsAll.tbl {K:PySem.W.Frag} {H H':Hp} {p:Addr} {ps:Array Value} (e:But p H H') (hp:H p=some (.tbl ps)):∀ (ds:List PyData) {vs:List V},tupAll ds=true->IsAll K H ds vs->IsAll K H' ds vs
 | [],_,_,h=>h
 | d::ds,_,t,h=>by
  have t':(tupD d && tupAll ds)=true:=t
  rw[Bool.and_eq_true] at t'
  obtain⟨v,r,q1,q2,q3⟩:=h
  exact⟨v,r,q1,Is.tbl e hp d t'.1 q2,IsAll.tbl e hp ds t'.2 q3⟩
end
end L3
namespace L3
open PySem PySem.Spec PyProof.Rows L2
end L3
namespace Far
theorem Best.one {B:List Arc} (K:Keys B) {n s:Nat} {cs cs':List (Option (Int × Int))} {as as':List (Option Nat)} (h:Best B n s cs as) (h':Best B n s cs' as'):as=as':=by
 have ec:∀ v,get cs v=get cs' v:=fun v=>by
  have e:=(h.dst K v).unique (h'.dst K v)
  cases e1:get cs v with
  | none =>
   cases e2:get cs' v with
   | none=>rfl
   | some c=>rw[e1,e2] at e;cases e
  | some c =>
   cases e2:get cs' v with
   | none=>rw[e1,e2] at e;cases e
   | some d =>
    rw[e1,e2] at e
    have a:=h.small K e1
    have b:=h'.small K e2
    rw[comb_inj ⟨a.1,Int.lt_trans a.2 (by decide)⟩ ⟨b.1,Int.lt_trans b.2 (by decide)⟩ (Option.some.inj e)]
 have ea:∀ {cs cs':List (Option (Int × Int))} {as as':List (Option Nat)},Best B n s cs as->Best B n s cs' as'->(∀ v,get cs v=get cs' v)->∀ v u,get as v=some u->get as' v=some u:=fun h h' ec v u e=>by
  obtain⟨l,k,cu,m,e1,e2⟩:=h.arc v u e
  exact h'.tree K m (by rw[← ec];exact e1) (by rw[← ec];exact e2)
 refine List.ext_getElem? fun v=>?_
 by_cases hv:v < n
 ·have g:get as v=get as' v:=by
   cases e1:get as v with
   | some u=>exact (ea h h' ec v u e1).symm
   | none =>
    cases e2:get as' v with
    | none=>rfl
    | some u=>rw[ea h' h (fun v=>(ec v).symm) v u e2] at e1;cases e1
  have l1:=h.alen
  have l2:=h'.alen
  unfold get at g
  rw[List.getD_eq_getElem?_getD,List.getD_eq_getElem?_getD,List.getElem?_eq_getElem (by omega),List.getElem?_eq_getElem (by omega)] at g
  rw[List.getElem?_eq_getElem (by omega),List.getElem?_eq_getElem (by omega)]
  exact congrArg some g
 ·rw[List.getElem?_eq_none (by have:=h.alen;omega),List.getElem?_eq_none (by have:=h'.alen;omega)]
end Far
namespace L3
open PySem PySem.Spec PyProof.Rows L2
section
variable {n:Int} {ts:List Tie}
end
end L3
namespace L2
open PySem PySem.Spec PyProof.Rows
section
variable {X:Cx} {k v:Expr} {pos:Pos} {tk tv:TE}
end
end L2
namespace HT
open PySem PyProof.Rows
open Sem (wp)
section
variable {prog:Program} {w:World} {A:Around} {E:Value->Shared->Prop} {s:Shared}
end
end HT
namespace L3
open PySem PySem.Spec PyProof.Rows L2
end L3
namespace L3
open PySem PySem.Spec PyProof.Rows L2
def PapV (H:Hp) (lo hi m:Nat) (v:V):Prop:=∃ p xs,v=.ref p∧H p=some (.tup xs)∧xs.length≤m∧∀ u ∈ xs,RowV lo hi H u
theorem PapV.tk {H H':Hp} {lo hi m:Nat} {v:V} (k:TupKeep H H') (h:PapV H lo hi m v):PapV H' lo hi m v:=let ⟨p,xs,e,e1,l,r⟩:=h;⟨p,xs,e,k _ _ e1,l,fun u hu=>(r u hu).tk k⟩
theorem Same.tk {H H':Hp} (s:Same H H'):TupKeep H H':=fun a xs e=>s _ _ e
end L3
namespace L3
open PySem PySem.Spec PyProof.Rows L2
section
variable {near kept:Nat->Nat->Option Int} {u v:Nat} {r:List (Nat × Nat)} {m:Int × Int × Int} {x y:Int}
end
/-- a web and a keep of it, a tuple or a list -/
def WKE (K:PySem.W.Frag) (H:Hp) (n:Int) (ts:List Tie) (ks:List Nat) (wv:V) (kp:Addr) (tp:Bool):Prop:=Is K H (webD n ts) wv∧WebOk n ts∧H kp=some (if tp=true then .tup (natV ks) else .lst (natV ks))∧KeepOk ts.length ks
theorem WKE.same {K:PySem.W.Frag} {H H':Hp} {n:Int} {ts:List Tie} {ks:List Nat} {wv:V} {kp:Addr} {tp:Bool} (h:WKE K H n ts ks wv kp tp) (s:Same H H'):WKE K H' n ts ks wv kp tp:=⟨Is.same s _ h.1,h.2.1,s _ _ h.2.2.1,h.2.2.2⟩
section
variable {g:TG} {tt:TT} {te:TE} {own:List Str} {js:List Nat} {σ:L2.St} {H1:Hp} {Q:VK}
end
end L3
namespace L3
open PySem PySem.Spec PyProof.Rows L2
section
variable {n:Int} {ts:List Tie} {ks:List Nat}
/-- led to the root in so few steps -/
def ledB (o:Option Int) (h m:Int):Bool:=match o with | none=>false | some x=>decide (x≤h + m)
end
section
variable {own:List Str} {js:List Nat} {g:TG} {te:TE} {σ:L2.St} {Q:VK} {H1:Hp}
end
end L3
namespace L3
open PySem PySem.Spec PyProof.Rows L2
section
variable {n:Int} {ts:List Tie}
def hN (hs:List Int) (v:Nat):Int:=hs.getD v 0
end
end L3
namespace Srt
open PySem PyProof.Rows
section
variable {prog:Program} {w:World} {A:Around} {E:Value->Shared->Prop} {s:Shared} {a:Addr}
end
end Srt
namespace L3
open PySem PySem.Spec PyProof.Rows L2
section
variable {X:Cx}
end
end L3
namespace L3
open PySem PySem.Spec PyProof.Rows L2
section
variable {n:Int} {ts:List Tie}
/-- a way, or None -/
def WyV (H:Hp) (ts:List Tie) (o:Option (List Nat)) (v:V):Prop:=(o=none∧v=.non)∨∃ t ws,o=some ws∧v=.ref t∧H t=some (.tup (natV ws))∧ws.length≤24∧linked ts ws
theorem WyV.tk {H H':Hp} {o:Option (List Nat)} {v:V} (k:TupKeep H H') (h:WyV H ts o v):WyV H' ts o v:=by
 rcases h with h | ⟨t,ws,e,e1,e2,z⟩
 ·exact .inl h
 ·exact .inr ⟨t,ws,e,e1,k _ _ e2,z⟩
theorem WyV.same {H H':Hp} {o:Option (List Nat)} {v:V} (k:Same H H') (h:WyV H ts o v):WyV H' ts o v:=h.tk fun _ _ e=>k _ _ e
def wyD:Option (List Nat)->PyData
 | none=>.none
 | some ws=>tupH (keepI ws)
theorem WyV.is {K:PySem.W.Frag} {H:Hp} {o:Option (List Nat)} {v:V} (h:WyV H ts o v):Is K H (wyD o) v:=by
 rcases h with ⟨rfl,rfl⟩ | ⟨t,ws,rfl,rfl,e2,z⟩
 ·exact rfl
 ·exact⟨t,_,rfl,e2,by rw[natV_keep];exact IsAll.ints _⟩
end
end L3
namespace L3
open PySem PySem.Spec PyProof.Rows L2
theorem isTB_self {n:Int} {ts:List Tie} (ok:WebOk n ts) {k:Nat} (hk:k < ts.length):isTB ts (tieAt ts k).1.toNat (tieAt ts k).2.1.toNat k=true:=by
 have tk:=ok.tie _ (tieAt_in hk).2
 unfold isTB
 rw[decide_eq_true (show (tieAt ts k).1=min (((tieAt ts k).1.toNat:Nat):Int) ((tieAt ts k).2.1.toNat:Nat) by omega),decide_eq_true (show (tieAt ts k).2.1=max (((tieAt ts k).1.toNat:Nat):Int) ((tieAt ts k).2.1.toNat:Nat) by omega)]
 rfl
theorem ends_one {n:Int} {ts:List Tie} (ok:WebOk n ts) {j k:Nat} (hj:j < ts.length) (hk:k < ts.length) (h1:(tieAt ts j).1=(tieAt ts k).1) (h2:(tieAt ts j).2.1=(tieAt ts k).2.1):j=k:=by
 refine tb_one ok hj hk (isTB_self ok hj) ?_
 have:=isTB_self ok hk
 rw[h1,h2];exact this
end L3
namespace L3
open PySem PySem.Spec PyProof.Rows L2
end L3
namespace Z3
open PySem
section
variable {prog:Program} {w:World} {A:Around} {E:Value->Shared->Prop} {s:Shared}
end
end Z3
namespace L3
open PySem PySem.Spec PyProof.Rows L2
end L3
namespace L3
open PySem PySem.Spec PyProof.Rows L2
def isE (ts:List Tie) (u v:Int) (k:Nat):Bool:=decide ((tieAt ts k).1=min u v) && decide ((tieAt ts k).2.1=max u v)
def lenI (ts:List Tie) (ks:List Nat) (u v:Int):Option Int:=(ks.find? (isE ts u v)).map fun k=>(tieAt ts k).2.2
section
variable {n:Int} {ts:List Tie} {ks:List Nat}
theorem isE_iff {u v:Int} {k:Nat}:isE ts u v k=true↔(tieAt ts k).1=min u v∧(tieAt ts k).2.1=max u v:=by
 unfold isE
 rw[Bool.and_eq_true,decide_eq_true_iff,decide_eq_true_iff]
theorem isE_one (ok:WebOk n ts) {u v:Int} {j k:Nat} (hj:j < ts.length) (hk:k < ts.length) (h1:isE ts u v j=true) (h2:isE ts u v k=true):j=k:=by
 obtain⟨a1,a2⟩:=isE_iff.mp h1
 obtain⟨b1,b2⟩:=isE_iff.mp h2
 exact ends_one ok hj hk (a1.trans b1.symm) (a2.trans b2.symm)
theorem arc_len (ok:WebOk n ts) (ko:KeepOk ts.length ks) {u v:Nat} {l:Int} (m:(u,v,l) ∈ arcs ts ks):lenI ts ks (u:Int) (v:Int)=some l:=by
 obtain⟨k,hk,m2⟩:=arcs_mem.mp m
 have hkl:=ko.2 k hk
 have tk:=ok.tie _ (tieAt_in hkl).2
 have c:isE ts (u:Int) (v:Int) k=true∧(tieAt ts k).2.2=l:=by
  rw[isE_iff]
  rcases arcs2_mem.mp m2 with e | e
  ·have e1:u=(tieAt ts k).1.toNat:=congrArg (·.1) e
   have e2:v=(tieAt ts k).2.1.toNat:=congrArg (·.2.1) e
   have e3:l=(tieAt ts k).2.2:=congrArg (·.2.2) e
   omega
  ·have e1:u=(tieAt ts k).2.1.toNat:=congrArg (·.1) e
   have e2:v=(tieAt ts k).1.toNat:=congrArg (·.2.1) e
   have e3:l=(tieAt ts k).2.2:=congrArg (·.2.2) e
   omega
 unfold lenI
 cases e:ks.find? (isE ts (u:Int) (v:Int)) with
 | none=>exact absurd c.1 (List.find?_eq_none.mp e k hk)
 | some j =>
  have:=isE_one ok (ko.2 j (List.mem_of_find?_eq_some e)) hkl (List.find?_some e) c.1
  rw[this]
  exact congrArg some c.2
/-- the sum of a row's steps -/
def stepY (ts:List Tie) (ks:List Nat) (ws:List Int) (j:Nat):Option Int:=lenI ts ks (ws.getD j 0) (ws.getD (j + 1) 0)
def sumY (ts:List Tie) (ks:List Nat) (ws:List Int):Nat->Option Int
 | 0=>some 0
 | j + 1=>(sumY ts ks ws j).bind fun x=>(stepY ts ks ws j).map fun l=>x + l
def rightI (n:Int) (ts:List Tie) (ks:List Nat) (ws:List Int):Option Int:=if (ws≠[]∧ws.Nodup)∧ws.all (fun i=>decide (0≤i) && decide (i < n))=true then sumY ts ks ws (ws.length - 1) else none
theorem sumY_ext {ws ws':List Int}:∀ {j:Nat},(∀ i,i≤j->ws.getD i 0=ws'.getD i 0)->sumY ts ks ws j=sumY ts ks ws' j
 | 0,_=>rfl
 | j + 1,h=>by
  have e:stepY ts ks ws j=stepY ts ks ws' j:=by unfold stepY;rw[h j (by omega),h (j + 1) (Nat.le_refl _)]
  rw[sumY,sumY,sumY_ext fun i hi=>h i (by omega),e]
theorem tr_sum (ok:WebOk n ts) (ko:KeepOk ts.length ks) {a b:Nat} {ws:List Nat} {x:Int} (h:Far.Tr (arcs ts ks) a ws b x):sumY ts ks (keepI ws) (ws.length - 1)=some x:=by
 induction h with
 | one=>rfl
 | @snoc ws u v x l t m ih =>
  obtain⟨r,er⟩:=tr_last t
  have lw:ws.length=r.length + 1:=by rw[er,List.length_append];rfl
  have ek:keepI (ws++[v])=keepI ws++[(v:Int)]:=by unfold keepI;rw[List.map_append];rfl
  have lk:(keepI ws).length=ws.length:=by unfold keepI;rw[List.length_map]
  have e1:sumY ts ks (keepI (ws++[v])) r.length=some x:=by
   rw[← ih,show ws.length - 1=r.length by omega]
   refine sumY_ext fun i hi=>?_
   rw[ek,List.getD_eq_getElem?_getD,List.getD_eq_getElem?_getD,List.getElem?_append_left (by omega)]
  have e2:stepY ts ks (keepI (ws++[v])) r.length=some l:=by
   unfold stepY
   have g1:(keepI (ws++[v])).getD r.length 0=(u:Int):=by
    rw[ek,List.getD_eq_getElem?_getD,List.getElem?_append_left (by omega),er]
    unfold keepI
    rw[List.map_append,List.getElem?_append_right (by rw[List.length_map];exact Nat.le_refl _),List.length_map,Nat.sub_self];rfl
   have g2:(keepI (ws++[v])).getD (r.length + 1) 0=(v:Int):=by
    rw[ek,List.getD_eq_getElem?_getD,List.getElem?_append_right (by omega),lk,lw,Nat.sub_self];rfl
   rw[g1,g2]
   exact arc_len ok ko m
  rw[List.length_append,List.length_singleton,Nat.add_sub_cancel,lw,sumY,e1,Option.bind_some,e2];rfl
theorem right_way (ok:WebOk n ts) (ko:KeepOk ts.length ks) {a b:Nat} {ws:List Nat} {x:Int} (ha:a < n.toNat) (m:Far.MinW (arcsB ts ks) a b ws) (t:Far.Tr (arcs ts ks) a ws b x):rightI n ts ks (keepI ws)=some x:=by
 unfold rightI
 have nd:=m.nodup
 have ins:∀ u ∈ ws,u < n.toNat:=by
  clear m nd
  induction t with
  | one=>intro u hu;rw[List.mem_singleton.mp hu];exact ha
  | @snoc ws u v x l t m ih =>
   intro y hy
   rcases List.mem_append.mp hy with z | z
   ·exact ih y z
   ·rw[List.mem_singleton.mp z]
    exact (arcs_in ok ko u v l m).2
 have ne:keepI ws≠[]:=by
  intro e
  unfold keepI at e
  have:ws=[]:=List.map_eq_nil_iff.mp e
  obtain⟨r,er⟩:=tr_last t
  rw[this] at er
  simp at er
 have nd2:(keepI ws).Nodup:=by
  unfold keepI
  rw[List.Nodup,List.pairwise_map]
  exact nd.imp fun z y=>z (by omega)
 have al:(keepI ws).all (fun i=>decide (0≤i) && decide (i < n))=true:=by
  rw[List.all_eq_true]
  intro i hi
  unfold keepI at hi
  obtain⟨u,hu,rfl⟩:=List.mem_map.mp hi
  have:=ins u hu
  rw[Bool.and_eq_true,decide_eq_true_iff,decide_eq_true_iff]
  omega
 have lk:(keepI ws).length=ws.length:=by unfold keepI;rw[List.length_map]
 rw[if_pos ⟨⟨ne,nd2⟩,al⟩,lk]
 exact tr_sum ok ko t
noncomputable def wyK (ts:List Tie) (ks:List Nat) (a b:Nat):Option (List Nat):=@dite _ (∃ ws,Far.MinW (arcsB ts ks) a b ws) (Classical.propDecidable _) (fun h=>some (Classical.choose h)) (fun _=>none)
theorem WayM.v {H:Hp} {a b:Nat} {v:V} (h:WayM H ts ks a b v):WayV H (arcs ts ks) a b v:=by
 rcases h with h | ⟨t,ws,x,e,e1,l,m,tr,d⟩
 ·exact .inl h
 ·exact .inr ⟨t,ws,x,e,e1,l,tr,d⟩
noncomputable def dK (ts:List Tie) (ks:List Nat) (u v:Nat):Option Int:=Classical.epsilon fun o=>Far.Dst (arcs ts ks) u v o
noncomputable def dKL (n:Int) (ts:List Tie) (ks:List Nat) (u:Nat):List (Option Int):=(List.range n.toNat).map fun v=>dK ts ks u v
/-- heights of a tie -/
noncomputable def htK (n:Int) (ts:List Tie) (ks:List Nat) (t:Int) (k:Nat):List Int:=(dKL n ts ks (tieAt ts k).1.toNat).map (capO (t * (tieAt ts k).2.2 + 1))
end
def winK (ts:List Tie) (ks:List Nat) (t:Int) (k:Nat):Prop:=withinB t (tieAt ts k).2.2 (gO ts ks k)=true
noncomputable def wyT (ts:List Tie) (ks:List Nat) (k:Nat):Option (List Nat):=wyK ts ks (tieAt ts k).1.toNat (tieAt ts k).2.1.toNat
/-- the first that is too far -/
def FirstOut (ts:List Tie) (ks:List Nat) (t:Int) (i k:Nat):Prop:=(outs ts.length ks)[i]?=some k∧¬ winK ts ks t k∧∀ j k',j < i->(outs ts.length ks)[j]?=some k'->winK ts ks t k'
theorem FirstOut.one {ts:List Tie} {ks:List Nat} {t:Int} {i k i' k':Nat} (h:FirstOut ts ks t i k) (h':FirstOut ts ks t i' k'):k=k':=by
 rcases Nat.lt_trichotomy i i' with z | z | z
 ·exact absurd (h'.2.2 i k z h.1) h.2.1
 ·subst z
  exact Option.some.inj (h.1.symm.trans h'.1)
 ·exact absurd (h.2.2 i' k' z h'.1) h'.2.1
inductive TdD (n:Int) (ts:List Tie) (ks:List Nat) (t:Int):PyData->Prop
 | keeps:allIn ts ks t->TdD n ts ks t (.tuple [.str "keeps",.tuple ((outs ts.length ks).map fun k=>wyD (wyT ts ks k))])
 | far {i k:Nat}:FirstOut ts ks t i k->TdD n ts ks t (.tuple [.str "far",.int (k:Int),tupH (htK n ts ks t k)])
theorem FirstOut.not {ts:List Tie} {ks:List Nat} {t:Int} {i k:Nat} (h:FirstOut ts ks t i k):¬ allIn ts ks t:=fun a=>h.2.1 (a k (List.mem_of_getElem? h.1))
theorem TdD.one {n:Int} {ts:List Tie} {ks:List Nat} {t:Int} {d d':PyData} (h:TdD n ts ks t d) (h':TdD n ts ks t d'):d=d':=by
 cases h with
 | keeps a =>
  cases h' with
  | keeps _=>rfl
  | far f=>exact absurd a f.not
 | far f =>
  cases h' with
  | keeps a=>exact absurd a f.not
  | far f'=>rw[f.one f']
end L3
namespace L3
open PySem PySem.Spec PyProof.Rows L2
/-- a list of pairs -/
def PairsL (H:Hp) (xs ys zs:List V) (m:Nat):Prop:=zs.length=m∧∀ (j:Nat) (z:V),zs[j]?=some z->∃ (T:Addr) (x y:V),z=V.ref T∧xs[j]?=some x∧ys[j]?=some y∧H T=some (.tup [x,y])
theorem PairsL.tk {H H':Hp} {xs ys zs:List V} {m:Nat} (k:TupKeep H H') (h:PairsL H xs ys zs m):PairsL H' xs ys zs m:=⟨h.1,fun j z e=>let ⟨T,x,y,a,b,c,d⟩:=h.2 j z e;⟨T,x,y,a,b,c,k _ _ d⟩⟩
section
variable {X:Cx} {pins:List (Addr × Obj)} {σ:L2.St}
end
end L3
namespace L3
open PySem PySem.Spec PyProof.Rows L2
end L3
namespace L3
open PySem PySem.Spec PyProof.Rows L2
section
variable {n:Int} {ts:List Tie} {ks:List Nat}
end
end L3
namespace L3
open PySem PySem.Spec PyProof.Rows L2
section
variable {X:Cx}
end
end L3
namespace L3
open PySem PySem.Spec PyProof.Rows L2
def leadsI (n:Int) (ts:List Tie) (ks:List Nat) (a b:Int) (ws:List Int):Bool:=(rightI n ts ks ws).isSome && (decide (ws.getD 0 0=a) && decide (ws.getD (ws.length - 1) 0=b))
def goodW (n:Int) (ts:List Tie) (ks:List Nat) (t:Int) (k:Nat) (ws:List Int):Bool:=leadsI n ts ks (tieAt ts k).1 (tieAt ts k).2.1 ws && decide ((rightI n ts ks ws).getD 0≤t * (tieAt ts k).2.2)
def beyondI (n:Int) (ts:List Tie) (ks:List Nat) (t:Int) (k:Nat) (hs:List Int):Bool:=holdB n ts ks hs && decide (acrossI ts hs k > t * (tieAt ts k).2.2)
def waysB (n:Int) (ts:List Tie) (ks:List Nat) (t:Int) (W:List (List Int)):Bool:=decide (W.length=(outs ts.length ks).length) && (List.range (outs ts.length ks).length).all fun i=>goodW n ts ks t ((outs ts.length ks).getD i 0) (W.getD i [])
def farB (n:Int) (ts:List Tie) (ks:List Nat) (t:Int) (k:Int) (hs:List Int):Bool:=(decide (0≤k) && decide (k < (ts.length:Int))) && (!decide (k.toNat ∈ ks) && beyondI n ts ks t k.toNat hs)
inductive Ppr where
 | keeps (W:List (List Int)):Ppr
 | far (k:Int) (hs:List Int):Ppr
def Ppr.d:Ppr->PyData
 | .keeps W=>.tuple [.str "keeps",.tuple (W.map tupH)]
 | .far k hs=>.tuple [.str "far",.int k,tupH hs]
def Ppr.ok:Ppr->Prop
 | .keeps W=>W.length≤1000∧∀ ws ∈ W,ws.length≤40
 | .far _ hs=>hs.length≤1000
def Ppr.right (n:Int) (ts:List Tie) (ks:List Nat) (t:Int):Ppr->Bool
 | .keeps W=>waysB n ts ks t W
 | .far k hs=>farB n ts ks t k hs
end L3
namespace L3
open PySem PySem.Spec PyProof.Rows L2
def Cnt (M:List Nat) (m:Nat):Prop:=∃ ms:List Nat,ms.Nodup∧(∀ x,x ∈ ms↔x ∈ M)∧ms.length=m
theorem Cnt.one {M:List Nat} {m m':Nat} (h:Cnt M m) (k:Cnt M m'):m=m':=by
 obtain⟨ms,n1,e1,rfl⟩:=h
 obtain⟨ms',n2,e2,rfl⟩:=k
 exact ((List.perm_ext_iff_of_nodup n1 n2).mpr fun x=>(e1 x).trans (e2 x).symm).length_eq
theorem Cnt.range (n:Nat):Cnt (List.range n) n:=⟨List.range n,List.nodup_range,fun _=>Iff.rfl,List.length_range⟩
theorem Cnt.join {M:List Nat} {m p q:Nat} (h:Cnt M m) (hp:p ∈ M) (hq:q ∈ M) (ne:p≠q):1≤m∧Cnt (Frs.join M p q) (m - 1):=by
 obtain⟨ms,n1,e1,rfl⟩:=h
 have hqs:=(e1 q).mpr hq
 refine⟨List.length_pos_iff.mpr (List.ne_nil_of_mem hqs),ms.erase q,n1.erase q,fun x=>?_,List.length_erase_of_mem hqs⟩
 rw[n1.mem_erase_iff,e1]
 unfold Frs.join
 rw[List.mem_map]
 constructor
 ·rintro ⟨h1,h2⟩
  exact⟨x,h2,if_neg h1⟩
 ·rintro ⟨y,h1,h2⟩
  by_cases c:y=q
  ·rw[if_pos c] at h2;subst h2;exact⟨ne,hp⟩
  ·rw[if_neg c] at h2;subst h2;exact⟨c,h1⟩
theorem Cnt.set {M:List Nat} {m:Nat} (h:Cnt M m):HT.setN (keepI M) (keepI M).length=m:=by
 obtain⟨ms,n1,e1,rfl⟩:=h
 obtain⟨h1,h2⟩:=firstMet_nodup (fun i=>(keepI M).getD i 0) (keepI M).length
 rw[L3.range_getD (keepI M) 0] at h2
 have nd:(keepI ms).Nodup:=by
  unfold keepI
  rw[List.Nodup,List.pairwise_map]
  exact n1.imp fun ne z=>ne (by omega)
 have e:((firstMet (fun i=>(keepI M).getD i 0) (keepI M).length)).Perm (keepI ms):=(List.perm_ext_iff_of_nodup h1 nd).mpr fun x=>by
  rw[h2]
  unfold keepI
  rw[List.mem_map,List.mem_map]
  exact⟨fun ⟨y,a,b⟩=>⟨y,(e1 y).mpr a,b⟩,fun ⟨y,a,b⟩=>⟨y,(e1 y).mp a,b⟩⟩
 have:=e.length_eq
 show (firstMet (fun i=>(keepI M).getD i 0) (keepI M).length).length=ms.length
 rw[this];unfold keepI;rw[List.length_map]
theorem rev_ind {P:List Nat->Prop} (h0:P []) (h1:∀ l k,P l->P (l++[k])) (l:List Nat):P l:=by
 have:∀ l,P (List.reverse l):=fun l=>by
  induction l with
  | nil=>exact h0
  | cons k r ih=>rw[List.reverse_cons];exact h1 _ _ ih
 have:=this l.reverse
 rwa [List.reverse_reverse] at this
def TD:Nat->PyData->Prop
 | 0,d=>(∃ i,d=.int i)∨∃ x,d=.str x∧PyData.strOk x=true
 | m + 1,d=>(∃ i,d=.int i)∨(∃ x,d=.str x∧PyData.strOk x=true)∨∃ ds,d=.tuple ds∧ds.length≤100∧∀ x ∈ ds,TD m x
theorem TD.int (m:Nat) (i:Int):TD m (.int i):=by cases m <;> exact .inl ⟨i,rfl⟩
theorem TD.str (m:Nat) {x:Str} (h:PyData.strOk x=true):TD m (.str x):=by
 cases m with
 | zero=>exact .inr ⟨x,rfl,h⟩
 | succ m=>exact .inr (.inl ⟨x,rfl,h⟩)
theorem TD.up:∀ {m:Nat} {d:PyData},TD m d->TD (m + 1) d
 | 0,d,h=>h.elim (fun ⟨i,e⟩=>.inl ⟨i,e⟩) fun ⟨x,e⟩=>.inr (.inl ⟨x,e⟩)
 | m + 1,d,h=>h.elim .inl fun h=>.inr (h.elim .inl fun ⟨ds,e,l,a⟩=>.inr ⟨ds,e,l,fun x hx=>TD.up (a x hx)⟩)
theorem TD.mono {m m':Nat} {d:PyData} (h:TD m d) (le:m≤m'):TD m' d:=by
 obtain⟨j,rfl⟩:=Nat.exists_eq_add_of_le le
 clear le
 induction j with
 | zero=>exact h
 | succ j ih=>exact ih.up
theorem TD.ints (m:Nat) {hs:List Int} (h:hs.length≤100):TD (m + 1) (.tuple (hs.map .int)):=.inr (.inr ⟨_,rfl,by rw[List.length_map];exact h,fun x hx=>by
 obtain⟨i,_,rfl⟩:=List.mem_map.mp hx
 exact TD.int _ _⟩)
theorem TD.all {m:Nat} {ds:List PyData} (h:TD (m + 1) (.tuple ds)):ds.length≤100∧∀ x ∈ ds,TD m x:=by
 rcases h with ⟨i,e⟩ | ⟨x,e,_⟩ | ⟨ds',e,l,a⟩
 ·cases e
 ·cases e
 ·cases e;exact⟨l,a⟩
theorem TD.none {m:Nat}:¬ TD m .none:=by
 cases m with
 | zero=>rintro (⟨i,e⟩ | ⟨x,e,_⟩) <;> cases e
 | succ m=>rintro (⟨i,e⟩ | ⟨x,e,_⟩ | ⟨ds,e,_⟩) <;> cases e
theorem TD.bool {m:Nat} {b:Bool}:¬ TD m (.bool b):=by
 cases m with
 | zero=>rintro (⟨i,e⟩ | ⟨x,e,_⟩) <;> cases e
 | succ m=>rintro (⟨i,e⟩ | ⟨x,e,_⟩ | ⟨ds,e,_⟩) <;> cases e
theorem TD.list {m:Nat} {ds:List PyData}:¬ TD m (.list ds):=by
 cases m with
 | zero=>rintro (⟨i,e⟩ | ⟨x,e,_⟩) <;> cases e
 | succ m=>rintro (⟨i,e⟩ | ⟨x,e,_⟩ | ⟨ds,e,_⟩) <;> cases e
theorem TD.dict {m:Nat} {ds:List (PyData × PyData)}:¬ TD m (.dict ds):=by
 cases m with
 | zero=>rintro (⟨i,e⟩ | ⟨x,e,_⟩) <;> cases e
 | succ m=>rintro (⟨i,e⟩ | ⟨x,e,_⟩ | ⟨ds,e,_⟩) <;> cases e
theorem tup_all:∀ {ds:List PyData},(∀ x ∈ ds,tupD x=true)->tupAll ds=true
 | [],_=>rfl
 | d::r,h=>by
  show (tupD d && tupAll r)=true
  rw[h d List.mem_cons_self,tup_all fun x hx=>h x (List.mem_cons_of_mem _ hx)];rfl
theorem TD.tup:∀ {m:Nat} {d:PyData},TD m d->tupD d=true
 | 0,d,h=>by rcases h with ⟨i,rfl⟩ | ⟨x,rfl,e⟩ <;> rfl
 | m + 1,d,h=>by
  rcases h with ⟨i,rfl⟩ | ⟨x,rfl,e⟩ | ⟨ds,rfl,_,a⟩
  ·rfl
  ·rfl
  ·exact tup_all fun x hx=>(a x hx).tup
def both:Option Int->Option Int->Option Int
 | some x,some y=>some (if y < x then y else x)
 | _,_=>none
end L3
namespace L3
open PySem PySem.Spec PyProof.Rows L2
section
variable {n:Int} {ts:List Tie} {ks ks':List Nat} {t:Int}
end
def behB (ks:List Nat) (k:Nat):Bool:=ks.all fun j=>decide (j < k)
def szN (m:Nat):Nat->List (List Nat)
 | 0=>[[]]
 | r + 1=>(szN m r).flatMap fun ks=>((List.range m).filter (behB ks)).map fun k=>ks++[k]
theorem sz_ok {m:Nat}:∀ {r:Nat} {ks:List Nat},ks ∈ szN m r->KeepOk m ks∧ks.length=r
 | 0,ks,h=>by
  rw[List.mem_singleton.mp h];exact⟨⟨.nil,fun k h=>by cases h⟩,rfl⟩
 | r + 1,ks,h=>by
  obtain⟨ls,hl,h⟩:=List.mem_flatMap.mp h
  obtain⟨k,hk,rfl⟩:=List.mem_map.mp h
  obtain⟨h1,h2⟩:=List.mem_filter.mp hk
  obtain⟨ko,e⟩:=sz_ok hl
  have hb:∀ j ∈ ls,j < k:=fun j hj=>of_decide_eq_true (List.all_eq_true.mp h2 j hj)
  refine⟨⟨List.pairwise_append.mpr ⟨ko.1,List.pairwise_singleton _ _,fun a ha b hb'=>by rw[List.mem_singleton.mp hb'];exact hb a ha⟩,fun j hj=>?_⟩,by rw[List.length_append,e];rfl⟩
  rcases List.mem_append.mp hj with z | z
  ·exact ko.2 j z
  ·rw[List.mem_singleton.mp z];exact List.mem_range.mp h1
theorem sz_all {m:Nat} (ks:List Nat):KeepOk m ks->ks ∈ szN m ks.length:=by
 refine rev_ind (P:=fun ks=>KeepOk m ks->ks ∈ szN m ks.length) (fun _=>List.mem_singleton.mpr rfl) (fun l k ih h=>?_) ks
 have pw:=List.pairwise_append.mp h.1
 have kl:KeepOk m l:=⟨pw.1,fun j hj=>h.2 j (List.mem_append_left _ hj)⟩
 rw[List.length_append]
 refine List.mem_flatMap.mpr ⟨l,ih kl,List.mem_map.mpr ⟨k,List.mem_filter.mpr ⟨List.mem_range.mpr (h.2 k (List.mem_append_right _ List.mem_cons_self)),?_⟩,rfl⟩⟩
 exact List.all_eq_true.mpr fun j hj=>decide_eq_true (pw.2.2 j hj k List.mem_cons_self)
/-- the first near one -/
def IsFst (ts:List Tie) (t:Int) (ks:List Nat):Prop:=∃ r i:Nat,(szN ts.length r)[i]?=some ks∧allIn ts ks t∧(∀ (j:Nat) (ks':List Nat),j < i->(szN ts.length r)[j]?=some ks'->¬ allIn ts ks' t)∧∀ (r':Nat) (ks':List Nat),r' < r->ks' ∈ szN ts.length r'->¬ allIn ts ks' t
section
variable {n:Int} {ts:List Tie} {t:Int} {ks ks':List Nat}
theorem IsFst.one (h:IsFst ts t ks) (h':IsFst ts t ks'):ks=ks':=by
 obtain⟨r,i,e,a,b,c⟩:=h
 obtain⟨r',i',e',a',b',c'⟩:=h'
 rcases Nat.lt_trichotomy r r' with z | z | z
 ·exact absurd a (c' r ks z (List.mem_of_getElem? e))
 ·subst z
  rcases Nat.lt_trichotomy i i' with y | y | y
  ·exact absurd a (b' i ks y e)
  ·subst y;exact Option.some.inj (e.symm.trans e')
  ·exact absurd a' (b i' ks' y e')
 ·exact absurd a' (c r' ks' z (List.mem_of_getElem? e'))
theorem IsFst.ok (h:IsFst ts t ks):KeepOk ts.length ks∧allIn ts ks t:=let ⟨_,_,e,a,_⟩:=h;⟨(sz_ok (List.mem_of_getElem? e)).1,a⟩
theorem IsFst.least (h:IsFst ts t ks) (ko:KeepOk ts.length ks') (a:allIn ts ks' t):ks.length≤ks'.length:=by
 obtain⟨r,i,e,_,_,c⟩:=h
 have l:=(sz_ok (List.mem_of_getElem? e)).2
 rcases Nat.lt_or_ge ks'.length ks.length with z | z
 ·exact absurd a (c ks'.length ks' (by omega) (sz_all ks' ko))
 ·exact z
end
end L3
namespace L3
open PySem PySem.Spec PyProof.Rows L2
section
variable {n:Int} {ts:List Tie} {t:Int} {ks:List Nat}
theorem along_eqF (ok:WebOk n ts) (ko:KeepOk ts.length ks) {a b:Nat} {ws S:List Nat} {x y:Int} (r:Far.Rt (arcsB ts ks) a ws S b x y):alongN ts ws=S:=by
 have hl:=r.len
 refine List.ext_getElem? fun i=>?_
 unfold alongN
 rw[List.getElem?_map]
 by_cases hi:i < S.length
 ·obtain⟨u,v,l,eu,ev,m⟩:=r.step (i:=i) (k:=S[i]) (List.getElem?_eq_getElem hi)
  rw[List.getElem?_range (by omega),List.getElem?_eq_getElem hi]
  show some ((tbN ts (ws.getD i 0) (ws.getD (i + 1) 0)).getD 0)=some S[i]
  rw[List.getD_eq_getElem?_getD,eu,List.getD_eq_getElem?_getD,ev]
  show some ((tbN ts u v).getD 0)=some S[i]
  rw[tb_arcB ok ko m];rfl
 ·rw[List.getElem?_eq_none (l:=List.range (ws.length - 1)) (by rw[List.length_range];omega),List.getElem?_eq_none (by omega)];rfl
theorem rt_walk {ks':List Nat} {a b:Nat} {ws S:List Nat} {x y:Int} (r:Far.Rt (arcsB ts ks) a ws S b x y):(∀ k ∈ S,k ∈ ks')->Far.Walk (arcs ts ks') a b x:=by
 induction r with
 | one=>exact fun _=>.nil
 | snoc _ m _ ih =>
  intro h
  obtain⟨j,hj,m'⟩:=arcsB_mem.mp m
  refine .snoc (ih fun k hk=>h k (List.mem_append_left _ hk)) (arcs_mem.mpr ⟨j,?_,?_⟩)
  ·have:=h _ (List.mem_append_right _ List.mem_cons_self)
   rcases arcs2B_mem.mp m' with e | e <;> cases e <;> exact this
  ·rcases arcs2B_mem.mp m' with e | e <;> cases e
   ·exact arcs2_mem.mpr (.inl rfl)
   ·exact arcs2_mem.mpr (.inr rfl)
/-- the way of a tie that is within: its ties, its length -/
structure WayIn (n:Int) (ts:List Tie) (ks:List Nat) (t:Int) (k:Nat) (ws:List Nat):Prop where
 way:wyT ts ks k=some ws
 few:ws.length≤24
 min:Far.MinW (arcsB ts ks) (tieAt ts k).1.toNat (tieAt ts k).2.1.toNat ws
 tr:∃ y,Far.Tr (arcs ts ks) (tieAt ts k).1.toNat ws (tieAt ts k).2.1.toNat y∧y≤t * (tieAt ts k).2.2
theorem WayIn.sub {k:Nat} {ws:List Nat} (ok:WebOk n ts) (ko:KeepOk ts.length ks) (h:WayIn n ts ks t k ws):∀ e ∈ alongN ts ws,e ∈ ks:=by
 obtain⟨S,x,y,r,_⟩:=h.min
 exact along_in ok ko r
/-- a way that none of the fallen lies on stands -/
theorem WayIn.stands {k:Nat} {ws:List Nat} {ks':List Nat} (ok:WebOk n ts) (ko:KeepOk ts.length ks) (ko':KeepOk ts.length ks') (h:WayIn n ts ks t k ws) (s:∀ e ∈ alongN ts ws,e ∈ ks'):winK ts ks' t k:=by
 obtain⟨S,x,y,r,_⟩:=h.min
 rw[along_eqF ok ko r] at s
 have wk:=rt_walk r s
 obtain⟨z,tr,le⟩:=h.tr
 have tr':=r.tr
 rw[arcsF_eq] at tr'
 have e1:=(tr_wl ok ko tr).1
 have e2:=(tr_wl ok ko tr').1
 have d:=gO_dst ok ko' k
 obtain⟨u,eu,lu⟩:=d.2 _ wk
 unfold winK
 rw[eu]
 exact decide_eq_true (show u≤t * (tieAt ts k).2.2 by omega)
end
section
variable {n:Int} {ts:List Tie} {t:Int} {ks:List Nat} {k:Nat}
mutual
theorem is_tk {K:PySem.W.Frag} {H H':Hp} (e:TupKeep H H'):∀ (d:PyData) {v:V},tupD d=true->Is K H d v->Is K H' d v
 | .none,_,_,h=>h
 | .bool _,_,_,h=>h
 | .int _,_,_,h=>h
 | .str _,_,_,h=>h
 | .tuple ds,_,t,h=>let ⟨q,vs,q1,q2,q3⟩:=h;⟨q,vs,q1,e _ _ q2,isall_tk e ds t q3⟩
 | .list ds,_,t,h=>by cases t
 | .dict _,_,t,h=>by cases t
theorem isall_tk {K:PySem.W.Frag} {H H':Hp} (e:TupKeep H H'):∀ (ds:List PyData) {vs:List V},tupAll ds=true->IsAll K H ds vs->IsAll K H' ds vs
 | [],_,_,h=>h
 | d::ds,_,t,h=>by
  have t':(tupD d && tupAll ds)=true:=t
  rw[Bool.and_eq_true] at t'
  obtain⟨v,r,q1,q2,q3⟩:=h
  exact⟨v,r,q1,is_tk e d t'.1 q2,isall_tk e ds t'.2 q3⟩
end
end
end L3
namespace L3
open PySem PySem.Spec PyProof.Rows L2
section
variable {X:Cx}
end
end L3
namespace L3
open PySem PySem.Spec PyProof.Rows L2
theorem tr_endsF {A:List Far.Arc} {a b:Nat} {ws:List Nat} (m:Far.MinW A a b ws):(keepI ws).getD 0 0=(a:Int)∧(keepI ws).getD ((keepI ws).length - 1) 0=(b:Int):=by
 obtain⟨S0,x0,y0,rt,_⟩:=m
 obtain⟨q0,eq0⟩:=rt.head
 obtain⟨q9,eq9⟩:=rt.foot
 constructor
 ·rw[eq0];rfl
 ·have l9:(keepI ws).length=q9.length + 1:=by unfold keepI;rw[List.length_map,eq9,List.length_append,List.length_singleton]
  rw[l9,Nat.add_sub_cancel,List.getD_eq_getElem?_getD]
  unfold keepI
  rw[List.getElem?_map,eq9,List.getElem?_append_right (Nat.le_refl _),Nat.sub_self];rfl
section
variable {n:Int} {ts:List Tie} {t:Int} {ks:List Nat} {k:Nat}
theorem WayIn.good {ws:List Nat} (ok:WebOk n ts) (ko:KeepOk ts.length ks) (kl:k < ts.length) (h:WayIn n ts ks t k ws):∃ y,rightI n ts ks (keepI ws)=some y∧y≤t * (tieAt ts k).2.2∧leadsI n ts ks (tieAt ts k).1 (tieAt ts k).2.1 (keepI ws)=true:=by
 have tk:=ok.tie _ (tieAt_in kl).2
 obtain⟨y,tr,le⟩:=h.tr
 have er:=right_way ok ko (by omega) h.min tr
 refine⟨y,er,le,?_⟩
 obtain⟨h1,h2⟩:=tr_endsF h.min
 unfold leadsI
 rw[er,h1,h2,Int.toNat_of_nonneg (by omega),Int.toNat_of_nonneg (by omega)]
 simp
theorem filt_one {ts:List Tie} {f:Nat->Bool} {l:List Nat} {x:Nat} (nd:l.Nodup) (hx:x ∈ l) (fx:f x=true) (u:∀ y ∈ l,f y=true->y=x):l.filter f=[x]:=by
 induction l with
 | nil=>cases hx
 | cons a r ih =>
  obtain⟨na,nr⟩:=List.nodup_cons.mp nd
  by_cases c:f a=true
  ·have e:=u a List.mem_cons_self c
   subst e
   rw[List.filter_cons,if_pos c,List.filter_eq_nil_iff.mpr fun y hy fy=>na (by rw[← u y (List.mem_cons_of_mem _ hy) fy];exact hy)]
  ·rw[List.filter_cons,if_neg c]
   refine ih nr ?_ fun y hy=>u y (List.mem_cons_of_mem _ hy)
   rcases List.mem_cons.mp hx with rfl | z
   ·exact absurd fx c
   ·exact z
/-- the kept ties that fit a way's step: one -/
theorem WayIn.step {ws:List Nat} (ok:WebOk n ts) (ko:KeepOk ts.length ks) (h:WayIn n ts ks t k ws) {j e:Nat} (he:(alongN ts ws)[j]?=some e):ks.filter (isE ts ((keepI ws).getD j 0) ((keepI ws).getD (j + 1) 0))=[e]:=by
 obtain⟨S,x,y,r,_⟩:=h.min
 rw[along_eqF ok ko r] at he
 obtain⟨u,v,l,eu,ev,m⟩:=r.step he
 have gu:(keepI ws).getD j 0=(u:Int):=by rw[List.getD_eq_getElem?_getD];unfold keepI;rw[List.getElem?_map,eu];rfl
 have gv:(keepI ws).getD (j + 1) 0=(v:Int):=by rw[List.getD_eq_getElem?_getD];unfold keepI;rw[List.getElem?_map,ev];rfl
 rw[gu,gv]
 have nd:ks.Nodup:=ko.1.imp fun h=>Nat.ne_of_lt h
 have isE_arc:∀ {i:Nat},i ∈ ks->(isE ts (u:Int) (v:Int) i=true↔(u,v,(tieAt ts i).2.2,i) ∈ arcs2B (tieAt ts i) i):=fun {i} hi=>by
  have ti:=ok.tie _ (tieAt_in (ko.2 i hi)).2
  unfold isE
  rw[Bool.and_eq_true,decide_eq_true_iff,decide_eq_true_iff,arcs2B_mem]
  constructor
  ·rintro ⟨h1,h2⟩
   by_cases c:(u:Int)≤v
   ·left
    have e1:(tieAt ts i).1.toNat=u:=by omega
    have e2:(tieAt ts i).2.1.toNat=v:=by omega
    rw[e1,e2]
   ·right
    have e1:(tieAt ts i).1.toNat=v:=by omega
    have e2:(tieAt ts i).2.1.toNat=u:=by omega
    rw[e1,e2]
  ·rintro (h | h)
   ·injection h with h1 h;injection h with h2 h
    constructor <;> omega
   ·injection h with h1 h;injection h with h2 h
    constructor <;> omega
 obtain⟨i,hi,mi⟩:=arcsB_mem.mp m
 have ei:i=e∧l=(tieAt ts i).2.2:=by rcases arcs2B_mem.mp mi with z | z <;> cases z <;> exact⟨rfl,rfl⟩
 obtain⟨rfl,rfl⟩:=ei
 refine filt_one (ts:=ts) nd hi ((isE_arc hi).mpr mi) fun y hy fy=>?_
 have m2:(u,v,(tieAt ts y).2.2,y) ∈ arcsB ts ks:=arcsB_mem.mpr ⟨y,hy,(isE_arc hy).mp fy⟩
 have q1:=tb_arcB ok ko m
 have q2:=tb_arcB ok ko m2
 rw[q1] at q2
 exact (Option.some.inj q2).symm
end
end L3
namespace Hx
open PySem PySem.W
/-- a statement of the top: its number, the first address and the first token it takes, the module's name (statement, token), for a class the chunk of its base -/
structure Ch where
 i:Nat
 a:Nat
 t:Nat
 j:Nat
 u:Nat
 b:Nat:=0
def stt (p:Program) (i:Nat):Stmt:=p.main.body.getD i (.Pass ⟨0,0,0,0⟩)
def fileS:Str:=Str.ofString "/claim/cut.py"
def mdV (p:Program) (c:Ch):Value:=match stt p c.j with
 | .Assign _ (.Constant (.str x) _ _) _=>.str x c.u
 | _=>.str (Str.ofString "__main__") c.u
def sT (xs:List Value):Obj:=⟨.type "tuple",none,.seq xs.toArray 0,#[]⟩
def fE (xs:List Value):Obj:=⟨.none,none,.fields xs.toArray,#[]⟩
def tks:List Str->Nat->List Value
 | [],_=>[]
 | v::r,t=>.str v t::tks r (t + 1)
def z:Value:=.int 0 0
def cdO (nm q:Str) (t:Nat) (l:Int) (na fl:Int) (k:Value) (fn:Bool) (tb vs cs tp:Value) (u:Nat):Obj :=
 ⟨.type "code",none,.fields #[.str nm t,.str q (t + 1),.str fileS (t + 2),.int l 0,.int na 0,z,z,.int fl 0,k,.bool fn,.int 181 0,tb,.none,vs,cs,tp,.int u 0,.int l 0,.str fileS (u + 1)],#[]⟩
def ent (P:Params) (s:Str) (t:Nat) (v:Value):DictEntry:=⟨PyData.keyHash P s,.str s t,v⟩
def dO (es:List DictEntry) (n:Nat):Obj:=⟨.type "dict",none,.dict es.toArray n,#[]⟩
structure Got where
 os:List Obj
 en:List DictEntry
 tb:List Value
def fO (P:Params) (md:Value) (a t:Nat) (name:Str) (args:Arguments) (body:List Stmt) (scope:Scope) (bind:Str) (pos:Pos):Got :=
 let fd:FuncData:=⟨name,bind,args,.stmts body,scope,0,[],.none,.none,.none,.none,none,.none,.none,0⟩
 let k (vs cs:Value) (b u:Nat) (h:List Obj):Got :=
  ⟨h++[⟨.none,none,.func fd,#[]⟩,cdO name bind t pos.line args.args.length 3 (.ref a) true (.ref (a + 1)) vs cs (.ref b) u,
   ⟨.type "function",none,.func ⟨name,bind,args,.stmts body,scope,3,[],.none,.none,.none,md,none,.ref (b + 1),.none,0⟩,#[]⟩],
   [ent P name (u + 2) (.ref (b + 2))],[.int pos.line 0,.int pos.col 0,.ref (b + 1)]⟩
 match localNames args scope (.stmts body) with
 | none=>k .none .none (a + 2) (t + 3) [sT [],fE []]
 | some (vs,cs)=>k (.ref (a + 2)) (.ref (a + 3)) (a + 4) (t + 3 + vs.length + cs.length) [sT [],fE [],sT (tks vs (t + 3)),sT (tks cs (t + 3 + vs.length))]
/-- the base class's address, and its bases; none: ValueError -/
def mro0:List Value:=[.type "ValueError",.type "Exception",.type "BaseException",.type "object"]
def clO (P:Params) (md:Value) (a t:Nat) (base:Option Nat) (sub:List Value) (name bind:Str) (pos:Pos):Got :=
 let l:Int:=pos.line
 let w:=base.isNone
 let C:=a + 9 - (if w then 0 else 0)
 let bs:Value:=match base with | none=>.type "ValueError" | some b=>.ref b
 let e1:=ent P (Str.ofString "__module__") (t + 7) md
 let e2:=ent P (Str.ofString "__firstlineno__") (t + 11) (.int l (t + 10))
 let e3:=ent P (Str.ofString "__static_attributes__") (t + 12) (.ref (a + 7))
 ⟨[sT [bs],⟨.type "builtin_function_or_method",none,.fields #[.builtin "type.__prepare__",.type "type"],#[]⟩,
  dO [e1,ent P (Str.ofString "__qualname__") (t + 9) (.str bind (t + 8)),e2,e3] 4,sT [],fE [],
  cdO name bind (t + 2) l 0 0 (.ref (a + 3)) false (.ref (a + 4)) .none .none .none (t + 5),
  ⟨.type "frame",none,.plain,#[some (.ref (a + 5)),some (.ref 3),some (.ref (a + 2)),none,some md,none,some (.ref 0)]⟩,sT [],
  dO (e1::e2::e3::(if w then [ent P (Str.ofString "__weakref__") (t + 14) (.ref (a + 10)),ent P (Str.ofString "__doc__") (t + 15) .none] else [ent P (Str.ofString "__doc__") (t + 13) .none])) (if w then 3 else 2),
  ⟨.type "type",none,.cls ⟨name,[bs],.ref C::(match base with | none=>mro0 | some b=>.ref b::mro0),a + 8,bind,true,[],sub,false,none,false⟩,
   #[some (.ref a),none,some (.str name t),some (.str bind (t + 8)),some (.builtin "ValueError.__new__"),some (.bool true)]⟩] ++
  (if w then [⟨.type "getset_descriptor",none,.fields #[.str (Str.ofString "__weakref__") (t + 13),.ref C,.builtin "ExceptionGroup.__weakref__",.none],#[]⟩] else []) ++
  [⟨.type "super",none,.fields #[.ref C,.ref C,.ref C],#[]⟩,⟨.type "builtin_function_or_method",none,.fields #[.builtin "object.__init_subclass__",.ref C],#[]⟩],
  [ent P name (t + (if w then 17 else 15)) (.ref C)],[.int l 0,.int pos.col 0,.ref (a + 5)]⟩
/-- what a statement leaves, where the chunks cs are behind it -/
def got (p:Program) (P:Params) (cs:List Ch) (c:Ch):Got:=match stt p c.i with
 | .FunctionDef name args body _ _ _ scope _ bind pos=>fO P (mdV p c) c.a c.t name args body scope bind pos
 | .ClassDef name _ _ _ _ _ _ _ bind _ pos=>clO P (mdV p c) c.a c.t (if c.b == 0 then none else some c.b) (cs.filterMap fun d=>if d.b == c.a + 9 then some (.ref (d.a + 9)) else none) name bind pos
 | _=>⟨[],[],[]⟩
/-- the module's name as the last statement set it -/
def nameNow (p:Program) (cs:List Ch):Option Value:=match cs.getLast? with
 | some c=>some (mdV p { c with j:=c.j,u:=c.u })
 | none=>none
def setName (P:Params) (v:Option Value):List DictEntry->List DictEntry
 | e::r=>(match v with | some v=>{ e with val:=v } | none=>e)::r
 | []=>[]
def globO (p:Program) (P:Params) (cs:List Ch) (en:List DictEntry):Obj->Obj
 | ⟨c,d,.dict es n,s⟩=>⟨c,d,.dict (setName P (nameNow p cs) es.toList++en).toArray (n + en.length),s⟩
 | o=>o
/-- the objects behind the chunks cs, where B are those of the boot -/
def objs (p:Program) (P:Params) (B:List Obj) (cs:List Ch):List Obj :=
 let gs:=cs.map (got p P cs)
 match B with
 | b0::b1::b2::b3::r=>b0::b1::b2::globO p P cs (gs.flatMap (·.en)) b3::(r++(sT []::fE (gs.flatMap (·.tb)) ::
  cdO (Str.ofString "<module>") (Str.ofString "<module>") 182 1 0 0 (.ref 11) false (.ref 12) .none .none .none 185 ::
  ⟨.type "frame",none,.plain,#[some (.ref 13),some (.ref 3),some (.ref 3),none,some (.str (Str.ofString "__main__") 164),none,some (.ref 0)]⟩::gs.flatMap (·.os)))
 | _=>[]
def spl:List Obj->List Obj × List Obj
 | []=>([],[])
 | x::r=>(x::(spl r).2,(spl r).1)
def braun:Nat->List Obj->BT
 | 0,_=>.nil
 | _ + 1,[]=>.nil
 | f + 1,o::r=>.node o (braun f (spl r).1) (braun f (spl r).2)
/-- where a piece ends: the statements behind, the next address, the next token -/
structure Cut where
 k:Nat
 n:Nat
 t:Nat
def hpT (p:Program) (B:Params->List Obj) (cs:List Ch) (c:Cut) (P:Params):Heap:=absHeap (braun 12 (objs p P (B P) (cs.take c.k))) c.n {}
def stT (p:Program) (B:Params->List Obj) (D:Drawn) (cs:List Ch) (c:Cut) (w:World) (os:OsState):SharedT :=
 ⟨braun 12 (objs p w.params (B w.params) (cs.take c.k)),c.n,{},Array.mk [],D,c.t,os⟩
def env (p:Program):Env:={ scope:=p.main.scope,locals:=mainNs,globals:=mainNs,cells:=[],code:=.ref 13,frame:=some 14 }
def cE (p:Program):Code:=.body p.main.body (env p)
def pos0:Pos:=⟨0,0,0,0⟩
def posOf (p:Program):Nat->Pos
 | 0=>pos0
 | k + 1=>match stt p k with
  | .Assign [.Name _ q] _ _=>q
  | .FunctionDef _ _ _ _ _ _ _ _ _ q=>q
  | .ClassDef _ _ _ _ _ _ _ _ _ _ q=>q
  | _=>pos0
def ann0:Option Value:=some (.ref 6)
def PieceT (p:Program) (B:Params->List Obj) (D:Drawn) (cs:List Ch) (a b:Cut) (N:Nat):Prop:=∀ w:World,
 (fun os=>segRunT treeTable p w 11 ann0 1 N (stT p B D cs a w os) (piecesOf ((p.main.body.drop a.k).take (b.k - a.k)) (env p) (cE p) (posOf p a.k) [topFrame pos0]))=fun os=>some (Flow.next,stT p B D cs b w os,cE p,posOf p b.k)
def PreT (p:Program) (B:Params->List Obj) (D:Drawn) (h:Params->Heap) (t:Nat) (cs:List Ch) (a:Cut):Prop:=∀ w:World,
 (fun os=>topGo treeTable p w 11 ann0 12 ⟨h w.params,Array.mk [],D,t,os⟩ (topStub p))=fun os=>some ((stT p B D cs a w os).abs,⟨denote treeTable (cE p),cE p,pos0,[topFrame pos0]⟩)
def BlockT (p:Program):Prop:=∀ (w:World) (s:Shared),segRun treeTable p w 11 ann0 1 1 s (blockOf p.main.body (env p) (cE p) pos0 [topFrame pos0])=some (.next,s,cE p,pos0)
noncomputable def boots (P:Params):List Obj:=[boot_o_0 P,boot_o_1 P,boot_o_2 P,boot_o_3 P,boot_o_4 P,boot_o_5 P,boot_o_6 P,boot_o_7 P,boot_o_8 P,boot_o_9 P,boot_o_10 P]
/-- the statements of the view -/
def qv (p:Program) (is:List Nat):Program:={ p with main:={ p.main with body:=is.map (stt p) } }
def nmO:Stmt->Option Str
 | .FunctionDef n ..=>some n
 | .ClassDef n ..=>some n
 | _=>none
def lz (p:Program) (is:List Nat) (n:Nat):List Str:=(List.range n).filterMap fun i=>if is.contains i then none else nmO (stt p i)
/-- what the law's run never changes: the globals, each def's code and object, each class with its names -/
def kk (a:Nat) (g:Got):List (Nat × Obj):=match g.os with
 | [_,_,_,c,f]=>[(a + 3,c),(a + 4,f)]
 | [_,_,_,_,_,c,f]=>[(a + 5,c),(a + 6,f)]
 | _::_::_::_::_::_::_::_::d::C::_=>[(a + 8,d),(a + 9,C)]
 | _=>[]
def Kf (p:Program) (B:Params->List Obj) (cs:List Ch) (P:Params):Frag :=
 let gs:=cs.map (got p P cs)
 (3,globO p P cs (gs.flatMap (·.en)) ((B P).getD 3 (sT [])))::(cs.zip gs).flatMap fun c=>kk c.1.a c.2
def LookA (p:Program) (B:Params->List Obj) (D:Drawn) (h:Params->Heap) (cs:List Ch) (c:Cut):Prop:=∀ w:World,(fun os =>
  (staticsOk (importedModules p.main.body) (h w.params) (hpT p B cs c w.params) && namesBound p (hpT p B cs c w.params) && gensDone ⟨hpT p B cs c w.params,Array.mk [],D,c.t,os⟩ && laidKept (h w.params) (hpT p B cs c w.params)))=fun _:OsState=>true
def LookB (p:Program) (B:Params->List Obj) (D:Drawn) (cs:List Ch) (c:Cut) (is:List Nat) (rc:WRecords):Prop:=∀ w:World,(fun os =>
  openSeen (qv p is) (lz p is c.k) (importedModules p.main.body) (fun s=>xlAt (qv p is) [] s && recOk rc s) true ⟨hpT p B cs c w.params,Array.mk [],D,c.t,os⟩)=fun _:OsState=>openGood (qv p is) (lz p is c.k)
def LookC (p:Program) (B:Params->List Obj) (cs:List Ch) (c:Cut) (as:List Nat):Prop:=∀ w:World,as.map (hpT p B cs c w.params).get?=(Kf p B cs w.params).map fun p=>some p.2
section
variable {p:Program} {D:Drawn} {cs:List Ch}
theorem fin_any {w:World} {s:Shared} {c:Code} {q:Pos}:topRun treeTable p w 11 ann0 2 s ⟨doneF .next,c,q,[topFrame pos0]⟩=some s:=rfl
theorem chain_end {w:World} {os:OsState} {c:Cut} (h:p.main.body.drop c.k=[]) :
  topRun treeTable p w 11 ann0 2 (stT p boots boot_drawn cs c w os).abs (restOf (p.main.body.drop c.k) (env p) (cE p) (posOf p c.k) [topFrame pos0])=some (stT p boots boot_drawn cs c w os).abs:=by
 rw[h];exact piece_nil fin_any
theorem chain {w:World} {os:OsState} {a b:Cut} {N M:Nat} {r:Shared} (h:PieceT p boots boot_drawn cs a b N) (le:a.k≤b.k)
  (k:topRun treeTable p w 11 ann0 M (stT p boots boot_drawn cs b w os).abs (restOf (p.main.body.drop b.k) (env p) (cE p) (posOf p b.k) [topFrame pos0])=some r) :
  topRun treeTable p w 11 ann0 (N + M) (stT p boots boot_drawn cs a w os).abs (restOf (p.main.body.drop a.k) (env p) (cE p) (posOf p a.k) [topFrame pos0])=some r:=by
 have e:p.main.body.drop a.k=(p.main.body.drop a.k).take (b.k - a.k)++p.main.body.drop b.k:=by
  have x:=(List.take_append_drop (b.k - a.k) (p.main.body.drop a.k)).symm
  rw[List.drop_drop,Nat.add_sub_cancel' le] at x;exact x
 rw[e];exact piece_app (segRun_of (congrFun (h w) os)) k
theorem run_all {w:World} {os:OsState} {M:Nat} {r:Shared} (pre:PreT p boots boot_drawn boot_heap boot_toks cs ⟨0,15,187⟩) (bl:BlockT p)
  (k:topRun treeTable p w 11 ann0 M (stT p boots boot_drawn cs ⟨0,15,187⟩ w os).abs (restOf (p.main.body.drop 0) (env p) (cE p) (posOf p 0) [topFrame pos0])=some r) :
  topRun treeTable p w 11 ann0 (12 + (1 + M)) ⟨boot_heap w.params,Array.mk [],boot_drawn,boot_toks,os⟩ (topStub p)=some r :=
 go_top (congrFun (pre w) os) (piece_block (bl w _) k)
theorem left_of {is as:List Nat} {rc:WRecords} {c:Cut} {M N:Nat} {e:∀ P,as=(Kf p boots cs P).map (·.1)}
  (op:opening p=plainProg p.main.scope.names) (hN:Nat.ble 600 N=true) (fe:∀ s,fenceModules? p s=some s)
  (size:∀ w:World,((boot_heap w.params).isNs mainGlobals && (Array.mk []:Array GenState).size == 0,(boot_heap w.params).objs.size,(boot_heap w.params).nsMap mainGlobals "__annotations__")=(true,11,ann0))
  (run:∀ (w:World) (os:OsState),topRun treeTable p w 11 ann0 M ⟨boot_heap w.params,Array.mk [],boot_drawn,boot_toks,os⟩ (topStub p)=some (stT p boots boot_drawn cs c w os).abs) (le:Nat.ble M N=true)
  (hA:LookA p boots boot_drawn boot_heap cs c) (hB:LookB p boots boot_drawn cs c is rc) (hC:LookC p boots cs c as) :
  LeftO p (qv p is) (lz p is c.k) (fun s=>xlAt (qv p is) [] s && recOk rc s) (Hook.obs (kHook (Kf p boots cs) as e)) (Hook.val (kHook (Kf p boots cs) as e)) N :=
 LeftO.of_pieces (H₀:=boot_heap) (H₁:=hpT p boots cs c) (boot_open op hN fe) size run le fun w=>funext fun os=>by
  have a:=congrFun (hA w) os
  have b:=congrFun (hB w) os
  have c:=hC w
  exact looks_pair a (looks_pair b c)
end
end Hx
namespace Me
open PySem PySem.Spec PyProof.Rows L2 L3
def top (i:Nat):Stmt:=PySem.Challenge.pw_thinways_k08_the_way.main.body.getD i (.Pass ⟨0,0,0,0⟩)
abbrev s_tie_weights:Stmt:=top 1
theorem sc_tie_weights:FnScope ["web","weights","weight","tie"] ["web"] (defScope s_tie_weights):=⟨rfl,rfl,rfl,by decide +kernel,rfl,by decide +kernel,by decide +kernel⟩
abbrev s_cost_with:Stmt:=top 2
theorem sc_cost_with:FnScope ["cost","length","weight"] ["cost","length","weight"] (defScope s_cost_with):=⟨rfl,rfl,rfl,by decide +kernel,rfl,by decide +kernel,by decide +kernel⟩
abbrev s_reached_from:Stmt:=top 3
theorem sc_reached_from:FnScope ["web","keep","root","weights","costs","ahead","again","tie","a","b","length","one","other","cost"] ["web","keep","root"] (defScope s_reached_from):=⟨rfl,rfl,rfl,by decide +kernel,rfl,by decide +kernel,by decide +kernel⟩
abbrev s_tree_from:Stmt:=top 4
theorem sc_tree_from:FnScope ["web","keep","root","costs","ahead"] ["web","keep","root"] (defScope s_tree_from):=⟨rfl,rfl,rfl,by decide +kernel,rfl,by decide +kernel,by decide +kernel⟩
abbrev s_the_way:Stmt:=top 5
theorem sc_the_way:FnScope ["web","keep","a","b","tree","way"] ["web","keep","a","b"] (defScope s_the_way):=⟨rfl,rfl,rfl,by decide +kernel,rfl,by decide +kernel,by decide +kernel⟩
abbrev s__law_pot:Stmt:=top 7
theorem sc__law_pot:FnScope ["script","k","cell","prime"] ["script","k"] (defScope s__law_pot):=⟨rfl,rfl,rfl,by decide +kernel,rfl,by decide +kernel,by decide +kernel⟩
abbrev s__law_take:Stmt:=top 8
theorem sc__law_take:FnScope ["pot","many","found"] ["pot","many"] (defScope s__law_take):=⟨rfl,rfl,rfl,by decide +kernel,rfl,by decide +kernel,by decide +kernel⟩
abbrev s__law_length:Stmt:=top 9
theorem sc__law_length:FnScope ["pot","way"] ["pot","way"] (defScope s__law_length):=⟨rfl,rfl,rfl,by decide +kernel,rfl,by decide +kernel,by decide +kernel⟩
abbrev s__law_tied:Stmt:=top 10
theorem sc__law_tied:FnScope ["pot","n","style","a","b","beside"] ["pot","n","style","a","b"] (defScope s__law_tied):=⟨rfl,rfl,rfl,by decide +kernel,rfl,by decide +kernel,by decide +kernel⟩
abbrev s__law_order:Stmt:=top 11
theorem sc__law_order:FnScope ["pot","many","left","found","turn"] ["pot","many"] (defScope s__law_order):=⟨rfl,rfl,rfl,by decide +kernel,rfl,by decide +kernel,by decide +kernel⟩
abbrev s__law_web:Stmt:=top 12
theorem sc__law_web:FnScope ["pot","most","n","style","way","names","ties","b","a","one","other"] ["pot","most"] (defScope s__law_web):=⟨rfl,rfl,rfl,by decide +kernel,rfl,by decide +kernel,by decide +kernel⟩
abbrev s__law_keep:Stmt:=top 13
theorem sc__law_keep:FnScope ["pot","web","way"] ["pot","web"] (defScope s__law_keep):=⟨rfl,rfl,rfl,by decide +kernel,rfl,by decide +kernel,by decide +kernel⟩
abbrev s__law_ends:Stmt:=top 14
theorem sc__law_ends:FnScope ["web","keep","place","found","number","a","b","length"] ["web","keep","place"] (defScope s__law_ends):=⟨rfl,rfl,rfl,by decide +kernel,rfl,by decide +kernel,by decide +kernel⟩
abbrev s__law_ways:Stmt:=top 15
theorem sc__law_ways:FnScope ["web","keep","start","end","found","rows","turn","longer","way","numbers","place","number"] ["web","keep","start","end"] (defScope s__law_ways):=⟨rfl,rfl,rfl,by decide +kernel,rfl,by decide +kernel,by decide +kernel⟩
abbrev s__law_first:Stmt:=top 16
theorem sc__law_first:FnScope ["web","one","other","much","many","unlike"] ["web","one","other"] (defScope s__law_first):=⟨rfl,rfl,rfl,by decide +kernel,rfl,by decide +kernel,by decide +kernel⟩
abbrev s_law:Stmt:=top 17
theorem sc_law:FnScope ["script","at","pot","web","keep","turn","one","other","found","best","way"] ["script"] (defScope s_law):=⟨rfl,rfl,rfl,by decide +kernel,rfl,by decide +kernel,by decide +kernel⟩
section
variable {P:Program} {w:World} {K:PySem.W.Frag} {mg:Str->Option Value} {base:Heap}
theorem ok__law_take (T:Bi mg) (D:DefOk K mg "_law_take" s__law_take ["pot","many"]):Ok P w K mg base 1 "_law_take" ["pot","many"] spTake:=by
 refine mk_ok (k:=0) D sc__law_take (fun vs H Q E h=>?_) (fun f cdv A outer s H vs Q E hr h=>?_)
 ·obtain⟨p,m,rfl,_⟩:=h
  rfl
 obtain⟨p,m,rfl,⟨a,b,hp,ha,hb,hb2⟩,hm,hm2,q⟩:=h
 have nd:=sc__law_take.nd
 refine⟨_,(pss_cons (ps_if (pt_cmpR op_gt (pe_ix ix_list (pv 0) pe_int (fun _ _=>rfl)) pe_int (nomark _)) (pss_cons (ps_set (i:=2) nd rfl (Or.inl rfl) (pe_op op_mod (pe_ix ix_list (pv 0) pe_int (fun _ _=>rfl)) (pv 1))) (pss_cons (ps_asg (pe_op op_fdiv (pe_ix ix_list (pv 0) pe_int (fun _ _=>rfl)) (pv 1)) (pg_sub (pv 0) pe_int set_list)) (pss_one (ps_ret (pv 2))))) pss_nil) (pss_cons (ps_asg (pe_op op_mod (pe_op op_add (pe_op op_mul (pe_ix ix_list (pv 0) pe_int (fun _ _=>rfl)) pe_int) pe_int) pe_int) (pg_sub (pv 0) pe_int set_list)) (pss_one (ps_ret (pe_op op_mod (pe_op op_fdiv (pe_op op_mod (pe_op op_pow (pe_ix ix_list (pv 0) pe_int (fun _ _=>rfl)) pe_int) pe_int) pe_int) (pv 1)))))),?_⟩
 refine⟨_,rfl,p,_,_,_,rfl,rfl,SqL.of hp,rfl,_,_,rfl,rfl,_,rfl,?_⟩
 refine ite2 (fun c=>?_) (fun c=>?_)
 ·refine⟨_,rfl,p,_,_,_,rfl,rfl,SqL.of hp,rfl,_,rfl,_,_,rfl,rfl,hm,?_⟩
  refine⟨_,rfl,p,_,_,_,rfl,rfl,SqL.of hp,rfl,_,rfl,_,_,rfl,rfl,⟨hm,hm2⟩,?_⟩
  refine⟨_,rfl,p,_,0,0,rfl,rfl,hp,rfl,_,rfl,?_⟩
  refine q _ _ (Int.emod_nonneg _ (by omega)) (Int.emod_lt_of_pos _ hm) But.upd ⟨a / m,b,upd_same,Int.ediv_nonneg ha (by omega),hb,hb2⟩
 ·refine⟨_,rfl,p,_,_,_,rfl,rfl,SqL.of hp,rfl,_,_,rfl,rfl,.inr ⟨by decide,by decide⟩,_,_,rfl,rfl,_,_,rfl,rfl,(by show (0:Int) < 2147483647;decide),?_⟩
  refine⟨_,rfl,p,_,1,1,rfl,rfl,hp,rfl,?_⟩
  have n1:0≤(b * 48271 + 12820163) % 2147483647:=Int.emod_nonneg _ (by decide)
  have n2:(b * 48271 + 12820163) % 2147483647 < 2147483647:=Int.emod_lt_of_pos _ (by decide)
  refine⟨_,rfl,p,_,_,_,rfl,rfl,SqL.of upd_same,rfl,_,_,rfl,rfl,⟨by decide,by decide,by omega⟩,_,_,rfl,rfl,(by show (0:Int) < 2147483629;decide),_,_,rfl,rfl,⟨by decide,by decide⟩,_,rfl,_,_,rfl,rfl,hm,?_⟩
  exact q _ _ (Int.emod_nonneg _ (by omega)) (Int.emod_lt_of_pos _ hm) But.upd ⟨a,_,upd_same,ha,n1,n2⟩
theorem ok__law_pot (T:Bi mg) (D:DefOk K mg "_law_pot" s__law_pot ["script","k"]):Ok P w K mg base 1 "_law_pot" ["script","k"] (spPot K):=by
 refine mk_ok (k:=0) D sc__law_pot (fun vs H Q E h=>?_) (fun f cdv A outer s H vs Q E hr h=>?_)
 ·obtain⟨a,k,ns,rfl,_⟩:=h
  rfl
 obtain⟨a,k,ns,rfl,hS,hk0,hk1,q⟩:=h
 have nd:=sc__law_pot.nd
 have hl:(ns.map V.int).length=ns.length:=List.length_map _
 refine⟨_,(pss_cons (ps_set (i:=2) nd rfl (Or.inl rfl) pe_int) (pss_cons (ps_if (pt_cmpR op_lt (pv 1) (pe_callB call_len_seq rfl T.z_len (by decide +kernel) (pa_cons (pv 0) pa_nil)) (nomark _)) (pss_one (ps_set (i:=2) nd rfl (Or.inl rfl) (pe_op op_mod (pe_ix ix_list (pv 0) (pv 1) (fun _ _=>rfl)) (pe_op op_mulB (pe_op op_mulB (pe_op op_pow pe_int pe_int) (pe_op op_pow pe_int pe_int)) (pe_op op_pow pe_int pe_int))))) pss_nil) (pss_cons (ps_set (i:=3) nd rfl (Or.inl rfl) (pe_ix ix_list (pe_lst (pa_cons pe_int (pa_cons pe_int (pa_cons pe_int (pa_cons pe_int (pa_cons pe_int pa_nil)))))) (pe_op op_mod (pv 1) pe_int) (fun _ _=>rfl))) (pss_one (ps_ret (pe_lst (pa_cons (pe_callB (call_max2 rfl) rfl T.z_max (by decide +kernel) (pa_cons pe_int (pa_cons (pe_op op_sub (pv 2) (pe_op op_pow pe_int pe_int)) pa_nil))) (pa_cons (pe_op op_mod (pe_op op_pow (pe_op op_add (pe_op op_add (pe_op op_mod (pv 2) (pv 3)) (pe_op op_mul pe_int (pv 1))) pe_int) pe_int) pe_int) pa_nil)))))))),?_⟩
  -- behind the test: cell is some number that is not below nought
 have rest : ∀ (cell : Int), 0 ≤ cell → ∀ (σ : L2.St), σ = [some (.ref a), some (.int k), some (.int cell), none] →
     (tSeq (tAsg (tOp (rIxL K) (tLst (tCons (tC (.int 2147483629)) (tCons (tC (.int 2147483587)) (tCons (tC (.int 2147483579)) (tCons (tC (.int 2147483563)) (tCons (tC (.int 2147483549)) tNil)))))) (tOp (rI (fun _ j=>0 < j) fun i j=>.int (i % j)) (tVar 1) (tC (.int 5)))) (gName 3))
       (tRet (tLst (tCons (tCB (fun xs H Q=>∃ i j,xs=[.int i,.int j]∧Q (.int (if j > i then j else i)) H) (tCons (tC (.int 0)) (tCons (tOp (rI0 fun i j=>.int (i - j)) (tVar 2) (tOp (rI CPow fun i j=>.int (i ^ j.toNat)) (tC (.int 10)) (tC (.int 18)))) tNil)))
         (tCons (tOp (rI (fun _ j=>0 < j) fun i j=>.int (i % j)) (tOp (rI CPow fun i j=>.int (i ^ j.toNat)) (tOp (rI0 fun i j=>.int (i + j)) (tOp (rI0 fun i j=>.int (i + j)) (tOp (rI (fun _ j=>0 < j) fun i j=>.int (i % j)) (tVar 2) (tVar 3)) (tOp (rI CMul fun i j=>.int (i * j)) (tC (.int 7919)) (tVar 1))) (tC (.int 11))) (tC (.int 3))) (tC (.int 2147483647))) tNil)))))
       { nx:=fun _ H'=>Q .non H',rt:=Q } σ H:=by
  intro cell hc σ hσ
  subst hσ
  refine⟨(by show 5≤sizeLine;decide),fun l hl=>?_⟩
  refine⟨_,rfl,_,_,rfl,rfl,(by show (0:Int) < 5;decide),?_⟩
  have m0:0≤k % 5:=Int.emod_nonneg _ (by decide)
  have m1:k % 5 < 5:=Int.emod_lt_of_pos _ (by decide)
  have pr:∃ v:Int,atI [V.int 2147483629,V.int 2147483587,V.int 2147483579,V.int 2147483563,V.int 2147483549] (k % 5)=some (.int v)∧2147483549≤v∧v≤2147483629:=by
   have:k % 5=0∨k % 5=1∨k % 5=2∨k % 5=3∨k % 5=4:=by omega
   rcases this with e | e | e | e | e <;> rw[e] <;> exact⟨_,rfl,by decide,by decide⟩
  obtain⟨v,hv,v1,v2⟩:=pr
  refine⟨l,_,_,_,rfl,rfl,SqL.of upd_same,hv,?_⟩
  have S1:Same H (upd H l (.lst [V.int 2147483629,V.int 2147483587,V.int 2147483579,V.int 2147483563,V.int 2147483549])):=same_new hl
  refine⟨_,rfl,_,_,rfl,rfl,⟨by decide,by decide,by decide⟩,_,_,rfl,rfl,_,_,rfl,?_⟩
  refine⟨_,rfl,_,rfl,_,_,rfl,rfl,(by show (0:Int) < v;omega),_,rfl,_,_,rfl,rfl,.inl ⟨by decide,by decide⟩,_,_,rfl,rfl,_,_,rfl,rfl,_,_,rfl,rfl,⟨by decide,by decide,?_⟩,_,_,rfl,rfl,(by show (0:Int) < 2147483647;decide),?_⟩
  ·have c0:0≤cell % v:=Int.emod_nonneg _ (by omega)
   have c1:cell % v < v:=Int.emod_lt_of_pos _ (by omega)
   omega
  refine⟨(by show 2≤sizeLine;decide),fun l2 hl2=>?_⟩
  refine q l2 _ (S1.trans (same_new hl2)) (S1.free hl2) ⟨_,_,upd_same,?_,Int.emod_nonneg _ (by decide),Int.emod_lt_of_pos _ (by decide)⟩
  split <;> omega
 refine⟨_,rfl,_,rfl,a,_,rfl,.inl hS,_,_,rfl,rfl,_,rfl,?_⟩
 refine ite2 (fun c=>?_) (fun c=>?_)
 ·have c':k < (((ns.map V.int).length:Nat):Int):=of_decide_eq_true c
  rw[hl] at c'
  obtain⟨v,hv⟩:∃ v:Int,atI (ns.map V.int) k=some (.int v):=by
   have hk:k.toNat < ns.length:=by omega
   have ek:k=((k.toNat:Nat):Int):=by omega
   have z:atI (ns.map V.int) ((k.toNat:Nat):Int)=some (.int ns[k.toNat]):=atI_nat (by rw[List.getElem?_map,List.getElem?_eq_getElem hk] <;> rfl)
   rw[← ek] at z
   exact⟨_,z⟩
  refine⟨_,rfl,_,rfl,a,_,_,_,rfl,rfl,hS,hv,?_⟩
  refine⟨_,_,rfl,rfl,⟨by decide,by decide,by decide⟩,_,_,rfl,rfl,⟨by decide,by decide,by decide⟩,_,_,rfl,rfl,mulB,_,_,rfl,rfl,⟨by decide,by decide,by decide⟩,_,_,rfl,rfl,mulB2,_,_,rfl,rfl,posB,?_⟩
  exact rest _ (Int.emod_nonneg _ (by have:=posB;omega)) _ rfl
 ·exact rest 5 (by decide) _ rfl
theorem ok__law_length (T:Bi mg) (D:DefOk K mg "_law_length" s__law_length ["pot","way"]) (O__law_take:Ok P w K mg base 1 "_law_take" ["pot","many"] spTake):Ok P w K mg base 2 "_law_length" ["pot","way"] spLength:=by
 refine mk_ok (k:=1) D sc__law_length (fun vs H Q E h=>?_) (fun f cdv A outer s H vs Q E hr h=>?_)
 ·obtain⟨p,y,rfl,_⟩:=h
  rfl
 obtain⟨p,y,rfl,hp,hy0,hy5,q⟩:=h
 have nd:=sc__law_length.nd
 refine⟨_,(pss_cons (ps_if (pt_cmpR op_lt (pv 1) pe_int (nomark _)) (pss_one (ps_ret (pe_ix ix_list (pe_lst (pa_cons pe_int (pa_cons (pe_op op_add pe_int (pe_callD O__law_take hr rfl (pa_cons (pv 0) (pa_cons pe_int pa_nil)))) pa_nil))) (pv 1) (fun _ _=>rfl)))) pss_nil) (pss_cons (ps_if (pt_cmpR op_eq (pv 1) pe_int (nomark _)) (pss_one (ps_ret (pe_op op_add pe_int (pe_callD O__law_take hr rfl (pa_cons (pv 0) (pa_cons pe_int pa_nil)))))) pss_nil) (pss_cons (ps_if (pt_cmpR op_eq (pv 1) pe_int (nomark _)) (pss_one (ps_ret (pe_ix ix_list (pe_lst (pa_cons pe_int (pa_cons pe_int (pa_cons pe_int (pa_cons (pe_op op_pow pe_int pe_int) (pa_cons (pe_op op_sub (pe_op op_pow pe_int pe_int) pe_int) (pa_cons (pe_op op_pow pe_int pe_int) pa_nil))))))) (pe_callD O__law_take hr rfl (pa_cons (pv 0) (pa_cons pe_int pa_nil))) (fun _ _=>rfl)))) pss_nil) (pss_one (ps_ret (pe_op op_add pe_int (pe_op op_mul (pe_callD O__law_take hr rfl (pa_cons (pv 0) (pa_cons (pe_op op_pow pe_int pe_int) pa_nil))) (pe_callD O__law_take hr rfl (pa_cons (pv 0) (pa_cons (pe_op op_add (pe_op op_pow pe_int pe_int) pe_int) pa_nil)))))))))),?_⟩
 refine⟨_,rfl,_,_,rfl,rfl,_,rfl,?_⟩
 refine ite2 (fun c=>?_) (fun c=>?_)
 ·have c':y < 2:=of_decide_eq_true c
  refine⟨_,rfl,p,3,rfl,hp,by decide,by decide,fun r H1 r0 r1 b1 p1=>?_⟩
  refine⟨_,_,rfl,rfl,(by show 2≤sizeLine;decide),fun l hl=>?_⟩
  have at_:∃ v:Int,atI [V.int 1,V.int (1 + r)] y=some (.int v)∧1≤v∧v≤10 ^ 18:=by
   have:y=0∨y=1:=by omega
   rcases this with e | e <;> rw[e]
   ·exact⟨1,rfl,by decide +kernel,by decide +kernel⟩
   ·exact⟨1 + r,rfl,by omega,by omega⟩
  obtain⟨v,hv,v0,v1⟩:=at_
  refine⟨_,rfl,l,_,_,_,rfl,rfl,SqL.of upd_same,hv,?_⟩
  obtain⟨a',b',e',z⟩:=p1
  exact q v _ v0 v1 (b1.trans (But.new hl)) ⟨a',b',(same_new hl) _ _ e',z⟩
 refine⟨_,rfl,rfl,_,rfl,?_⟩
 refine ite2 (fun c2=>?_) (fun c2=>?_)
 ·refine⟨_,rfl,p,50,rfl,hp,by decide,by decide,fun r H1 r0 r1 b1 p1=>?_⟩
  exact⟨_,_,rfl,rfl,q _ _ (by omega) (by omega) b1 p1⟩
 refine⟨_,rfl,rfl,_,rfl,?_⟩
 refine ite2 (fun c3=>?_) (fun c3=>?_)
 ·refine⟨_,_,rfl,rfl,⟨by decide,by decide,by decide⟩,_,_,rfl,rfl,⟨by decide,by decide,by decide⟩,_,_,rfl,rfl,_,_,rfl,rfl,⟨by decide,by decide,by decide⟩,(by show 6≤sizeLine;decide),fun l hl=>?_⟩
  have hp':Pot (upd H l (.lst [V.int 1,V.int 2,V.int 3,V.int ((10:Int) ^ (18:Int).toNat),V.int ((10:Int) ^ (18:Int).toNat - 1),V.int ((10:Int) ^ (17:Int).toNat)])) p:=by
   obtain⟨a',b',e',z⟩:=hp
   exact⟨a',b',(same_new hl) _ _ e',z⟩
  have lp:l≠p:=by
   obtain⟨a',b',e',z⟩:=hp
   exact fun e=>by rw[e,e'] at hl;cases hl
  refine⟨_,rfl,p,6,rfl,hp',by decide,by decide,fun r H1 r0 r1 b1 p1=>?_⟩
  have at_:∃ v:Int,atI [V.int 1,V.int 2,V.int 3,V.int ((10:Int) ^ (18:Int).toNat),V.int ((10:Int) ^ (18:Int).toNat - 1),V.int ((10:Int) ^ (17:Int).toNat)] r=some (.int v)∧1≤v∧v≤10 ^ 18:=by
   have:r=0∨r=1∨r=2∨r=3∨r=4∨r=5:=by omega
   rcases this with e | e | e | e | e | e <;> rw[e] <;> exact⟨_,rfl,by decide +kernel,by decide +kernel⟩
  obtain⟨v,hv,v0,v1⟩:=at_
  refine⟨l,_,_,_,rfl,rfl,SqL.of (b1 _ _ lp upd_same),hv,?_⟩
  exact q v _ v0 v1 ((But.new hl).trans b1) p1
 ·refine⟨_,rfl,_,_,rfl,rfl,⟨by decide,by decide,by decide⟩,p,_,rfl,hp,by decide,by decide,fun r H1 r0 r1 b1 p1=>?_⟩
  refine⟨_,rfl,_,_,rfl,rfl,⟨by decide,by decide,by decide⟩,_,_,rfl,rfl,p,_,rfl,p1,by decide,by decide,fun r2 H2 r20 r21 b2 p2=>?_⟩
  have e9:((10:Int) ^ (9:Int).toNat)=1000000000:=by decide
  rw[e9] at r1 r21
  refine⟨_,_,rfl,rfl,.inl ⟨by omega,by omega⟩,_,_,rfl,rfl,?_⟩
  have m0:0≤r * r2:=Int.mul_nonneg r0 r20
  have m1:r * r2≤999999999 * 1000000000:=Int.mul_le_mul (by omega) (by omega) r20 (by decide)
  exact q _ _ (by omega) (by omega) (b1.trans b2) p2
theorem ok__law_tied (T:Bi mg) (D:DefOk K mg "_law_tied" s__law_tied ["pot","n","style","a","b"]) (O__law_take:Ok P w K mg base 1 "_law_take" ["pot","many"] spTake):Ok P w K mg base 2 "_law_tied" ["pot","n","style","a","b"] spTied:=by
 refine mk_ok (k:=1) D sc__law_tied (fun vs H Q E h=>?_) (fun f cdv A outer s H vs Q E hr h=>?_)
 ·obtain⟨p,n,y,a,b,rfl,_⟩:=h
  rfl
 obtain⟨p,n,y,a,b,rfl,hp,q⟩:=h
 have nd:=sc__law_tied.nd
 have q0:∀ k,Q (.bl k) H:=fun k=>q k H But.refl hp
 refine⟨_,(pss_cons (ps_set (i:=5) nd rfl (Or.inl rfl) (pe_or (pe_cmpR op_eq (pe_op op_sub (pv 4) (pv 3)) pe_int (nomark _)) (pe_one (pe_cmpR op_eq (pe_op op_sub (pv 4) (pv 3)) (pe_op op_sub (pv 1) pe_int) (nomark _))))) (pss_cons (ps_if (pt_cmpR op_lt (pv 2) pe_int (nomark _)) (pss_one (ps_ret (pe_or (pv 5) (pe_one (pe_and (pe_cmpR op_eq (pv 2) pe_int (nomark _)) (pe_one (pe_cmpR op_eq (pe_callD O__law_take hr rfl (pa_cons (pv 0) (pa_cons pe_int pa_nil))) pe_int (nomark _)))))))) pss_nil) (pss_cons (ps_if (pt_cmpR op_lt (pv 2) pe_int (nomark _)) (pss_one (ps_ret (pe_cmpR op_eq (pe_cmpR op_gt (pe_callD O__law_take hr rfl (pa_cons (pv 0) (pa_cons pe_int pa_nil))) pe_int (nomark _)) (pe_cmpR op_eq (pv 2) pe_int (nomark _)) (nomark _)))) pss_nil) (pss_cons (ps_if (pt_cmpR op_eq (pv 2) pe_int (nomark _)) (pss_one (ps_ret (pe_or (pe_cmpR op_eq (pe_op op_sub (pv 4) (pv 3)) pe_int (nomark _)) (pe_one (pe_and (pe_cmpR op_eq (pe_op op_sub (pv 4) (pv 3)) pe_int (nomark _)) (pe_one (pe_cmpR op_gt (pe_op op_mod (pv 4) pe_int) pe_int (nomark _)))))))) pss_nil) (pss_cons (ps_if (pt_cmpR op_lt (pv 2) pe_int (nomark _)) (pss_one (ps_ret (pe_and (pe_cmpR op_eq (pe_cmpR op_eq (pe_op op_mod (pv 3) pe_int) (pe_op op_mod (pv 4) pe_int) (nomark _)) (pe_cmpR op_eq (pv 2) pe_int (nomark _)) (nomark _)) (pe_one (pe_cmpR op_gt (pe_callD O__law_take hr rfl (pa_cons (pv 0) (pa_cons pe_int pa_nil))) pe_int (nomark _)))))) pss_nil) (pss_one (ps_ret pe_bl))))))),?_⟩
 refine⟨_,rfl,_,rfl,_,_,rfl,rfl,rfl,_,rfl,?_⟩
 refine ite2 (fun c=>?_) (fun c=>?_)
 all_goals (try refine⟨_,rfl,_,rfl,_,_,rfl,rfl,_,rfl,_,_,rfl,rfl,rfl,?_⟩)
 all_goals
  refine⟨_,rfl,_,_,rfl,rfl,_,rfl,?_⟩
  refine ite2 (fun c1=>?_) (fun c1=>?_)
  ·refine⟨_,rfl,_,rfl,?_⟩
   refine ite2 (fun d=>?_) (fun d=>?_)
   ·exact q0 _
   ·refine⟨_,rfl,rfl,_,rfl,?_⟩
    refine ite2 (fun d=>?_) (fun d=>?_)
    ·exact⟨_,rfl,p,_,rfl,hp,by decide,by decide,fun r H' _ _ b1 p1=>⟨rfl,q _ _ b1 p1⟩⟩
    ·exact q0 _
  refine⟨_,rfl,_,_,rfl,rfl,_,rfl,?_⟩
  refine ite2 (fun c2=>?_) (fun c2=>?_)
  ·exact⟨_,rfl,p,_,rfl,hp,by decide,by decide,fun r H' _ _ b1 p1=>⟨_,_,rfl,rfl,_,rfl,rfl,rfl,q _ _ b1 p1⟩⟩
  refine⟨_,rfl,rfl,_,rfl,?_⟩
  refine ite2 (fun c3=>?_) (fun c3=>?_)
  ·refine⟨_,rfl,_,rfl,_,_,rfl,rfl,rfl,_,rfl,?_⟩
   refine ite2 (fun d=>?_) (fun d=>?_)
   ·exact q0 _
   ·refine⟨_,rfl,_,rfl,_,_,rfl,rfl,rfl,_,rfl,?_⟩
    refine ite2 (fun d=>?_) (fun d=>?_)
    ·exact⟨_,rfl,_,_,rfl,rfl,(by show (0:Int) < 3;decide),_,_,rfl,rfl,q0 _⟩
    ·exact q0 _
  refine⟨_,rfl,_,_,rfl,rfl,_,rfl,?_⟩
  refine ite2 (fun c4=>?_) (fun c4=>?_)
  ·refine⟨_,rfl,_,_,rfl,rfl,(by show (0:Int) < 2;decide),_,rfl,_,_,rfl,rfl,(by show (0:Int) < 2;decide),rfl,_,rfl,rfl,rfl,_,rfl,?_⟩
   refine ite2 (fun d=>?_) (fun d=>?_)
   ·exact⟨_,rfl,p,_,rfl,hp,by decide,by decide,fun r H' _ _ b1 p1=>⟨_,_,rfl,rfl,q _ _ b1 p1⟩⟩
   ·exact q0 _
  ·exact q0 _
theorem ok__law_order (T:Bi mg) (D:DefOk K mg "_law_order" s__law_order ["pot","many"]) (O__law_take:Ok P w K mg base 1 "_law_take" ["pot","many"] spTake):Ok P w K mg base 2 "_law_order" ["pot","many"] spOrder:=by
 refine mk_ok (k:=1) D sc__law_order (fun vs H Q E h=>?_) (fun f cdv A outer s H vs Q E hr h=>?_)
 ·obtain⟨p,m,rfl,_⟩:=h
  rfl
 obtain⟨p,m,rfl,hp,hm0,hm1,q⟩:=h
 have nd:=sc__law_order.nd
 refine⟨_,(pss_cons (ps_set (i:=2) nd rfl (Or.inl rfl) (pe_callTy (call_list_rng rfl) rfl T.z_list (by decide +kernel) (pa_cons (pe_callTy call_range rfl T.z_range (by decide +kernel) (pa_cons (pv 1) pa_nil)) pa_nil))) (pss_cons (ps_set (i:=3) nd rfl (Or.inl rfl) (pe_lst pa_nil)) (pss_cons (ps_for PassesOwn.never rfl (pi_range1 rfl T.z_range (pa_cons (pv 1) pa_nil)) (pg_name (i:=4) nd rfl (Or.inl rfl)) (pss_one (ps_expr (pe_bm PySem.F.plainAttrs_list PySem.F.slot_list_append PySem.F.type_list_append mt_append (pv 3) (pa_cons (pe_bm PySem.F.plainAttrs_list PySem.F.slot_list_pop PySem.F.type_list_pop mt_popAt (pv 2) (pa_cons (pe_callD O__law_take hr rfl (pa_cons (pv 0) (pa_cons (pe_callB call_len_seq rfl T.z_len (by decide +kernel) (pa_cons (pv 2) pa_nil)) pa_nil))) pa_nil)) pa_nil))))) (pss_one (ps_ret (pv 3)))))),?_⟩
 refine⟨_,rfl,m,rfl,fun g hg=>?_⟩
 refine⟨g,m,rfl,upd_same,hm0,hm1,fun l hl=>?_⟩
 refine⟨(by show 0≤sizeLine;decide),fun l2 hl2=>?_⟩
 obtain⟨H0,eH0⟩:∃ H0,H0=upd (upd (upd H g (.rng 0 m)) l (.lst ((List.range m.toNat).map fun i:Nat=>V.int (i:Int)))) l2 (.lst []):=⟨_,rfl⟩
 rw[← eH0]
 have S1:Same H (upd H g (.rng 0 m)):=same_new hg
 have S2:=S1.trans (same_new (o:=.lst ((List.range m.toNat).map fun i:Nat=>V.int (i:Int))) hl)
 have S3:Same H H0:=by rw[eH0];exact S2.trans (same_new hl2)
 have fl:H l=none:=S1.free hl
 have fl2:H l2=none:=S2.free hl2
 have ll2:l≠l2:=fun e=>by rw[← e,upd_same] at hl2;cases hl2
 have el:H0 l=some (.lst ((List.range m.toNat).map fun i:Nat=>V.int (i:Int))):=by rw[eH0,upd_ne ll2,upd_same]
 have el2:H0 l2=some (.lst []):=by rw[eH0,upd_same]
 have hp0:Pot H0 p:=by
  obtain⟨a,b,e,z⟩:=hp
  exact⟨a,b,S3 _ _ e,z⟩
 have nlp:l≠p:=by
  obtain⟨a,b,e,z⟩:=hp
  exact fun x=>by rw[x,e] at fl;cases fl
 have nl2p:l2≠p:=by
  obtain⟨a,b,e,z⟩:=hp
  exact fun x=>by rw[x,e] at fl2;cases fl2
 refine⟨_,rfl,m,rfl,by omega,by omega,?_⟩
 refine for_range (n:=m.toNat) (fun i σ H'=>∃ (t:Option V) (ls ms:List Int),σ=[some (.ref p),some (.int m),some (.ref l),some (.ref l2),t]∧H' l=some (.lst (ls.map V.int))∧H' l2=some (.lst (ms.map V.int))∧Pot H' p ∧
  (∀ b o,b≠p->H b=some o->H' b=some o)∧(ms++ls).Perm ((List.range m.toNat).map fun i:Nat=>(i:Int))∧ms.length=i) ?start ?turn ?fin
 case start=>exact⟨none,(List.range m.toNat).map fun i:Nat=>(i:Int),[],rfl,by rw[el,List.map_map];rfl,el2,hp0,fun b o _ e=>S3 b o e,List.Perm.refl _,rfl⟩
 case turn =>
  rintro i σ H' hi ⟨t,ls,ms,rfl,e1,e2,hp',kp,pm,hl'⟩
  have hlen:ls.length=m.toNat - i:=by
   have:=pm.length_eq
   rw[List.length_append,List.length_map,List.length_range] at this
   omega
  refine⟨_,rfl,.inl ⟨rfl,_,SqL.of e2⟩,_,rfl,.inl ⟨rfl,_,SqL.of e1⟩,_,rfl,_,rfl,l,_,rfl,.inl (SqL.of e1),?_⟩
  refine⟨p,_,rfl,hp',(by rw[List.length_map];omega),(by rw[List.length_map];omega),fun r H1 r0 r1 b1 p1=>?_⟩
  rw[List.length_map] at r1
  have hr1:r.toNat < ls.length:=by omega
  have er:r=((r.toNat:Nat):Int):=by omega
  have six:seqIndex? r (ls.map V.int).length=some r.toNat:=(ixN_seq (by unfold ixN;rw[if_pos r0,if_pos (by rw[List.length_map];omega)])).1
  refine⟨l,_,r,r.toNat,.int ls[r.toNat],rfl,rfl,b1 _ _ nlp e1,by omega,by omega,six,by rw[List.getElem?_map,List.getElem?_eq_getElem hr1];rfl,?_⟩
  refine⟨l2,_,_,rfl,rfl,by rw[upd_ne ll2.symm];exact b1 _ _ nl2p e2,?_,?_⟩
  ·rw[List.length_map]
   exact Nat.lt_of_le_of_lt (by omega:ms.length≤1000) (by decide)
  ·refine⟨_,ls.eraseIdx r.toNat,ms++[ls[r.toNat]],rfl,?_,?_,?_,?_,?_,by rw[List.length_append,List.length_singleton];omega⟩
   ·rw[upd_ne ll2,upd_same,map_erase]
   ·rw[upd_same,List.map_append];rfl
   ·obtain⟨a,b,e,z⟩:=p1
    exact⟨a,b,by rw[upd_ne nl2p.symm,upd_ne nlp.symm];exact e,z⟩
   ·intro b o hb e
    have n1:b≠l:=fun x=>by rw[x,fl] at e;cases e
    have n2:b≠l2:=fun x=>by rw[x,fl2] at e;cases e
    rw[upd_ne n2,upd_ne n1]
    exact b1 _ _ hb (kp _ _ hb e)
   ·refine List.Perm.trans ?_ pm
    rw[List.append_assoc]
    refine List.Perm.append_left _ ?_
    show (ls[r.toNat]::ls.eraseIdx r.toNat).Perm ls
    exact erase_perm ls r.toNat hr1
 case fin =>
  rintro σ H' ⟨t,ls,ms,rfl,e1,e2,hp',kp,pm,hl'⟩
  have hlen:ls=[]:=by
   have:=pm.length_eq
   rw[List.length_append,List.length_map,List.length_range] at this
   exact List.eq_nil_of_length_eq_zero (by omega)
  subst hlen
  rw[List.append_nil] at pm
  exact⟨_,rfl,q l2 H' ms kp hp' fl2 nl2p e2 pm⟩
/-- between the turns of the web's loops -/
def WInv (H:Hp) (p ln lt:Addr) (m n st wy:Int) (ms:List Int) (b a:Nat) (σ:L2.St) (H':Hp):Prop :=
 ∃ (t7 t8 t9 t10:Option V) (ys:List V) (ties:List Tie),σ=[some (.ref p),some (.int m),some (.int n),some (.int st),some (.int wy),some (.ref ln),some (.ref lt),t7,t8,t9,t10] ∧
  H' ln=some (.lst (ms.map V.int))∧H' lt=some (.lst ys)∧TieL H' ys ties∧Pot H' p∧(∀ b o,b≠p->H b=some o->H' b=some o)∧Grown n.toNat ms b a ties
theorem ok__law_web (T:Bi mg) (D:DefOk K mg "_law_web" s__law_web ["pot","most"]) (O__law_take:Ok P w K mg base 2 "_law_take" ["pot","many"] spTake) (O__law_order:Ok P w K mg base 2 "_law_order" ["pot","many"] spOrder)
  (O__law_tied:Ok P w K mg base 2 "_law_tied" ["pot","n","style","a","b"] spTied) (O__law_length:Ok P w K mg base 2 "_law_length" ["pot","way"] spLength):Ok P w K mg base 3 "_law_web" ["pot","most"] (spWeb K):=by
 refine mk_ok (k:=2) D sc__law_web (fun vs H Q E h=>?_) (fun f cdv A outer s H vs Q E hr h=>?_)
 ·obtain⟨p,m,rfl,_⟩:=h
  rfl
 obtain⟨p,m,rfl,hp,hm0,hm1,q⟩:=h
 have nd:=sc__law_web.nd
 refine⟨_,(pss_cons (ps_set (i:=2) nd rfl (Or.inl rfl) (pe_op op_add pe_int (pe_callD O__law_take hr rfl (pa_cons (pv 0) (pa_cons (pv 1) pa_nil))))) (pss_cons (ps_set (i:=3) nd rfl (Or.inl rfl) (pe_callD O__law_take hr rfl (pa_cons (pv 0) (pa_cons pe_int pa_nil)))) (pss_cons (ps_set (i:=4) nd rfl (Or.inl rfl) (pe_callD O__law_take hr rfl (pa_cons (pv 0) (pa_cons pe_int pa_nil)))) (pss_cons (ps_set (i:=5) nd rfl (Or.inl rfl) (pe_callD O__law_order hr rfl (pa_cons (pv 0) (pa_cons (pv 2) pa_nil)))) (pss_cons (ps_set (i:=6) nd rfl (Or.inl rfl) (pe_lst pa_nil)) (pss_cons (ps_for PassesOwn.never rfl (pi_range1 rfl T.z_range (pa_cons (pv 2) pa_nil)) (pg_name (i:=7) nd rfl (Or.inl rfl)) (pss_one (ps_for PassesOwn.never rfl (pi_range1 rfl T.z_range (pa_cons (pv 7) pa_nil)) (pg_name (i:=8) nd rfl (Or.inl rfl)) (pss_one (ps_if (PW.pt (pw_and (pt_val (pe_callD O__law_tied hr rfl (pa_cons (pv 0) (pa_cons (pv 2) (pa_cons (pv 3) (pa_cons (pv 8) (pa_cons (pv 7) pa_nil))))))) (pw_and1 (pt_cmpR op_lt (pe_callB call_len_seq rfl T.z_len (by decide +kernel) (pa_cons (pv 6) pa_nil)) pe_int (nomark _))))) (pss_cons (ps_asg (pe_callB call_sortedI rfl T.z_sorted (by decide +kernel) (pa_cons (pe_lst (pa_cons (pe_ix ix_list (pv 5) (pv 8) (fun _ _=>rfl)) (pa_cons (pe_ix ix_list (pv 5) (pv 7) (fun _ _=>rfl)) pa_nil))) pa_nil)) (pg_lst (n:=2) rfl (pgs_cons (pg_name (i:=9) nd rfl (Or.inl rfl)) (pgs_cons (pg_name (i:=10) nd rfl (Or.inl rfl)) pgs_nil)))) (pss_one (ps_expr (pe_bm PySem.F.plainAttrs_list PySem.F.slot_list_append PySem.F.type_list_append mt_append (pv 6) (pa_cons (pe_tup (pa_cons (pv 9) (pa_cons (pv 10) (pa_cons (pe_callD O__law_length hr rfl (pa_cons (pv 0) (pa_cons (pv 4) pa_nil))) pa_nil)))) pa_nil))))) pss_nil))))) (pss_one (ps_ret (pe_tup (pa_cons (pv 2) (pa_cons (pe_callTy call_tuple_of rfl T.z_tuple (by decide +kernel) (pa_cons (pe_callB call_sortedT rfl T.z_sorted (by decide +kernel) (pa_cons (pv 6) pa_nil)) pa_nil)) pa_nil))))))))))),?_⟩
 refine⟨_,rfl,_,rfl,p,m,rfl,hp,by omega,by omega,fun r1 H1 r10 r11 b1 p1=>?_⟩
 refine⟨_,_,rfl,rfl,?_⟩
 refine⟨_,rfl,p,8,rfl,p1,by decide,by decide,fun st H2 _ _ b2 p2=>?_⟩
 refine⟨_,rfl,p,5,rfl,p2,by decide,by decide,fun wy H3 wy0 wy1 b3 p3=>?_⟩
 refine⟨_,rfl,_,rfl,p,_,rfl,p3,by omega,by omega,fun ln H4 ms b4 p4 f4 n4 e4 pm=>?_⟩
 obtain⟨n,en⟩:∃ n:Int,n=1 + r1:=⟨_,rfl⟩
 rw[← en] at pm
 have bt4:But p H H4:=b1.trans (b2.trans (b3.trans b4))
 have fln:H ln=none:=by
  cases e:H ln with
  | none=>rfl
  | some u=>rw[(b1.trans (b2.trans b3)) _ _ n4 e] at f4;cases f4
 refine⟨(by show 0≤sizeLine;decide),fun lt hlt=>?_⟩
 have flt:H lt=none:=by
  by_cases z:lt=p
  ·obtain⟨a',b',e',_⟩:=p4;rw[z,e'] at hlt;cases hlt
  ·cases e:H lt with
   | none=>rfl
   | some u=>rw[bt4 _ _ z e] at hlt;cases hlt
 have nlt:lt≠p:=by
  obtain⟨a',b',e',_⟩:=p4
  exact fun x=>by rw[x,e'] at hlt;cases hlt
 have nln:ln≠lt:=fun x=>by rw[← x,e4] at hlt;cases hlt
 have pm0:Perm0 n.toNat ms:=Perm0.of pm
 refine⟨_,rfl,n,by rw[en],by omega,by omega,?_⟩
 refine for_range (n:=n.toNat) (fun i σ H'=>WInv H p ln lt m n st wy ms i 0 σ H') ?start ?turn ?fin
 case start =>
  refine⟨none,none,none,none,[],[],by rw[en];rfl,by rw[upd_ne nln];exact e4,upd_same,.nil,?_,fun b o hb e=>?_,Grown.start⟩
  ·obtain⟨a',b',e',z⟩:=p4
   exact⟨a',b',by rw[upd_ne nlt.symm];exact e',z⟩
  ·rw[upd_ne (fun x=>by rw[x,flt] at e;cases e)]
   exact bt4 _ _ hb e
 case turn =>
  rintro i σ H' hi ⟨t7,t8,t9,t10,ys,ties,rfl,g1,g2,g3,g4,g5,g6⟩
  refine⟨_,rfl,_,rfl,by omega,by omega,?_⟩
  have ei:((0 + (i:Int)):Int).toNat=i:=by omega
  rw[ei]
  refine for_range (n:=i) (fun k σ H''=>(∃ t7,σ[7]?=some (some (.int (0 + (i:Int))))∧t7=())∧WInv H p ln lt m n st wy ms i k σ H'') ?start2 ?turn2 ?fin2
  case start2=>exact⟨⟨(),rfl,rfl⟩,some (.int (0 + (i:Int))),t8,t9,t10,ys,ties,rfl,g1,g2,g3,g4,g5,g6⟩
  case fin2 =>
   rintro σ H'' ⟨_,t7,t8,t9,t10,ys,ties,rfl,g1,g2,g3,g4,g5,g6⟩
   exact⟨t7,t8,t9,t10,ys,ties,rfl,g1,g2,g3,g4,g5,g6.down⟩
  case turn2 =>
   rintro k σ K1 hk ⟨⟨_,h7,_⟩,t7,t8,t9,t10,ys,ties,rfl,g1,g2,g3,g4,g5,g6⟩
   have e7:t7=some (.int (0 + (i:Int))):=by simpa using h7
   subst e7
   have again : ∀ {u8 u9 u10 : Option V} {ys' : List V} {ts : List Tie} {J : Hp}, J ln = some (.lst (ms.map V.int)) → J lt = some (.lst ys') → TieL J ys' ts → Pot J p → (∀ b o, b ≠ p → H b = some o → J b = some o) → Grown n.toNat ms i (k + 1) ts →
       (∃ t7,([some (.ref p),some (.int m),some (.int n),some (.int st),some (.int wy),some (.ref ln),some (.ref lt),some (.int (0 + (i:Int))),u8,u9,u10]:L2.St)[7]?=some (some (.int (0 + (i:Int))))∧t7=())∧WInv H p ln lt m n st wy ms i (k + 1) [some (.ref p),some (.int m),some (.int n),some (.int st),some (.int wy),some (.ref ln),some (.ref lt),some (.int (0 + (i:Int))),u8,u9,u10] J :=
    fun a1 a2 a3 a4 a5 a6=>⟨⟨(),rfl,rfl⟩,_,_,_,_,_,_,rfl,a1,a2,a3,a4,a5,a6⟩
   refine⟨_,rfl,_,rfl,_,rfl,_,rfl,_,rfl,p,_,_,_,_,rfl,g4,fun kk K2 c2 d2=>⟨kk,rfl,?_⟩⟩
   have nlnp:ln≠p:=n4
   have l1:K2 ln=some (.lst (ms.map V.int)):=c2 _ _ nlnp g1
   have l2:K2 lt=some (.lst ys):=c2 _ _ nlt g2
   have tup2:∀ a xs,K1 a=some (.tup xs)->K2 a=some (.tup xs):=fun a xs e=>c2 _ _ (fun x=>by
    obtain⟨a',b',e',_⟩:=g4
    rw[x,e'] at e;cases e) e
   have l3:TieL K2 ys ties:=g3.keep tup2
   have l5:∀ b o,b≠p->H b=some o->K2 b=some o:=fun b o hb e=>c2 _ _ hb (g5 _ _ hb e)
   have ylen:ys.length=ties.length:=Paired.length g3
   cases kk with
   | false =>
    refine iteF (iteF ?_)
    exact again l1 l2 l3 d2 l5 g6.skip
   | true =>
    refine iteT ?_
    refine⟨_,rfl,lt,_,rfl,.inl (SqL.of l2),_,_,rfl,rfl,_,rfl,?_⟩
    refine ite2 (fun c=>?_) (fun c=>?_)
    case refine_2=>exact again l1 l2 l3 d2 l5 g6.skip
    have c':((ys.length:Nat):Int) < 60:=of_decide_eq_true c
    have hkn:k < n.toNat:=by omega
    have at_:∀ j:Nat,j < n.toNat->atI (ms.map V.int) (j:Int)=some (.int (ms.getD j 0)):=fun j hj=>by
     have hj':j < ms.length:=by rw[pm0.len];exact hj
     refine atI_nat ?_
     rw[List.getElem?_map,List.getElem?_eq_getElem hj']
     simp [List.getD,hj']
    have ak:atI (ms.map V.int) (0 + (k:Int))=some (.int (ms.getD k 0)):=by rw[Int.zero_add];exact at_ k hkn
    have ai:atI (ms.map V.int) (0 + (i:Int))=some (.int (ms.getD i 0)):=by rw[Int.zero_add];exact at_ i hi
    refine⟨_,rfl,_,rfl,ln,_,_,_,rfl,rfl,SqL.of l1,ak,_,rfl,_,rfl,ln,_,_,_,rfl,rfl,SqL.of l1,ai,(by show 2≤sizeLine;decide),fun s1 hs1=>?_⟩
    refine⟨s1,[ms.getD k 0,ms.getD i 0],rfl,SqL.of upd_same,(by show 2 < 64;decide),fun zs pz wz s2 hs2=>?_⟩
    obtain⟨x,y,rfl,hxy,hor⟩:=two_sorted pz wz
    refine⟨s2,_,rfl,SqL.of upd_same,rfl,?_⟩
    refine⟨_,_,rfl,_,_,rfl,rfl,?_⟩
    have n1:∀ b o,K2 b=some o->b≠s1:=fun b o e=>ne_of_none e hs1
    have n2:∀ b o,K2 b=some o->b≠s2:=fun b o e=>ne_of_none (same_new hs1 b o e) hs2
    have up:∀ b o,K2 b=some o->upd (upd K2 s1 (.lst [.int (ms.getD k 0),.int (ms.getD i 0)])) s2 (.lst [.int x,.int y]) b=some o:=fun b o e=>by rw[upd_ne (n2 b o e),upd_ne (n1 b o e)];exact e
    refine⟨_,rfl,.inl ⟨rfl,_,SqL.of (up _ _ l2)⟩,_,rfl,_,rfl,_,rfl,_,rfl,?_⟩
    refine⟨p,wy,rfl,?_,wy0,wy1,fun len K5 ln0 ln1 c5 d5=>?_⟩
    ·obtain⟨a',b',e',z⟩:=d2
     exact⟨a',b',up _ _ e',z⟩
    refine⟨(by show 3≤sizeLine;decide),fun tp htp=>?_⟩
    have pl:∃ xs,K2 p=some (.lst xs):=d2.lst
    have up5:∀ b o,b≠p->K2 b=some o->upd K5 tp (.tup [.int x,.int y,.int len]) b=some o:=fun b o hb e=>by
     have e5:=c5 b o hb (up b o e)
     rw[upd_ne (ne_of_none e5 htp)];exact e5
    refine⟨lt,_,_,rfl,rfl,up5 _ _ nlt l2,?_,?_⟩
    ·exact Nat.lt_of_le_of_lt (by omega:ys.length≤1000) (by decide)
    have k5:∀ b o,b≠p->b≠lt->K2 b=some o->upd (upd K5 tp (.tup [.int x,.int y,.int len])) lt (.lst (ys++[.ref tp])) b=some o:=fun b o hb hb2 e=>by rw[upd_ne hb2];exact up5 b o hb e
    have ntp:tp≠lt:=fun z=>by
     have:=c5 _ _ nlt (up _ _ l2)
     rw[← z,htp] at this;cases this
    refine again (k5 _ _ nlnp nln l1) upd_same (TieL.snoc (TieL.keep l3 fun a xs e=>k5 _ _ ?_ ?_ e) ?_) ?_ (fun b o hb e=>k5 _ _ hb (fun z=>by rw[z,flt] at e;cases e) (l5 _ _ hb e))
     (g6.add (x:=x) (y:=y) (l:=len) pm0 hk hi (by omega) ln0 ln1 hor hxy)
    ·intro z
     obtain⟨xs',e'⟩:=pl
     rw[z,e'] at e;cases e
    ·intro z
     rw[z,l2] at e;cases e
    ·rw[upd_ne ntp,upd_same];rfl
    ·obtain⟨a',b',e',z⟩:=d5
     exact⟨a',b',by rw[upd_ne nlt.symm,upd_ne (ne_of_none e' htp)];exact e',z⟩
 case fin =>
  rintro σ H' ⟨t7,t8,t9,t10,ys,ties,rfl,g1,g2,g3,g4,g5,g6⟩
  have ylen:ys.length=ties.length:=Paired.length g3
  have few:=g6.few
  refine⟨_,rfl,_,rfl,lt,ys,ties.map tieI,rfl,SqL.of g2,by omega,paired_keys (fun y t ⟨a,e1,e2⟩=>⟨a,e1,SqT.of e2⟩) g3,fun k hk=>?_,fun qs pq wq l hl=>?_⟩
  ·obtain⟨t,_,rfl⟩:=List.mem_map.mp hk
   exact fun z=>by cases z
  obtain⟨ts,pt,tl,wt⟩:=tie_out g3 pq wq
  refine⟨l,_,rfl,.inl ⟨SqL.of upd_same,fun l' hl'=>?_⟩⟩
  refine⟨(by show 2≤sizeLine;decide),fun v hv=>?_⟩
  have S1:Same H' (upd H' l (.lst (qs.map (·.1)))):=same_new hl
  have S2:=S1.trans (same_new (o:=.tup (qs.map (·.1))) hl')
  have S3:=S2.trans (same_new (o:=.tup [.int n,.ref l']) hv)
  refine q (.ref v) _ n ts (fun b o hb e=>S3 _ _ (g5 _ _ hb e)) ?_ ⟨by omega,by omega,rise_of wt ((pt.pairwise_iff (fun {a b} h z=>h ⟨z.1.symm,z.2.symm⟩)).mpr g6.nd),by have:=pt.length_eq;omega,fun t ht=>?_⟩ (by omega) ?_
  ·obtain⟨a',b',e',z⟩:=g4
   exact⟨a',b',S3 _ _ e',z⟩
  ·have:=g6.ok t (pt.mem_iff.mp ht)
   have e:((n.toNat:Nat):Int)=n:=by omega
   rw[e] at this
   exact this
  ·refine⟨v,_,rfl,upd_same,_,_,rfl,rfl,_,_,rfl,⟨l',qs.map (·.1),rfl,?_,?_⟩,rfl⟩
   ·exact (same_new hv) _ _ upd_same
   ·exact TieL.is (tl.keep fun a xs e=>S3 _ _ e)
theorem ok__law_keep (T:Bi mg) (D:DefOk K mg "_law_keep" s__law_keep ["pot","web"]) (O__law_take:Ok P w K mg base 1 "_law_take" ["pot","many"] spTake):Ok P w K mg base 2 "_law_keep" ["pot","web"] (spKeep K):=by
 refine mk_ok (k:=1) D sc__law_keep (fun vs H Q E h=>?_) (fun f cdv A outer s H vs Q E hr h=>?_)
 ·obtain⟨p,n,ts,v,rfl,_⟩:=h
  rfl
 obtain⟨p,n,ts,v,rfl,hp,hw,few60,q⟩:=h
 have nd:=sc__law_keep.nd
 refine⟨_,(pss_cons (ps_set (i:=2) nd rfl (Or.inr rfl) (pe_callD O__law_take hr rfl (pa_cons (pv 0) (pa_cons pe_int pa_nil)))) (pss_one (ps_ret (pe_callTy call_tuple_of rfl T.z_tuple (by decide +kernel) (pa_cons (pe_comp (N:=["pot","web","way"]) (sc0:=defScope s__law_keep) (own:=["number"]) (fr:=["way","pot"]) (js:=[2,0]) rfl (pi_range1 rfl T.z_range (pa_cons (pe_callB call_len_seq rfl T.z_len (by decide +kernel) (pa_cons (pe_ix ix_tup (pv 1) pe_int (fun _ _=>rfl)) pa_nil)) pa_nil)) (fun _ _ _ _=>(pg_name (i:=0) (by show List.Nodup [("number":Str),("way":Str),("pot":Str)];decide +kernel) rfl (Or.inl rfl))) (fun _ _ _ _=>(pts_one (PW.pt (pw_or (pt_cmpR op_eq (pv 1) pe_int (nomark _)) (pw_or1 (PW.pt (pw_and (pt_cmpR op_gt (pv 1) pe_int (nomark _)) (pw_and1 (pt_cmpR op_eq (pe_cmpR op_eq (pe_callD O__law_take hr rfl (pa_cons (pv 2) (pa_cons pe_int pa_nil))) pe_int (nomark _)) (pe_cmpR op_eq (pv 1) pe_int (nomark _)) (nomark _)))))))))) (fun _ _ _ _=>(pv 0))) pa_nil))))),?_⟩
 refine⟨_,rfl,p,4,rfl,hp,by decide,by decide,fun way H1 w0 w1 b1 p1=>?_⟩
 obtain⟨g0,g,ws,rfl,hg0,hg,hall,hlw⟩:=web_parts hw
 obtain⟨xs0,e0⟩:=hp.lst
 have tup1:∀ c zs,H c=some (.tup zs)->H1 c=some (.tup zs):=fun c zs e=>b1 _ _ (fun x=>by rw[x,e0] at e;cases e) e
 refine⟨_,rfl,g0,_,_,_,rfl,rfl,SqT.of (tup1 _ _ hg0),rfl,g,_,rfl,.inr (SqT.of (tup1 _ _ hg)),_,rfl,by omega,by omega,fun L hL=>?_⟩
 have nLp:L≠p:=by
  obtain⟨a',b',e',_⟩:=p1
  exact fun z=>by rw[z,e'] at hL;cases hL
 have en:(((ws.length:Nat):Int)).toNat=ts.length:=by omega
 rw[en]
 refine⟨fun i m ys σ' H'=>m=ts.length - i∧i≤ts.length∧(∃ o,σ'=[o,some (.int way),some (.ref p)])∧But p H1 H'∧Pot H' p∧∃ ks:List Nat,ys=(keepI ks).map V.int∧KeepOk i ks,⟨ts.length,rfl,Nat.zero_le _,⟨none,rfl⟩,But.new hL,?_,[],rfl,.nil,fun k hk=>by cases hk⟩,?_⟩
 ·obtain⟨a',b',e',z⟩:=p1
  exact⟨a',b',by rw[upd_ne nLp.symm];exact e',z⟩
 rintro i m ys σ' H' ⟨rfl,hi,⟨o,rfl⟩,bt,pt,ks,rfl,ko⟩ hd
 by_cases hlt:i < ts.length
 ·refine .inr ⟨hlt,fun x H2 hy=>?_⟩
  obtain⟨rfl,rfl⟩:=hy
  have lenk:ks.length≤i:=ko.len
  have takeIt : ∀ {J : Hp}, But p H2 J → Pot J p → J L = some (.lst ((keepI ks).map V.int)) ∧ ((keepI ks).map V.int).length < sizeLine ∧ ∃ m', m' < ts.length - i ∧ (m' = ts.length - (i + 1) ∧ i + 1 ≤ ts.length ∧ (∃ o, ([some (V.int (0 + (i : Int))), some (.int way), some (.ref p)] : L2.St) = [o, some (.int way), some (.ref p)]) ∧
      But p H1 (upd J L (.lst ((keepI ks).map V.int++[.int (0 + (i:Int))])))∧Pot (upd J L (.lst ((keepI ks).map V.int++[.int (0 + (i:Int))]))) p∧∃ ks':List Nat,(keepI ks).map V.int++[.int (0 + (i:Int))]=(keepI ks').map V.int∧KeepOk (i + 1) ks'):=fun {J} bj pj=>by
   refine⟨bj _ _ nLp hd,?_,ts.length - (i + 1),by omega,rfl,hlt,⟨_,rfl⟩,fun b o hb e=>?_,?_,ks++[i],?_,?_⟩
   ·rw[List.length_map];unfold keepI;rw[List.length_map]
    exact Nat.lt_of_le_of_lt (by omega:ks.length≤1000) (by decide)
   ·rw[upd_ne (ne_of_none e hL)];exact bj _ _ hb (bt _ _ hb e)
   ·obtain⟨a',b',e',z⟩:=pj
    exact⟨a',b',by rw[upd_ne nLp.symm];exact e',z⟩
   ·unfold keepI
    rw[List.map_append,List.map_append]
    simp
   ·refine⟨List.pairwise_append.mpr ⟨ko.1,List.pairwise_singleton _ _,fun x hx y hy=>?_⟩,fun k hk=>?_⟩
    ·have:y=i:=by simpa using hy
     rw[this];exact ko.2 x hx
    ·rcases List.mem_append.mp hk with hk | hk
     ·have:=ko.2 k hk;omega
     ·have:k=i:=by simpa using hk
      omega
  have leaveIt:∀ {J:Hp},But p H2 J->Pot J p->J L=some (.lst ((keepI ks).map V.int))∧∃ m',m' < ts.length - i∧(m'=ts.length - (i + 1)∧i + 1≤ts.length∧(∃ o,([some (V.int (0 + (i:Int))),some (.int way),some (.ref p)]:L2.St)=[o,some (.int way),some (.ref p)])∧But p H1 J∧Pot J p∧∃ ks':List Nat,(keepI ks).map V.int=(keepI ks').map V.int∧KeepOk (i + 1) ks'):=fun {J} bj pj =>
   ⟨bj _ _ nLp hd,ts.length - (i + 1),by omega,rfl,hlt,⟨_,rfl⟩,bt.trans bj,pj,ks,rfl,ko.1,fun k hk=>by have:=ko.2 k hk;omega⟩
  refine⟨_,rfl,rfl,_,rfl,ite2 (fun c=>?_) (fun c=>?_)⟩
  ·exact iteT ⟨_,rfl,takeIt But.refl pt⟩
  ·refine⟨_,rfl,_,_,rfl,rfl,_,rfl,ite2 (fun c2=>?_) (fun c2=>?_)⟩
   ·refine⟨_,rfl,p,4,rfl,pt,by decide,by decide,fun r J _ _ bj pj=>⟨rfl,_,rfl,rfl,rfl,_,rfl,ite2 (fun c3=>?_) (fun c3=>?_)⟩⟩
    ·exact⟨_,rfl,takeIt bj pj⟩
    ·exact leaveIt bj pj
   ·exact iteF (leaveIt But.refl pt)
 ·have e:i=ts.length:=by omega
  subst e
  refine .inl ⟨Nat.le_refl _,L,_,rfl,.inl ⟨SqL.of hd,fun l hl=>?_⟩⟩
  refine q _ _ ks (b1.trans (bt.trans (But.new hl))) ?_ ko ⟨l,_,rfl,upd_same,IsAll.ints _⟩
  obtain⟨a',b',e',z⟩:=pt
  exact⟨a',b',(same_new hl) _ _ e',z⟩
theorem ok_tie_weights (T:Bi mg) (D:DefOk K mg "tie_weights" s_tie_weights ["web"]):Ok P w K mg base 1 "tie_weights" ["web"] (spWeights K):=by
 refine mk_ok (k:=0) D sc_tie_weights (fun vs H Q E h=>?_) (fun f cdv A outer s H vs Q E hr h=>?_)
 ·obtain⟨n,ts,v,rfl,_⟩:=h
  rfl
 obtain⟨n,ts,v,rfl,hw,few60,q⟩:=h
 have nd:=sc_tie_weights.nd
 obtain⟨g0,g,ws,rfl,hg0,hg,hall,hlw⟩:=web_parts hw
 refine⟨_,(pss_cons (ps_set (i:=1) nd rfl (Or.inl rfl) (pe_lstG pa_nil)) (pss_cons (ps_set (i:=2) nd rfl (Or.inl rfl) pe_int) (pss_cons (ps_for PassesOwn.never rfl (pi_tup (pe_ix ix_tup (pv 0) pe_int (fun _ _=>rfl))) (pg_name (i:=3) nd rfl (Or.inl rfl)) (pss_cons (ps_expr (pe_bm PySem.F.plainAttrs_list PySem.F.slot_list_append PySem.F.type_list_append mt_appendG (pv 1) (pa_cons (pv 2) pa_nil))) (pss_one (ps_set (i:=2) nd rfl (Or.inl rfl) (pe_op op_mul pe_int (pv 2)))))) (pss_one (ps_ret (pv 1)))))),?_⟩
 refine⟨(by show 0≤1000;decide),fun l J0 S0 f0 e0=>?_⟩
 refine⟨_,rfl,g0,_,_,_,rfl,rfl,SqT.of (S0 _ _ hg0),rfl,g,rfl,⟨_,SqT.of (S0 _ _ hg)⟩,?_⟩
 refine for_tup (xs:=ws) (fun i σ J=>∃ y3:Option V,σ=[some (.ref g0),some (.ref l),some (.int (2 ^ i)),y3]∧Same H J∧J l=some (.lst (pows i))) ⟨none,rfl,S0,e0⟩ (fun i σ J _ h=>by obtain⟨_,_,s,_⟩:=h;exact SqT.of (s _ _ hg)) (fun i x σ J hx h=>?_) (fun σ J h=>?_)
 ·obtain⟨y3,rfl,s1,e1⟩:=h
  have hi:i < ws.length:=(List.getElem?_eq_some_iff.mp hx).1
  refine⟨_,rfl,.inl ⟨rfl,_,SqL.of e1⟩,_,rfl,l,_,_,rfl,rfl,e1,(by unfold pows;rw[List.length_map,List.length_range];omega),fun J1 b1 e2=>?_⟩
  refine⟨_,rfl,_,_,rfl,rfl,.inl ⟨by decide,by decide⟩,?_⟩
  refine⟨some x,?_,fun b o e=>b1 _ _ (ne_of_none e f0) (s1 _ _ e),by rw[e2,pows_succ]⟩
  have ep:(2:Int) * 2 ^ i=2 ^ (i + 1):=by rw[Int.pow_succ,Int.mul_comm]
  show [some (V.ref g0),some (V.ref l),some (V.int (2 * 2 ^ i)),some x]=_
  rw[ep]
 ·obtain⟨y3,rfl,s1,e1⟩:=h
  exact⟨_,rfl,q l J s1 f0 (by rw[e1,hlw])⟩
theorem ok_cost_with (T:Bi mg) (D:DefOk K mg "cost_with" s_cost_with ["cost","length","weight"]):Ok P w K mg base 1 "cost_with" ["cost","length","weight"] (spCost K):=by
 refine mk_ok (k:=0) D sc_cost_with (fun vs H Q E h=>?_) (fun f cdv A outer s H vs Q E hr h=>?_)
 ·obtain⟨c,x,y,l,ww,rfl,_⟩:=h
  rfl
 obtain⟨c,x,y,l,ww,rfl,hc,q⟩:=h
 have nd:=sc_cost_with.nd
 refine⟨_,(pss_one (ps_ret (pe_tupG (pa_cons (pe_op op_add (pe_ix ix_tup (pv 0) pe_int (fun _ _=>rfl)) (pv 1)) (pa_cons (pe_op op_add (pe_ix ix_tup (pv 0) pe_int (fun _ _=>rfl)) (pv 2)) pa_nil))))),?_⟩
 exact⟨_,rfl,c,_,_,_,rfl,rfl,SqT.of hc,rfl,_,rfl,_,_,rfl,rfl,_,rfl,c,_,_,_,rfl,rfl,SqT.of hc,rfl,_,rfl,_,_,rfl,rfl,(by show 2≤1000;decide),fun t J S f e=>q t J S e⟩
def rWB (H:Hp) (wv kv:V) (n r:Int) (ts:List Tie) (ks:List Nat) (lw lc la:Addr) (m:Nat) (σ:L2.St) (J:Hp):Prop:=∃ (cs:List (Option (Int × Int))) (as:List (Option Nat)) (ag:Bool) (y7 y8 y9 y10 y11 y12 y13:Option V),σ=[some wv,some kv,some (.int r),some (.ref lw),some (.ref lc),some (.ref la),some (.bl ag),y7,y8,y9,y10,y11,y12,y13] ∧
 RA H J lw lc la (pows ts.length) cs as∧Far.Good (arcs ts ks) n.toNat r.toNat cs∧Far.Run (arcsB ts ks) r.toNat cs as∧(ag=false->Far.Stab2 (arcsB ts ks) cs)∧m=Far.mu cs + (if ag=true then 1 else 0)
theorem ok_reached_fromC (T:Bi mg) (D:DefOk K mg "reached_from" s_reached_from ["web","keep","root"]) (O_tie_weights:Ok P w K mg base 1 "tie_weights" ["web"] (spWeights K)) (O_cost_with:Ok P w K mg base 1 "cost_with" ["cost","length","weight"] (spCost K)):Ok P w K mg base 2 "reached_from" ["web","keep","root"] (spReachedC K):=by
 refine mk_ok (k:=1) D sc_reached_from (fun vs H Q E h=>?_) (fun f cdv A outer s H vs Q E hr h=>?_)
 ·obtain⟨n,ts,ks,wv,kv,r,rfl,_⟩:=h
  rfl
 obtain⟨n,ts,ks,wv,kv,r,rfl,⟨isw,ok,isk,ko⟩,r0,r1,q⟩:=h
 have nd:=sc_reached_from.nd
 have few60:=ok.few
 have n1:=ok.n1
 have n24:=ok.n24
 obtain⟨g0,g,ws,rfl,hg0,hg,hall,hlw⟩:=web_parts isw
 obtain⟨kp,rfl,hkp⟩:=keep_parts isk
 have P:=arcs_pos ok ko
 refine⟨_,(pss_cons (ps_set (i:=3) nd rfl (Or.inl rfl) (pe_callD O_tie_weights hr rfl (pa_cons (pv 0) pa_nil))) (pss_cons (ps_set (i:=4) nd rfl (Or.inl rfl) (pe_op op_rep1 (pe_lstG (pa_cons pe_non pa_nil)) (pe_ix ix_tup (pv 0) pe_int (fun _ _=>rfl)))) (pss_cons (ps_set (i:=5) nd rfl (Or.inl rfl) (pe_op op_rep1 (pe_lstG (pa_cons pe_non pa_nil)) (pe_ix ix_tup (pv 0) pe_int (fun _ _=>rfl)))) (pss_cons (ps_asg (pe_tupG (pa_cons pe_int (pa_cons pe_int pa_nil))) (pg_sub (pv 4) (pv 2) set_list)) (pss_cons (ps_set (i:=6) nd rfl (Or.inl rfl) pe_bl) (pss_cons (ps_while PassesOwn.never (pt_val (pv 6)) (pss_cons (ps_set (i:=6) nd rfl (Or.inl rfl) pe_bl) (pss_one (ps_for PassesOwn.never rfl (pi_tup (pv 1)) (pg_name (i:=7) nd rfl (Or.inl rfl)) (pss_cons (ps_asg (pe_ix ix_tup (pe_ix ix_tup (pv 0) pe_int (fun _ _=>rfl)) (pv 7) (fun _ _=>rfl)) (pg_tup (n:=3) rfl (pgs_cons (pg_name (i:=8) nd rfl (Or.inl rfl)) (pgs_cons (pg_name (i:=9) nd rfl (Or.inl rfl)) (pgs_cons (pg_name (i:=10) nd rfl (Or.inl rfl)) pgs_nil))))) (pss_one (ps_for PassesOwn.never rfl (pi_tup (pe_tupG (pa_cons (pe_tupG (pa_cons (pv 8) (pa_cons (pv 9) pa_nil))) (pa_cons (pe_tupG (pa_cons (pv 9) (pa_cons (pv 8) pa_nil))) pa_nil)))) (pg_tup (n:=2) rfl (pgs_cons (pg_name (i:=11) nd rfl (Or.inl rfl)) (pgs_cons (pg_name (i:=12) nd rfl (Or.inl rfl)) pgs_nil))) (pss_cons (ps_if (pt_cmpR op_isN (pe_ix ix_list (pv 4) (pv 11) (fun _ _=>rfl)) pe_non (nomark _)) (pss_one ps_continue) pss_nil) (pss_cons (ps_set (i:=13) nd rfl (Or.inl rfl) (pe_callD O_cost_with hr rfl (pa_cons (pe_ix ix_list (pv 4) (pv 11) (fun _ _=>rfl)) (pa_cons (pv 10) (pa_cons (pe_ix ix_list (pv 3) (pv 7) (fun _ _=>rfl)) pa_nil))))) (pss_one (ps_if (PW.pt (pw_or (pt_cmpR op_isN (pe_ix ix_list (pv 4) (pv 12) (fun _ _=>rfl)) pe_non (nomark _)) (pw_or1 (pt_cmpR (op_ltT hr.units0) (pv 13) (pe_ix ix_list (pv 4) (pv 12) (fun _ _=>rfl)) (nomark _))))) (pss_cons (ps_asg (pv 13) (pg_sub (pv 4) (pv 12) set_list)) (pss_cons (ps_asg (pv 11) (pg_sub (pv 5) (pv 12) set_list)) (pss_one (ps_set (i:=6) nd rfl (Or.inl rfl) pe_bl)))) pss_nil))))))))))) (pss_one (ps_ret (pe_tupG (pa_cons (pv 4) (pa_cons (pv 5) pa_nil))))))))))),?_⟩
 refine⟨_,rfl,n,ts,_,rfl,isw,few60,fun lw J1 S1 f1 e1=>?_⟩
 refine⟨(by show 1≤1000;decide),fun t0 J2 S2 f2 e2=>⟨_,rfl,g0,_,_,_,rfl,rfl,SqT.of (S2 _ _ (S1 _ _ hg0)),rfl,t0,n,_,rfl,rfl,e2,by omega,by omega,fun lc J3 S3 f3 e3=>?_⟩⟩
 have S13:=S1.trans (S2.trans S3)
 refine⟨(by show 1≤1000;decide),fun t1 J4 S4 f4 e4=>⟨_,rfl,g0,_,_,_,rfl,rfl,SqT.of (S4 _ _ (S13 _ _ hg0)),rfl,t1,n,_,rfl,rfl,e4,by omega,by omega,fun la J5 S5 f5 e5=>?_⟩⟩
 refine⟨(by show 2≤1000;decide),fun t2 J6 S6 f6 e6=>?_⟩
 have S36:=S4.trans (S5.trans S6)
 have elc:=S36 _ _ e3
 refine⟨_,rfl,_,rfl,lc,_,r,r.toNat,rfl,rfl,elc,ixN_nat r0 (by rw[List.length_replicate];omega),?_⟩
 have Sall:Same H J6:=S13.trans S36
 have fc:H lc=none:=(S1.trans S2).free f3
 have fa:H la=none:=(S13.trans S4).free f5
 have nwc:lw≠lc:=fun z=>by rw[← z,S2 _ _ e1] at f3;cases f3
 have nwa:lw≠la:=fun z=>by rw[← z,S4 _ _ (S3 _ _ (S2 _ _ e1))] at f5;cases f5
 have nca:lc≠la:=fun z=>by rw[← z,S4 _ _ e3] at f5;cases f5
 have R0:RA H J6 lw lc la (pows ts.length) (List.replicate n.toNat none) (List.replicate n.toNat none):=⟨Sall,fc,fa,nwc,nwa,nca,S36 _ _ (S3 _ _ (S2 _ _ e1)),⟨_,elc,CostL.first _⟩,by rw[S6 _ _ e5,List.map_replicate];rfl⟩
 have R1:=R0.put (k:=r.toNat) elc (by rw[List.length_replicate];omega) e6
  -- the passes
 refine⟨rWB H (.ref g0) (.ref kp) n r ts ks lw lc la,⟨_,_,_,true,none,none,none,none,none,none,none,rfl,R1,Far.Good.first (by omega),Far.Run.first (by omega),fun z=>(by cases z),rfl⟩,?_⟩
 rintro m σ J ⟨c0,as0,ag,y7,y8,y9,y10,y11,y12,y13,rfl,R,G,AH,St,rfl⟩
 refine⟨_,rfl,ag,rfl,?_⟩
 cases ag with
 | false =>
  refine iteF ?_
  obtain⟨cvs,hc,cl⟩:=R.co
  exact⟨_,rfl,_,rfl,(by show 2≤1000;decide),fun p J' S' f' e'=>q p lc la cvs as0 c0 J' (R.same.trans S') e' (S' _ _ hc) (S' _ _ R.ah) (cl.keep (tk_same S')) (AH.best P G (St rfl)) G (stab_of (St rfl))⟩
 | true =>
  refine iteT ⟨fun σ' J'=>∃ m',m' < Far.mu c0 + 1∧rWB H (.ref g0) (.ref kp) n r ts ks lw lc la m' σ' J',fun _ _ h=>h,?_⟩
  refine⟨_,rfl,kp,rfl,⟨_,SqT.of (R.same _ _ hkp)⟩,?_⟩
  refine for_tup (xs:=(keepI ks).map V.int) (fun i σ J=>∃ (cs:List (Option (Int × Int))) (as:List (Option Nat)) (ag:Bool) (y7 y8 y9 y10 y11 y12 y13:Option V),σ=[some (.ref g0),some (.ref kp),some (.int r),some (.ref lw),some (.ref lc),some (.ref la),some (.bl ag),y7,y8,y9,y10,y11,y12,y13] ∧
   RA H J lw lc la (pows ts.length) cs as∧Far.Good (arcs ts ks) n.toNat r.toNat cs∧Far.Run (arcsB ts ks) r.toNat cs as∧Far.PS2 c0 (fun z=>z ∈ arcsB ts (ks.take i)) cs ag) ⟨c0,as0,false,_,_,_,_,_,_,_,rfl,R,G,AH,.inl ⟨rfl,rfl,fun u v l k c z=>by cases z⟩⟩ (fun i σ J _ h=>?_) (fun i x σ J hx h=>?_) (fun σ J h=>?_)
  ·obtain⟨cs,as,ag,y7,y8,y9,y10,y11,y12,y13,rfl,R,_⟩:=h
   exact SqT.of (R.same _ _ hkp)
  ·obtain⟨cs,as,ag,y7,y8,y9,y10,y11,y12,y13,rfl,R,G,AH,Pt⟩:=h
   obtain⟨k,hk,rfl⟩:=keep_at hx
   have hkl:k < ts.length:=ko.2 k (List.mem_of_getElem? hk)
   obtain⟨ta,hta,htie⟩:=tie_val hall hkl
   obtain⟨t,et⟩:∃ t,t=tieAt ts k:=⟨_,rfl⟩
   rw[← et] at htie
   have tk:=ok.tie _ (tieAt_in hkl).2
   rw[← et] at tk
   refine⟨_,rfl,g0,_,_,_,rfl,rfl,SqT.of (R.same _ _ hg0),rfl,_,rfl,g,_,_,_,rfl,rfl,SqT.of (R.same _ _ hg),atI_toNat (Int.natCast_nonneg _) hta,ta,_,rfl,SqT.of (R.same _ _ htie),rfl,_,_,rfl,_,_,rfl,_,_,rfl,rfl,?_⟩
   refine⟨_,rfl,_,rfl,(by show 2≤1000;decide),fun t1 K1 T1 u1 v1=>⟨_,rfl,_,rfl,(by show 2≤1000;decide),fun t2 K2 T2 u2 v2=>⟨(by show 2≤1000;decide),fun t3 K3 T3 u3 v3=>⟨t3,rfl,⟨_,SqT.of v3⟩,?_⟩⟩⟩⟩
   have R3:=R.step (T1.trans (T2.trans T3))
   have v1':=T3 _ _ (T2 _ _ v1)
   have v2':=T3 _ _ v2
   refine for_tup (xs:=[V.ref t1,.ref t2]) (fun j σ J=>∃ (cs:List (Option (Int × Int))) (as:List (Option Nat)) (ag:Bool) (y11 y12 y13:Option V),σ=[some (.ref g0),some (.ref kp),some (.int r),some (.ref lw),some (.ref lc),some (.ref la),some (.bl ag),some (.int (k:Int)),some (.int t.1),some (.int t.2.1),some (.int t.2.2),y11,y12,y13] ∧
    RA H J lw lc la (pows ts.length) cs as∧Far.Good (arcs ts ks) n.toNat r.toNat cs∧Far.Run (arcsB ts ks) r.toNat cs as∧Far.PS2 c0 (fun z=>z ∈ arcsB ts (ks.take i)∨z ∈ (arcs2B t k).take j) cs ag∧TupKeep K3 J) ⟨cs,as,ag,_,_,_,rfl,R3,G,AH,Pt.less fun a z=>z.elim id fun z=>(by cases z),fun _ _ e=>e⟩ (fun j σ J _ h=>?_) (fun j x σ J hx h=>?_) (fun σ J h=>?_)
   ·obtain⟨cs,as,ag,y11,y12,y13,rfl,R,G,AH,Pt,tk⟩:=h
    exact SqT.of (tk _ _ v3)
   ·obtain⟨cs,as,ag,y11,y12,y13,rfl,R,G,AH,Pt,tkp⟩:=h
    obtain⟨p,u,v,rfl,hp,u0,un,v0,vn,arc,arcB,more⟩:∃ p u v,x=.ref p∧J p=some (.tup [.int u,.int v])∧0≤u∧u < n∧0≤v∧v < n∧(u.toNat,v.toNat,t.2.2) ∈ arcs ts ks∧(u.toNat,v.toNat,t.2.2,k) ∈ arcsB ts ks∧∀ z,z ∈ (arcs2B t k).take (j + 1)->z ∈ (arcs2B t k).take j∨z=(u.toNat,v.toNat,t.2.2,k):=by
     have memB:∀ z,z ∈ arcs2B t k->z ∈ arcsB ts ks:=fun z hz=>arcsB_mem.mpr ⟨k,List.mem_of_getElem? hk,by rw[← et];exact hz⟩
     have mem:∀ z,z ∈ arcs2 t->z ∈ arcs ts ks:=fun z hz=>arcs_mem.mpr ⟨k,List.mem_of_getElem? hk,by rw[← et];exact hz⟩
     match j,hx with
     | 0,hx=>cases hx;exact⟨t1,t.1,t.2.1,rfl,tkp _ _ v1',by omega,by omega,by omega,by omega,mem _ (arcs2_mem.mpr (.inl rfl)),memB _ (arcs2B_mem.mpr (.inl rfl)),fun z hz=>by unfold arcs2B at *;simpa using hz⟩
     | 1,hx=>cases hx;exact⟨t2,t.2.1,t.1,rfl,tkp _ _ v2',by omega,by omega,by omega,by omega,mem _ (arcs2_mem.mpr (.inr rfl)),memB _ (arcs2B_mem.mpr (.inr rfl)),fun z hz=>by unfold arcs2B at *;simpa using hz⟩
    refine⟨p,_,rfl,SqT.of hp,rfl,_,_,rfl,_,_,rfl,rfl,?_⟩
    obtain⟨cvs,hc,cl⟩:=R.co
    have lenC:cvs.length=n.toNat:=by rw[cl.1];exact G.len
    obtain⟨x1,at1,cv1⟩:=cost_at cl u0 (by rw[G.len];omega)
    obtain⟨x2,at2,cv2⟩:=cost_at cl v0 (by rw[G.len];omega)
    have next:∀ {cs':List (Option (Int × Int))} {ag':Bool},Far.PS2 c0 (Far.plusA (fun z=>z ∈ arcsB ts (ks.take i)∨z ∈ (arcs2B t k).take j) (u.toNat,v.toNat,t.2.2,k)) cs' ag'->Far.PS2 c0 (fun z=>z ∈ arcsB ts (ks.take i)∨z ∈ (arcs2B t k).take (j + 1)) cs' ag':=fun h=>h.less fun z hz=>by
     rcases hz with hz | hz
     ·exact .inl (.inl hz)
     ·exact (more z hz).elim (fun y=>.inl (.inr y)) .inr
    refine⟨_,rfl,_,rfl,lc,_,_,_,rfl,rfl,SqL.of hc,at1,rfl,_,rfl,ite2 (fun c1=>?_) (fun c1=>?_)⟩
    ·-- not reached
     have gu:Far.get cs u.toNat=none:=by
      cases e:Far.get cs u.toNat with
      | none=>rfl
      | some d =>
       rw[e] at cv1
       obtain⟨tt,rfl,_⟩:=cv1
       cases of_decide_eq_true c1
     exact⟨cs,as,ag,_,_,_,rfl,R,G,AH,next (Pt.no gu),tkp⟩
    ·obtain⟨d,gu⟩:∃ d,Far.get cs u.toNat=some d:=by
      cases e:Far.get cs u.toNat with
      | none=>rw[e] at cv1;exact absurd (decide_eq_true (show x1=V.non from cv1)) c1
      | some d=>exact⟨d,rfl⟩
     rw[gu] at cv1
     obtain⟨td,rfl,htd⟩:=cv1
     have pw:=pow_le (i:=k) (by omega)
     refine⟨_,rfl,_,rfl,lc,_,_,_,rfl,rfl,SqL.of hc,at1,_,rfl,_,rfl,_,rfl,lw,_,_,_,rfl,rfl,SqL.of R.wl,atI_toNat (Int.natCast_nonneg _) (pows_at hkl),td,_,_,_,_,rfl,htd,fun tn L1 Z1 en=>?_⟩
     have R':=R.step Z1
     have hc':=Z1 _ _ hc
     have tkp':TupKeep K3 L1:=fun a xs e=>Z1 _ _ (tkp a xs e)
     have done : ∀ (hlt : Far.get cs v.toNat = none ∨ ∃ c', Far.get cs v.toNat = some c' ∧ Far.lt2 (d.1 + t.2.2, d.2 + 2 ^ k) c') , ∀ L, L = upd (upd L1 lc (.lst (cvs.set v.toNat (.ref tn)))) la (.lst ((as.map oa).set v.toNat (.int u))) →
         RA H L lw lc la (pows ts.length) (cs.set v.toNat (some (d.1 + t.2.2,d.2 + 2 ^ k))) (as.set v.toNat (some u.toNat))∧Far.Good (arcs ts ks) n.toNat r.toNat (cs.set v.toNat (some (d.1 + t.2.2,d.2 + 2 ^ k)))∧Far.Run (arcsB ts ks) r.toNat (cs.set v.toNat (some (d.1 + t.2.2,d.2 + 2 ^ k))) (as.set v.toNat (some u.toNat))∧Far.PS2 c0 (fun z=>z ∈ arcsB ts (ks.take i)∨z ∈ (arcs2B t k).take (j + 1)) (cs.set v.toNat (some (d.1 + t.2.2,d.2 + 2 ^ k))) true∧TupKeep K3 L:=fun hlt L eL=>by
      subst eL
      obtain⟨G',mm⟩:=G.step P (by omega) arc (by omega) pw.1 pw.2 (by omega) gu hlt
      have Rp:=R'.put hc' (k:=v.toNat) (by omega) en
      have Rm:=Rp.mark (k:=v.toNat) (u:=u.toNat)
      rw[Int.toNat_of_nonneg u0] at Rm
      exact⟨Rm,G',Far.Run.step P G AH arc arcB (by omega) gu hlt,next (Pt.put mm),fun a xs e=>tk_upd Rp.ah _ _ (tk_upd hc' _ _ (tkp' a xs e))⟩
     have ha:=R'.ah
     have hal:(as.map oa).length=n.toNat:=by rw[List.length_map,AH.len];exact G.len
     refine⟨_,rfl,_,rfl,lc,_,_,_,rfl,rfl,SqL.of hc',at2,rfl,_,rfl,ite2 (fun c2=>iteT ?_) (fun c2=>?_)⟩
     ·have gv:Far.get cs v.toNat=none:=by
       cases e:Far.get cs v.toNat with
       | none=>rfl
       | some d =>
        rw[e] at cv2
        obtain⟨tt,rfl,_⟩:=cv2
        cases of_decide_eq_true c2
      obtain⟨R2,G2,A2,P2,k2⟩:=done (.inl gv) _ rfl
      exact⟨_,rfl,_,rfl,_,rfl,lc,_,_,_,rfl,rfl,hc',ixN_nat v0 (by omega),_,rfl,_,rfl,_,rfl,la,_,_,_,rfl,rfl,(by rw[upd_ne R.nca.symm];exact ha),ixN_nat v0 (by omega),_,_,true,_,_,_,rfl,R2,G2,A2,P2,k2⟩
     ·obtain⟨d2,gv⟩:∃ d,Far.get cs v.toNat=some d:=by
       cases e:Far.get cs v.toNat with
       | none=>rw[e] at cv2;exact absurd (decide_eq_true (show x2=V.non from cv2)) c2
       | some d=>exact⟨d,rfl⟩
      rw[gv] at cv2
      obtain⟨te,rfl,hte⟩:=cv2
      refine⟨_,rfl,_,rfl,_,rfl,lc,_,_,_,rfl,rfl,SqL.of hc',at2,tn,te,L3.e2 (d.1 + t.2.2,d.2 + 2 ^ k),L3.e2 d2,rfl,rfl,SqT.of en,SqT.of (Z1 _ _ hte),_,rfl,ite2 (fun c3=>?_) (fun c3=>?_)⟩
      ·have hl:=(lexLt_e2 _ _).mp c3
       obtain⟨R2,G2,A2,P2,k2⟩:=done (.inr ⟨d2,gv,hl⟩) _ rfl
       exact⟨_,rfl,_,rfl,_,rfl,lc,_,_,_,rfl,rfl,hc',ixN_nat v0 (by omega),_,rfl,_,rfl,_,rfl,la,_,_,_,rfl,rfl,(by rw[upd_ne R.nca.symm];exact ha),ixN_nat v0 (by omega),_,_,true,_,_,_,rfl,R2,G2,A2,P2,k2⟩
      ·have hn:¬ Far.lt2 (d.1 + t.2.2,d.2 + 2 ^ k) d2:=fun z=>c3 ((lexLt_e2 _ _).mpr z)
       exact⟨cs,as,ag,_,_,_,rfl,R',G,AH,next (Pt.old gu gv hn),tkp'⟩
   ·obtain⟨cs,as,ag,y11,y12,y13,rfl,R,G,AH,Pt,tkp⟩:=h
    refine⟨cs,as,ag,_,_,_,_,_,_,_,rfl,R,G,AH,Pt.less fun z hz=>?_⟩
    exact (arcsB_take hk hz).elim .inl fun y=>.inr (by rw[← et] at y;exact y)
  ·obtain⟨cs,as,ag,y7,y8,y9,y10,y11,y12,y13,rfl,R2,G2,A2,Pt⟩:=h
   have lk:((keepI ks).map V.int).length=ks.length:=by unfold keepI;rw[List.length_map,List.length_map]
   rw[lk,List.take_length] at Pt
   rcases Pt with ⟨ea,ec,st⟩ | ⟨ea,lt⟩
   ·subst ea
    rw[← ec] at st
    exact⟨Far.mu cs + 0,by rw[ec];omega,cs,as,false,_,_,_,_,_,_,_,rfl,R2,G2,A2,fun _=>st,rfl⟩
   ·subst ea
    exact⟨Far.mu cs + 1,by omega,cs,as,true,_,_,_,_,_,_,_,rfl,R2,G2,A2,fun z=>(by cases z),rfl⟩
theorem ok_tree_fromB (T:Bi mg) (D:DefOk K mg "tree_from" s_tree_from ["web","keep","root"]) (O_reached_from:Ok P w K mg base 2 "reached_from" ["web","keep","root"] (spReachedB K)):Ok P w K mg base 3 "tree_from" ["web","keep","root"] (spTreeB K):=by
 refine mk_ok (k:=2) D sc_tree_from (fun vs H Q E h=>?_) (fun f cdv A outer s H vs Q E hr h=>?_)
 ·obtain⟨n,ts,ks,wv,kv,r,rfl,_⟩:=h
  rfl
 obtain⟨n,ts,ks,wv,kv,r,rfl,wk,r0,r1,q⟩:=h
 have nd:=sc_tree_from.nd
 refine⟨_,(pss_cons (ps_asg (pe_callD O_reached_from hr rfl (pa_cons (pv 0) (pa_cons (pv 1) (pa_cons (pv 2) pa_nil)))) (pg_tup (n:=2) rfl (pgs_cons (pg_name (i:=3) nd rfl (Or.inl rfl)) (pgs_cons (pg_name (i:=4) nd rfl (Or.inl rfl)) pgs_nil)))) (pss_one (ps_ret (pe_callTy call_tupleG rfl T.z_tuple (by decide +kernel) (pa_cons (pv 4) pa_nil))))),?_⟩
 refine⟨_,rfl,_,rfl,_,rfl,n,ts,ks,wv,kv,r,rfl,wk,r0,r1,fun p lc la cvs as cs J S ep ec ea cl G=>?_⟩
 refine⟨p,_,rfl,SqT.of ep,rfl,_,_,rfl,_,_,rfl,rfl,?_⟩
 exact⟨_,rfl,la,_,rfl,ea,fun t J2 S2 f2 e2=>q t as cs J2 (S.trans S2) e2 G⟩
theorem atI_last {ws:List V} {x:V}:atI (ws++[x]) (-1)=some x:=by
 unfold atI ixN
 rw[if_neg (by decide),if_pos (by rw[List.length_append,List.length_singleton];omega)]
 show (ws++[x])[(-1 + ((ws++[x]).length:Int)).toNat]?=some x
 rw[List.length_append,List.length_singleton,show (-1 + ((ws.length + 1:Nat):Int)).toNat=ws.length by omega]
 simp
theorem ok_the_wayB (T:Bi mg) (D:DefOk K mg "the_way" s_the_way ["web","keep","a","b"]) (O_tree_from:Ok P w K mg base 3 "tree_from" ["web","keep","root"] (spTreeB K)):Ok P w K mg base 4 "the_way" ["web","keep","a","b"] (spWayB K):=by
 refine mk_ok (k:=3) D sc_the_way (fun vs H Q E h=>?_) (fun f cdv A outer s H vs Q E hr h=>?_)
 ·obtain⟨n,ts,ks,wv,kv,a,b,rfl,_⟩:=h
  rfl
 obtain⟨n,ts,ks,wv,kv,a,b,rfl,wk,a0,a1,b0,b1,q⟩:=h
 have nd:=sc_the_way.nd
 have n24:=wk.2.1.n24
 have KB:=arcsB_keys wk.2.1 wk.2.2.2
 refine⟨_,(pss_cons (ps_set (i:=4) nd rfl (Or.inl rfl) (pe_callD O_tree_from hr rfl (pa_cons (pv 0) (pa_cons (pv 1) (pa_cons (pv 3) pa_nil))))) (pss_cons (ps_set (i:=5) nd rfl (Or.inl rfl) (pe_lstG (pa_cons (pv 2) pa_nil))) (pss_cons (ps_while PassesOwn.never (pt_cmpR op_ne (pe_ix ix_list (pv 5) (pe_un un_neg pe_int) (fun _ _=>rfl)) (pv 3) (nomark _)) (pss_cons (ps_if (pt_cmpR op_isN (pe_ix ix_tup (pv 4) (pe_ix ix_list (pv 5) (pe_un un_neg pe_int) (fun _ _=>rfl)) (fun _ _=>rfl)) pe_non (nomark _)) (pss_one (ps_ret pe_non)) pss_nil) (pss_one (ps_expr (pe_bm PySem.F.plainAttrs_list PySem.F.slot_list_append PySem.F.type_list_append mt_appendG (pv 5) (pa_cons (pe_ix ix_tup (pv 4) (pe_ix ix_list (pv 5) (pe_un un_neg pe_int) (fun _ _=>rfl)) (fun _ _=>rfl)) pa_nil)))))) (pss_one (ps_ret (pe_callTy call_tupleG rfl T.z_tuple (by decide +kernel) (pa_cons (pv 5) pa_nil))))))),?_⟩
 refine⟨_,rfl,_,rfl,_,rfl,n,ts,ks,wv,kv,b,rfl,wk,b0,b1,fun p as cs J S ep G=>?_⟩
 refine⟨_,rfl,(by show 1≤1000;decide),fun lw J1 S1 f1 e1=>?_⟩
 have lA:=G.alen
 have ep1:=S1 _ _ ep
 have fw:H lw=none:=S.free f1
 have nlp:p≠lw:=fun z=>by rw[z,f1] at ep;cases ep
 refine⟨fun m σ J2=>∃ (pre:List Nat) (c:Nat),σ=[some wv,some kv,some (.int a),some (.int b),some (.ref p),some (.ref lw)]∧Same H J2∧J2 p=some (.tup (as.map oa))∧J2 lw=some (.lst (natV (pre++[c])))∧c < n.toNat ∧
  ((pre=[]∧c=a.toNat∧Far.get cs c=none∧m=0)∨∃ ca cc,Far.get cs a.toNat=some ca∧Far.get cs c=some cc∧(∀ P,Far.TPw as b.toNat P c->Far.TPw as b.toNat (P++pre.reverse) a.toNat)∧pre.length + 1≤Far.beyond n.toNat cs cc.1∧m=cc.1.toNat),?_,?_⟩
 ·have e1':J1 lw=some (.lst (natV ([]++[a.toNat]))):=by rw[e1];show some (HO.lst [V.int a])=some (HO.lst [V.int ((a.toNat:Nat):Int)]);rw[Int.toNat_of_nonneg a0]
  cases e:Far.get cs a.toNat with
  | none=>exact⟨0,[],a.toNat,rfl,S.trans S1,ep1,e1',by omega,.inl ⟨rfl,rfl,e,rfl⟩⟩
  | some ca=>exact⟨_,[],a.toNat,rfl,S.trans S1,ep1,e1',by omega,.inr ⟨ca,ca,rfl,e,fun P t=>by rw[List.reverse_nil,List.append_nil];exact t,Far.beyond_pos (by omega) e,rfl⟩⟩
 rintro m σ J2 ⟨pre,c,rfl,sm,hp,hw,hc,inv⟩
 have lastV:atI (natV (pre++[c])) (-1)=some (.int (c:Int)):=by
  unfold natV;rw[List.map_append];exact atI_last
 have hat:atI (as.map oa) (c:Int)=some (oa (Far.get as c)):=atI_toNat (Int.natCast_nonneg _) (by rw[Int.toNat_natCast];exact oa_at (by omega))
 refine⟨_,rfl,_,rfl,lw,_,_,_,rfl,rfl,SqL.of hw,lastV,_,rfl,rfl,_,rfl,?_⟩
 by_cases cb:c=b.toNat
 ·refine iteNS (by rw[cb,Int.toNat_of_nonneg b0]) ?_
  refine⟨_,rfl,lw,_,rfl,hw,fun t J3 S3 f3 e3=>q _ J3 (sm.trans S3) ⟨cs,as,G,.inr ?_⟩⟩
  rcases inv with ⟨_,_,ec,_⟩ | ⟨ca,cc,e1',e2',tp,hl,_⟩
  ·rw[cb,G.start] at ec;cases ec
  ·have:=Far.beyond_le n.toNat cs cc.1
   refine⟨t,pre++[c],ca,rfl,e3,by rw[List.length_append,List.length_singleton];omega,e1',?_⟩
   rw[List.reverse_append]
   have:=tp [b.toNat] (by rw[cb];exact .root)
   rw[cb];exact this
 ·have ne:decide (V.int (c:Int)=V.int b)=false:=decide_eq_false fun z=>cb (by injection z with z;omega)
  rw[ne]
  refine iteT ⟨fun σ' J'=>∃ m',m' < m∧∃ (pre:List Nat) (c:Nat),σ'=[some wv,some kv,some (.int a),some (.int b),some (.ref p),some (.ref lw)]∧Same H J'∧J' p=some (.tup (as.map oa))∧J' lw=some (.lst (natV (pre++[c])))∧c < n.toNat ∧
   ((pre=[]∧c=a.toNat∧Far.get cs c=none∧m'=0)∨∃ ca cc,Far.get cs a.toNat=some ca∧Far.get cs c=some cc∧(∀ P,Far.TPw as b.toNat P c->Far.TPw as b.toNat (P++pre.reverse) a.toNat)∧pre.length + 1≤Far.beyond n.toNat cs cc.1∧m'=cc.1.toNat),fun _ _ h=>h,?_⟩
  refine⟨_,rfl,_,rfl,_,rfl,lw,_,_,_,rfl,rfl,SqL.of hw,lastV,p,_,_,_,rfl,rfl,SqT.of hp,hat,rfl,_,rfl,?_⟩
  cases ea:Far.get as c with
  | none =>
   refine iteT (q _ _ sm ⟨cs,as,G,.inl ⟨rfl,?_⟩⟩)
   rcases inv with ⟨_,ec,e2',_⟩ | ⟨ca,cc,_,e2',_⟩
   ·rw[← ec];exact e2'
   ·exact absurd ea (G.has c cc e2' cb)
  | some u =>
   obtain⟨l,k,cu,mm,e1',e2'⟩:=G.arc _ _ ea
   rw[ea] at hat
   rcases inv with ⟨_,_,ec,_⟩ | ⟨ca,cc,e3',e4',tp,hl,rfl⟩
   ·rw[ec] at e2';cases e2'
   ·have ecc:cc=(cu.1 + l,cu.2 + 2 ^ k):=Option.some.inj (e4'.symm.trans e2')
    have l1:=KB.pos _ _ _ _ mm
    have cu0:=G.nn _ _ e1'
    have hu:=(arcsB_in wk.2.1 wk.2.2.2 mm).1
    have c1:cc.1=cu.1 + l:=by rw[ecc]
    have bl:=Far.beyond_lt hu e1' (show cu.1 < cc.1 by omega)
    have ble:=Far.beyond_le n.toNat cs cu.1
    have lenW:(natV (pre++[c])).length=pre.length + 1:=by unfold natV;rw[List.length_map,List.length_append,List.length_singleton]
    refine iteF ⟨_,rfl,.inl ⟨rfl,_,SqL.of hw⟩,_,rfl,_,rfl,_,rfl,lw,_,_,_,rfl,rfl,SqL.of hw,lastV,p,_,_,_,rfl,rfl,SqT.of hp,hat,lw,_,_,rfl,rfl,hw,by omega,fun J3 b3 e3=>?_⟩
    refine⟨cu.1.toNat,by omega,pre++[c],u,rfl,fun c o z=>b3 _ _ (ne_of_none z fw) (sm _ _ z),b3 _ _ nlp hp,?_,hu,.inr ⟨ca,cu,e3',e1',fun P t=>?_,by rw[List.length_append,List.length_singleton];omega,rfl⟩⟩
    ·rw[e3];unfold natV;rw[List.map_append (l₂:=[u])];rfl
    ·have:=tp (P++[c]) (.step ea t)
     rw[List.reverse_append]
     rw[List.append_assoc] at this
     exact this
theorem dec_intV (x y:Int):decide (V.int x=V.int y)=decide (x=y):=by
 by_cases z:x=y
 ·rw[decide_eq_true z,decide_eq_true (by rw[z])]
 ·rw[decide_eq_false z,decide_eq_false fun h=>z (by injection h)]
def pr8 (q:Nat × Nat):PyData:=.tuple [.int (q.1:Int),.int (q.2:Int)]
theorem pr8_tup:∀ l:List (Nat × Nat),tupAll (l.map pr8)=true:=fun l=>tup_all fun x hx=>by obtain⟨q,_,rfl⟩:=List.mem_map.mp hx;rfl
def spEnds (K:PySem.W.Frag):Sp:=fun vs H Q _=>∃ (n:Int) (ts:List Tie) (ks:List Nat) (wv kv:V) (v:Nat),vs=[wv,kv,.int (v:Int)]∧WK K H n ts ks wv kv∧∀ l us H',Same H H'->H l=none->H' l=some (.lst us)->IsAll K H' ((endsN ts ks v).map pr8) us->Q (.ref l) H'
theorem ok__law_ends08 (T:Bi mg) (D:DefOk K mg "_law_ends" s__law_ends ["web","keep","place"]):Ok P w K mg base 1 "_law_ends" ["web","keep","place"] (spEnds K):=by
 refine mk_ok (k:=0) D sc__law_ends (fun vs H Q E h=>?_) (fun f cdv A outer s H vs Q E hr h=>?_)
 ·obtain⟨n,ts,ks,wv,kv,v,rfl,_⟩:=h
  rfl
 obtain⟨n,ts,ks,wv,kv,v,rfl,wk,q⟩:=h
 have nd:=sc__law_ends.nd
 have ok:=wk.2.1
 have ko:=wk.2.2.2
 have few60:=ok.few
 have lks:=ko.len
 obtain⟨g0,g,gs,rfl,hg0,hg,hall,hlw⟩:=web_parts wk.1
 obtain⟨kp,rfl,hkp⟩:=keep_parts wk.2.2.1
 rw[← natV_keep] at hkp
 refine⟨_,(pss_cons (ps_set (i:=3) nd rfl (Or.inl rfl) (pe_lstG pa_nil)) (pss_cons (ps_for PassesOwn.never rfl (pi_tup (pv 1)) (pg_name (i:=4) nd rfl (Or.inl rfl)) (pss_cons (ps_asg (pe_ix ix_tup (pe_ix ix_tup (pv 0) pe_int (fun _ _=>rfl)) (pv 4) (fun _ _=>rfl)) (pg_tup (n:=3) rfl (pgs_cons (pg_name (i:=5) nd rfl (Or.inl rfl)) (pgs_cons (pg_name (i:=6) nd rfl (Or.inl rfl)) (pgs_cons (pg_name (i:=7) nd rfl (Or.inl rfl)) pgs_nil))))) (pss_one (ps_if (PW.pt (pw_or (pt_cmpR op_eq (pv 2) (pv 5) (nomark _)) (pw_or1 (pt_cmpR op_eq (pv 2) (pv 6) (nomark _))))) (pss_one (ps_expr (pe_bm PySem.F.plainAttrs_list PySem.F.slot_list_append PySem.F.type_list_append mt_appendG (pv 3) (pa_cons (pe_tupG (pa_cons (pe_op op_sub (pe_op op_add (pv 5) (pv 6)) (pv 2)) (pa_cons (pv 4) pa_nil))) pa_nil)))) pss_nil)))) (pss_one (ps_ret (pv 3))))),?_⟩
 refine⟨(by show 0≤1000;decide),fun l J1 S1 f1 e1=>?_⟩
 refine⟨_,rfl,kp,rfl,⟨_,SqT.of (S1 _ _ hkp)⟩,?_⟩
 refine for_tup (xs:=natV ks) (fun i σ J=>∃ (us:List V) (y4 y5 y6 y7:Option V),σ=[some (.ref g0),some (.ref kp),some (.int (v:Int)),some (.ref l),y4,y5,y6,y7]∧Same H J∧J l=some (.lst us)∧us.length≤i∧IsAll K J ((endsN ts (ks.take i) v).map pr8) us) ⟨[],none,none,none,none,rfl,S1,e1,Nat.le_refl _,rfl⟩ (fun i σ J _ h=>?_) (fun i x σ J hx h=>?_) (fun σ J h=>?_)
 ·obtain⟨us,y4,y5,y6,y7,rfl,sm,_⟩:=h
  exact SqT.of (sm _ _ hkp)
 ·obtain⟨us,y4,y5,y6,y7,rfl,sm,hl,lu,iu⟩:=h
  obtain⟨k,hk,rfl⟩:=nat_at hx
  have ik:=(List.getElem?_eq_some_iff.mp hk).1
  have kl:=ko.2 k (List.mem_of_getElem? hk)
  have tk:=ok.tie _ (tieAt_in kl).2
  obtain⟨ta,hta,htie⟩:=tie_val hall kl
  have tn:ks.take (i + 1)=ks.take i++[k]:=by rw[List.take_add_one,hk];rfl
  have en:endsN ts (ks.take (i + 1)) v=endsN ts (ks.take i) v++(if atE ts v k=true then [(othN ts v k,k)] else []):=by
   unfold endsN
   rw[tn,List.filter_append,List.map_append]
   congr 1
   by_cases c:atE ts v k=true
   ·rw[List.filter_cons_of_pos c,if_pos c];rfl
   ·rw[List.filter_cons_of_neg c,if_neg c];rfl
  refine⟨_,rfl,g0,_,_,_,rfl,rfl,SqT.of (sm _ _ hg0),rfl,_,rfl,g,_,_,_,rfl,rfl,SqT.of (sm _ _ hg),atI_toNat (Int.natCast_nonneg _) hta,?_⟩
  refine⟨ta,_,rfl,SqT.of (sm _ _ htie),rfl,_,_,rfl,_,_,rfl,_,_,rfl,rfl,?_⟩
  have fin:∀ J2,Same J J2->∀ (te:Addr),J2 te=some (.tup [.int ((tieAt ts k).1 + (tieAt ts k).2.1 - (v:Int)),.int (k:Int)])->J2 l=some (.lst us)->∀ J3,But l J2 J3->J3 l=some (.lst (us++[.ref te]))->atE ts v k=true->∃ (us:List V) (y4 y5 y6 y7:Option V),([some (.ref g0),some (.ref kp),some (.int (v:Int)),some (.ref l),some (.int (k:Int)),some (.int (tieAt ts k).1),some (.int (tieAt ts k).2.1),some (.int (tieAt ts k).2.2)]:L2.St)=[some (.ref g0),some (.ref kp),some (.int (v:Int)),some (.ref l),y4,y5,y6,y7]∧Same H J3∧J3 l=some (.lst us)∧us.length≤i + 1∧IsAll K J3 ((endsN ts (ks.take (i + 1)) v).map pr8) us:=fun J2 S2 te ete hl2 J3 b3 e3 ca=>by
   have ntk:TupKeep J2 J3:=fun a ys e=>b3 _ _ (fun z=>by rw[z,hl2] at e;cases e) e
   refine⟨us++[.ref te],_,_,_,_,rfl,fun b o e=>b3 _ _ (ne_of_none e f1) (S2 _ _ (sm _ _ e)),e3,by rw[List.length_append];show us.length + 1≤i + 1;omega,?_⟩
   rw[en,if_pos ca,List.map_append]
   refine IsAll.snoc ?_ (isall_tk (fun a ys e=>ntk _ _ (S2 _ _ e)) _ (pr8_tup _) iu)
   have eo:(tieAt ts k).1 + (tieAt ts k).2.1 - (v:Int)=(othN ts v k:Int):=by
    unfold othN
    unfold atE at ca
    rw[Bool.or_eq_true,decide_eq_true_iff,decide_eq_true_iff] at ca
    omega
   rw[eo] at ete
   exact⟨te,_,rfl,ntk _ _ ete,_,_,rfl,rfl,_,_,rfl,rfl,rfl⟩
  by_cases c1:(v:Int)=(tieAt ts k).1
  ·have ca:atE ts v k=true:=by unfold atE;rw[decide_eq_true c1];rfl
   refine⟨_,rfl,_,rfl,rfl,_,rfl,?_⟩
   rw[dec_intV,decide_eq_true c1]
   refine iteT (iteT ?_)
   exact⟨_,rfl,.inl ⟨rfl,_,SqL.of hl⟩,_,rfl,_,rfl,_,_,rfl,rfl,_,rfl,_,_,rfl,rfl,_,rfl,(by show 2≤1000;decide),fun te J2 S2 f2 e2=>⟨l,_,_,rfl,rfl,S2 _ _ hl,by omega,fun J3 b3 e3=>fin J2 S2 te e2 (S2 _ _ hl) J3 b3 e3 ca⟩⟩
  ·refine⟨_,rfl,_,rfl,rfl,_,rfl,?_⟩
   rw[dec_intV,decide_eq_false c1]
   refine iteF ?_
   refine⟨_,rfl,_,rfl,rfl,_,rfl,?_⟩
   rw[dec_intV]
   by_cases c2:(v:Int)=(tieAt ts k).2.1
   ·have ca:atE ts v k=true:=by unfold atE;rw[decide_eq_true c2,Bool.or_true]
    rw[decide_eq_true c2]
    refine iteT ?_
    exact⟨_,rfl,.inl ⟨rfl,_,SqL.of hl⟩,_,rfl,_,rfl,_,_,rfl,rfl,_,rfl,_,_,rfl,rfl,_,rfl,(by show 2≤1000;decide),fun te J2 S2 f2 e2=>⟨l,_,_,rfl,rfl,S2 _ _ hl,by omega,fun J3 b3 e3=>fin J2 S2 te e2 (S2 _ _ hl) J3 b3 e3 ca⟩⟩
   ·rw[decide_eq_false c2]
    have ca:¬ atE ts v k=true:=by
     unfold atE;rw[decide_eq_false c1,decide_eq_false c2];decide
    refine iteF ⟨us,_,_,_,_,rfl,sm,hl,by omega,?_⟩
    rw[en,if_neg ca,List.append_nil];exact iu
 ·obtain⟨us,y4,y5,y6,y7,rfl,sm,hl,lu,iu⟩:=h
  rw[natV_length,List.take_length] at iu
  exact⟨_,rfl,q l us J sm f1 hl iu⟩
def rw8 (r:Row8):PyData:=.tuple [keepD r.1,keepD r.2]
theorem rw8_tup:∀ l:List Row8,tupAll (l.map rw8)=true:=fun l=>tup_all fun x hx=>by
 obtain⟨q,_,rfl⟩:=List.mem_map.mp hx
 show (tupD (keepD q.1) && (tupD (keepD q.2) && true))=true
 rw[show tupD (keepD q.1)=true from tup_ints _,show tupD (keepD q.2)=true from tup_ints _];rfl
theorem rw8_mk {K:PySem.W.Frag} {H:Hp} {p a b:Addr} {r:Row8} (hp:H p=some (.tup [.ref a,.ref b])) (ha:H a=some (.tup (natV r.1))) (hb:H b=some (.tup (natV r.2))):Is K H (rw8 r) (.ref p) :=
 ⟨p,_,rfl,hp,_,_,rfl,is_nkeepL ha,_,_,rfl,is_nkeepL hb,rfl⟩
theorem rw8_of {K:PySem.W.Frag} {H:Hp} {v:V} {r:Row8} (h:Is K H (rw8 r) v):∃ p a b,v=.ref p∧H p=some (.tup [.ref a,.ref b])∧H a=some (.tup (natV r.1))∧H b=some (.tup (natV r.2)):=by
 obtain⟨p,_,rfl,hp,v1,_,rfl,h1,v2,_,rfl,h2,hnil⟩:=h
 obtain rfl:=hnil
 obtain⟨a,rfl,ha⟩:=keep_parts h1
 obtain⟨b,rfl,hb⟩:=keep_parts h2
 exact⟨p,a,b,rfl,hp,by rw[natV_keep];exact ha,by rw[natV_keep];exact hb⟩
theorem at_last8 {ws:List Nat} (h:ws≠[]):atI (natV ws) (-1)=some (.int (lastN ws:Int)):=by
 have hl:0 < ws.length:=List.length_pos_iff.mpr h
 unfold atI ixN
 rw[if_neg (by decide),if_pos (by rw[natV_length];omega)]
 show (natV ws)[(-1 + ((natV ws).length:Int)).toNat]?=_
 rw[natV_length,show (-1 + (ws.length:Int)).toNat=ws.length - 1 by omega]
 unfold natV lastN
 rw[List.getElem?_map,List.getLast?_eq_getElem?,List.getElem?_eq_getElem (by omega)];rfl
theorem brH08 {A T:Hp->Prop} {B:Prop} (main:(∀ J,A J->T J)->B) (tail:∀ J,A J->T J):B:=main tail
def spWays8 (K:PySem.W.Frag):Sp:=fun vs H Q _=>∃ (n:Int) (ts:List Tie) (ks:List Nat) (wv kv:V) (s e:Nat),vs=[wv,kv,.int (s:Int),.int (e:Int)]∧WK K H n ts ks wv kv∧n≤7∧s < n.toNat∧∀ l us H',Same H H'->H l=none->H' l=some (.lst us)->IsAll K H' ((fndN ts ks s e n.toNat).map rw8) us->Q (.ref l) H'
theorem ok__law_ways08 (T:Bi mg) (D:DefOk K mg "_law_ways" s__law_ways ["web","keep","start","end"]) (O__law_ends:Ok P w K mg base 1 "_law_ends" ["web","keep","place"] (spEnds K)):Ok P w K mg base 2 "_law_ways" ["web","keep","start","end"] (spWays8 K):=by
 refine mk_ok (k:=1) D sc__law_ways (fun vs H Q E h=>?_) (fun f cdv A outer s H vs Q E hr h=>?_)
 ·obtain⟨n,ts,ks,wv,kv,s,e,rfl,_⟩:=h
  rfl
 obtain⟨n,ts,ks,wv,kv,s0,e0,rfl,wk,n7,hs,q⟩:=h
 have nd:=sc__law_ways.nd
 have ok:=wk.2.1
 have ko:=wk.2.2.2
 have n1:=ok.n1
 obtain⟨g0,g,gs,rfl,hg0,hg,hall,hlw⟩:=web_parts wk.1
 refine⟨_,(pss_cons (ps_set (i:=4) nd rfl (Or.inl rfl) (pe_lstG pa_nil)) (pss_cons (ps_set (i:=5) nd rfl (Or.inl rfl) (pe_lstG (pa_cons (pe_tupG (pa_cons (pe_tupG (pa_cons (pv 2) pa_nil)) (pa_cons (pe_tupG pa_nil) pa_nil))) pa_nil))) (pss_cons (ps_for PassesOwn.never rfl (pi_range1 rfl T.z_range (pa_cons (pe_ix ix_tup (pv 0) pe_int (fun _ _=>rfl)) pa_nil)) (pg_name (i:=6) nd rfl (Or.inl rfl)) (pss_cons (ps_set (i:=7) nd rfl (Or.inl rfl) (pe_lstG pa_nil)) (pss_cons (ps_for PassesOwn.never rfl (pi_list (pv 5)) (pg_tup (n:=2) rfl (pgs_cons (pg_name (i:=8) nd rfl (Or.inl rfl)) (pgs_cons (pg_name (i:=9) nd rfl (Or.inl rfl)) pgs_nil))) (pss_cons (ps_if (pt_cmpR op_eq (pe_ix ix_tup (pv 8) (pe_un un_neg pe_int) (fun _ _=>rfl)) (pv 3) (nomark _)) (pss_one (ps_expr (pe_bm PySem.F.plainAttrs_list PySem.F.slot_list_append PySem.F.type_list_append mt_appendB (pv 4) (pa_cons (pe_tupG (pa_cons (pv 8) (pa_cons (pv 9) pa_nil))) pa_nil)))) pss_nil) (pss_one (ps_for PassesOwn.never rfl (pi_list (pe_callD O__law_ends hr rfl (pa_cons (pv 0) (pa_cons (pv 1) (pa_cons (pe_ix ix_tup (pv 8) (pe_un un_neg pe_int) (fun _ _=>rfl)) pa_nil))))) (pg_tup (n:=2) rfl (pgs_cons (pg_name (i:=10) nd rfl (Or.inl rfl)) (pgs_cons (pg_name (i:=11) nd rfl (Or.inl rfl)) pgs_nil))) (pss_one (ps_if (PW.pt (pw_and (pt_cmpR op_notIn_seq (pv 10) (pv 8) (by with_unfolding_all rfl)) (pw_and1 (pt_cmpR op_ne (pe_ix ix_tup (pv 8) (pe_un un_neg pe_int) (fun _ _=>rfl)) (pv 3) (nomark _))))) (pss_one (ps_expr (pe_bm PySem.F.plainAttrs_list PySem.F.slot_list_append PySem.F.type_list_append mt_appendB (pv 7) (pa_cons (pe_tupG (pa_cons (pe_op op_catA (pv 8) (pe_tupG (pa_cons (pv 10) pa_nil))) (pa_cons (pe_op op_catA (pv 9) (pe_tupG (pa_cons (pv 11) pa_nil))) pa_nil))) pa_nil)))) pss_nil)))))) (pss_one (ps_set (i:=5) nd rfl (Or.inl rfl) (pv 7)))))) (pss_one (ps_ret (pv 4)))))),?_⟩
 refine⟨(by show 0≤1000;decide),fun lf J1 S1 f1 e1=>?_⟩
 refine⟨_,rfl,(by show 1≤1000;decide),fun xs1 J2 S2 f2 e2=>⟨(by show 0≤1000;decide),fun xn J3 S3 f3 e3=>⟨(by show 2≤1000;decide),fun xr J4 S4 f4 e4=>⟨(by show 1≤1000;decide),fun lr J5 S5 f5 e5=>?_⟩⟩⟩⟩
 have S15:Same J1 J5:=S2.trans (S3.trans (S4.trans S5))
 have S05:=S1.trans S15
 have ir:Is K J5 (rw8 ([s0],[])) (.ref xr):=rw8_mk (S5 _ _ e4) ((S3.trans (S4.trans S5)) _ _ e2) ((S4.trans S5) _ _ e3)
 have nlf:lr≠lf:=fun z=>by rw[z,(S2.trans (S3.trans S4)) _ _ e1] at f5;cases f5
 refine⟨_,rfl,g0,_,_,_,rfl,rfl,SqT.of (S05 _ _ hg0),rfl,_,rfl,by omega,by omega,?_⟩
 refine for_range (n:=n.toNat) (fun j σ J=>∃ (lr:Addr) (fu ru:List V) (y6 y7 y8 y9 y10 y11:Option V),σ=[some (.ref g0),some kv,some (.int (s0:Int)),some (.int (e0:Int)),some (.ref lf),some (.ref lr),y6,y7,y8,y9,y10,y11]∧Same H J∧H lr=none∧lr≠lf∧J lf=some (.lst fu)∧J lr=some (.lst ru)∧IsAll K J ((fndN ts ks s0 e0 j).map rw8) fu∧IsAll K J ((rowsN ts ks s0 e0 j).map rw8) ru) ⟨lr,[],[.ref xr],none,none,none,none,none,none,rfl,S05,(S1.trans (S2.trans (S3.trans S4))).free f5,nlf,S15 _ _ e1,e5,rfl,⟨_,_,rfl,ir,rfl⟩⟩ (fun j σ J hj h=>?_) (fun σ J h=>?_)
 ·obtain⟨lr,fu,ru,y6,y7,y8,y9,y10,y11,rfl,sm,frl,nl,hlf,hlr,ifu,iru⟩:=h
  have j6:j≤6:=by omega
  refine⟨(by show 0≤1000;decide),fun ll J6 S6 f6 e6=>?_⟩
  have nll:ll≠lf:=fun z=>by rw[z,hlf] at f6;cases f6
  have nlr:ll≠lr:=fun z=>by rw[z,hlr] at f6;cases f6
  have fll:H ll=none:=sm.free f6
  have sm6:=sm.trans S6
  have rfew:=rows_few ok ko n7 s0 e0 j6
  have ffew:=fnd_few ok ko n7 s0 e0 (show j≤7 by omega)
  have lru:ru.length=(rowsN ts ks s0 e0 j).length:=by rw[iru.length,List.length_map]
  obtain⟨RS,eRS⟩:∃ RS,RS=rowsN ts ks s0 e0 j:=⟨_,rfl⟩
  obtain⟨FS,eFS⟩:∃ FS,FS=fndN ts ks s0 e0 j:=⟨_,rfl⟩
  have hRS:∀ r ∈ RS,r.1≠[]∧(s0 < n.toNat->∀ p ∈ r.1,p < n.toNat)∧r.1.length=j + 1∧r.2.length=j:=fun r hr=>rows_ne ok ko (by rw[← eRS];exact hr)
  rw[← eRS] at iru rfew lru
  rw[← eFS] at ifu ffew
  refine⟨_,rfl,lr,rfl,⟨_,SqL.of (S6 _ _ hlr)⟩,?_⟩
  refine for_list (xs:=ru) (fun i σ J=>∃ (fu lu:List V) (y8 y9 y10 y11:Option V),σ=[some (.ref g0),some kv,some (.int (s0:Int)),some (.int (e0:Int)),some (.ref lf),some (.ref lr),some (.int (0 + (j:Int))),some (.ref ll),y8,y9,y10,y11]∧Same H J∧J lf=some (.lst fu)∧J lr=some (.lst ru)∧J ll=some (.lst lu)∧IsAll K J ((FS++(RS.take i).filter (endR e0)).map rw8) fu∧IsAll K J (RS.map rw8) ru∧IsAll K J (((RS.take i).flatMap (longN ts ks e0)).map rw8) lu) ⟨fu,[],_,_,_,_,rfl,sm6,S6 _ _ hlf,S6 _ _ hlr,e6,by rw[List.take_zero,List.filter_nil,List.append_nil];exact isall_tk (fun a ys e=>S6 _ _ e) _ (rw8_tup _) ifu,isall_tk (fun a ys e=>S6 _ _ e) _ (rw8_tup _) iru,rfl⟩ (fun i σ J _ h=>?_) (fun i x σ J hx h=>?_) (fun σ J h=>?_)
  ·obtain⟨fu,lu,y8,y9,y10,y11,rfl,_,_,h,_⟩:=h
   exact SqL.of h
  ·obtain⟨fu,lu,y8,y9,y10,y11,rfl,sm,hlf,hlr,hll,ifu,iru,ilu⟩:=h
   obtain⟨d,hd,isx⟩:=iru.get' hx
   rw[List.getElem?_map] at hd
   obtain⟨r,hr,rfl⟩:=Option.map_eq_some_iff.mp hd
   have hrm:=List.mem_of_getElem? hr
   obtain⟨rne,rpl,rl1,rl2⟩:=hRS r hrm
   have il:=(List.getElem?_eq_some_iff.mp hr).1
   obtain⟨p,a,b,rfl,hp,ha,hb⟩:=rw8_of isx
   have tn:RS.take (i + 1)=RS.take i++[r]:=by rw[List.take_add_one,hr];rfl
   have lfu:fu.length≤823543 + 117649:=by
    rw[ifu.length,List.length_map,List.length_append]
    have:=List.length_filter_le (endR e0) (RS.take i)
    rw[List.length_take] at this
    omega
   refine⟨p,_,rfl,SqT.of hp,rfl,_,_,rfl,_,_,rfl,rfl,?_⟩
   have efl:(RS.take (i + 1)).filter (endR e0)=(RS.take i).filter (endR e0)++(if lastN r.1=e0 then [r] else []):=by
    rw[tn,List.filter_append]
    congr 1
    by_cases c:lastN r.1=e0
    ·rw[if_pos c,List.filter_cons_of_pos (show endR e0 r=true from decide_eq_true c)];rfl
    ·rw[if_neg c,List.filter_cons_of_neg (by show ¬ endR e0 r=true;unfold endR;rw[decide_eq_false c];decide)];rfl
   refine⟨_,rfl,_,rfl,a,_,_,_,rfl,rfl,SqT.of ha,at_last8 rne,_,rfl,rfl,_,rfl,?_⟩
   rw[show decide (V.int (lastN r.1:Int)=V.int (e0:Int))=decide (lastN r.1=e0) by rw[dec_intV,decide_eq_decide];omega]
   apply brH08 (A:=fun J'=>∃ fu':List V,But lf J J'∧J' lf=some (.lst fu')∧IsAll K J' ((FS++(RS.take (i + 1)).filter (endR e0)).map rw8) fu')
   case main =>
    intro tl
    by_cases c:lastN r.1=e0
    ·rw[decide_eq_true c]
     refine iteT ⟨_,rfl,.inl ⟨rfl,_,SqL.of hlf⟩,_,rfl,_,rfl,(by show 2≤1000;decide),fun t2 J2 S2 f2 e2=>⟨lf,_,_,rfl,rfl,S2 _ _ hlf,(by omega),fun J3 b3 e3=>tl J3 ⟨fu++[.ref t2],(Same.but S2).trans b3,e3,?_⟩⟩⟩
     have tk:TupKeep J2 J3:=fun a ys e=>b3 _ _ (fun z=>by rw[z,S2 _ _ hlf] at e;cases e) e
     rw[efl,if_pos c,← List.append_assoc,List.map_append]
     exact IsAll.snoc (rw8_mk (tk _ _ e2) (tk _ _ (S2 _ _ ha)) (tk _ _ (S2 _ _ hb))) (isall_tk (fun a ys e=>tk _ _ (S2 _ _ e)) _ (rw8_tup _) ifu)
    ·rw[decide_eq_false c]
     refine iteF (tl J ⟨fu,But.refl,hlf,?_⟩)
     rw[efl,if_neg c,List.append_nil];exact ifu
   case tail =>
    rintro J' ⟨fu',bJ,hlf',ifu'⟩
    have tkJ:TupKeep J J':=fun a ys e=>bJ _ _ (fun z=>by rw[z,hlf] at e;cases e) e
    have smJ:Same H J':=fun b o e=>bJ _ _ (ne_of_none e f1) (sm _ _ e)
    have hlr':=bJ _ _ nl hlr
    have hll':=bJ _ _ nll hll
    have ha':=tkJ _ _ ha
    have hb':=tkJ _ _ hb
    have wk':=wk.same smJ
    refine⟨_,rfl,_,rfl,_,rfl,_,rfl,a,_,_,_,rfl,rfl,SqT.of ha',at_last8 rne,n,ts,ks,.ref g0,kv,lastN r.1,rfl,wk',fun el us K2 S2 f2 e2 iu=>⟨el,rfl,⟨_,SqL.of e2⟩,?_⟩⟩
    have nel:el≠ll:=fun z=>by rw[z,hll'] at f2;cases f2
    obtain⟨PRE,ePRE⟩:∃ PRE,PRE=(RS.take i).flatMap (longN ts ks e0):=⟨_,rfl⟩
    rw[← ePRE] at ilu
    have lpre:PRE.length≤117649 * 7:=by
     have:=flat8 (longN ts ks e0) 7 (RS.take i) fun x _=>long_len ok ko n7 e0 x
     rw[← ePRE,List.length_take] at this
     exact Nat.le_trans this (Nat.mul_le_mul_right 7 (by omega))
    have les:=ends_len ok ko (lastN r.1)
    obtain⟨ES,eES⟩:∃ ES,ES=endsN ts ks (lastN r.1):=⟨_,rfl⟩
    rw[← eES] at iu les
    have hll2:=S2 _ _ hll'
    refine for_list (xs:=us) (fun m σ J3=>∃ (lu:List V) (y10 y11:Option V),σ=[some (.ref g0),some kv,some (.int (s0:Int)),some (.int (e0:Int)),some (.ref lf),some (.ref lr),some (.int (0 + (j:Int))),some (.ref ll),some (.ref a),some (.ref b),y10,y11]∧But ll K2 J3∧J3 ll=some (.lst lu)∧IsAll K J3 ((PRE++((ES.take m).filter (goes e0 r)).map fun q=>((r.1++[q.1],r.2++[q.2]):Row8)).map rw8) lu) ⟨lu,_,_,rfl,But.refl,hll2,by rw[List.take_zero,List.filter_nil,List.map_nil,List.append_nil];exact isall_tk (fun a ys e=>S2 _ _ (tkJ _ _ e)) _ (rw8_tup _) ilu⟩ (fun m σ J3 _ h=>?_) (fun m x σ J3 hx h=>?_) (fun σ J3 h=>?_)
    ·obtain⟨lu,y10,y11,rfl,b3,_,_⟩:=h
     exact SqL.of (b3 _ _ nel e2)
    ·obtain⟨lu,y10,y11,rfl,b3,hl3,i3⟩:=h
     have tk3:TupKeep K2 J3:=fun a ys e=>b3 _ _ (fun z=>by rw[z,hll2] at e;cases e) e
     obtain⟨d,hd,isx⟩:=iu.get' hx
     rw[List.getElem?_map] at hd
     obtain⟨qq,hq,rfl⟩:=Option.map_eq_some_iff.mp hd
     have tnm:ES.take (m + 1)=ES.take m++[qq]:=by rw[List.take_add_one,hq];rfl
     obtain⟨tq,_,rfl,htq,v1,_,rfl,hv1,v2,_,rfl,hv2,hnil⟩:=isx
     obtain rfl:=hnil
     obtain rfl:v1=.int (qq.1:Int):=hv1
     obtain rfl:v2=.int (qq.2:Int):=hv2
     have llu:lu.length≤117649 * 7 + 7:=by
      rw[i3.length,List.length_map,List.length_append,List.length_map]
      have:=List.length_filter_le (goes e0 r) (ES.take m)
      rw[List.length_take] at this
      omega
     have ha3:=tk3 _ _ (S2 _ _ ha')
     have hb3:=tk3 _ _ (S2 _ _ hb')
     have egn:((ES.take (m + 1)).filter (goes e0 r))=(ES.take m).filter (goes e0 r)++(if goes e0 r qq=true then [qq] else []):=by
      rw[tnm,List.filter_append]
      congr 1
      by_cases c:goes e0 r qq=true
      ·rw[if_pos c,List.filter_cons_of_pos c];rfl
      ·rw[if_neg c,List.filter_cons_of_neg c];rfl
     have stay:¬ goes e0 r qq=true->∃ (lu':List V) (y10 y11:Option V),([some (.ref g0),some kv,some (.int (s0:Int)),some (.int (e0:Int)),some (.ref lf),some (.ref lr),some (.int (0 + (j:Int))),some (.ref ll),some (.ref a),some (.ref b),some (.int (qq.1:Int)),some (.int (qq.2:Int))]:L2.St)=[some (.ref g0),some kv,some (.int (s0:Int)),some (.int (e0:Int)),some (.ref lf),some (.ref lr),some (.int (0 + (j:Int))),some (.ref ll),some (.ref a),some (.ref b),y10,y11]∧But ll K2 J3∧J3 ll=some (.lst lu')∧IsAll K J3 ((PRE++((ES.take (m + 1)).filter (goes e0 r)).map fun q=>((r.1++[q.1],r.2++[q.2]):Row8)).map rw8) lu':=fun c=>⟨lu,_,_,rfl,b3,hl3,by rw[egn,if_neg c,List.append_nil];exact i3⟩
     refine⟨tq,_,rfl,SqT.of (tk3 _ _ htq),rfl,_,_,rfl,_,_,rfl,rfl,?_⟩
     refine⟨_,rfl,_,rfl,a,natV r.1,rfl,.inr (SqT.of ha3),rfl,flat_nat r.1,_,rfl,?_⟩
     show if (!inV (V.int (qq.1:Int)) (natV r.1))=true then _ else _
     rw[inV_nat (Int.natCast_nonneg _),Int.toNat_natCast]
     refine iteB2 (fun c=>?_) (fun c=>?_)
     ·have c:=of_decide_eq_true c
      exact iteF (stay (by unfold goes;rw[decide_eq_false (fun z=>z c),Bool.false_and];decide))
     have c:=of_decide_eq_false c
     refine⟨_,rfl,_,rfl,a,_,_,_,rfl,rfl,SqT.of ha3,at_last8 rne,_,rfl,rfl,_,rfl,?_⟩
     rw[show decide (V.int (lastN r.1:Int)=V.int (e0:Int))=decide (lastN r.1=e0) by rw[dec_intV,decide_eq_decide];omega]
     by_cases ce:lastN r.1=e0
     ·rw[decide_eq_true ce]
      exact iteF (stay (by unfold goes;rw[decide_eq_false (p:=lastN r.1≠e0) (fun z=>z ce),Bool.and_false];decide))
     rw[decide_eq_false ce]
     refine iteT ?_
     have cg:goes e0 r qq=true:=by unfold goes;rw[decide_eq_true c,decide_eq_true ce];rfl
     refine⟨_,rfl,.inl ⟨rfl,_,SqL.of hl3⟩,_,rfl,_,rfl,(by show 1≤1000;decide),fun t4 J4 S4 f4 e4=>?_⟩
     refine⟨a,t4,_,_,rfl,rfl,S4 _ _ ha3,e4,by rw[natV_length,rl1];exact Nat.le_trans (show j + 1 + 1≤100 by omega) (by decide),fun w5 J5 S5 e5=>?_⟩
     refine⟨_,rfl,_,rfl,(by show 1≤1000;decide),fun t6 J6 S6 f6 e6=>?_⟩
     refine⟨b,t6,_,_,rfl,rfl,(S4.trans (S5.trans S6)) _ _ hb3,e6,by rw[natV_length,rl2];exact Nat.le_trans (show j + 1≤100 by omega) (by decide),fun w7 J7 S7 e7=>?_⟩
     refine⟨(by show 2≤1000;decide),fun t8 J8 S8 f8 e8=>⟨ll,_,_,rfl,rfl,(S4.trans (S5.trans (S6.trans (S7.trans S8)))) _ _ hl3,by omega,fun J9 b9 e9=>?_⟩⟩
     have S48:=S4.trans (S5.trans (S6.trans (S7.trans S8)))
     have tk9:TupKeep J8 J9:=fun a ys e=>b9 _ _ (fun z=>by rw[z,S48 _ _ hl3] at e;cases e) e
     refine⟨lu++[.ref t8],_,_,rfl,(b3.trans (Same.but S48)).trans b9,e9,?_⟩
     rw[egn,if_pos cg,List.map_append (l₁:=(ES.take m).filter (goes e0 r)),← List.append_assoc,List.map_append]
     have hw5:J9 w5=some (.tup (natV (r.1++[qq.1]))):=by rw[natV_append];exact tk9 _ _ ((S6.trans (S7.trans S8)) _ _ e5)
     have hw7:J9 w7=some (.tup (natV (r.2++[qq.2]))):=by rw[natV_append];exact tk9 _ _ (S8 _ _ e7)
     exact IsAll.snoc (rw8_mk (r:=(r.1++[qq.1],r.2++[qq.2])) (tk9 _ _ e8) hw5 hw7) (isall_tk (fun a ys e=>tk9 _ _ (S48 _ _ e)) _ (rw8_tup _) i3)
    ·obtain⟨lu,y10,y11,rfl,b3,hl3,i3⟩:=h
     have tk3:TupKeep K2 J3:=fun a ys e=>b3 _ _ (fun z=>by rw[z,hll2] at e;cases e) e
     have lus:us.length=ES.length:=by rw[iu.length,List.length_map]
     rw[lus,List.take_length] at i3
     have nfl:lf≠ll:=nll.symm
     refine⟨fu',lu,_,_,_,_,rfl,fun b o e=>b3 _ _ (ne_of_none e fll) (S2 _ _ (smJ _ _ e)),b3 _ _ nfl (S2 _ _ hlf'),b3 _ _ nlr.symm (S2 _ _ hlr'),hl3,isall_tk (fun a ys e=>tk3 _ _ (S2 _ _ e)) _ (rw8_tup _) ifu',isall_tk (fun a ys e=>tk3 _ _ (S2 _ _ (tkJ _ _ e))) _ (rw8_tup _) iru,?_⟩
     have eT:(RS.take (i + 1)).flatMap (longN ts ks e0)=PRE++(ES.filter (goes e0 r)).map fun q=>((r.1++[q.1],r.2++[q.2]):Row8):=by
      rw[tn,List.flatMap_append,ePRE,List.flatMap_singleton,eES];rfl
     rw[eT];exact i3
  ·obtain⟨fu,lu,y8,y9,y10,y11,rfl,sm7,hlf,hlr,hll,ifu,iru,ilu⟩:=h
   rw[lru,List.take_length] at ifu ilu
   refine⟨_,rfl,ll,fu,lu,_,_,_,_,_,_,rfl,sm7,fll,nll,hlf,hll,?_,?_⟩
   ·have:fndN ts ks s0 e0 (j + 1)=FS++RS.filter (endR e0):=by
     rw[eFS,eRS]
     unfold fndN
     rw[List.range_succ,List.flatMap_append,List.flatMap_singleton]
    rw[this];exact ifu
   ·show IsAll K _ (((rowsN ts ks s0 e0 j).flatMap (longN ts ks e0)).map rw8) lu
    rw[← eRS];exact ilu
 ·obtain⟨lr,fu,ru,y6,y7,y8,y9,y10,y11,rfl,sm,frl,nl,hlf,hlr,ifu,iru⟩:=h
  exact⟨_,rfl,q lf fu J sm f1 hlf ifu⟩
def spFst8 (K:PySem.W.Frag):Sp:=fun vs H Q _=>∃ (n:Int) (ts:List Tie) (wv v1 v2:V) (r1 r2:Row8),vs=[wv,v1,v2]∧Is K H (webD n ts) wv∧WebOk n ts∧Is K H (rw8 r1) v1∧Is K H (rw8 r2) v2∧(∀ k ∈ r1.2,k < ts.length)∧(∀ k ∈ r2.2,k < ts.length)∧r1.2.Nodup∧r2.2.Nodup∧r1.2.length≤60∧r2.2.length≤60∧∀ H',Same H H'->Q (.bl (lessR ts r1 r2)) H'
theorem ok__law_first08 (T:Bi mg) (D:DefOk K mg "_law_first" s__law_first ["web","one","other"]):Ok P w K mg base 1 "_law_first" ["web","one","other"] (spFst8 K):=by
 refine mk_ok (k:=0) D sc__law_first (fun vs H Q E h=>?_) (fun f cdv A outer s H vs Q E hr h=>?_)
 ·obtain⟨n,ts,wv,v1,v2,r1,r2,rfl,_⟩:=h
  rfl
 obtain⟨n,ts,wv,v1,v2,r1,r2,rfl,isw,ok,i1,i2,b1,b2,nd1,nd2,l1,l2,q⟩:=h
 have nd:=sc__law_first.nd
 have units:∀ {x:Nat},x≤3->(A.deeper (envOfC "_law_first" (defScope s__law_first) s.heap.objs.size f cdv)).units + x < cLine:=fun {x} hu=>by have:=hr.units;omega
 obtain⟨g0,g,gs,rfl,hg0,hg,hall,hlw⟩:=web_parts isw
 obtain⟨p1,a1,c1,rfl,hp1,ha1,hc1⟩:=rw8_of i1
 obtain⟨p2,a2,c2,rfl,hp2,ha2,hc2⟩:=rw8_of i2
 have few60:=ok.few
 have sums:∀ {S:List Nat} {ys:List V},ys.length=S.length->(∀ i v,ys[i]?=some v->v=V.int (tieAt ts (S.getD i 0)).2.2)->ys=(S.map fun k=>(tieAt ts k).2.2).map V.int:=fun {S ys} hl hy=>by
  refine List.ext_getElem? fun i=>?_
  rw[List.getElem?_map,List.getElem?_map]
  by_cases hi:i < S.length
  ·have e:ys[i]?=some ys[i]:=List.getElem?_eq_getElem (by omega)
   have e2:S[i]?=some (S.getD i 0):=by rw[List.getD_eq_getElem?_getD,List.getElem?_eq_getElem hi];rfl
   rw[e,hy i _ e,e2];rfl
  ·rw[List.getElem?_eq_none (by omega),List.getElem?_eq_none (by omega)];rfl
 refine⟨_,(pss_cons (ps_set (i:=3) nd rfl (Or.inl rfl) (pe_callB (call_sumA rfl) rfl T.z_sum (by decide +kernel) (pa_cons (pe_comp (N:=["web","one","other","much","many","unlike"]) (sc0:=defScope s__law_first) (own:=["number"]) (fr:=["web"]) (js:=[0]) rfl (pi_tup (pe_ix ix_tup (pv 1) pe_int (fun _ _=>rfl))) (fun _ _ _ _=>(pg_name (i:=0) (by show List.Nodup [("number":Str),("web":Str)];decide +kernel) rfl (Or.inl rfl))) (fun _ _ _ _=>pts_nil) (fun _ _ _ _=>(pe_ix ix_tupC (pe_ix ix_tupC (pe_ix ix_tupC (pv 1) pe_int (fun _ _=>rfl)) (pv 0) (fun _ _=>rfl)) pe_int (fun _ _=>rfl)))) pa_nil))) (pss_cons (ps_set (i:=4) nd rfl (Or.inl rfl) (pe_callB (call_sumA rfl) rfl T.z_sum (by decide +kernel) (pa_cons (pe_comp (N:=["web","one","other","much","many","unlike"]) (sc0:=defScope s__law_first) (own:=["number"]) (fr:=["web"]) (js:=[0]) rfl (pi_tup (pe_ix ix_tup (pv 2) pe_int (fun _ _=>rfl))) (fun _ _ _ _=>(pg_name (i:=0) (by show List.Nodup [("number":Str),("web":Str)];decide +kernel) rfl (Or.inl rfl))) (fun _ _ _ _=>pts_nil) (fun _ _ _ _=>(pe_ix ix_tupC (pe_ix ix_tupC (pe_ix ix_tupC (pv 1) pe_int (fun _ _=>rfl)) (pv 0) (fun _ _=>rfl)) pe_int (fun _ _=>rfl)))) pa_nil))) (pss_cons (ps_if (pt_cmpR op_ne (pv 3) (pv 4) (nomark _)) (pss_one (ps_ret (pe_cmpR op_lt (pv 3) (pv 4) (nomark _)))) pss_nil) (pss_cons (ps_set (i:=5) nd rfl (Or.inl rfl) (pe_callB (call_sortedS rfl) rfl T.z_sorted (by decide +kernel) (pa_cons (pe_op op_xorS (pe_callTy (call_setX rfl) rfl T.z_set (by decide +kernel) (pa_cons (pe_ix ix_tup (pv 1) pe_int (fun _ _=>rfl)) pa_nil)) (pe_callTy (call_setX rfl) rfl T.z_set (by decide +kernel) (pa_cons (pe_ix ix_tup (pv 2) pe_int (fun _ _=>rfl)) pa_nil))) pa_nil))) (pss_one (ps_ret (pe_and (pe_cmpR op_neD (pv 5) (pe_lstG pa_nil) (nomark _)) (pe_one (pe_cmpR op_notIn_seq (pe_ix ix_list (pv 5) (pe_un un_neg pe_int) (fun _ _=>rfl)) (pe_ix ix_tup (pv 1) pe_int (fun _ _=>rfl)) (by with_unfolding_all rfl)))))))))),?_⟩
 refine⟨_,rfl,p1,_,_,_,rfl,rfl,SqT.of hp1,rfl,c1,rfl,⟨_,SqT.of hc1⟩,?_⟩
 refine comp_tup hc1 (fun σ'=>∃ o,σ'=[o,some (.ref g0)]) (fun i x _=>x=V.int (tieAt ts (r1.2.getD i 0)).2.2) (by rw[natV_length];omega) (by exact⟨none,rfl⟩) (fun _ _ _ _ _ h=>h) (fun i x σ' H' hx s2 sg C hC=>?_) (fun L ys J1 hL S1 hH hly hys=>?_)
 ·obtain⟨o,rfl⟩:=sg
  obtain⟨j,hj,rfl⟩:=nat_at hx
  obtain⟨tb,htb,htieb⟩:=tie_val hall (b1 j (List.mem_of_getElem? hj))
  have ek:r1.2.getD i 0=j:=by rw[List.getD_eq_getElem?_getD,hj];rfl
  exact⟨_,rfl,g0,_,_,_,rfl,rfl,SqT.of (s2 _ _ hg0),rfl,_,rfl,g,_,_,_,rfl,rfl,SqT.of (s2 _ _ hg),atI_toNat (Int.natCast_nonneg _) htb,tb,_,_,_,rfl,rfl,SqT.of (s2 _ _ htieb),rfl,hC _ _ _ ⟨_,rfl⟩ (Same.refl _) (by rw[ek])⟩
 rw[natV_length] at hly
 refine⟨L,r1.2.map fun k=>(tieAt ts k).2.2,rfl,by rw[hH,sums hly hys],?_⟩
 refine⟨_,rfl,p2,_,_,_,rfl,rfl,SqT.of (S1 _ _ hp2),rfl,c2,rfl,⟨_,SqT.of (S1 _ _ hc2)⟩,?_⟩
 refine comp_tup (S1 _ _ hc2) (fun σ'=>∃ o,σ'=[o,some (.ref g0)]) (fun i x _=>x=V.int (tieAt ts (r2.2.getD i 0)).2.2) (by rw[natV_length];omega) (by exact⟨none,rfl⟩) (fun _ _ _ _ _ h=>h) (fun i x σ' H' hx s2 sg C hC=>?_) (fun L2 ys2 J2 hL2 S2 hH2 hly2 hys2=>?_)
 ·obtain⟨o,rfl⟩:=sg
  obtain⟨j,hj,rfl⟩:=nat_at hx
  obtain⟨tb,htb,htieb⟩:=tie_val hall (b2 j (List.mem_of_getElem? hj))
  have ek:r2.2.getD i 0=j:=by rw[List.getD_eq_getElem?_getD,hj];rfl
  have s12:=S1.trans s2
  exact⟨_,rfl,g0,_,_,_,rfl,rfl,SqT.of (s12 _ _ hg0),rfl,_,rfl,g,_,_,_,rfl,rfl,SqT.of (s12 _ _ hg),atI_toNat (Int.natCast_nonneg _) htb,tb,_,_,_,rfl,rfl,SqT.of (s12 _ _ htieb),rfl,hC _ _ _ ⟨_,rfl⟩ (Same.refl _) (by rw[ek])⟩
 rw[natV_length] at hly2
 refine⟨L2,r2.2.map fun k=>(tieAt ts k).2.2,rfl,by rw[hH2,sums hly2 hys2],?_⟩
 have S12:=S1.trans S2
 obtain⟨x1,ex1⟩:∃ x1,x1=lenS ts r1.2:=⟨_,rfl⟩
 obtain⟨x2,ex2⟩:∃ x2,x2=lenS ts r2.2:=⟨_,rfl⟩
 unfold lessR at q
 rw[← ex1,← ex2] at q
 refine⟨_,rfl,_,rfl,rfl,_,rfl,?_⟩
 show if (!decide (V.int (lenS ts r1.2)=V.int (lenS ts r2.2)))=true then _ else _
 rw[dec_intV,← ex1,← ex2]
 by_cases ex:x1=x2
 case neg =>
  rw[decide_eq_false ex]
  refine iteT ⟨_,rfl,_,rfl,_,_,rfl,rfl,?_⟩
  have q2:=q J2 S12
  rw[decide_eq_false ex,Bool.false_and,Bool.or_false,ex1,ex2] at q2
  exact q2
 rw[decide_eq_true ex]
 refine iteF ?_
 rw[decide_eq_false (show ¬ x1 < x2 by omega),decide_eq_true ex,Bool.true_and,Bool.false_or] at q
 have nI:∀ S:List Nat,natV S=(keepI S).map V.int:=fun S=>natV_keep S
 have lI:∀ S:List Nat,(keepI S).length=S.length:=fun S=>List.length_map _
 have k1:=S12 _ _ hc1
 have k2:=S12 _ _ hc2
 rw[nI] at k1 k2
 refine⟨_,rfl,p1,_,_,_,rfl,rfl,SqT.of (S12 _ _ hp1),rfl,c1,keepI r1.2,rfl,k1,by rw[lI];omega,fun u1 J3 S3 f3 e3=>?_⟩
 refine⟨_,rfl,p2,_,_,_,rfl,rfl,SqT.of ((S12.trans S3) _ _ hp2),rfl,c2,keepI r2.2,rfl,S3 _ _ k2,by rw[lI];omega,fun u2 J4 S4 f4 e4=>?_⟩
 have nu:u1≠u2:=fun z=>by rw[← z,e3] at f4;cases f4
 have b1':HT.setN (keepI r1.2) (keepI r1.2).length≤60:=Nat.le_trans (firstMet_length_le _ _) (by rw[lI];exact l1)
 have b2':HT.setN (keepI r2.2) (keepI r2.2).length≤60:=Nat.le_trans (firstMet_length_le _ _) (by rw[lI];exact l2)
 refine⟨u1,u2,_,_,_,_,rfl,rfl,nu,S4 _ _ e3,e4,cn_set _,cn_set _,by omega,fun r S5 n5 J5 SS5 f5 e5 c5 m5=>?_⟩
 have memI:∀ (S:List Nat) (k:Int),HT.setS (keepI S) (keepI S).length k=true↔k ∈ keepI S:=fun S k=>setS_mem _ k
 have m5':∀ k:Int,S5 k=true↔¬ (k ∈ keepI r1.2↔k ∈ keepI r2.2):=fun k=>by rw[m5 k,memI,memI]
 have inB:∀ k,S5 k=true->0≤k∧k < (60:Nat):=fun k h=>by
  have h:=(m5' k).mp h
  have:k ∈ keepI r1.2∨k ∈ keepI r2.2:=by
   by_cases a:k ∈ keepI r1.2
   ·exact .inl a
   ·exact .inr (Classical.byContradiction fun b=>h ⟨fun z=>absurd z a,fun z=>absurd z b⟩)
  rcases this with h | h
  ·obtain⟨j,hj,rfl⟩:=List.mem_map.mp h
   have:=b1 j hj;omega
  ·obtain⟨j,hj,rfl⟩:=List.mem_map.mp h
   have:=b2 j hj;omega
 have n60:=cn_few (m:=60) c5 inB
 refine⟨r,S5,n5,rfl,e5,by omega,fun ms lms hms pms l J6 S6 f6 e6=>?_⟩
 have ndm:ms.Nodup:=by
  obtain⟨l',nd',ll',hl'⟩:=c5
  exact Stb.nd_of nd' (fun x hx=>(hms x).mp ((hl' x).mpr hx)) (by omega)
 obtain⟨s',es'⟩:∃ s':List Nat,ms=keepI s':=⟨ms.map Int.toNat,by
  unfold keepI
  rw[List.map_map]
  conv=>lhs;rw[← List.map_id ms]
  exact List.map_congr_left fun x hx=>by have:=inB x ((hms x).mpr hx);show x=((x.toNat:Nat):Int);omega⟩
 subst es'
 have rs:s'.Pairwise (· < ·):=by
  unfold keepI at ndm pms
  rw[List.Nodup,List.pairwise_map] at ndm
  rw[List.pairwise_map] at pms
  exact (ndm.and pms).imp fun ⟨a,b⟩=>by omega
 have memN:∀ (S:List Nat) (k:Nat),(k:Int) ∈ keepI S↔k ∈ S:=fun S k=>by
  unfold keepI
  rw[List.mem_map]
  exact⟨fun ⟨j,hj,e⟩=>by rw[← (show j=k by omega)];exact hj,fun h=>⟨k,h,rfl⟩⟩
 have hs:∀ k,k ∈ s'↔¬ (k ∈ r1.2↔k ∈ r2.2):=fun k=>by
  rw[← memN s' k,← hms,m5',memN,memN]
 have tl:=(Two.tw_last nd1 nd2 rs hs).1
 have S36:=S3.trans (S4.trans (SS5.trans S6))
 have S06:=S12.trans S36
 refine⟨_,rfl,(by show 0≤1000;decide),fun l0 J7 S7 f7 e7=>⟨.list ((keepI s').map .int),.list [],⟨l,_,rfl,S7 _ _ e6,IsAll.ints _⟩,⟨l0,[],rfl,e7,rfl⟩,lay_ints _,rfl,units (Nat.le_trans (Nat.min_le_right _ _) (by decide)),?_⟩⟩
 have enil:PyData.eqv (.list ((keepI s').map .int)) (.list [])=decide (s'=[]):=by
  unfold keepI
  cases s' <;> rfl
 rw[enil]
 have S07:=S06.trans S7
 by_cases s0:s'=[]
 ·rw[decide_eq_true s0]
  refine⟨_,rfl,iteF ?_⟩
  have q2:=q J7 S07
  rw[decide_eq_false (fun z=>by obtain⟨d,hd,_⟩:=tl.mp z;rw[s0] at hd;cases hd)] at q2
  exact q2
 rw[decide_eq_false s0]
 refine⟨_,rfl,iteT ?_⟩
 have hl7:J7 l=some (.lst (natV s')):=by rw[natV_keep];exact S7 _ _ e6
 refine⟨_,rfl,_,rfl,l,_,_,_,rfl,rfl,SqL.of hl7,at_last8 s0,_,rfl,p1,_,_,_,rfl,rfl,SqT.of (S07 _ _ hp1),rfl,c1,natV r1.2,rfl,.inr (SqT.of (S07 _ _ hc1)),rfl,flat_nat _,?_⟩
 have q2:=q J7 S07
 have el:s'.getLast?=some (lastN s'):=by
  unfold lastN
  cases e:s'.getLast? with
  | none=>exact absurd (List.getLast?_eq_none_iff.mp e) s0
  | some d=>rfl
 have e:decide (Two.tw r1.2 < Two.tw r2.2)=!inV (V.int (lastN s':Int)) (natV r1.2):=by
  rw[inV_nat (Int.natCast_nonneg _),Int.toNat_natCast,Bool.eq_iff_iff,decide_eq_true_iff,Bool.not_eq_true',decide_eq_false_iff_not,tl]
  constructor
  ·rintro ⟨d,hd,nd⟩
   rw[el] at hd;cases hd;exact nd
  ·exact fun h=>⟨_,el,h⟩
 rw[e] at q2
 exact q2
theorem pot_tup {J J':Hp} {p:Addr} (b:But p J J') (pp:Pot J p):TupKeep J J':=by
 obtain⟨xs,e⟩:=pp.lst
 exact fun a ys h=>b _ _ (fun z=>by rw[z,e] at h;cases h) h
theorem less_irr (ts:List Tie) (r:Row8):lessR ts r r=false:=by
 unfold lessR
 rw[decide_eq_false (show ¬ lenS ts r.2 < lenS ts r.2 by omega),decide_eq_false (Nat.lt_irrefl _),Bool.and_false];rfl
theorem less_step {ts:List Tie} {q r r':Row8} (h1:lessR ts q r=false) (h2:lessR ts r' r=true):lessR ts q r'=false:=by
 unfold lessR at h1 h2 ⊢
 rw[Bool.or_eq_false_iff,Bool.and_eq_false_iff,decide_eq_false_iff_not,decide_eq_false_iff_not,decide_eq_false_iff_not] at h1 ⊢
 rw[Bool.or_eq_true,Bool.and_eq_true,decide_eq_true_iff,decide_eq_true_iff,decide_eq_true_iff] at h2
 omega
def spLaw (K:PySem.W.Frag):Sp:=fun vs H Q _=>∃ (a:Addr) (ns:List Int),vs=[.ref a]∧SqL K H a (ns.map V.int)∧ns.length≤63∧∀ H',Q (.bl true) H'
theorem ok_law {f:Addr} {fd:FuncData} (T:Bi mg) (F:Fun K "law" "law" s_law f fd) (O__law_pot:Ok P w K mg base 6 "_law_pot" ["script","k"] (spPot K)) (O__law_take:Ok P w K mg base 6 "_law_take" ["pot","many"] spTake) (O__law_web:Ok P w K mg base 6 "_law_web" ["pot","most"] (spWeb K)) (O__law_keep:Ok P w K mg base 6 "_law_keep" ["pot","web"] (spKeep K)) (O_the_way:Ok P w K mg base 6 "the_way" ["web","keep","a","b"] (spWayM K)) (O__law_ways:Ok P w K mg base 6 "_law_ways" ["web","keep","start","end"] (spWays8 K)) (O__law_first:Ok P w K mg base 6 "_law_first" ["web","one","other"] (spFst8 K)):FnOk P w K mg base CX0 7 f fd ["script"] (spLaw K):=by
 refine F.ok (k:=6) sc_law (fun vs H Q E h=>?_) (fun cdv A outer s H vs Q E hr h=>?_)
 ·obtain⟨a,ns,rfl,_⟩:=h
  rfl
 obtain⟨a,ns,rfl,hS,h63,q⟩:=h
 have nd:=sc_law.nd
 have units:∀ {x:Nat},x≤3->(A.deeper (envOfC "law" (defScope s_law) s.heap.objs.size f cdv)).units + x < cLine:=fun {x} hu=>by have:=hr.units;omega
 have hl:(ns.map V.int).length=ns.length:=List.length_map _
 refine⟨_,(pss_cons (ps_for PassesOwn.never rfl (pi_range1 rfl T.z_range (pa_cons (pe_callB (call_max2 rfl) rfl T.z_max (by decide +kernel) (pa_cons pe_int (pa_cons (pe_callB (call_min2 rfl) rfl T.z_min (by decide +kernel) (pa_cons pe_int (pa_cons (pe_callB call_len_seq rfl T.z_len (by decide +kernel) (pa_cons (pv 0) pa_nil)) pa_nil))) pa_nil))) pa_nil)) (pg_name (i:=1) nd rfl (Or.inl rfl)) (pss_cons (ps_set (i:=2) nd rfl (Or.inl rfl) (pe_callD O__law_pot hr rfl (pa_cons (pv 0) (pa_cons (pv 1) pa_nil)))) (pss_cons (ps_set (i:=3) nd rfl (Or.inl rfl) (pe_callD O__law_web hr rfl (pa_cons (pv 2) (pa_cons pe_int pa_nil)))) (pss_cons (ps_set (i:=4) nd rfl (Or.inl rfl) (pe_callD O__law_keep hr rfl (pa_cons (pv 2) (pa_cons (pv 3) pa_nil)))) (pss_one (ps_for PassesOwn.never rfl (pi_range1 rfl T.z_range (pa_cons pe_int pa_nil)) (pg_name (i:=5) nd rfl (Or.inl rfl)) (pss_cons (ps_par (i:=6) (j:=7) rfl nd rfl rfl (by decide) rfl rfl (pa_cons (pe_callD O__law_take hr rfl (pa_cons (pv 2) (pa_cons (pe_ix ix_tup (pv 3) pe_int (fun _ _=>rfl)) pa_nil))) (pa_cons (pe_callD O__law_take hr rfl (pa_cons (pv 2) (pa_cons (pe_ix ix_tup (pv 3) pe_int (fun _ _=>rfl)) pa_nil))) pa_nil)) rfl) (pss_cons (ps_set (i:=8) nd rfl (Or.inl rfl) (pe_callD O_the_way hr rfl (pa_cons (pv 3) (pa_cons (pv 4) (pa_cons (pv 6) (pa_cons (pv 7) pa_nil)))))) (pss_cons (ps_set (i:=9) nd rfl (Or.inl rfl) pe_non) (pss_cons (ps_for PassesOwn.never rfl (pi_list (pe_callD O__law_ways hr rfl (pa_cons (pv 3) (pa_cons (pv 4) (pa_cons (pv 6) (pa_cons (pv 7) pa_nil)))))) (pg_name (i:=10) nd rfl (Or.inl rfl)) (pss_one (ps_if (PW.pt (pw_or (pt_cmpR op_isN (pv 9) pe_non (nomark _)) (pw_or1 (pt_val (pe_callD O__law_first hr rfl (pa_cons (pv 3) (pa_cons (pv 10) (pa_cons (pv 9) pa_nil)))))))) (pss_one (ps_set (i:=9) nd rfl (Or.inl rfl) (pv 10))) pss_nil))) (pss_one (ps_if (pt_cmpR op_isN (pv 9) pe_non (nomark _)) (pss_one (ps_if (pt_cmpR op_notN (pv 8) pe_non (nomark _)) (pss_one (ps_ret pe_bl)) pss_nil)) (pss_one (ps_if (PW.pt (pw_or (pt_not (pt_val (pe_callB (call_isi (n:="tuple")) rfl T.z_isinstance (by decide +kernel) (pa_cons (pv 8) (pa_cons (pe_bltn (v:=.ty "tuple") rfl T.z_tuple (by decide +kernel) rfl) pa_nil))))) (pw_or (pt_cmpR op_neD (pv 8) (pe_ix ix_tup (pv 9) pe_int (fun _ _=>rfl)) (nomark _)) (pw_or1 (pt_val (pe_callB (call_any rfl) rfl T.z_any (by decide +kernel) (pa_cons (pe_comp (N:=["script","at","pot","web","keep","turn","one","other","found","best","way"]) (sc0:=defScope s_law) (own:=["place"]) (fr:=[]) (js:=[]) rfl (pi_tup (pv 8)) (fun _ _ _ _=>(pg_name (i:=0) (by show List.Nodup [("place":Str)];decide +kernel) rfl (Or.inl rfl))) (fun _ _ _ _=>pts_nil) (fun _ _ _ _=>(pe_callB (call_isiC (n:="bool")) rfl T.z_isinstance (by decide +kernel) (pa_cons (pv 0) (pa_cons (pe_bltn (v:=.ty "bool") rfl T.z_bool (by decide +kernel) rfl) pa_nil))))) pa_nil))))))) (pss_one (ps_ret pe_bl)) pss_nil)))))))))))))) (pss_one (ps_ret pe_bl))),?_⟩
 refine⟨_,rfl,a,_,rfl,.inl hS,_,_,rfl,_,_,rfl,_,rfl,?_,?_,?_⟩
 ·split <;> split <;> omega
 ·rw[hl];split <;> split <;> omega
 generalize hj:(if (if (((ns.map V.int).length:Nat):Int) < 8 then (((ns.map V.int).length:Nat):Int) else 8) > 1 then (if (((ns.map V.int).length:Nat):Int) < 8 then (((ns.map V.int).length:Nat):Int) else 8) else 1)=j
 have j12:j≤8:=by rw[← hj];split <;> split <;> omega
 refine for_range (n:=j.toNat) (fun i σ H'=>∃ x1 x2 x3 x4 x5 x6 x7 x8 x9 x10:Option V,σ=[some (.ref a),x1,x2,x3,x4,x5,x6,x7,x8,x9,x10]∧Same H H') ⟨none,none,none,none,none,none,none,none,none,none,rfl,Same.refl H⟩ ?turn (fun σ H' h=>?_)
 rintro i σ H0 hi ⟨x1,x2,x3,x4,x5,x6,x7,x8,x9,x10,rfl,s0⟩
 refine⟨_,rfl,_,rfl,a,_,ns,rfl,s0.seq hS,by omega,by omega,fun l H1 s1 fl p1=>?_⟩
 have s01:Same H H1:=s0.trans s1
 have fl0:H l=none:=s0.free fl
 refine⟨_,rfl,l,7,rfl,p1,by decide,by decide,fun wv H2 n ts b2 p2 ok n7 isw=>?_⟩
 have few60:=ok.few
 refine⟨_,rfl,_,rfl,l,n,ts,wv,rfl,p2,isw,few60,fun kv H3 ks b3 p3 ko isk=>?_⟩
 obtain⟨ys2,ep2⟩:=p2.lst
 have isw3:=Is.but b3 ep2 _ (tup_web n ts) isw
 have wk3:WK K H3 n ts ks wv kv:=⟨isw3,ok,isk,ko⟩
 have n1:=ok.n1
 have bH3:Same H H3:=fun b o e=>by
  have nl:b≠l:=fun x=>by rw[x,fl0] at e;cases e
  exact b3 _ _ nl (b2 _ _ nl (s01 _ _ e))
 refine⟨4,rfl,by decide,by decide,?_⟩
 refine for_range (n:=4) (fun m σ J=>∃ y1 y5 y6 y7 y8 y9 y10:Option V,σ=[some (.ref a),y1,some (.ref l),some wv,some kv,y5,y6,y7,y8,y9,y10]∧Same H J∧Pot J l∧WK K J n ts ks wv kv) ⟨_,_,_,_,_,_,_,rfl,bH3,p3,wk3⟩ (fun m σ J hm h=>?_) (fun σ J h=>?_)
 ·obtain⟨y1,y5,y6,y7,y8,y9,y10,rfl,sm,pJ,wk⟩:=h
  obtain⟨g0,g,gs,rfl,hg0,hg,hall,hlw⟩:=web_parts wk.1
  refine⟨_,rfl,_,rfl,g0,_,_,_,rfl,rfl,SqT.of hg0,rfl,l,_,rfl,pJ,by omega,by omega,fun r1 J1 r10 r11 b1 q1=>?_⟩
  obtain⟨s1',rfl⟩:∃ k:Nat,r1=k:=⟨r1.toNat,by omega⟩
  have tk1:=pot_tup b1 pJ
  refine⟨_,rfl,_,rfl,g0,_,_,_,rfl,rfl,SqT.of (tk1 _ _ hg0),rfl,l,_,rfl,q1,by omega,by omega,fun r2 J2 r20 r21 b2' q2=>?_⟩
  obtain⟨e1',rfl⟩:∃ k:Nat,r2=k:=⟨r2.toNat,by omega⟩
  have tk2:TupKeep J J2:=fun b ys e=>pot_tup b2' q1 _ _ (tk1 _ _ e)
  have wk2:WK K J2 n ts ks (.ref g0) kv:=⟨is_tk tk2 _ (tup_web n ts) wk.1,ok,is_tk tk2 _ (tup_ints _) wk.2.2.1,ko⟩
  have sm2:Same H J2:=fun b o e=>by
   have nl:b≠l:=fun x=>by rw[x,fl0] at e;cases e
   exact b2' _ _ nl (b1 _ _ nl (sm _ _ e))
  refine⟨_,_,rfl,?_⟩
  refine⟨_,rfl,_,rfl,_,rfl,_,rfl,n,ts,ks,_,kv,(s1':Int),(e1':Int),rfl,wk2,by omega,by omega,by omega,by omega,fun fv J3 S3 hfv=>?_⟩
  have wk3':=wk2.same S3
  have q3:=q2.same S3
  rw[Int.toNat_natCast,Int.toNat_natCast] at hfv
  refine⟨_,rfl,_,rfl,_,rfl,_,rfl,n,ts,ks,_,kv,s1',e1',rfl,wk3',n7,by omega,fun lw us J4 S4 f4 e4 iu=>⟨lw,rfl,⟨_,SqL.of e4⟩,?_⟩⟩
  obtain⟨FN,eFN⟩:∃ FN,FN=fndN ts ks s1' e1' n.toNat:=⟨_,rfl⟩
  rw[← eFN] at iu
  have hFN:∀ r ∈ FN,∃ x y,Far.Rt (arcsB ts ks) s1' r.1 r.2 e1' x y:=fun r hr=>fnd_rt ok ko (m:=n.toNat) (by rw[← eFN];exact hr)
  have KB:=arcsB_keys ok ko
  have facts:∀ r ∈ FN,(∀ k ∈ r.2,k < ts.length)∧r.2.Nodup∧r.2.length≤60:=fun r hr=>by
   obtain⟨x,y,rt⟩:=hFN r hr
   have nd:=rt.nodup KB
   have lt:∀ k ∈ r.2,k < ts.length:=fun k hk=>by
    obtain⟨jj,hjj⟩:=List.mem_iff_getElem?.mp hk
    obtain⟨u,v,l',_,_,mm⟩:=rt.step hjj
    obtain⟨k',hk',m2⟩:=arcsB_mem.mp mm
    rcases arcs2B_mem.mp m2 with e' | e' <;> (cases e';exact ko.2 _ hk')
   have:=Peel.len_below ts.length r.2 nd lt
   exact⟨lt,nd,by omega⟩
  have sm4:=sm2.trans (S3.trans S4)
  have wk4:=wk3'.same S4
  have q4:=q3.same S4
  refine for_list (xs:=us) (fun i σ J5=>∃ (bv:V) (y10:Option V),σ=[some (.ref a),y1,some (.ref l),some (.ref g0),some kv,some (.int (0 + (m:Int))),some (.int (s1':Int)),some (.int (e1':Int)),some fv,some bv,y10]∧Same J4 J5∧((i=0∧bv=.non)∨∃ r ∈ FN.take i,Is K J4 (rw8 r) bv∧∀ q ∈ FN.take i,lessR ts q r=false)) ⟨.non,_,rfl,Same.refl _,.inl ⟨rfl,rfl⟩⟩ (fun i σ J5 _ h=>?_) (fun i x σ J5 hx h=>?_) (fun σ J5 h=>?_)
  ·obtain⟨bv,y10,rfl,S5,_⟩:=h
   exact SqL.of (S5 _ _ e4)
  ·obtain⟨bv,y10,rfl,S5,hb⟩:=h
   obtain⟨d,hd,isx⟩:=iu.get' hx
   rw[List.getElem?_map] at hd
   obtain⟨r',hr',rfl⟩:=Option.map_eq_some_iff.mp hd
   have tn:FN.take (i + 1)=FN.take i++[r']:=by rw[List.take_add_one,hr'];rfl
   have rm:=List.mem_of_getElem? hr'
   rcases hb with ⟨i0,rfl⟩ | ⟨r,hr,isb,least⟩
   ·subst i0
    refine⟨_,rfl,rfl,_,rfl,iteT (iteT ⟨_,rfl,x,_,rfl,S5,.inr ⟨r',?_,isx,fun q hq=>?_⟩⟩)⟩
    ·rw[tn];exact List.mem_append_right _ List.mem_cons_self
    ·rw[tn] at hq
     obtain rfl:=List.mem_singleton.mp (show q ∈ [r'] from hq)
     exact less_irr ts q
   ·have rm2:=List.mem_of_mem_take hr
    obtain⟨pb,_,_,eb,_⟩:=rw8_of isb
    subst eb
    obtain⟨f1,f2,f3⟩:=facts r rm2
    obtain⟨f1',f2',f3'⟩:=facts r' rm
    refine⟨_,rfl,rfl,_,rfl,iteF ?_⟩
    refine⟨_,rfl,_,rfl,_,rfl,n,ts,_,x,_,r',r,rfl,(wk4.same S5).1,ok,Is.same S5 _ isx,Is.same S5 _ isb,f1',f1,f2',f2,f3',f3,fun J6 S6=>⟨_,rfl,?_⟩⟩
    cases el:lessR ts r' r with
    | true =>
     refine iteT ⟨_,rfl,x,_,rfl,S5.trans S6,.inr ⟨r',?_,isx,fun q hq=>?_⟩⟩
     ·rw[tn];exact List.mem_append_right _ List.mem_cons_self
     ·rw[tn] at hq
      rcases List.mem_append.mp hq with h | h
      ·exact less_step (least q h) el
      ·rw[List.mem_singleton.mp h];exact less_irr ts r'
    | false =>
     refine iteF ⟨_,_,rfl,S5.trans S6,.inr ⟨r,?_,isb,fun q hq=>?_⟩⟩
     ·rw[tn];exact List.mem_append_left _ hr
     ·rw[tn] at hq
      rcases List.mem_append.mp hq with h | h
      ·exact least q h
      ·rw[List.mem_singleton.mp h];exact el
  ·obtain⟨bv,y10,rfl,S5,hb⟩:=h
   have lus:us.length=FN.length:=by rw[iu.length,List.length_map]
   rw[lus,List.take_length] at hb
   have again:∀ J6,Same J5 J6->∃ z1 z5 z6 z7 z8 z9 z10:Option V,([some (.ref a),y1,some (.ref l),some (.ref g0),some kv,some (.int (0 + (m:Int))),some (.int (s1':Int)),some (.int (e1':Int)),some fv,some bv,y10]:L2.St)=[some (.ref a),z1,some (.ref l),some (.ref g0),some kv,z5,z6,z7,z8,z9,z10]∧Same H J6∧Pot J6 l∧WK K J6 n ts ks (.ref g0) kv:=fun J6 S6=>⟨y1,_,_,_,_,_,y10,rfl,sm4.trans (S5.trans S6),q4.same (S5.trans S6),wk4.same (S5.trans S6)⟩
   rcases hb with ⟨i0,rfl⟩ | ⟨r,hr,isb,least⟩
   ·refine⟨_,rfl,rfl,_,rfl,iteT ?_⟩
    rcases hfv with ⟨rfl,dst⟩ | ⟨t,ws,x,rfl,ht,lw24,mw,tr,dst⟩
    ·exact⟨_,rfl,rfl,_,rfl,iteF (again J5 (Same.refl _))⟩
    ·obtain⟨S,x',y',rt,_⟩:=mw
     have:=rt_fnd ok ko (by omega) rt
     rw[← eFN,List.length_eq_zero_iff.mp i0] at this
     cases this
   ·obtain⟨pb,ba,bc,eb,hpb,hba,hbc⟩:=rw8_of isb
    subst eb
    refine⟨_,rfl,rfl,_,rfl,iteF ?_⟩
    rcases hfv with ⟨rfl,dst⟩ | ⟨t,ws,x,rfl,ht,lw24,mw,tr,dst⟩
    ·obtain⟨x',y',rt⟩:=hFN r hr
     have ww:=rt.walk
     rw[arcsF_eq] at ww
     obtain⟨_,z,_⟩:=dst.2 _ ww
     cases z
    ·have e1:r.1=ws:=least_way ok ko (by omega) (by rw[← eFN];exact hr) (by rw[← eFN];exact least) mw
     subst e1
     have ht5:=(S4.trans S5) _ _ ht
     have iF:Is K J5 (pieceD r.1) (.ref t):=is_piece ht5
     have iB:Is K J5 (pieceD r.1) (.ref ba):=is_piece (S5 _ _ hba)
     have d1:=deep_ints (keepI r.1)
     have d2:PyData.depth (pieceD r.1)=PyData.depthAll ((keepI r.1).map .int) + 1:=rfl
     refine⟨_,rfl,_,_,_,rfl,TyOf.tup ht5,rfl,_,rfl,iteF ⟨_,rfl,_,rfl,pb,_,_,_,rfl,rfl,SqT.of (S5 _ _ hpb),rfl,pieceD r.1,pieceD r.1,iF,iB,lay_ints (keepI r.1),lay_ints (keepI r.1),?_,_,rfl,iteNB (SeqAt.eqv_refl (pieceD r.1) (lay_ints (keepI r.1))) ⟨_,rfl,t,rfl,⟨_,SqT.of ht5⟩,?_⟩⟩⟩
     ·rw[d2,Nat.min_self]
      exact units (by omega)
     refine comp_tup ht5 (fun σ'=>σ'.length=1) (fun i v _=>v=.bl ((fun _=>false) i)) (by rw[natV_length];omega) (by rfl) (fun _ _ _ _ _ h=>h) (fun i x σ' H' hx s2 sg C hC=>?_) (fun L ys J6 hL S6 hH hly hys=>?_)
     ·match σ',sg with
      | [o],_ =>
       obtain⟨nn,rfl⟩:∃ nn:Nat,x=V.int (nn:Int):=by
        unfold natV at hx
        rw[List.getElem?_map] at hx
        obtain⟨nn,_,e⟩:=Option.map_eq_some_iff.mp hx
        exact⟨nn,e.symm⟩
       exact⟨_,rfl,_,_,_,rfl,TyOf.int _,rfl,hC _ _ _ rfl (Same.refl _) rfl⟩
     refine⟨L,_,rfl,SqL.of (by rw[hH,bools_of hly hys]),_,rfl,?_⟩
     have e1:((List.range (natV r.1).length).map fun _=>false).any id=false:=by simp
     rw[e1]
     exact iteF (again J6 S6)
 ·obtain⟨y1,y5,y6,y7,y8,y9,y10,rfl,sm,pJ,wk⟩:=h
  exact⟨_,_,_,_,_,_,_,_,_,_,rfl,sm⟩
 ·obtain⟨x1,x2,x3,x4,x5,x6,x7,x8,x9,x10,rfl,s0⟩:=h
  exact q _
end
end Me
namespace Me
open PySem PySem.Spec PyProof.Rows L2 L3
theorem def_mk {K:PySem.W.Frag} {h:Heap} {mg:Str->Option Value} {x:Str} {st:Stmt} {ps:List Str} {f:Addr} {od an:Option Addr} {sl:Array (Option Value)} {oc kV dc pm cd ct:Value} (X:K.In h) (G:h.Ns mainGlobals mg)
  (b:∀ (kV doc pm:Value) (an:Option Addr) (cdv ct:Value) (us:List Value),us.length=ps.length->bindArgs (PySem.W.fnOf x x (defArgs st) (defBody st) (defScope st) .none kV doc pm an cdv ct) ⟨us,[]⟩=pure (ps.zip us))
  (a:PySem.W.nsIn K mainGlobals x=some (some (.ref f))) (l:K.lookup f=some ⟨oc,od,.func (PySem.W.fnOf x x (defArgs st) (defBody st) (defScope st) .none kV dc pm an cd ct),sl⟩) (c:PySem.W.codeIn K cd x=true) (k:PySem.W.keepIn K (.ref f)=true):DefOk K mg x st ps:=by
 have F:=fun_mk (st:=st) l c k
 exact⟨f,_,F,F.binds b,PySem.W.mg_of X G a⟩
theorem dq {p:Program} {K:PySem.W.Frag} {h:Heap} {mg:Str->Option Value} {x:Str} {st:Stmt} {ps:List Str} (f c j u:Nat) (X:K.In h) (G:h.Ns mainGlobals mg)
  (b:∀ (kV doc pm:Value) (an:Option Addr) (cdv ct:Value) (us:List Value),us.length=ps.length->bindArgs (PySem.W.fnOf x x (defArgs st) (defBody st) (defScope st) .none kV doc pm an cdv ct) ⟨us,[]⟩=pure (ps.zip us))
  (a:PySem.W.nsIn K mainGlobals x=some (some (.ref f))) (l:K.lookup f=some ⟨.type "function",none,.func (PySem.W.fnOf x x (defArgs st) (defBody st) (defScope st) .none .none .none (Hx.mdV p ⟨0,0,0,j,u,0⟩) none (.ref c) .none),#[]⟩) (cc:PySem.W.codeIn K (.ref c) x=true) (k:PySem.W.keepIn K (.ref f)=true):DefOk K mg x st ps:=def_mk X G b a l cc k
theorem bd_tie_weights (kV doc pm:Value) (an:Option Addr) (cdv ct:Value) (us:List Value) (hl:us.length=(["web"]:List Str).length):bindArgs (PySem.W.fnOf "tie_weights" "tie_weights" (defArgs s_tie_weights) (defBody s_tie_weights) (defScope s_tie_weights) .none kV doc pm an cdv ct) ⟨us,[]⟩=pure (List.zip (["web"]:List Str) us):=match us,hl with | [_],_=>rfl
theorem bd_cost_with (kV doc pm:Value) (an:Option Addr) (cdv ct:Value) (us:List Value) (hl:us.length=(["cost","length","weight"]:List Str).length):bindArgs (PySem.W.fnOf "cost_with" "cost_with" (defArgs s_cost_with) (defBody s_cost_with) (defScope s_cost_with) .none kV doc pm an cdv ct) ⟨us,[]⟩=pure (List.zip (["cost","length","weight"]:List Str) us):=match us,hl with | [_,_,_],_=>rfl
theorem bd_reached_from (kV doc pm:Value) (an:Option Addr) (cdv ct:Value) (us:List Value) (hl:us.length=(["web","keep","root"]:List Str).length):bindArgs (PySem.W.fnOf "reached_from" "reached_from" (defArgs s_reached_from) (defBody s_reached_from) (defScope s_reached_from) .none kV doc pm an cdv ct) ⟨us,[]⟩=pure (List.zip (["web","keep","root"]:List Str) us):=match us,hl with | [_,_,_],_=>rfl
theorem bd_tree_from (kV doc pm:Value) (an:Option Addr) (cdv ct:Value) (us:List Value) (hl:us.length=(["web","keep","root"]:List Str).length):bindArgs (PySem.W.fnOf "tree_from" "tree_from" (defArgs s_tree_from) (defBody s_tree_from) (defScope s_tree_from) .none kV doc pm an cdv ct) ⟨us,[]⟩=pure (List.zip (["web","keep","root"]:List Str) us):=match us,hl with | [_,_,_],_=>rfl
theorem bd_the_way (kV doc pm:Value) (an:Option Addr) (cdv ct:Value) (us:List Value) (hl:us.length=(["web","keep","a","b"]:List Str).length):bindArgs (PySem.W.fnOf "the_way" "the_way" (defArgs s_the_way) (defBody s_the_way) (defScope s_the_way) .none kV doc pm an cdv ct) ⟨us,[]⟩=pure (List.zip (["web","keep","a","b"]:List Str) us):=match us,hl with | [_,_,_,_],_=>rfl
theorem bd__law_pot (kV doc pm:Value) (an:Option Addr) (cdv ct:Value) (us:List Value) (hl:us.length=(["script","k"]:List Str).length):bindArgs (PySem.W.fnOf "_law_pot" "_law_pot" (defArgs s__law_pot) (defBody s__law_pot) (defScope s__law_pot) .none kV doc pm an cdv ct) ⟨us,[]⟩=pure (List.zip (["script","k"]:List Str) us):=match us,hl with | [_,_],_=>rfl
theorem bd__law_take (kV doc pm:Value) (an:Option Addr) (cdv ct:Value) (us:List Value) (hl:us.length=(["pot","many"]:List Str).length):bindArgs (PySem.W.fnOf "_law_take" "_law_take" (defArgs s__law_take) (defBody s__law_take) (defScope s__law_take) .none kV doc pm an cdv ct) ⟨us,[]⟩=pure (List.zip (["pot","many"]:List Str) us):=match us,hl with | [_,_],_=>rfl
theorem bd__law_length (kV doc pm:Value) (an:Option Addr) (cdv ct:Value) (us:List Value) (hl:us.length=(["pot","way"]:List Str).length):bindArgs (PySem.W.fnOf "_law_length" "_law_length" (defArgs s__law_length) (defBody s__law_length) (defScope s__law_length) .none kV doc pm an cdv ct) ⟨us,[]⟩=pure (List.zip (["pot","way"]:List Str) us):=match us,hl with | [_,_],_=>rfl
theorem bd__law_tied (kV doc pm:Value) (an:Option Addr) (cdv ct:Value) (us:List Value) (hl:us.length=(["pot","n","style","a","b"]:List Str).length):bindArgs (PySem.W.fnOf "_law_tied" "_law_tied" (defArgs s__law_tied) (defBody s__law_tied) (defScope s__law_tied) .none kV doc pm an cdv ct) ⟨us,[]⟩=pure (List.zip (["pot","n","style","a","b"]:List Str) us):=match us,hl with | [_,_,_,_,_],_=>rfl
theorem bd__law_order (kV doc pm:Value) (an:Option Addr) (cdv ct:Value) (us:List Value) (hl:us.length=(["pot","many"]:List Str).length):bindArgs (PySem.W.fnOf "_law_order" "_law_order" (defArgs s__law_order) (defBody s__law_order) (defScope s__law_order) .none kV doc pm an cdv ct) ⟨us,[]⟩=pure (List.zip (["pot","many"]:List Str) us):=match us,hl with | [_,_],_=>rfl
theorem bd__law_web (kV doc pm:Value) (an:Option Addr) (cdv ct:Value) (us:List Value) (hl:us.length=(["pot","most"]:List Str).length):bindArgs (PySem.W.fnOf "_law_web" "_law_web" (defArgs s__law_web) (defBody s__law_web) (defScope s__law_web) .none kV doc pm an cdv ct) ⟨us,[]⟩=pure (List.zip (["pot","most"]:List Str) us):=match us,hl with | [_,_],_=>rfl
theorem bd__law_keep (kV doc pm:Value) (an:Option Addr) (cdv ct:Value) (us:List Value) (hl:us.length=(["pot","web"]:List Str).length):bindArgs (PySem.W.fnOf "_law_keep" "_law_keep" (defArgs s__law_keep) (defBody s__law_keep) (defScope s__law_keep) .none kV doc pm an cdv ct) ⟨us,[]⟩=pure (List.zip (["pot","web"]:List Str) us):=match us,hl with | [_,_],_=>rfl
theorem bd__law_ends (kV doc pm:Value) (an:Option Addr) (cdv ct:Value) (us:List Value) (hl:us.length=(["web","keep","place"]:List Str).length):bindArgs (PySem.W.fnOf "_law_ends" "_law_ends" (defArgs s__law_ends) (defBody s__law_ends) (defScope s__law_ends) .none kV doc pm an cdv ct) ⟨us,[]⟩=pure (List.zip (["web","keep","place"]:List Str) us):=match us,hl with | [_,_,_],_=>rfl
theorem bd__law_ways (kV doc pm:Value) (an:Option Addr) (cdv ct:Value) (us:List Value) (hl:us.length=(["web","keep","start","end"]:List Str).length):bindArgs (PySem.W.fnOf "_law_ways" "_law_ways" (defArgs s__law_ways) (defBody s__law_ways) (defScope s__law_ways) .none kV doc pm an cdv ct) ⟨us,[]⟩=pure (List.zip (["web","keep","start","end"]:List Str) us):=match us,hl with | [_,_,_,_],_=>rfl
theorem bd__law_first (kV doc pm:Value) (an:Option Addr) (cdv ct:Value) (us:List Value) (hl:us.length=(["web","one","other"]:List Str).length):bindArgs (PySem.W.fnOf "_law_first" "_law_first" (defArgs s__law_first) (defBody s__law_first) (defScope s__law_first) .none kV doc pm an cdv ct) ⟨us,[]⟩=pure (List.zip (["web","one","other"]:List Str) us):=match us,hl with | [_,_,_],_=>rfl
theorem law_all {P:Program} {w:World} {K:PySem.W.Frag} {mg:Str->Option Value} {base:Heap} {f:Addr} {fd:FuncData} (T:Bi mg)
  (D_tie_weights:DefOk K mg "tie_weights" s_tie_weights ["web"])
  (D_cost_with:DefOk K mg "cost_with" s_cost_with ["cost","length","weight"])
  (D_reached_from:DefOk K mg "reached_from" s_reached_from ["web","keep","root"])
  (D_tree_from:DefOk K mg "tree_from" s_tree_from ["web","keep","root"])
  (D_the_way:DefOk K mg "the_way" s_the_way ["web","keep","a","b"])
  (D__law_pot:DefOk K mg "_law_pot" s__law_pot ["script","k"])
  (D__law_take:DefOk K mg "_law_take" s__law_take ["pot","many"])
  (D__law_length:DefOk K mg "_law_length" s__law_length ["pot","way"])
  (D__law_tied:DefOk K mg "_law_tied" s__law_tied ["pot","n","style","a","b"])
  (D__law_order:DefOk K mg "_law_order" s__law_order ["pot","many"])
  (D__law_web:DefOk K mg "_law_web" s__law_web ["pot","most"])
  (D__law_keep:DefOk K mg "_law_keep" s__law_keep ["pot","web"])
  (D__law_ends:DefOk K mg "_law_ends" s__law_ends ["web","keep","place"])
  (D__law_ways:DefOk K mg "_law_ways" s__law_ways ["web","keep","start","end"])
  (D__law_first:DefOk K mg "_law_first" s__law_first ["web","one","other"])
  (F:Fun K "law" "law" s_law f fd):FnOk P w K mg base CX0 7 f fd ["script"] (spLaw K):=by
 have O__law_take:=ok__law_take (P:=P) (w:=w) (base:=base) T D__law_take
 have O__law_pot:=ok__law_pot (P:=P) (w:=w) (base:=base) T D__law_pot
 have O__law_length:=ok__law_length T D__law_length O__law_take
 have O__law_tied:=ok__law_tied T D__law_tied O__law_take
 have O__law_order:=ok__law_order T D__law_order O__law_take
 have O__law_web:=ok__law_web T D__law_web (O__law_take.mono (by decide)) O__law_order O__law_tied O__law_length
 have O__law_keep:=ok__law_keep T D__law_keep O__law_take
 have O_tie_weights:=ok_tie_weights (P:=P) (w:=w) (base:=base) T D_tie_weights
 have O_cost_with:=ok_cost_with (P:=P) (w:=w) (base:=base) T D_cost_with
 have O_reached_fromC:=ok_reached_fromC T D_reached_from O_tie_weights O_cost_with
 have O_reached_fromB:Ok P w K mg base 2 "reached_from" ["web","keep","root"] (spReachedB K):=O_reached_fromC.imp reached_B
 have O_tree_from:=ok_tree_fromB T D_tree_from O_reached_fromB
 have O_the_wayB:=ok_the_wayB T D_the_way O_tree_from
 have O_the_way:Ok P w K mg base 4 "the_way" ["web","keep","a","b"] (spWayM K):=O_the_wayB.imp way_M
 have O__law_ends:=ok__law_ends08 (P:=P) (w:=w) (base:=base) T D__law_ends
 have O__law_ways:=ok__law_ways08 T D__law_ways O__law_ends
 have O__law_first:=ok__law_first08 (P:=P) (w:=w) (base:=base) T D__law_first
 exact ok_law T F (O__law_pot.mono (by decide)) (O__law_take.mono (by decide)) (O__law_web.mono (by decide)) (O__law_keep.mono (by decide)) (O_the_way.mono (by decide)) (O__law_ways.mono (by decide)) (O__law_first.mono (by decide))
theorem walk {l:PySem.W.OpenLaw} {q:Program} {loose:List Str} {XP:(Str->Option Value)->Heap->Prop} {YP:World->Heap->Prop} {d:DefRec} {K:Params->PySem.W.Frag} (hn:l.most=some 63) (hdf:d.params.defaults=[])
  (hY:∀ (w:World) (h:Heap),YP w h->(K w.params).In h)
  (F:∀ (w:World) (mg:Str->Option Value) (fa:Addr) (h:Heap),(K w.params).In h->h.Ns mainGlobals mg->mg d.name=some (.ref fa) ->
   ∃ fd:FuncData,(∀ (s:Shared) (u:Value),BindsTo s fd ⟨[u],[]⟩ [("script",u)])∧∀ base:Heap,(K w.params).In base->base.Ns mainGlobals mg->FnOk l.prog w (K w.params) mg base CX0 7 fa fd ["script"] (spLaw (K w.params))) :
  PySem.W.WalkO q loose XP YP l.row.toRowW d [] (fun f vs=>PySem.call f vs) :=
 L2.walk_of (n:=63) (k:=7) (x:="script") (CX:=fun _=>CX0) (sp:=fun w=>spLaw (K w.params)) hn (by decide) hdf ⟨rfl,by decide,by decide,rfl⟩ hY F (fun _ _ a ns hl _ hS=>⟨a,ns,rfl,hS,hl,fun _=>rfl⟩) fun _ _ _ _ _ z=>z
end Me
namespace Hy
open PySem PySem.W Hx
def cs:List Ch:=[⟨0,15,187,0,187,0⟩,⟨1,15,189,0,187,0⟩,⟨2,22,199,0,187,0⟩,⟨3,29,208,0,187,0⟩,⟨4,36,228,0,187,0⟩,⟨5,43,239,0,187,0⟩,⟨6,50,251,6,251,0⟩,⟨7,50,253,6,251,0⟩,⟨8,57,263,6,251,0⟩,⟨9,64,272,6,251,0⟩,⟨10,71,280,6,251,0⟩,⟨11,78,292,6,251,0⟩,⟨12,85,303,6,251,0⟩,⟨13,92,320,6,251,0⟩,⟨14,97,326,6,251,0⟩,⟨15,104,340,6,251,0⟩,⟨16,111,358,6,251,0⟩,⟨17,116,364,6,251,0⟩]
end Hy
lay_quick Hx.PieceT Hx.PreT Hx.BlockT Hx.LookA Hx.LookB Hx.LookC PySem.Challenge.pw_thinways_k08_the_way
namespace Hy
open PySem PySem.W Hx
theorem pre:PreT PySem.Challenge.pw_thinways_k08_the_way boots boot_drawn boot_heap boot_toks cs ⟨0,15,187⟩:=by
 rw[PySem.W.Fast.te16428918119715843241,PySem.W.Fast.te13517745744930947251];delta PySem.W.Fast.tw16428918119715843241;intro w;kernel_rfl
theorem pc0:PieceT PySem.Challenge.pw_thinways_k08_the_way boots boot_drawn cs ⟨0,15,187⟩ ⟨13,92,320⟩ 390:=by
 rw[PySem.W.Fast.te4643275101561185336,PySem.W.Fast.te13517745744930947251];delta PySem.W.Fast.tw4643275101561185336;intro w;kernel_rfl
theorem pc1:PieceT PySem.Challenge.pw_thinways_k08_the_way boots boot_drawn cs ⟨13,92,320⟩ ⟨18,121,370⟩ 155:=by
 rw[PySem.W.Fast.te4643275101561185336,PySem.W.Fast.te13517745744930947251];delta PySem.W.Fast.tw4643275101561185336;intro w;kernel_rfl
theorem blk:BlockT PySem.Challenge.pw_thinways_k08_the_way :=by
 rw[PySem.W.Fast.te421534021395069552,PySem.W.Fast.te13517745744930947251];delta PySem.W.Fast.tw421534021395069552;intro w s;kernel_rfl
theorem run (w:World) (os:OsState):topRun treeTable PySem.Challenge.pw_thinways_k08_the_way w 11 ann0 (12 + (1 + (390 + (155 + 2)))) ⟨boot_heap w.params,Array.mk [],boot_drawn,boot_toks,os⟩ (topStub PySem.Challenge.pw_thinways_k08_the_way)=some (stT PySem.Challenge.pw_thinways_k08_the_way boots boot_drawn cs ⟨18,121,370⟩ w os).abs:=run_all pre blk (chain pc0 (by decide) (chain pc1 (by decide) (chain_end (by kernel_rfl))))
theorem size (w:World):((boot_heap w.params).isNs mainGlobals && (Array.mk []:Array GenState).size == 0,(boot_heap w.params).objs.size,(boot_heap w.params).nsMap mainGlobals "__annotations__")=(true,11,ann0):=by kernel_rfl
theorem lkA:LookA PySem.Challenge.pw_thinways_k08_the_way boots boot_drawn boot_heap cs ⟨18,121,370⟩:=by
 rw[PySem.W.Fast.te7818774390570169022,PySem.W.Fast.te13517745744930947251];delta PySem.W.Fast.tw7818774390570169022;intro w;kernel_rfl
theorem lkB:LookB PySem.Challenge.pw_thinways_k08_the_way boots boot_drawn cs ⟨18,121,370⟩ [17] (OpenRow.toRowW (PySem.Challenge.rw_thinways_k08_the_way).row).records:=by
 rw[PySem.W.Fast.te13889730532244352606,PySem.W.Fast.te13517745744930947251];delta PySem.W.Fast.tw13889730532244352606;intro w;kernel_rfl
theorem lkC:LookC PySem.Challenge.pw_thinways_k08_the_way boots cs ⟨18,121,370⟩ [3,20,21,27,28,34,35,41,42,48,49,55,56,62,63,69,70,76,77,83,84,90,91,95,96,102,103,109,110,114,115,119,120]:=by
 rw[PySem.W.Fast.te6241646928739474683,PySem.W.Fast.te13517745744930947251];delta PySem.W.Fast.tw6241646928739474683;intro w;kernel_rfl
noncomputable abbrev K:=Kf PySem.Challenge.pw_thinways_k08_the_way boots cs
theorem Kas (P:Params):[3,20,21,27,28,34,35,41,42,48,49,55,56,62,63,69,70,76,77,83,84,90,91,95,96,102,103,109,110,114,115,119,120]=(K P).map (·.1):=by kernel_rfl
noncomputable abbrev H:Hook:=kHook K [3,20,21,27,28,34,35,41,42,48,49,55,56,62,63,69,70,76,77,83,84,90,91,95,96,102,103,109,110,114,115,119,120] Kas
theorem opn:opening PySem.Challenge.pw_thinways_k08_the_way=plainProg (PySem.Challenge.pw_thinways_k08_the_way).main.scope.names:=by kernel_rfl
theorem fnc (s:Shared):fenceModules? PySem.Challenge.pw_thinways_k08_the_way s=some s:=by kernel_rfl
theorem left:LeftO PySem.Challenge.pw_thinways_k08_the_way (qv PySem.Challenge.pw_thinways_k08_the_way [17]) (lz PySem.Challenge.pw_thinways_k08_the_way [17] 18) (fun s=>xlAt (qv PySem.Challenge.pw_thinways_k08_the_way [17]) [] s && recOk (OpenRow.toRowW (PySem.Challenge.rw_thinways_k08_the_way).row).records s) (Hook.obs H) (Hook.val H) 1720 :=
 left_of (p:=PySem.Challenge.pw_thinways_k08_the_way) (cs:=cs) (is:=[17]) (as:=[3,20,21,27,28,34,35,41,42,48,49,55,56,62,63,69,70,76,77,83,84,90,91,95,96,102,103,109,110,114,115,119,120]) (rc:=(OpenRow.toRowW (PySem.Challenge.rw_thinways_k08_the_way).row).records) (c:=⟨18,121,370⟩) (M:=12 + (1 + (390 + (155 + 2)))) (N:=1720) (e:=Kas) opn (by decide) fnc size run (by decide) lkA lkB lkC
end Hy
namespace Hy
open PySem PySem.W PyProof.Rows L2 L3 Hx Me
theorem all {w:World} {h:Heap} {mg:Str->Option Value} {fa:Addr} (X:(K w.params).In h) (G:h.Ns mainGlobals mg) (hfa:mg "law"=some (.ref fa)) :
  ∃ fd:FuncData,(∀ (s:Shared) (v:Value),BindsTo s fd ⟨[v],[]⟩ [("script",v)])∧∀ base:Heap,(K w.params).In base->base.Ns mainGlobals mg->FnOk (PySem.Challenge.rw_thinways_k08_the_way).prog w (K w.params) mg base CX0 7 fa fd ["script"] (spLaw (K w.params)):=by
 have T:Bi mg:=⟨PySem.W.mg_none_of X G (show PySem.W.nsIn (K w.params) mainGlobals "len"=some none by kernel_rfl),PySem.W.mg_none_of X G (show PySem.W.nsIn (K w.params) mainGlobals "range"=some none by kernel_rfl),PySem.W.mg_none_of X G (show PySem.W.nsIn (K w.params) mainGlobals "zip"=some none by kernel_rfl),PySem.W.mg_none_of X G (show PySem.W.nsIn (K w.params) mainGlobals "all"=some none by kernel_rfl),PySem.W.mg_none_of X G (show PySem.W.nsIn (K w.params) mainGlobals "sorted"=some none by kernel_rfl),PySem.W.mg_none_of X G (show PySem.W.nsIn (K w.params) mainGlobals "isinstance"=some none by kernel_rfl),PySem.W.mg_none_of X G (show PySem.W.nsIn (K w.params) mainGlobals "min"=some none by kernel_rfl),PySem.W.mg_none_of X G (show PySem.W.nsIn (K w.params) mainGlobals "max"=some none by kernel_rfl),PySem.W.mg_none_of X G (show PySem.W.nsIn (K w.params) mainGlobals "tuple"=some none by kernel_rfl),PySem.W.mg_none_of X G (show PySem.W.nsIn (K w.params) mainGlobals "list"=some none by kernel_rfl),PySem.W.mg_none_of X G (show PySem.W.nsIn (K w.params) mainGlobals "int"=some none by kernel_rfl),PySem.W.mg_none_of X G (show PySem.W.nsIn (K w.params) mainGlobals "bool"=some none by kernel_rfl),PySem.W.mg_none_of X G (show PySem.W.nsIn (K w.params) mainGlobals "str"=some none by kernel_rfl),PySem.W.mg_none_of X G (show PySem.W.nsIn (K w.params) mainGlobals "enumerate"=some none by kernel_rfl),PySem.W.mg_none_of X G (show PySem.W.nsIn (K w.params) mainGlobals "sum"=some none by kernel_rfl),PySem.W.mg_none_of X G (show PySem.W.nsIn (K w.params) mainGlobals "abs"=some none by kernel_rfl),PySem.W.mg_none_of X G (show PySem.W.nsIn (K w.params) mainGlobals "set"=some none by kernel_rfl),PySem.W.mg_none_of X G (show PySem.W.nsIn (K w.params) mainGlobals "reversed"=some none by kernel_rfl),PySem.W.mg_none_of X G (show PySem.W.nsIn (K w.params) mainGlobals "any"=some none by kernel_rfl),PySem.W.mg_none_of X G (show PySem.W.nsIn (K w.params) mainGlobals "repr"=some none by kernel_rfl),PySem.W.mg_none_of X G (show PySem.W.nsIn (K w.params) mainGlobals "dict"=some none by kernel_rfl)⟩
 have D_tie_weights:=dq (p:=PySem.Challenge.pw_thinways_k08_the_way) (ps:=["web"]) 21 20 0 187 X G bd_tie_weights (by kernel_rfl) (by kernel_rfl) (by kernel_rfl) (by kernel_rfl)
 have D_cost_with:=dq (p:=PySem.Challenge.pw_thinways_k08_the_way) (ps:=["cost","length","weight"]) 28 27 0 187 X G bd_cost_with (by kernel_rfl) (by kernel_rfl) (by kernel_rfl) (by kernel_rfl)
 have D_reached_from:=dq (p:=PySem.Challenge.pw_thinways_k08_the_way) (ps:=["web","keep","root"]) 35 34 0 187 X G bd_reached_from (by kernel_rfl) (by kernel_rfl) (by kernel_rfl) (by kernel_rfl)
 have D_tree_from:=dq (p:=PySem.Challenge.pw_thinways_k08_the_way) (ps:=["web","keep","root"]) 42 41 0 187 X G bd_tree_from (by kernel_rfl) (by kernel_rfl) (by kernel_rfl) (by kernel_rfl)
 have D_the_way:=dq (p:=PySem.Challenge.pw_thinways_k08_the_way) (ps:=["web","keep","a","b"]) 49 48 0 187 X G bd_the_way (by kernel_rfl) (by kernel_rfl) (by kernel_rfl) (by kernel_rfl)
 have D__law_pot:=dq (p:=PySem.Challenge.pw_thinways_k08_the_way) (ps:=["script","k"]) 56 55 6 251 X G bd__law_pot (by kernel_rfl) (by kernel_rfl) (by kernel_rfl) (by kernel_rfl)
 have D__law_take:=dq (p:=PySem.Challenge.pw_thinways_k08_the_way) (ps:=["pot","many"]) 63 62 6 251 X G bd__law_take (by kernel_rfl) (by kernel_rfl) (by kernel_rfl) (by kernel_rfl)
 have D__law_length:=dq (p:=PySem.Challenge.pw_thinways_k08_the_way) (ps:=["pot","way"]) 70 69 6 251 X G bd__law_length (by kernel_rfl) (by kernel_rfl) (by kernel_rfl) (by kernel_rfl)
 have D__law_tied:=dq (p:=PySem.Challenge.pw_thinways_k08_the_way) (ps:=["pot","n","style","a","b"]) 77 76 6 251 X G bd__law_tied (by kernel_rfl) (by kernel_rfl) (by kernel_rfl) (by kernel_rfl)
 have D__law_order:=dq (p:=PySem.Challenge.pw_thinways_k08_the_way) (ps:=["pot","many"]) 84 83 6 251 X G bd__law_order (by kernel_rfl) (by kernel_rfl) (by kernel_rfl) (by kernel_rfl)
 have D__law_web:=dq (p:=PySem.Challenge.pw_thinways_k08_the_way) (ps:=["pot","most"]) 91 90 6 251 X G bd__law_web (by kernel_rfl) (by kernel_rfl) (by kernel_rfl) (by kernel_rfl)
 have D__law_keep:=dq (p:=PySem.Challenge.pw_thinways_k08_the_way) (ps:=["pot","web"]) 96 95 6 251 X G bd__law_keep (by kernel_rfl) (by kernel_rfl) (by kernel_rfl) (by kernel_rfl)
 have D__law_ends:=dq (p:=PySem.Challenge.pw_thinways_k08_the_way) (ps:=["web","keep","place"]) 103 102 6 251 X G bd__law_ends (by kernel_rfl) (by kernel_rfl) (by kernel_rfl) (by kernel_rfl)
 have D__law_ways:=dq (p:=PySem.Challenge.pw_thinways_k08_the_way) (ps:=["web","keep","start","end"]) 110 109 6 251 X G bd__law_ways (by kernel_rfl) (by kernel_rfl) (by kernel_rfl) (by kernel_rfl)
 have D__law_first:=dq (p:=PySem.Challenge.pw_thinways_k08_the_way) (ps:=["web","one","other"]) 115 114 6 251 X G bd__law_first (by kernel_rfl) (by kernel_rfl) (by kernel_rfl) (by kernel_rfl)
 have e:=hfa.symm.trans (PySem.W.mg_of X G (show PySem.W.nsIn (K w.params) mainGlobals "law"=some (some (.ref 120)) by kernel_rfl))
 cases e
 have F:=fun_mk (x:="law") (qual:="law") (st:=s_law) (K:=K w.params) (f:=120) (oc:=.type "function") (od:=none) (an:=none) (osl:=#[]) (kV:=.none) (doc:=.none) (pm:=Hx.mdV PySem.Challenge.pw_thinways_k08_the_way ⟨0,0,0,6,251,0⟩) (cdv:=.ref 119) (ct:=.none) (by kernel_rfl) (by kernel_rfl) (by kernel_rfl)
 exact⟨_,fun s v=>.of_eq rfl,fun base _ _=>law_all (P:=(PySem.Challenge.rw_thinways_k08_the_way).prog) (w:=w) (base:=base) T D_tie_weights D_cost_with D_reached_from D_tree_from D_the_way D__law_pot D__law_take D__law_length D__law_tied D__law_order D__law_web D__law_keep D__law_ends D__law_ways D__law_first F⟩
end Hy
open PySem PySem.W PyProof.Rows
set_option maxRecDepth 100000 in
set_option maxHeartbeats 0 in
theorem PySem.Challenge.cw_thinways_k08_the_way_holds : PySem.Challenge.rw_thinways_k08_the_way.Holds := by
 w_on;o_law
 refine holds_open (q:=(Hx.qv PySem.Challenge.pw_thinways_k08_the_way [17])) (loose:=Hx.lz PySem.Challenge.pw_thinways_k08_the_way [17] 18) (Xt:=fun s=>xlAt (Hx.qv PySem.Challenge.pw_thinways_k08_the_way [17]) [] s && recOk (OpenRow.toRowW (PySem.Challenge.rw_thinways_k08_the_way).row).records s) (XP:=XL (Hx.qv PySem.Challenge.pw_thinways_k08_the_way [17]) []) (Yf:=Hook.obs Hy.H) (Ya:=Hook.val Hy.H) (YP:=Hook.says Hy.H) (N:=1720) Hy.left (Hook.of Hy.H) (Hook.keeps Hy.H) (fun s e=>xl_of s (Bool.and_eq_true_iff.mp e).1) XL.keeps (by rfl) (by rfl) (by rfl) (fun s e=>recFacts_of (Bool.and_eq_true_iff.mp e).2) (by rfl) (by first | assumption | decide +kernel) (by decide +kernel) ⟨rfl,rfl,rfl,rfl,rfl,by decide +kernel⟩ ?hw ?hc
 case hw=>w_witness2
 case hc =>
  refine Me.walk (l:=PySem.Challenge.rw_thinways_k08_the_way) rfl rfl (fun w h Y=>PySem.W.kIn_of Y) fun w mg fa h KX G hmg=>Hy.all KX G hmg
