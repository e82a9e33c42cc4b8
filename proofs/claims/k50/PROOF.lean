import PyProof.Rows.All
import Wide.All
import OpenK.AllK
import Wide.FinOn
import Lean
import PyProof.EqAt
import PyProof.EqKinds
import PyProof.TupleCall
import KE.KSortTup
import PyProof.ZipIter
import PyProof.TupleIter
import PyProof.WalksMore
import PyProof.Rows.TupIter
import PyProof.EnumIter
import PyProof.EnumFor
import PyProof.EnumStmt
import PyProof.ReprRoads
import PyProof.Rows.SeqMore
import PyProof.ListMulRoad
import PyProof.FactsAll.tuple_2
import PyProof.FactsAll.tuple_3
import PyProof.Rows.Tup
import PyProof.ListRange
import PyProof.TupleOfSeq
import PyProof.SumAny
import PyProof.ConsumeS
import PyProof.Rows.CallKwBuiltin
import KE.KLam
import KE.KSortKey
import PyProof.AutoSeq1
import KE.KListMore
import PyProof.FactsAll.subtypes_4
import PyProof.SetRoads
import PyProof.Rows.SetFrom
import PyProof.WalkInts
import PyProof.DictDisplay
import PyProof.DictWalks
import PySem.Challenge.RW_thinways_k50_partings
set_option Elab.async false
set_option linter.all false
set_option maxRecDepth 100000
namespace L2
open PySem PySem.Spec PyProof.Rows
/-- a key: an int or a str -/
abbrev Key:=Sum Int Str
def keyIs:Key->Value->Bool
 | .inl k,v=>Value.isInt k v
 | .inr x,v=>Value.isStrOf x v
def keyH (w:World):Key->Int
 | .inl k=>hashInt k
 | .inr x=>hashStr w x
theorem keyIs_shape:∀ {k:Key} {v:Value},keyIs k v=true->(∃ i t,k=Sum.inl i∧v=Value.int i t)∨(∃ x t,k=Sum.inr x∧v=Value.str x t)
 | .inl i,v,h=>by
  obtain⟨t,e⟩:=Value.isInt_shape (k:=i) (v:=v) h
  exact .inl ⟨i,t,rfl,e⟩
 | .inr x,v,h=>by
  obtain⟨t,e⟩:=Value.isStrOf_shape (x:=x) (v:=v) h
  exact .inr ⟨x,t,rfl,e⟩
theorem key_ll (a b:Int):decide ((Sum.inl a:Key)=Sum.inl b)=(a == b):=by
 by_cases e:a=b
 ·subst e;simp
 ·have h:¬ (Sum.inl a:Key)=Sum.inl b:=fun q=>e (Sum.inl.inj q)
  rw[decide_eq_false h]
  exact (beq_eq_false_iff_ne.mpr e).symm
theorem key_rr (a b:Str):decide ((Sum.inr a:Key)=Sum.inr b)=decide (a=b):=by
 by_cases e:a=b
 ·subst e;simp
 ·have h:¬ (Sum.inr a:Key)=Sum.inr b:=fun q=>e (Sum.inr.inj q)
  rw[decide_eq_false h,decide_eq_false e]
theorem key_lr (a:Int) (b:Str):decide ((Sum.inl a:Key)=Sum.inr b)=false:=decide_eq_false (fun q=>nomatch q)
theorem key_rl (a:Str) (b:Int):decide ((Sum.inr a:Key)=Sum.inl b)=false:=decide_eq_false (fun q=>nomatch q)
def mixKind (prog:Program) (w:World):PySem.KeyKind prog w Key where
 is:=keyIs
 hash:=keyH w
 inj:=fun v a b ha hb=>by
  rcases keyIs_shape ha with ⟨i,t,rfl,rfl⟩ | ⟨x,t,rfl,rfl⟩
  ·rcases keyIs_shape hb with ⟨j,u,rfl,e⟩ | ⟨y,u,rfl,e⟩
   ·injection e with e1 _;rw[e1]
   ·exact nomatch e
  ·rcases keyIs_shape hb with ⟨j,u,rfl,e⟩ | ⟨y,u,rfl,e⟩
   ·exact nomatch e
   ·injection e with e1 _;rw[e1]
 byValue:=fun k v h=>by
  rcases keyIs_shape h with ⟨i,t,rfl,rfl⟩ | ⟨x,t,rfl,rfl⟩ <;> rfl
 pyHash:=fun hv h=>by
  rcases keyIs_shape hv with ⟨i,t,rfl,rfl⟩ | ⟨x,t,rfl,rfl⟩
  ·exact wpAny_pyHash_int h
  ·exact wpAny_pyHash_str h
 eqBool:=fun hu hv h=>by
  rcases keyIs_shape hu with ⟨i,t,rfl,rfl⟩ | ⟨x,t,rfl,rfl⟩
  ·rcases keyIs_shape hv with ⟨j,u,rfl,rfl⟩ | ⟨y,u,rfl,rfl⟩
   ·rw[key_ll] at h;exact wpAny_eqBool_int h
   ·rw[key_lr] at h;exact SeqAt.EqAt.int_str i t y u _ _ _ _ h
  ·rcases keyIs_shape hv with ⟨j,u,rfl,rfl⟩ | ⟨y,u,rfl,rfl⟩
   ·rw[key_rl] at h;exact SeqAt.EqAt.str_int x t j u _ _ _ _ h
   ·rw[key_rr] at h;exact wpAny_eqBool_str h
 «strs»:=fun k x t v h=>by
  rcases keyIs_shape h with ⟨i,u,rfl,e⟩ | ⟨y,u,rfl,e⟩
  ·exact nomatch e
  ·injection e with e1 _
   subst e1
   cases v <;> rfl
end L2
namespace L2
open PySem PySem.Spec PyProof.Rows
/-- a value, without the heap -/
inductive V where
 | non | bl (b:Bool) | int (i:Int) | str (x:Str) | byt (b:Array UInt8) | flt (b:UInt64) | ref (a:Addr) | ty (n:String)
 deriving DecidableEq
def RelV:V->Value->Prop
 | .non,u=>u=Value.none
 | .bl b,u=>u=Value.bool b
 | .int i,u=>∃ t,u=Value.int i t
 | .str x,u=>∃ t,u=Value.str x t
 | .byt b,u=>∃ t,u=Value.bytes b t
 | .flt b,u=>∃ t,u=Value.float b t
 | .ref a,u=>u=Value.ref a
 | .ty n,u=>u=Value.type n
abbrev Vals:List V->List Value->Prop:=Paired RelV
theorem Vals.length {xs:List V} {us:List Value} (r:Vals xs us):xs.length=us.length:=Paired.length r
theorem Vals.get:∀ {xs:List V} {us:List Value} {i:Nat} {x:V},Vals xs us->xs[i]?=some x->∃ u,us[i]?=some u∧RelV x u
 | _,_,_,_,.nil,e=>by simp at e
 | _,_,0,_,.cons r _,e=>by simp at e;subst e;exact⟨_,rfl,r⟩
 | _,_,i + 1,x,.cons _ t,e=>by
  obtain⟨u,h1,h2⟩:=Vals.get (i:=i) (x:=x) t (by simpa using e)
  exact⟨u,by simpa using h1,h2⟩
theorem Vals.set {x:V} {u:Value} (r:RelV x u):∀ {xs:List V} {us:List Value} (i:Nat),Vals xs us->Vals (xs.set i x) (us.set i u)
 | _,_,_,.nil=>.nil
 | _,_,0,.cons _ t=>.cons r t
 | _,_,i + 1,.cons q t=>.cons q (Vals.set r i t)
theorem Vals.append:∀ {xs ys:List V} {us ws:List Value},Vals xs us->Vals ys ws->Vals (xs++ys) (us++ws)
 | _,_,_,_,.nil,s=>s
 | _,_,_,_,.cons r t,s=>.cons r (Vals.append t s)
theorem Vals.take:∀ {xs:List V} {us:List Value} (n:Nat),Vals xs us->Vals (xs.take n) (us.take n)
 | _,_,0,_=>.nil
 | _,_,_ + 1,.nil=>.nil
 | _,_,n + 1,.cons r t=>.cons r (Vals.take n t)
theorem Vals.drop:∀ {xs:List V} {us:List Value} (n:Nat),Vals xs us->Vals (xs.drop n) (us.drop n)
 | _,_,0,r=>r
 | _,_,_ + 1,.nil=>.nil
 | _,_,n + 1,.cons _ t=>Vals.drop n t
def RelO:Option V->Option Value->Prop
 | some v,some u=>RelV v u
 | none,none=>True
 | _,_=>False
def KV {κ:Type}:List (κ × V)->List (κ × Value)->Prop:=Paired fun (p:κ × V) (q:κ × Value)=>p.1=q.1∧RelV p.2 q.2
/-- a key of a dict (00_mix): an int or a text -/
def kV:Key->V
 | .inl i=>.int i
 | .inr x=>.str x
/-- what stands at a tracked address -/
inductive HO where
  /-- a list -/
 | lst (xs:List V)
  /-- a tuple (never changes) -/
 | tup (xs:List V)
  /-- a dict whose keys are ints and texts; one whose keys are tuples of ints and texts (the empty one is both) -/
 | dK (kvs:List (Key × V)) | dT (kvs:List (List Key × V))
  /-- a set of ints: its members, its size -/
 | set (S:Int->Bool) (n:Nat)
  /-- an instance of the class at C, its dict at dx, its attributes -/
 | ins (C dx:Addr) (fs:List (Str × V))
  /-- the dict of the instance at x -/
 | own (x:Addr)
  /-- the dict of an exception -/
 | xd (fs:List (Str × V))
  /-- a bound method, f of x -/
 | met (f x:Addr)
  /-- a range object lo, lo + 1, .. below hi -/
 | rng (lo hi:Int)
  /-- a thing that is known to the object (the script; a dict while a loop walks it): read, never written while it is so -/
 | frz (o:Obj) (u:HO)
  /-- a code object's table -/
 | tbl (ps:Array Value)
  /-- any other thing, by what is true of its one object (a def of one's own: SetO a S n := HO.ext fun h => ..) -/
 | ext (φ:Heap->Prop)
abbrev Hp:=Addr->Option HO
def upd (H:Hp) (a:Addr) (o:HO):Hp:=fun b=>if b=a then some o else H b
theorem upd_same {H:Hp} {a:Addr} {o:HO}:upd H a o a=some o:=by unfold upd;rw[if_pos rfl]
theorem upd_ne {H:Hp} {a b:Addr} {o:HO} (h:b≠a):upd H a o b=H b:=by unfold upd;rw[if_neg h]
theorem ne_of_none {H:Hp} {a b:Addr} {o:HO} (h:H a=some o) (h':H b=none):a≠b:=by
 intro e;subst e;rw[h] at h';cases h'
section
variable (P:Program) (w:World)
/-- a tuple with no dict of its own -/
def TupN (h:Heap) (a:Addr) (items:Array Value):Prop:=∃ o,h.get? a=some o∧o.cls=.type "tuple"∧(∃ n,o.data=.seq items n)∧o.dict=none
theorem TupN.tup {h:Heap} {a:Addr} {items:Array Value} (x:TupN h a items):IsTup h a items:=let ⟨o,e,c,d,_⟩:=x;⟨o,e,c,d⟩
theorem TupN.new (h:Heap) (items:Array Value):TupN (h.push { cls:=.type "tuple",data:=.seq items }) h.objs.size items:=⟨_,Heap.get?_push_size _ rfl,rfl,⟨_,rfl⟩,rfl⟩
def ObjOk (H:Hp) (h:Heap) (a:Addr):HO->Prop
 | .lst xs=>xs.length≤sizeLine∧∃ (its:List Value) (n:Nat),Vals xs its∧h.get? a=some { cls:=.type "list",data:=.seq its.toArray n }
 | .tup xs=>xs.length≤sizeLine∧∃ its:List Value,Vals xs its∧TupN h a its.toArray
 | .dK kvs=>kvs.length≤sizeLine∧(a == sysModules)=false∧∃ vs,KV kvs vs∧h.DictOf (mixKind P w) a vs
 | .dT kvs => kvs.length ≤ sizeLine ∧ (a == sysModules) = false ∧ ∃ xs : List (List Key × Addr × Value),
     Paired (fun (p:List Key × V) (q:List Key × Addr × Value)=>p.1=q.1∧H q.2.1=some (.tup (p.1.map kV))∧RelV p.2 q.2.2) kvs xs ∧
     ∃ o es ep,h.get? a=some o∧o.ExactDict∧o.data=.dict es ep∧es.toList=xs.map (entryOfKey (tupleKind (mixKind P w)))∧(xs.map (·.1)).Nodup
 | .set S n=>h.SetOf (intKind P w) a S n
 | .ins C dx fs => H dx = some (.own a) ∧ fs.length ≤ 1000 ∧ dx ≠ a ∧ h.get? a = some (PySem.W.instObj C dx) ∧
     ∃ mA,h.Ns1 dx mA∧(∀ f,RelO (fs.lookup f) (mA f))∧PySem.Within mA (fs.map (·.1))
 | .own _=>∃ o,h.get? a=some o
 | .xd fs=>∃ mA,h.Ns1 a mA∧∀ f,RelO (fs.lookup f) (mA f)
 | .rng lo hi=>∃ t u v,h.get? a=some { cls:=.type "range",data:=.fields #[.int lo t,.int hi u,.int 1 v] }
 | .frz o u=>h.get? a=some o∧ObjOk H h a u
 | .tbl ps=>h.get? a=some { cls:=.none,data:=.fields ps }
 | .met f x=>h.get? a=some (PySem.W.methodObj (.ref f) (.ref x))
 | .ext φ=>φ h∧(∃ o,h.get? a=some o)∧∀ h1 h2:Heap,φ h1->(∀ o,h1.get? a=some o->h2.get? a=some o)->φ h2
/-- the abstract heap is held -/
def HOk (H:Hp) (h:Heap):Prop:=∀ a o,H a=some o->ObjOk P w H h a o
end
section
variable {P:Program} {w:World} {H H':Hp} {h h':Heap} {a:Addr} {o:HO}
theorem ObjOk.lt (x:ObjOk P w H h a o):a < h.objs.size:=by
 cases o with
 | lst xs=>obtain⟨_,_,_,_,e⟩:=x;exact Heap.lt_size e
 | tup xs=>obtain⟨_,_,_,p⟩:=x;exact p.tup.lt
 | dK kvs=>obtain⟨_,_,_,_,o,_,_,e,_⟩:=x;exact Heap.lt_size e
 | dT kvs=>obtain⟨_,_,_,_,o,_,_,e,_⟩:=x;exact Heap.lt_size e
 | set S n=>obtain⟨o,_,_,_,e,_⟩:=x;exact Heap.lt_size e
 | ins C dx fs=>obtain⟨_,_,_,e,_⟩:=x;exact Heap.lt_size e
 | own y=>obtain⟨_,e⟩:=x;exact Heap.lt_size e
 | xd fs=>obtain⟨_,⟨_,_,_,e,_⟩,_⟩:=x;exact Heap.lt_size e
 | rng lo hi=>obtain⟨_,_,_,e⟩:=x;exact Heap.lt_size e
 | frz ob u=>obtain⟨e,_⟩:=x;exact Heap.lt_size e
 | tbl ps=>exact Heap.lt_size (show h.get? a=some _ from x)
 | met f y=>exact Heap.lt_size (show h.get? a=some _ from x)
 | ext φ=>obtain⟨_,⟨_,e⟩,_⟩:=x;exact Heap.lt_size e
theorem Paired.mapP {α β:Type} {F G:α->β->Prop}:∀ {l₁:List α} {l₂:List β},Paired F l₁ l₂->(∀ a b,F a b->G a b)->Paired G l₁ l₂
 | _,_,.nil,_=>.nil
 | _,_,.cons r t,f=>.cons (f _ _ r) (Paired.mapP t f)
/-- what an object's description leans on: its own object, its own dict, the tuples -/
theorem ObjOk.stay (x:ObjOk P w H h a o) (k:∀ b u,(b=a∨H b=some (.own a))->h.get? b=some u->h'.get? b=some u)
  (ho:∀ b,H b=some (.own a)->H' b=some (.own a)) (ht:∀ b xs,H b=some (.tup xs)->H' b=some (.tup xs)):ObjOk P w H' h' a o:=by
 induction o with
 | lst xs=>obtain⟨z,its,n,r,e⟩:=x;exact⟨z,its,n,r,k _ _ (.inl rfl) e⟩
 | tup xs=>obtain⟨z,its,r,ob,e,c⟩:=x;exact⟨z,its,r,ob,k _ _ (.inl rfl) e,c⟩
 | dK kvs=>obtain⟨z,y,vs,r,ob,es,ep,e,c⟩:=x;exact⟨z,y,vs,r,ob,es,ep,k _ _ (.inl rfl) e,c⟩
 | dT kvs =>
  obtain⟨z,y,xs,r,ob,es,ep,e,c⟩:=x
  exact⟨z,y,xs,Paired.mapP r fun p q z=>⟨z.1,ht _ _ z.2.1,z.2.2⟩,ob,es,ep,k _ _ (.inl rfl) e,c⟩
 | set S n=>obtain⟨ob,es,ep,t,e,c⟩:=x;exact⟨ob,es,ep,t,k _ _ (.inl rfl) e,c⟩
 | ins C dx fs =>
  obtain⟨d,z,ne,e,mA,⟨od,es,ep,e2,c⟩,r⟩:=x
  exact⟨ho _ d,z,ne,k _ _ (.inl rfl) e,mA,⟨od,es,ep,k _ _ (.inr d) e2,c⟩,r⟩
 | own y=>obtain⟨ob,e⟩:=x;exact⟨ob,k _ _ (.inl rfl) e⟩
 | xd fs=>obtain⟨mA,⟨od,es,ep,e,c⟩,r⟩:=x;exact⟨mA,⟨od,es,ep,k _ _ (.inl rfl) e,c⟩,r⟩
 | rng lo hi=>obtain⟨t,u,v,e⟩:=x;exact⟨t,u,v,k _ _ (.inl rfl) e⟩
 | frz ob u ih=>obtain⟨e,q⟩:=x;exact⟨k _ _ (.inl rfl) e,ih q⟩
 | tbl ps =>
  have e:h.get? a=some { cls:=.none,data:=.fields ps }:=x
  show h'.get? a=some { cls:=.none,data:=.fields ps }
  exact k a _ (.inl rfl) e
 | met f y =>
  have e:h.get? a=some (PySem.W.methodObj (.ref f) (.ref y)):=x
  show h'.get? a=some (PySem.W.methodObj (.ref f) (.ref y))
  exact k a _ (.inl rfl) e
 | ext φ=>obtain⟨p,⟨o,e⟩,st⟩:=x;exact⟨st _ _ p fun o q=>k _ _ (.inl rfl) q,⟨o,k _ _ (.inl rfl) e⟩,st⟩
theorem HOk.lt (x:HOk P w H h) (e:H a=some o):a < h.objs.size:=(x a o e).lt
theorem HOk.fresh (x:HOk P w H h) (e:h.objs.size≤a):H a=none:=by
 cases q:H a with
 | none=>rfl
 | some u=>exact absurd (Nat.lt_of_lt_of_le (x.lt q) e) (Nat.lt_irrefl _)
/-- every object of the heap is kept -/
theorem HOk.kept (x:HOk P w H h) (k:∀ b u,h.get? b=some u->h'.get? b=some u):HOk P w H h':=fun a o e =>
 (x a o e).stay (fun b u _ q=>k b u q) (fun _ q=>q) fun _ _ q=>q
/-- a new object is laid and tracked -/
theorem HOk.laid (x:HOk P w H h) (k:∀ b u,h.get? b=some u->h'.get? b=some u) (hp:h.objs.size≤a) (new:ObjOk P w (upd H a o) h' a o):HOk P w (upd H a o) h':=fun b u e=>by
 have hn:=x.fresh hp
 by_cases hb:b=a
 ·subst hb;rw[upd_same] at e;cases e;exact new
 ·rw[upd_ne hb] at e
  exact (x b u e).stay (fun c v _ q=>k c v q) (fun c q=>by rw[upd_ne (ne_of_none q hn)];exact q) fun c xs q=>by rw[upd_ne (ne_of_none q hn)];exact q
end
/-- what may be read as u: it is u, or a known u -/
def Rd (H:Hp) (a:Addr) (u:HO):Prop:=H a=some u∨∃ o,H a=some (.frz o u)
theorem Rd.ok {P:Program} {w:World} {H:Hp} {h:Heap} {a:Addr} {u:HO} (r:Rd H a u) (x:HOk P w H h):ObjOk P w H h a u:=by
 rcases r with r | ⟨o,r⟩
 ·exact x a u r
 ·obtain⟨_,q⟩:=x a _ r
  exact q
/-- what may be written -/
def Mut:Option HO->Prop
 | some (.lst _)=>True
 | some (.dK _)=>True
 | some (.dT _)=>True
 | some (.set _ _)=>True
 | some (.ins _ _ _)=>True
 | some (.ext _)=>True
 | _=>False
section
variable {P:Program} {w:World} {H:Hp} {h h':Heap} {x e:Addr} {o':HO}
/-- the object at e is changed: x itself, or the dict of the instance x -/
theorem HOk.write (ok:HOk P w H h) (mu:Mut (H x)) (he:e=x∨H e=some (.own x)) (k:∀ b u,b≠e->h.get? b=some u->h'.get? b=some u) (heo:∃ u,h'.get? e=some u)
  (new:ObjOk P w (upd H x o') h' x o'):HOk P w (upd H x o') h':=fun b u q=>by
 have nown:∀ c y,H c=some (.own y)->c≠x:=fun c y r z=>by subst z;rw[r] at mu;exact mu
 have ntup:∀ c xs,H c=some (.tup xs)->c≠x:=fun c xs r z=>by subst z;rw[r] at mu;exact mu
 by_cases hb:b=x
 ·subst hb;rw[upd_same] at q;cases q;exact new
 ·rw[upd_ne hb] at q
  by_cases hbe:b=e
  ·have q':H b=some (.own x):=by
    rcases he with z | z
    ·exact absurd (hbe.trans z) hb
    ·rw[hbe];exact z
   rw[q] at q';cases q'
   obtain⟨v,hv⟩:=heo
   exact⟨v,by rw[hbe];exact hv⟩
  ·refine (ok b u q).stay (fun c v hc r=>k c v ?_ r) (fun c r=>by rw[upd_ne (nown c b r)];exact r) fun c xs r=>by rw[upd_ne (ntup c xs r)];exact r
   rcases hc with rfl | hc
   ·exact hbe
   ·rintro rfl
    rcases he with z | z
    ·exact nown c b hc z
    ·rw[hc] at z;cases z;exact hb rfl
end
structure Un (fs ex:List Addr) (H H':Hp) (h h':Heap):Prop where
 keep:∀ b o,h.get? b=some o->H b=none->b ∉ fs->b ∉ ex->h'.get? b=some o
 slot:∀ b o,h.get? b=some o->H b=none->b ∈ fs->b ∉ ex->∃ sl,h'.get? b=some { o with slots:=sl }
 free:∀ b o,h.get? b=some o->H b=none->b ∉ ex->H' b=none
 there:∀ b o,h.get? b=some o->b ∉ ex->∃ o',h'.get? b=some o'
 tups:∀ b xs,H b=some (.tup xs)->H' b=some (.tup xs)
 frzs:∀ b o u,H b=some (.frz o u)->H' b=some (.frz o u)
 tbls:∀ b ps,H b=some (.tbl ps)->∃ more,H' b=some (.tbl (ps++more))
section
variable {fs fs' ex ex':List Addr} {H H1 H2:Hp} {h h1 h2 h':Heap} {a x e:Addr} {o:HO}
theorem Un.any (u:Un fs ex H H1 h h1) {b:Addr} {ob:Obj} (q:h.get? b=some ob) (n:H b=none) (hx:b ∉ ex):∃ sl,h1.get? b=some { ob with slots:=sl }:=by
 by_cases hb:b ∈ fs
 ·exact u.slot b ob q n hb hx
 ·exact⟨ob.slots,u.keep b ob q n hb hx⟩
theorem Un.trans (a:Un fs ex H H1 h h1) (b:Un fs ex H1 H2 h1 h2):Un fs ex H H2 h h2 where
 keep:=fun c ob q n hc hx=>b.keep c ob (a.keep c ob q n hc hx) (a.free c ob q n hx) hc hx
 slot:=fun c ob q n hc hx=>by
  obtain⟨sl,e1⟩:=a.slot c ob q n hc hx
  obtain⟨sl',e2⟩:=b.slot c _ e1 (a.free c ob q n hx) hc hx
  exact⟨sl',e2⟩
 free:=fun c ob q n hx=>by
  obtain⟨o',e1⟩:=a.there c ob q hx
  exact b.free c o' e1 (a.free c ob q n hx) hx
 there:=fun c ob q hx=>by
  obtain⟨o',e1⟩:=a.there c ob q hx
  exact b.there c o' e1 hx
 tups:=fun c xs q=>b.tups c xs (a.tups c xs q)
 frzs:=fun c ob xs q=>b.frzs c ob xs (a.frzs c ob xs q)
 tbls:=fun c ps q=>by
  obtain⟨m1,e1⟩:=a.tbls c ps q
  obtain⟨m2,e2⟩:=b.tbls c _ e1
  exact⟨m1++m2,by rw[e2,Array.append_assoc]⟩
theorem Un.kept (k:∀ b u,h.get? b=some u->h'.get? b=some u):Un fs ex H H h h' :=
 ⟨fun b ob q _ _ _=>k b ob q,fun b ob q _ _ _=>⟨ob.slots,k b ob q⟩,fun _ _ _ n _=>n,fun b ob q _=>⟨ob,k b ob q⟩,fun _ _ q=>q,fun _ _ _ q=>q,fun _ ps q=>⟨#[],by rw[q];simp⟩⟩
theorem Un.refl:Un fs ex H H h h:=Un.kept fun _ _ q=>q
theorem Un.laid (k:∀ b u,h.get? b=some u->h'.get? b=some u) (hp:h.objs.size≤a) (hn:H a=none):Un fs ex H (upd H a o) h h' where
 keep:=fun b u q _ _ _=>k b u q
 slot:=fun b u q _ _ _=>⟨u.slots,k b u q⟩
 free:=fun b u q n _=>by rw[upd_ne (Nat.ne_of_lt (Nat.lt_of_lt_of_le (Heap.lt_size q) hp))];exact n
 there:=fun b u q _=>⟨u,k b u q⟩
 tups:=fun b xs q=>by rw[upd_ne (ne_of_none q hn)];exact q
 frzs:=fun b u xs q=>by rw[upd_ne (ne_of_none q hn)];exact q
 tbls:=fun b ps q=>⟨#[],by rw[upd_ne (ne_of_none q hn),q];simp⟩
theorem Un.write (mu:Mut (H x)) (he:e=x∨H e=some (.own x)) (k:∀ b u,b≠e->h.get? b=some u->h'.get? b=some u) (heo:∃ u,h'.get? e=some u):Un fs ex H (upd H x o) h h':=by
 have hx:∀ b,H b=none->b≠x:=fun b n z=>by subst z;rw[n] at mu;exact mu
 have hb:∀ b,H b=none->b≠e:=fun b n z=>by
  subst z
  rcases he with r | r
  ·exact hx b n r
  ·rw[n] at r;cases r
 have hm:∀ b u,H b=some u->¬ Mut (some u)->b≠x:=fun b u q nm z=>by subst z;rw[q] at mu;exact nm mu
 refine⟨fun b u q n _ _=>k b u (hb b n) q,fun b u q n _ _=>⟨u.slots,k b u (hb b n) q⟩,fun b u q n _=>by rw[upd_ne (hx b n)];exact n,fun b u q _=>?_,
  fun b xs q=>by rw[upd_ne (hm b _ q fun z=>z)];exact q,fun b u xs q=>by rw[upd_ne (hm b _ q fun z=>z)];exact q,fun b ps q=>⟨#[],by rw[upd_ne (hm b _ q fun z=>z),q];simp⟩⟩
 by_cases hbe:b=e
 ·subst hbe;exact heo
 ·exact⟨u,k b u hbe q⟩
end
def trk (h:Heap) (H:Hp):List Addr:=(List.range h.objs.size).filter fun a=>(H a).isSome
def hidT (h:Heap) (H:Hp):Heap:=PySem.W.hideAll h (trk h H)
theorem hidT_size (h:Heap) (H:Hp):(hidT h H).objs.size=h.objs.size:=PySem.W.hideAll_size _ _
theorem hidT_get {h:Heap} {H:Hp} {b:Addr} {o:Obj} (e:h.get? b=some o) (n:H b=none):(hidT h H).get? b=some o :=
 PySem.W.hideAll_get _ e fun hm=>by
  have q:(H b).isSome=true:=(List.mem_filter.mp hm).2
  rw[n] at q;simp at q
theorem of_hidT {h:Heap} {H:Hp} {b:Addr} {o:Obj} (e:(hidT h H).get? b=some o):h.get? b=some o∧H b=none:=by
 have e':h.get? b=some o:=PySem.W.of_hideAll (trk h H) e
 refine⟨e',?_⟩
 cases q:H b with
 | none=>rfl
 | some x =>
  have hm:b ∈ trk h H:=List.mem_filter.mpr ⟨List.mem_range.mpr (Heap.lt_size e'),by simp [q]⟩
  have z:(hidT h H).get? b=none:=PySem.W.hideAll_none (trk h H) hm
  rw[z] at e;cases e
def allNews (g h:Heap) (L:Addr):List (Addr × Obj):=(List.range h.objs.size).filterMap fun a=>if a=L∨(g.get? a).isSome=true then none else (h.get? a).map fun o=>(a,o)
def rest (g h:Heap) (L d:Addr):List (Addr × Obj):=(allNews g h L).filter fun p=>decide (p.1≠d)
end L2
namespace L2
open PySem PySem.Spec PyProof.Rows
/-- the module's facts, over the base: the heap at the law's entry without what is tracked there -/
structure Mod (K:PySem.W.Frag) (mg:Str->Option Value) (base:Heap):Prop where
 kin:K.In base
 glob:base.Ns mainGlobals mg
 blt:∃ mb,base.Ns builtinsNs mb∧∀ x:Str,x≠"__name__"->mb x=bootBuiltins x
 nolimit:base.NoLimit
/-- the context: a def's body (or a comprehension's block) running. base: fixed through the whole law; s₀, H₀: the entry; outer: the frames whose slots others may change (a def's callers); stack: all frames that run;
   ex: iterators that were made ahead of the entry and are walked here (a comprehension's); fn: the names whose cells were made at the entry (a def: all; a comprehension's block: its own); calm: not within an except suite; pn: pins that every state bears; xe: what is wanted of an exception that leaves the code -/
structure Cx where
 prog:Program
 w:World
 K:PySem.W.Frag
 mg:Str->Option Value
 base:Heap
 A:Around
 N:List Str
 s₀:Shared
 H₀:Hp
 env:Env
 outer:List Env
 stack:List Env
 ex:List Addr
 fn:Str->Bool
 calm:Bool
 pn:List (Addr × Obj)
 xe:Value->Shared->Prop
/-- the callers' frames -/
def frs (l:List Env):List Addr:=l.filterMap (·.frame)
abbrev Cx.fs (X:Cx):List Addr:=frs X.outer
def Vis (sc:Scope) (x:Str):Prop:=sc.names.lookup x=some .local∨sc.names.lookup x=some .cell∨sc.names.lookup x=some .free
def Loc (sc:Scope) (x:Str):Prop:=sc.names.lookup x=some .local∨sc.names.lookup x=some .cell
def Look (env:Env) (h:Heap) (m:Str->Option Value) (x:Str) (u:Value):Prop :=
 (env.kindOf x=some .local∧m x=some u)∨((env.kindOf x=some .cell∨env.kindOf x=some .free)∧∃ c,env.cells.lookup x=some c∧h.IsCell c (some u))
structure Cx.Ok (X:Cx):Prop where
 mod:Mod X.K X.mg X.base
 kind:X.env.scope.kind=.function
 glob:X.env.globals=mainGlobals
 blt:X.env.builtins=builtinsNs
 above:X.s₀.heap.objs.size≤X.env.locals
 inj:∀ x y c,X.env.cells.lookup x=some c->X.env.cells.lookup y=some c->x=y
 has:∀ x,(X.env.kindOf x=some .cell∨X.env.kindOf x=some .free)->∃ c,X.env.cells.lookup x=some c
 cab:∀ x c,X.fn x=true->X.env.cells.lookup x=some c->X.s₀.heap.objs.size≤c
 hd:X.calm=true->X.A.handled=none
 frames:X.A.frames=some X.stack
 stk:X.stack=X.outer∨(X.stack=X.env::X.outer∧X.env.frame=some X.env.locals)
 exf:∀ b ∈ X.ex,b≠X.env.locals∧∀ x c,X.env.cells.lookup x=some c->c≠b
 bs:∀ b o,X.base.get? b=some o->X.s₀.heap.get? b=some o∧X.H₀ b=none
 bsz:X.base.objs.size≤X.s₀.heap.objs.size
 noex:∀ b o,X.base.get? b=some o->b ∉ X.ex
 exfs:∀ b ∈ X.ex,b ∉ X.fs
 funs:X.s₀.heap.FunFrames X.base X.outer
 frf:∀ b ∈ X.fs,X.H₀ b=none
structure Inv (X:Cx) (pins:List (Addr × Obj)) (σ:List (Option V)) (H:Hp) (s:Shared):Prop where
 ok:X.Ok
 os:s.os=X.s₀.os
 bare:AllBare s.gens
 base:Un X.fs X.ex X.H₀ H X.s₀.heap s.heap
 loc:∃ m,s.heap.Ns X.env.locals m∧∀ (i:Nat) (x:Str) (v:V),X.N[i]?=some x->σ[i]?=some (some v)->Vis X.env.scope x->∃ u,RelV v u∧Look X.env s.heap m x u
 cell:∀ x c,X.env.cells.lookup x=some c->∃ v,s.heap.IsCell c v
 free:H X.env.locals=none
 freeC:∀ x c,X.env.cells.lookup x=some c->H c=none
 pin:∀ p ∈ X.pn++pins,s.heap.get? p.1=some p.2∧H p.1=none∧p.1≠X.env.locals∧p.1 ∉ X.fs∧∀ v,p.2.data≠.cell v
 hok:HOk X.prog X.w H s.heap
 len:σ.length=X.N.length
section
variable {X:Cx} {pins:List (Addr × Obj)} {σ:List (Option V)} {H H':Hp} {s:Shared} {h':Heap}
theorem Cx.Ok.nofr (ok:X.Ok) {b:Addr} {o:Obj} (e:X.base.get? b=some o):b ∉ X.fs:=fun hb=>by
 have:=(ok.funs.mem hb).1
 rw[e] at this;cases this
theorem Inv.bs (I:Inv X pins σ H s):∀ b o,X.base.get? b=some o->s.heap.get? b=some o∧H b=none:=fun b o e =>
 ⟨I.base.keep b o (I.ok.bs b o e).1 (I.ok.bs b o e).2 (I.ok.nofr e) (I.ok.noex b o e),I.base.free b o (I.ok.bs b o e).1 (I.ok.bs b o e).2 (I.ok.noex b o e)⟩
theorem Inv.bk (I:Inv X pins σ H s):∀ b o,X.base.get? b=some o->s.heap.get? b=some o:=fun b o e=>(I.bs b o e).1
theorem Inv.mod (I:Inv X pins σ H s):Mod X.K X.mg X.base:=I.ok.mod
theorem Inv.kIn (I:Inv X pins σ H s):X.K.In s.heap:=I.ok.mod.kin.keeps I.bk
theorem Inv.lt (I:Inv X pins σ H s):X.env.locals < s.heap.objs.size:=let ⟨_,hn,_⟩:=I.loc;hn.lt
theorem Inv.sz (I:Inv X pins σ H s):X.s₀.heap.objs.size≤s.heap.objs.size:=Nat.le_trans I.ok.above (Nat.le_of_lt I.lt)
theorem Inv.nofs (I:Inv X pins σ H s) {a:Addr} (h:s.heap.objs.size≤a):a ∉ X.fs:=fun hb=>by
 obtain⟨_,o,ho,_⟩:=I.ok.funs.mem hb
 exact absurd (Nat.lt_of_lt_of_le (Heap.lt_size ho) (Nat.le_trans I.sz h)) (Nat.lt_irrefl _)
theorem Inv.cne (I:Inv X pins σ H s):∀ x c,X.env.cells.lookup x=some c->c≠X.env.locals:=fun x c e z=>by
 obtain⟨v,o,ho,hd⟩:=I.cell x c e
 obtain⟨m,⟨o',es,ep,ho',hd',_⟩,_⟩:=I.loc
 rw[z,ho'] at ho;cases ho;rw[hd'] at hd;cases hd
theorem Inv.funs (I:Inv X pins σ H s):s.heap.FunFrames X.base X.outer:=by
 have all:∀ (l:List Env),(∀ b ∈ frs l,b ∈ X.fs)->X.s₀.heap.FunFrames X.base l->s.heap.FunFrames X.base l:=by
  intro l
  induction l with
  | nil=>intro _ _;trivial
  | cons env r ih =>
   intro hs hl
   obtain⟨hk,⟨L,o,hf,hn,ho,hd⟩,hr⟩:=hl
   have hL:L ∈ X.fs:=hs L (by unfold frs;rw[List.filterMap_cons,hf];exact List.mem_cons_self)
   obtain⟨sl,e⟩:=I.base.slot L o ho (I.ok.frf L hL) hL fun z=>I.ok.exfs L z hL
   exact⟨hk,⟨L,_,hf,hn,e,hd⟩,ih (fun b hb=>hs b (by unfold frs;rw[List.filterMap_cons,hf];exact List.mem_cons_of_mem _ hb)) hr⟩
 exact all X.outer (fun _ hb=>hb) I.ok.funs
/-- the frames that run, for a call -/
theorem Inv.stack (I:Inv X pins σ H s):s.heap.FunFrames X.base X.stack:=by
 rcases I.ok.stk with e | ⟨e,hf⟩
 ·rw[e];exact I.funs
 ·rw[e]
  obtain⟨m,hn,_⟩:=I.loc
  refine .cons (by rw[I.ok.kind];decide) hf hn ?_ I.funs
  exact Heap.get?_none_of_le (Nat.le_trans I.ok.bsz I.ok.above)
theorem Inv.stkSub (I:Inv X pins σ H s):∀ b ∈ frs X.stack,b ∈ X.env.locals::X.fs:=fun b hb=>by
 rcases I.ok.stk with e | ⟨e,hf⟩
 ·rw[e] at hb;exact List.mem_cons_of_mem _ hb
 ·rw[e] at hb
  unfold frs at hb
  rw[List.filterMap_cons,hf] at hb
  exact hb
theorem Inv.stkFree (I:Inv X pins σ H s):∀ b ∈ frs X.stack,H b=none:=fun b hb=>by
 rcases List.mem_cons.mp (I.stkSub b hb) with e | hb
 ·rw[e];exact I.free
 ·obtain⟨_,o,ho,_⟩:=I.ok.funs.mem hb
  exact I.base.free b o ho (I.ok.frf b hb) fun z=>I.ok.exfs b z hb
/-- THE STEP: the untracked objects but the frame and the records at ch are kept (the callers' frames up to slots), the frame's map is kept, the new abstract heap is held -/
theorem Inv.step {g':Array GenState} {t':Nat} {d':Drawn} {ch:List Addr} (I:Inv X pins σ H s)
  (hch:∀ b ∈ ch,(b ∈ X.ex∨X.s₀.heap.objs.size≤b)∧b≠X.env.locals∧(∀ x c,X.env.cells.lookup x=some c->c≠b)∧∀ p ∈ X.pn++pins,p.1≠b)
  (keep:∀ b o,b≠X.env.locals->b ∉ X.fs->b ∉ ch->s.heap.get? b=some o->H b=none->h'.get? b=some o)
  (slot:∀ b o,b≠X.env.locals->b ∈ X.fs->b ∉ ch->s.heap.get? b=some o->H b=none->∃ sl,h'.get? b=some { o with slots:=sl }) (free:∀ b o,b ∉ ch->s.heap.get? b=some o->H b=none->H' b=none)
  (there:∀ b o,b ∉ ch->s.heap.get? b=some o->∃ o',h'.get? b=some o')
  (tups:∀ b xs,H b=some (.tup xs)->H' b=some (.tup xs)) (frzs:∀ b o u,H b=some (.frz o u)->H' b=some (.frz o u)) (tbls:∀ b ps,H b=some (.tbl ps)->∃ more,H' b=some (.tbl (ps++more)))
  (ns:∀ m,s.heap.Ns X.env.locals m->h'.Ns X.env.locals m) (hok:HOk X.prog X.w H' h') (hg:AllBare g') :
  Inv X pins σ H' { s with heap:=h',gens:=g',drawn:=d',toks:=t' }:=by
 have neL:∀ b o,X.s₀.heap.get? b=some o->b≠X.env.locals:=fun b o e=>Nat.ne_of_lt (Nat.lt_of_lt_of_le (Heap.lt_size e) I.ok.above)
 have neC:∀ b o,X.s₀.heap.get? b=some o->b ∉ X.ex->b ∉ ch:=fun b o e hx hb=>by
  rcases (hch b hb).1 with z | z
  ·exact hx z
  ·exact absurd (Nat.lt_of_lt_of_le (Heap.lt_size e) z) (Nat.lt_irrefl _)
 have cellK:∀ x c,X.env.cells.lookup x=some c->∀ v,s.heap.IsCell c v->h'.IsCell c v:=fun x c e v ⟨o,ho,hd⟩=>by
  have nch:c ∉ ch:=fun z=>(hch c z).2.2.1 x c e rfl
  by_cases hc:c ∈ X.fs
  ·obtain⟨sl,q⟩:=slot c o (I.cne x c e) hc nch ho (I.freeC x c e)
   exact⟨_,q,hd⟩
  ·exact⟨o,keep c o (I.cne x c e) hc nch ho (I.freeC x c e),hd⟩
 refine⟨I.ok,I.os,hg,⟨fun b o e n hb hx=>?_,fun b o e n hb hx=>?_,fun b o e n hx=>?_,fun b o e hx=>?_,fun b xs e=>tups b xs (I.base.tups b xs e),fun b o xs e=>frzs b o xs (I.base.frzs b o xs e),fun b ps e=>?_⟩,?_,fun x c e=>?_,?_,fun x c e=>?_,fun p hp=>?_,hok,I.len⟩
 ·exact keep b o (neL b o e) hb (neC b o e hx) (I.base.keep b o e n hb hx) (I.base.free b o e n hx)
 ·obtain⟨sl,e1⟩:=I.base.slot b o e n hb hx
  obtain⟨sl',e2⟩:=slot b _ (neL b o e) hb (neC b o e hx) e1 (I.base.free b o e n hx)
  exact⟨sl',e2⟩
 ·obtain⟨o',e1⟩:=I.base.there b o e hx
  exact free b o' (neC b o e hx) e1 (I.base.free b o e n hx)
 ·obtain⟨o',e1⟩:=I.base.there b o e hx
  exact there b o' (neC b o e hx) e1
 ·obtain⟨m1,e1⟩:=I.base.tbls b ps e
  obtain⟨m2,e2⟩:=tbls b _ e1
  exact⟨m1++m2,by rw[e2,Array.append_assoc]⟩
 ·obtain⟨m,hn,hl⟩:=I.loc
  refine⟨m,ns m hn,fun i x v e1 e2 e3=>?_⟩
  obtain⟨u,r,l⟩:=hl i x v e1 e2 e3
  refine⟨u,r,?_⟩
  rcases l with l | ⟨k,c,e,z⟩
  ·exact .inl l
  ·exact .inr ⟨k,c,e,cellK x c e _ z⟩
 ·obtain⟨v,z⟩:=I.cell x c e
  exact⟨v,cellK x c e v z⟩
 ·obtain⟨m,⟨o,_,_,ho,_⟩,_⟩:=I.loc
  exact free _ o (fun z=>(hch _ z).2.1 rfl) ho I.free
 ·obtain⟨v,o,ho,hd⟩:=I.cell x c e
  exact free c o (fun z=>(hch c z).2.2.1 x c e rfl) ho (I.freeC x c e)
 ·obtain⟨e,n,ne,nf,d⟩:=I.pin p hp
  have nch:p.1 ∉ ch:=fun z=>(hch p.1 z).2.2.2 p hp rfl
  exact⟨keep p.1 p.2 ne nf nch e n,free p.1 p.2 nch e n,ne,nf,d⟩
/-- .. where the frame's own object is kept too -/
theorem Inv.un {t':Nat} (I:Inv X pins σ H s) (u:Un X.fs [] H H' s.heap h') (hok:HOk X.prog X.w H' h'):Inv X pins σ H' { s with heap:=h',toks:=t' }:=by
 obtain⟨m,⟨o,es,ep,ho,r⟩,_⟩:=id I.loc
 obtain⟨sl,hL⟩:=u.any ho I.free (by simp)
 exact I.step (g':=s.gens) (d':=s.drawn) (ch:=[]) (fun _ z=>nomatch z) (fun b o _ hb _ e n=>u.keep b o e n hb (by simp)) (fun b o _ hb _ e n=>u.slot b o e n hb (by simp)) (fun b o _ e n=>u.free b o e n (by simp)) (fun b o _ e=>u.there b o e (by simp)) u.tups u.frzs u.tbls (fun m' hm=>by
  obtain⟨o',es',ep',ho',r'⟩:=hm
  rw[ho] at ho';cases ho'
  exact⟨_,es',ep',hL,r'⟩) hok I.bare
/-- behind a call (or a comprehension's block): the slots of this frame may have changed too, the records at ch may have turned -/
theorem Inv.call {g':Array GenState} {t':Nat} {d':Drawn} {ch:List Addr} (I:Inv X pins σ H s) (u:Un (frs X.stack) ch H H' s.heap h') (hok:HOk X.prog X.w H' h') (hg:AllBare g')
  (hch:∀ b ∈ ch,(b ∈ X.ex∨X.s₀.heap.objs.size≤b)∧b≠X.env.locals∧(∀ x c,X.env.cells.lookup x=some c->c≠b)∧∀ p ∈ X.pn++pins,p.1≠b) :
  Inv X pins σ H' { s with heap:=h',gens:=g',drawn:=d',toks:=t' }:=by
 obtain⟨m,⟨o,es,ep,ho,r⟩,_⟩:=id I.loc
 obtain⟨sl,hL⟩:=u.any ho I.free fun z=>(hch _ z).2.1 rfl
 exact I.step (ch:=ch) hch (fun b o hL hb hc e n=>u.keep b o e n (fun z=>(List.mem_cons.mp (I.stkSub b z)).elim hL hb) hc) (fun b o _ _ hc e n=>u.any e n hc) (fun b o hc e n=>u.free b o e n hc) (fun b o hc e=>u.there b o e hc) u.tups u.frzs u.tbls (fun m' hm=>by
  obtain⟨o',es',ep',ho',r'⟩:=hm
  rw[ho] at ho';cases ho'
  exact⟨_,es',ep',hL,r'⟩) hok hg
/-- an untracked record of ours (an iterator) has turned -/
theorem Inv.turned {t':Nat} {it:Addr} (I:Inv X pins σ H s) (k:∀ b o,b≠it->s.heap.get? b=some o->h'.get? b=some o) (hn:H it=none) (hL:it≠X.env.locals)
  (h1:it ∈ X.ex∨X.s₀.heap.objs.size≤it) (h2:∀ x c,X.env.cells.lookup x=some c->c≠it) (h3:∀ p ∈ X.pn++pins,p.1≠it):Inv X pins σ H { s with heap:=h',toks:=t' }:=by
 have nit:∀ b u,H b=some u->b≠it:=fun b u e z=>by rw[z,hn] at e;cases e
 refine I.step (g':=s.gens) (d':=s.drawn) (ch:=[it]) (fun b hb=>?_) (fun b o _ _ hc e _=>k b o (fun z=>hc (by simp [z])) e) (fun b o _ _ hc e _=>⟨o.slots,k b o (fun z=>hc (by simp [z])) e⟩) (fun _ _ _ _ n=>n)
  (fun b o hc e=>⟨o,k b o (fun z=>hc (by simp [z])) e⟩) (fun _ _ e=>e) (fun _ _ _ e=>e) (fun b ps e=>⟨#[],by rw[e];simp⟩) (fun m hm=>?_) (fun b u e=>?_) I.bare
 ·have e:b=it:=by simpa using hb
  subst e
  exact⟨h1,hL,h2,h3⟩
 ·obtain⟨o,es,ep,ho,r⟩:=hm
  exact⟨o,es,ep,k _ o (Ne.symm hL) ho,r⟩
 ·refine (I.hok b u e).stay (fun c v hc q=>k c v ?_ q) (fun _ q=>q) fun _ _ q=>q
  rcases hc with z | z
  ·rw[z];exact nit b u e
  ·exact nit c _ z
theorem Inv.tok (I:Inv X pins σ H s) (t:Nat):Inv X pins σ H { s with toks:=t }:=I.un (h':=s.heap) (t':=t) Un.refl I.hok
/-- all objects kept -/
theorem Inv.kept {t':Nat} (I:Inv X pins σ H s) (k:∀ b u,s.heap.get? b=some u->h'.get? b=some u):Inv X pins σ H { s with heap:=h',toks:=t' }:=I.un (Un.kept k) (I.hok.kept k)
/-- a new object laid and tracked -/
theorem Inv.laid {a:Addr} {o:HO} {t':Nat} (I:Inv X pins σ H s) (k:∀ b u,s.heap.get? b=some u->h'.get? b=some u) (hp:s.heap.objs.size≤a) (new:ObjOk X.prog X.w (upd H a o) h' a o) :
  Inv X pins σ (upd H a o) { s with heap:=h',toks:=t' }:=I.un (Un.laid k hp (I.hok.fresh hp)) (I.hok.laid k hp new)
/-- an object written -/
theorem Inv.write {x e:Addr} {o:HO} {t':Nat} (I:Inv X pins σ H s) (mu:Mut (H x)) (he:e=x∨H e=some (.own x)) (k:∀ b u,b≠e->s.heap.get? b=some u->h'.get? b=some u) (heo:∃ u,h'.get? e=some u)
  (new:ObjOk X.prog X.w (upd H x o) h' x o):Inv X pins σ (upd H x o) { s with heap:=h',toks:=t' }:=I.un (Un.write mu he k heo) (I.hok.write mu he k heo new)
theorem Inv.pins_of {pins':List (Addr × Obj)} (I:Inv X pins σ H s) (h:∀ p ∈ pins',s.heap.get? p.1=some p.2∧H p.1=none∧p.1≠X.env.locals∧p.1 ∉ X.fs∧∀ v,p.2.data≠.cell v):Inv X pins' σ H s :=
 ⟨I.ok,I.os,I.bare,I.base,I.loc,I.cell,I.free,I.freeC,fun p hp=>(List.mem_append.mp hp).elim (fun z=>I.pin p (List.mem_append_left _ z)) (h p),I.hok,I.len⟩
theorem nodup_ix {N:List Str} (hN:N.Nodup) {i j:Nat} {x:Str} (a:N[i]?=some x) (b:N[j]?=some x):i=j:=by
 obtain⟨h1,e1⟩:=List.getElem?_eq_some_iff.mp a
 obtain⟨h2,e2⟩:=List.getElem?_eq_some_iff.mp b
 exact (List.getElem_inj hN).mp (e1.trans e2.symm)
/-- a name is stored; what changed -/
theorem store_ok2 {M:Model} {A:Around} {E:Value->Shared->Prop} {i:Nat} {x:Str} {v:V} {u:Value} {Q:Unit->Shared->Prop} (I:Inv X pins σ H s) (hN:X.N.Nodup) (hi:X.N[i]?=some x) (hx:Loc X.env.scope x) (r:RelV v u)
  (h:∀ s',Inv X pins (σ.set i (some v)) H s'->(∃ a,Heap.SameBut a s.heap s'.heap∧(a=X.env.locals∨X.env.cells.lookup x=some a))->Q () s') (hf:X.fn x=true∨X.env.scope.names.lookup x=some .local:=by first | exact .inl rfl | exact .inr rfl | assumption):wpAny M A (storeName X.env x u) Q E s:=by
 obtain⟨m,hn,hl⟩:=id I.loc
 have hcls:(X.env.scope.kind == .class || (X.env.scope.kind == .module && X.env.locals != X.env.globals))=false:=by rw[I.ok.kind];rfl
 have hiσ:i < σ.length:=by rw[I.len];exact (List.getElem?_eq_some_iff.mp hi).1
 have cne:=I.cne
 have tracked:∀ {a:Addr} {h':Heap},(∃ o,s.heap.get? a=some o∧H a=none)->Heap.SameBut a s.heap h'->HOk X.prog X.w H h':=fun {a h'} ha hs b ob e=>by
  obtain⟨_,_,hfree⟩:=ha
  refine (I.hok b ob e).stay (fun c w' hc q=>(hs.2 c ?_).trans q) (fun _ q=>q) fun _ _ q=>q
  rintro rfl
  rcases hc with rfl | hc
  ·rw[hfree] at e;cases e
  ·rw[hfree] at hc;cases hc
 rcases hx with hk | hk
 ·refine wpAny_storeName_local hk hn (fun h' hn' hs=>?_) hcls
  obtain⟨oL,_,_,hoL,_⟩:=id hn
  refine h _ ⟨I.ok,I.os,I.bare,⟨fun b o e n hb hx=>?_,fun b o e n hb hx=>?_,I.base.free,fun b o e hx=>?_,I.base.tups,I.base.frzs,I.base.tbls⟩,⟨_,hn',fun j y v' e1 e2 e3=>?_⟩,fun y c e=>?_,I.free,I.freeC,fun p hp=>?_,tracked ⟨oL,hoL,I.free⟩ hs,by simpa using I.len⟩ ⟨_,hs,.inl rfl⟩
  ·exact (hs.2 b (Nat.ne_of_lt (Nat.lt_of_lt_of_le (Heap.lt_size e) I.ok.above))).trans (I.base.keep b o e n hb hx)
  ·obtain⟨sl,e1⟩:=I.base.slot b o e n hb hx
   exact⟨sl,(hs.2 b (Nat.ne_of_lt (Nat.lt_of_lt_of_le (Heap.lt_size e) I.ok.above))).trans e1⟩
  ·obtain⟨o',e1⟩:=I.base.there b o e hx
   exact⟨o',(hs.2 b (Nat.ne_of_lt (Nat.lt_of_lt_of_le (Heap.lt_size e) I.ok.above))).trans e1⟩
  ·by_cases hj:j=i
   ·subst hj
    rw[hi] at e1;cases e1
    rw[List.getElem?_set_self hiσ] at e2
    cases e2
    exact⟨u,r,.inl ⟨hk,by simp⟩⟩
   ·rw[List.getElem?_set_ne (Ne.symm hj)] at e2
    obtain⟨u',r',q⟩:=hl j y v' e1 e2 e3
    refine⟨u',r',?_⟩
    rcases q with ⟨k,e⟩ | ⟨k,c,e,z⟩
    ·refine .inl ⟨k,?_⟩
     have:y≠x:=fun e=>hj (nodup_ix hN e1 (e ▸ hi))
     simp [this,e]
    ·exact .inr ⟨k,c,e,z.sameBut hs (cne y c e)⟩
  ·obtain⟨w',z⟩:=I.cell y c e
   exact⟨w',z.sameBut hs (cne y c e)⟩
  ·obtain⟨e,n,ne,nf,d⟩:=I.pin p hp
   exact⟨(hs.2 p.1 ne).trans e,n,ne,nf,d⟩
 ·have hfn:X.fn x=true:=by
   rcases hf with z | z
   ·exact z
   ·rw[z] at hk;cases hk
  obtain⟨c,hc⟩:=I.ok.has x (.inl hk)
  obtain⟨w',z⟩:=I.cell x c hc
  refine wpAny_storeName_cell I.ok.kind hk hc z (fun h' hc' hs=>?_)
  obtain⟨oc,hoc,hocd⟩:=id z
  refine h { s with heap:=h' } ⟨I.ok,I.os,I.bare,⟨fun b o e n hb hx=>?_,fun b o e n hb hx=>?_,I.base.free,fun b o e hx=>?_,I.base.tups,I.base.frzs,I.base.tbls⟩,⟨m,hn.sameBut hs (Ne.symm (cne x c hc)),fun j y v' e1 e2 e3=>?_⟩,fun y c' e=>?_,I.free,I.freeC,fun p hp=>?_,tracked ⟨oc,hoc,I.freeC x c hc⟩ hs,by simpa using I.len⟩ ⟨c,hs,.inr hc⟩
  ·exact (hs.2 b (Nat.ne_of_lt (Nat.lt_of_lt_of_le (Heap.lt_size e) (I.ok.cab x c hfn hc)))).trans (I.base.keep b o e n hb hx)
  ·obtain⟨sl,e1⟩:=I.base.slot b o e n hb hx
   exact⟨sl,(hs.2 b (Nat.ne_of_lt (Nat.lt_of_lt_of_le (Heap.lt_size e) (I.ok.cab x c hfn hc)))).trans e1⟩
  ·obtain⟨o',e1⟩:=I.base.there b o e hx
   exact⟨o',(hs.2 b (Nat.ne_of_lt (Nat.lt_of_lt_of_le (Heap.lt_size e) (I.ok.cab x c hfn hc)))).trans e1⟩
  ·by_cases hj:j=i
   ·subst hj
    rw[hi] at e1;cases e1
    rw[List.getElem?_set_self hiσ] at e2
    cases e2
    exact⟨u,r,.inr ⟨.inl hk,c,hc,hc'⟩⟩
   ·rw[List.getElem?_set_ne (Ne.symm hj)] at e2
    obtain⟨u',r',q⟩:=hl j y v' e1 e2 e3
    refine⟨u',r',?_⟩
    rcases q with q | ⟨k,c',e,z'⟩
    ·exact .inl q
    ·refine .inr ⟨k,c',e,z'.sameBut hs ?_⟩
     rintro rfl
     exact hj (nodup_ix hN e1 (I.ok.inj _ _ _ e hc ▸ hi))
  ·by_cases hcc:c'=c
   ·subst hcc;exact⟨_,hc'⟩
   ·obtain⟨w2,z2⟩:=I.cell y c' e
    exact⟨w2,z2.sameBut hs hcc⟩
  ·obtain⟨e,n,ne,nf,d⟩:=I.pin p hp
   refine⟨(hs.2 p.1 ?_).trans e,n,ne,nf,d⟩
   intro q
   rw[q,hoc] at e
   have q':oc=p.2:=Option.some.inj e
   exact d w' (by rw[← q'];exact hocd)
theorem store_ok {M:Model} {A:Around} {E:Value->Shared->Prop} {i:Nat} {x:Str} {v:V} {u:Value} {Q:Unit->Shared->Prop} (I:Inv X pins σ H s) (hN:X.N.Nodup) (hi:X.N[i]?=some x) (hx:Loc X.env.scope x) (r:RelV v u)
  (h:∀ s',Inv X pins (σ.set i (some v)) H s'->Q () s') (hf:X.fn x=true∨X.env.scope.names.lookup x=some .local:=by first | exact .inl rfl | exact .inr rfl | assumption):wpAny M A (storeName X.env x u) Q E s :=
 store_ok2 I hN hi hx r (fun s' I' _=>h s' I') hf
/-- behind a call or a block, the state as it is -/
theorem Inv.call' {s':Shared} {ch:List Addr} (I:Inv X pins σ H s) (ho:s'.os=s.os) (u:Un (frs X.stack) ch H H' s.heap s'.heap) (hok:HOk X.prog X.w H' s'.heap) (hg:AllBare s'.gens)
  (hch:∀ b ∈ ch,(b ∈ X.ex∨X.s₀.heap.objs.size≤b)∧b≠X.env.locals∧(∀ x c,X.env.cells.lookup x=some c->c≠b)∧∀ p ∈ X.pn++pins,p.1≠b):Inv X pins σ H' s':=by
 obtain⟨h',g',d',t',o'⟩:=s'
 have e:o'=s.os:=ho
 subst e
 exact I.call (g':=g') (t':=t') (d':=d') u hok hg hch
end
/-- an exception: its class, its own dict's address (where it has one), the abstract heap behind it -/
abbrev XK:=Value->Option Addr->Hp->Prop
abbrev St:=List (Option V)
abbrev VK:=V->Hp->Prop
/-- an expression's reading; a test's; an argument list's -/
abbrev TE:=St->Hp->VK->Prop
abbrev TT:=St->Hp->(Bool->Hp->Prop)->Prop
abbrev TA:=St->Hp->(List V->Hp->Prop)->Prop
/-- what is wanted behind a statement -/
structure Ends where
 nx:St->Hp->Prop
 rt:VK
 bk:St->Hp->Prop:=fun _ _=>False
 ct:St->Hp->Prop:=fun _ _=>False
abbrev TS:=Ends->St->Hp->Prop
def EP (X:Cx) (pins:List (Addr × Obj)) (σ:St) (Q:VK) (u:Value) (s':Shared):Prop:=∃ v H',Inv X pins σ H' s'∧RelV v u∧Q v H'
def TP (X:Cx) (pins:List (Addr × Obj)) (σ:St) (Q:Bool->Hp->Prop) (b:Bool) (s':Shared):Prop:=∃ H',Inv X pins σ H' s'∧Q b H'
def AP (X:Cx) (pins:List (Addr × Obj)) (σ:St) (Q:List V->Hp->Prop) (us:List Value) (s':Shared):Prop:=∃ vs H',Inv X pins σ H' s'∧Vals vs us∧Q vs H'
def SP (X:Cx) (pins:List (Addr × Obj)) (D:Ends) (f:Flow) (s':Shared):Prop :=
 match f with
 | .next=>∃ σ' H',Inv X pins σ' H' s'∧D.nx σ' H'
 | .brk=>∃ σ' H',Inv X pins σ' H' s'∧D.bk σ' H'
 | .cont=>∃ σ' H',Inv X pins σ' H' s'∧D.ct σ' H'
 | .ret u=>∃ v σ' H',Inv X pins σ' H' s'∧RelV v u∧D.rt v H'
def PE (X:Cx) (e:Expr) (t:TE):Prop :=
 ∀ (pins:List (Addr × Obj)) (s:Shared) (σ:St) (H:Hp) (Q:VK),Inv X pins σ H s->t σ H Q->wpAny (model X.prog X.w) X.A (eval e X.env) (EP X pins σ Q) X.xe s
def PT (X:Cx) (e:Expr) (t:TT):Prop :=
 ∀ (pins:List (Addr × Obj)) (s:Shared) (σ:St) (H:Hp) (Q:Bool->Hp->Prop),Inv X pins σ H s->t σ H Q->wpAny (model X.prog X.w) X.A (isTrue e X.env (eval e X.env)) (TP X pins σ Q) X.xe s
/-- a test whatever its 'whole' is (and, or) -/
def PW (X:Cx) (e:Expr) (t:TT):Prop :=
 ∀ (whole:Sem Value) (pins:List (Addr × Obj)) (s:Shared) (σ:St) (H:Hp) (Q:Bool->Hp->Prop),Inv X pins σ H s->t σ H Q->wpAny (model X.prog X.w) X.A (isTrue e X.env whole) (TP X pins σ Q) X.xe s
theorem PW.pt {X:Cx} {e:Expr} {t:TT} (h:PW X e t):PT X e t:=h _
/-- an argument list (no star), from the left -/
def PA (X:Cx) (es:List Expr) (t:TA):Prop :=
 ∀ (pos:Pos) (pins:List (Addr × Obj)) (s:Shared) (σ:St) (H:Hp) (Q:List V->Hp->Prop),Inv X pins σ H s->t σ H Q->wpAny (model X.prog X.w) X.A (spliced (backTo pos (starEach es X.env))) (AP X pins σ Q) X.xe s
def PS (X:Cx) (st:Stmt) (t:TS):Prop :=
 ∀ (pins:List (Addr × Obj)) (s:Shared) (σ:St) (H:Hp) (D:Ends),Inv X pins σ H s->t D σ H->wpAny (model X.prog X.w) X.A (exec st X.env) (SP X pins D) X.xe s
def PSs (X:Cx) (st:List Stmt) (t:TS):Prop :=
 ∀ (pins:List (Addr × Obj)) (s:Shared) (σ:St) (H:Hp) (D:Ends),Inv X pins σ H s->t D σ H->wpAny (model X.prog X.w) X.A (execs st X.env) (SP X pins D) X.xe s
/-- weaken the end -/
theorem thn {α:Type} {t:Sem α} {Q Q':α->Shared->Prop} {M:Model} {A:Around} {E:Value->Shared->Prop} {s:Shared} (h:wpAny M A t Q E s) (hQ:∀ a s,Q a s->Q' a s):wpAny M A t Q' E s:=wpAny_mono h hQ fun _ _ x=>x
end L2
namespace L2
open PySem PySem.Spec PyProof.Rows
section
variable {X:Cx}
def tVar (i:Nat):TE:=fun σ H Q=>∃ v,σ[i]?=some (some v)∧Q v H
def tC (v:V):TE:=fun _ H Q=>Q v H
theorem pe_var {i:Nat} {x:Str} {pos:Pos} (hN:X.N[i]?=some x) (hv:Vis X.env.scope x) (hd:(x == ("__debug__":Str))=false:=by decide) (hcd:(x == ("__classdict__":Str))=false:=by decide):PE X (.Name x pos) (tVar i):=by
 intro pins s σ H Q I h
 obtain⟨v,e,h⟩:=h
 obtain⟨m,hn,hl⟩:=I.loc
 obtain⟨u,r,l⟩:=hl i x v hN e hv
 have fin:EP X pins σ Q u s:=⟨v,H,I,r,h⟩
 rcases l with ⟨hk,hm⟩ | ⟨hk,c,hc,hcell⟩
 ·exact wpAny_Name (wpAny_loadName_local I.ok.kind hk hn hm fin) hd
 ·rcases hk with hk | hk
  ·exact wpAny_Name (wpAny_loadName_cell I.ok.kind hk hc hcell fin) hd
  ·exact wpAny_Name (wpAny_loadName_free I.ok.kind hk hc hcell fin hcd) hd
theorem pe_int {i j pos}:PE X (.Constant (.int i) j pos) (tC (.int i)):=fun _ _ _ H _ I h=>wpAny_Constant_int ⟨.int i,H,I.tok _,⟨_,rfl⟩,h⟩
theorem pe_bl {b j pos}:PE X (.Constant (.bool b) j pos) (tC (.bl b)):=fun _ _ _ H _ I h=>Constant_bool ⟨.bl b,H,I,rfl,h⟩
theorem pe_non {j pos}:PE X (.Constant .none j pos) (tC .non):=fun _ _ _ H _ I h=>Constant_none ⟨.non,H,I,rfl,h⟩
/-- a global name of the def -/
def Gl (X:Cx) (x:Str):Prop:=X.env.kindOf x=some .globalImplicit
theorem ld_glob {E:Value->Shared->Prop} {pins:List (Addr × Obj)} {s:Shared} {σ:St} {H:Hp} {x:Str} {u:Value} {pos:Pos} {Q:Value->Shared->Prop} (I:Inv X pins σ H s) (hg:Gl X x) (hm:X.mg x=some u) (h:Q u s)
  (hd:(x == ("__debug__":Str))=false:=by decide):wpAny (model X.prog X.w) X.A (eval (.Name x pos) X.env) Q E s :=
 Calls.Name_function_global I.ok.kind hg (Calls.loadGlobal_global (by rw[I.ok.glob];exact I.mod.glob.keeps I.bk) hm h) hd
theorem ld_blt {E:Value->Shared->Prop} {pins:List (Addr × Obj)} {s:Shared} {σ:St} {H:Hp} {x:Str} {u:Value} {pos:Pos} {Q:Value->Shared->Prop} (I:Inv X pins σ H s) (hg:Gl X x) (hm:X.mg x=none) (hv:bootBuiltins x=some u) (h:Q u s)
  (hn:x≠"__name__":=by decide) (hd:(x == ("__debug__":Str))=false:=by decide):wpAny (model X.prog X.w) X.A (eval (.Name x pos) X.env) Q E s:=by
 obtain⟨mb,h1,h2⟩:=I.mod.blt
 exact Calls.Name_function_global I.ok.kind hg (Calls.loadGlobal_builtin (by rw[I.ok.glob];exact I.mod.glob.keeps I.bk) hm (by rw[I.ok.blt];exact h1.keeps I.bk) ((h2 x hn).trans hv) h) hd
theorem pe_bltn {x:Str} {v:V} {u:Value} {pos:Pos} (hg:Gl X x) (hm:X.mg x=none) (hv:bootBuiltins x=some u) (r:RelV v u) (hn:x≠"__name__":=by decide) (hd:(x == ("__debug__":Str))=false:=by decide):PE X (.Name x pos) (tC v) :=
 fun _ _ _ H _ I h=>ld_blt I hg hm hv ⟨v,H,I,r,h⟩ hn hd
variable {a b:Expr} {ta tb:TE} {pos:Pos}
/-- a comparison as a value, as a test -/
def tB (t:TE):TT:=fun σ H Q=>t σ H fun x H1=>∃ c,x=.bl c∧Q c H1
/-- an expression whose value is a bool, as a test -/
theorem pt_val {e:Expr} {t:TE} (h:PE X e t) (he:∀ whole,isTrue e X.env whole=(do let v ← whole;standAt e.pos;holding [v] (truthy v)):=by intro _;rfl):PT X e (tB t):=by
 intro pins s σ H Q I hw
 refine isTrue_plain (thn (h pins s σ H _ I hw) fun v s1 ⟨x,H1,I1,r1,q1⟩=>?_) (he _)
 obtain⟨d,rfl,q⟩:=q1
 cases r1
 exact wpAny_truthy_bool ⟨H1,I1,q⟩
variable {tA tB':TT} {rest:List Expr}
def tAnd (t u:TT):TT:=fun σ H Q=>t σ H fun c H1=>if c=true then u σ H1 Q else Q false H1
def tOr (t u:TT):TT:=fun σ H Q=>t σ H fun c H1=>if c=true then Q true H1 else u σ H1 Q
def tNot (t:TT):TT:=fun σ H Q=>t σ H fun c H1=>Q (!c) H1
theorem pw_and1 (ha:PT X a tA):PW X (.BoolOp .And [a] pos) tA:=by
 intro wh pins s σ H Q I h
 refine isTrue_and (thn (ha pins s σ H Q I h) fun c s1 e=>?_)
 cases c with
 | true=>exact isTrue_and_nil e
 | false=>exact e
theorem pw_or1 (ha:PT X a tA):PW X (.BoolOp .Or [a] pos) tA:=by
 intro wh pins s σ H Q I h
 refine isTrue_or (thn (ha pins s σ H Q I h) fun c s1 e=>?_)
 cases c with
 | false=>exact isTrue_or_nil e
 | true=>exact e
theorem pw_and (ha:PT X a tA) (hb:PW X (.BoolOp .And (b::rest) pos) tB'):PW X (.BoolOp .And (a::b::rest) pos) (tAnd tA tB'):=by
 intro wh pins s σ H Q I h
 refine isTrue_and (thn (ha pins s σ H _ I h) fun c s1 ⟨H1,I1,q1⟩=>?_)
 cases c with
 | true=>exact hb wh pins s1 σ H1 Q I1 q1
 | false=>exact⟨H1,I1,q1⟩
theorem pw_or (ha:PT X a tA) (hb:PW X (.BoolOp .Or (b::rest) pos) tB'):PW X (.BoolOp .Or (a::b::rest) pos) (tOr tA tB'):=by
 intro wh pins s σ H Q I h
 refine isTrue_or (thn (ha pins s σ H _ I h) fun c s1 ⟨H1,I1,q1⟩=>?_)
 cases c with
 | true=>exact⟨H1,I1,q1⟩
 | false=>exact hb wh pins s1 σ H1 Q I1 q1
theorem pt_not (ha:PT X a tA):PT X (.UnaryOp .Not a pos) (tNot tA):=by
 intro pins s σ H Q I h
 exact isTrue_not (ha pins s σ H (fun c H1=>Q (!c) H1) I h)
/-- .. as values (bools) -/
def tAndV (ta tb:TE):TE:=fun σ H Q=>ta σ H fun x H1=>∃ c,x=.bl c∧if c=true then tb σ H1 Q else Q (.bl false) H1
def tOrV (ta tb:TE):TE:=fun σ H Q=>ta σ H fun x H1=>∃ c,x=.bl c∧if c=true then Q (.bl true) H1 else tb σ H1 Q
def tNotV (ta:TE):TE:=fun σ H Q=>ta σ H fun x H1=>∃ c,x=.bl c∧Q (.bl (!c)) H1
theorem pe_one {op} {t:TE} (h:PE X a t):PE X (.BoolOp op [a] pos) t:=fun pins s σ H Q I hw=>BoolOp_one (h pins s σ H Q I hw)
theorem pe_and (ha:PE X a ta) (hb:PE X (.BoolOp .And (b::rest) pos) tb):PE X (.BoolOp .And (a::b::rest) pos) (tAndV ta tb):=by
 intro pins s σ H Q I h
 refine BoolOp_and (thn (ha pins s σ H _ I h) fun v s1 ⟨x,H1,I1,r1,q1⟩=>?_)
 obtain⟨c,rfl,q1⟩:=q1
 cases r1
 refine wpAny_truthy_bool ?_
 cases c with
 | true=>exact hb pins s1 σ H1 Q I1 q1
 | false=>exact⟨.bl false,H1,I1,rfl,q1⟩
theorem pe_or (ha:PE X a ta) (hb:PE X (.BoolOp .Or (b::rest) pos) tb):PE X (.BoolOp .Or (a::b::rest) pos) (tOrV ta tb):=by
 intro pins s σ H Q I h
 refine BoolOp_or (thn (ha pins s σ H _ I h) fun v s1 ⟨x,H1,I1,r1,q1⟩=>?_)
 obtain⟨c,rfl,q1⟩:=q1
 cases r1
 refine wpAny_truthy_bool ?_
 cases c with
 | false=>exact hb pins s1 σ H1 Q I1 q1
 | true=>exact⟨.bl true,H1,I1,rfl,q1⟩
theorem pe_not (ha:PE X a ta):PE X (.UnaryOp .Not a pos) (tNotV ta):=by
 intro pins s σ H Q I h
 refine UnaryOp_ (thn (ha pins s σ H _ I h) fun v s1 ⟨x,H1,I1,r1,q1⟩=>?_)
 obtain⟨c,rfl,q1⟩:=q1
 cases r1
 exact not_of (wpAny_truthy_bool ⟨.bl (!c),H1,I1,rfl,q1⟩)
/-- a if t else b -/
def tIf (t:TT) (ta tb:TE):TE:=fun σ H Q=>t σ H fun c H1=>if c=true then ta σ H1 Q else tb σ H1 Q
theorem pe_ifExp {c:Expr} (hc:PT X c tA) (ha:PE X a ta) (hb:PE X b tb):PE X (.IfExp c a b pos) (tIf tA ta tb):=by
 intro pins s σ H Q I h
 refine wpAny_IfExp (thn (hc pins s σ H _ I h) fun d s1 ⟨H1,I1,q1⟩=>?_)
 cases d with
 | true=>exact ha pins s1 σ H1 Q I1 q1
 | false=>exact hb pins s1 σ H1 Q I1 q1
end
end L2
namespace L2
open PySem PySem.Spec PyProof.Rows
def SqL (K:PySem.W.Frag) (H:Hp) (a:Addr) (xs:List V):Prop :=
 Rd H a (.lst xs) ∨
  ∃ (o:Obj) (its:Array Value) (n:Nat),K.lookup a=some o∧o.cls=.type "list"∧o.dict=none∧o.data=.seq its n∧its.size≤sizeLine∧Vals xs its.toList
def SqT (K:PySem.W.Frag) (H:Hp) (a:Addr) (xs:List V):Prop :=
 Rd H a (.tup xs) ∨
  ∃ (o:Obj) (its:Array Value) (n:Nat),K.lookup a=some o∧o.cls=.type "tuple"∧o.data=.seq its n∧its.size≤sizeLine∧Vals xs its.toList
def absV:Value->Option V
 | .none=>some .non
 | .bool b=>some (.bl b)
 | .int i _=>some (.int i)
 | .str x _=>some (.str x)
 | .bytes b _=>some (.byt b)
 | .float b _=>some (.flt b)
 | .ref a=>some (.ref a)
 | .type n=>some (.ty n)
 | _=>none
theorem RelV.abs {x:V} {u:Value} (r:RelV x u):absV u=some x:=by
 cases x with
 | non=>cases r;rfl
 | bl _=>cases r;rfl
 | int _=>obtain⟨t,rfl⟩:=r;rfl
 | str _=>obtain⟨t,rfl⟩:=r;rfl
 | byt _=>obtain⟨t,rfl⟩:=r;rfl
 | flt _=>obtain⟨t,rfl⟩:=r;rfl
 | ref _=>cases r;rfl
 | ty _=>cases r;rfl
theorem RelV.inj {x y:V} {u:Value} (r:RelV x u) (q:RelV y u):x=y:=Option.some.inj (r.abs.symm.trans q.abs)
theorem Vals.inj:∀ {xs ys:List V} {us:List Value},Vals xs us->Vals ys us->xs=ys
 | _,_,_,.nil,.nil=>rfl
 | _,_,_,.cons r t,.cons r' t'=>by rw[r.inj r',Vals.inj t t']
section
variable {X:Cx} {pins:List (Addr × Obj)} {σ:St} {H:Hp} {s:Shared} {a:Addr} {xs ys:List V}
theorem SqL.of {K:PySem.W.Frag} (h:H a=some (.lst xs)):SqL K H a xs:=.inl (.inl h)
theorem SqT.of {K:PySem.W.Frag} (h:H a=some (.tup xs)):SqT K H a xs:=.inl (.inl h)
theorem Inv.list (I:Inv X pins σ H s) (h:SqL X.K H a xs):∃ its:List Value,Vals xs its∧PlainL s.heap a its.toArray∧xs.length≤sizeLine:=by
 rcases h with h | ⟨o,its,n,hk,hc,hd,hs,hz,r⟩
 ·obtain⟨z,its,n,r,e⟩:=h.ok I.hok
  exact⟨its,r,⟨_,n,e,rfl,rfl,rfl⟩,z⟩
 ·refine⟨its.toList,r,⟨o,n,I.kIn a o hk,hc,hd,by simpa using hs⟩,?_⟩
  have e:=r.length
  simp only [Array.length_toList] at e
  omega
theorem Inv.tuple (I:Inv X pins σ H s) (h:SqT X.K H a xs):∃ its:List Value,Vals xs its∧IsTup s.heap a its.toArray∧xs.length≤sizeLine:=by
 rcases h with h | ⟨o,its,n,hk,hc,hs,hz,r⟩
 ·obtain⟨z,its,r,p⟩:=h.ok I.hok
  exact⟨its,r,p.tup,z⟩
 ·refine⟨its.toList,r,⟨o,I.kIn a o hk,hc,n,by simpa using hs⟩,?_⟩
  have e:=r.length
  simp only [Array.length_toList] at e
  omega
theorem Inv.list_inj (I:Inv X pins σ H s) (h:SqL X.K H a xs) (h':SqL X.K H a ys):xs=ys:=by
 obtain⟨its,r,⟨o,n,e,_,_,d⟩,_⟩:=I.list h
 obtain⟨its',r',⟨o',n',e',_,_,d'⟩,_⟩:=I.list h'
 rw[e] at e';cases e'
 rw[d] at d'
 injection d' with d1 _
 have:its=its':=by simpa using congrArg Array.toList d1
 subst this
 exact r.inj r'
theorem Inv.tuple_inj (I:Inv X pins σ H s) (h:SqT X.K H a xs) (h':SqT X.K H a ys):xs=ys:=by
 obtain⟨its,r,⟨o,e,_,n,d⟩,_⟩:=I.tuple h
 obtain⟨its',r',⟨o',e',_,n',d'⟩,_⟩:=I.tuple h'
 rw[e] at e';cases e'
 rw[d] at d'
 injection d' with d1 _
 have:its=its':=by simpa using congrArg Array.toList d1
 subst this
 exact r.inj r'
end
abbrev Cx.wish (X:Cx) (E:Value->Shared->Prop):Cx:={ X with xe:=E }
/-- no exception leaves -/
abbrev Cx.nox (X:Cx):Cx:=X.wish fun _ _=>False
theorem Cx.Ok.wish {X:Cx} (ok:X.Ok) (E:Value->Shared->Prop):(X.wish E).Ok :=
 ⟨ok.mod,ok.kind,ok.glob,ok.blt,ok.above,ok.inj,ok.has,ok.cab,ok.hd,ok.frames,ok.stk,ok.exf,ok.bs,ok.bsz,ok.noex,ok.exfs,ok.funs,ok.frf⟩
theorem Cx.Ok.unwish {X:Cx} {E:Value->Shared->Prop} (ok:(X.wish E).Ok):X.Ok :=
 ⟨ok.mod,ok.kind,ok.glob,ok.blt,ok.above,ok.inj,ok.has,ok.cab,ok.hd,ok.frames,ok.stk,ok.exf,ok.bs,ok.bsz,ok.noex,ok.exfs,ok.funs,ok.frf⟩
section
variable {X:Cx} {pins:List (Addr × Obj)} {σ:St} {H:Hp} {s:Shared} {E:Value->Shared->Prop}
theorem Inv.wish (I:Inv X pins σ H s) (E:Value->Shared->Prop):Inv (X.wish E) pins σ H s:=⟨I.ok.wish E,I.os,I.bare,I.base,I.loc,I.cell,I.free,I.freeC,I.pin,I.hok,I.len⟩
theorem Inv.unwish (I:Inv (X.wish E) pins σ H s):Inv X pins σ H s:=⟨I.ok.unwish,I.os,I.bare,I.base,I.loc,I.cell,I.free,I.freeC,I.pin,I.hok,I.len⟩
theorem SP.unwish {D:Ends} {f:Flow} {s':Shared} (h:SP (X.wish E) pins D f s'):SP X pins D f s':=by
 cases f with
 | next=>obtain⟨σ',H',I,q⟩:=h;exact⟨σ',H',I.unwish,q⟩
 | brk=>obtain⟨σ',H',I,q⟩:=h;exact⟨σ',H',I.unwish,q⟩
 | cont=>obtain⟨σ',H',I,q⟩:=h;exact⟨σ',H',I.unwish,q⟩
 | ret u=>obtain⟨v,σ',H',I,r,q⟩:=h;exact⟨v,σ',H',I.unwish,r,q⟩
theorem PSs.nox {st:List Stmt} {t:TS} (h:PSs X.nox st t):PSs X st t:=fun pins s σ H D I hw =>
 wpAny_mono (h pins s σ H D (I.wish _) hw) (fun _ _ q=>q.unwish) fun _ _ z=>False.elim z
end
section
variable {X:Cx} {st:Stmt} {rest:List Stmt} {t u:TS} {e:Expr} {te:TE} {pos:Pos}
def tNext:TS:=fun D σ H=>D.nx σ H
def tSeq (t u:TS):TS:=fun D σ H=>t { D with nx:=u D } σ H
theorem pss_nil:PSs X [] tNext:=fun _ _ σ H _ I h=>wpAny_execs_nil ⟨σ,H,I,h⟩
theorem pss_cons (h1:PS X st t) (h2:PSs X rest u):PSs X (st::rest) (tSeq t u):=by
 intro pins s σ H D I h
 refine wpAny_execs_cons (thn (h1 pins s σ H { D with nx:=u D } I h) fun f s1 q=>?_)
 cases f with
 | next =>
  obtain⟨σ',H',I',q⟩:=q
  exact h2 pins s1 σ' H' D I' q
 | ret v=>exact q
 | brk=>exact q
 | cont=>exact q
theorem pss_one (h1:PS X st t):PSs X [st] t:=by
 intro pins s σ H D I h
 refine wpAny_execs_cons (thn (h1 pins s σ H D I h) fun f s1 q=>?_)
 cases f with
 | next=>exact wpAny_execs_nil q
 | ret v=>exact q
 | brk=>exact q
 | cont=>exact q
def tCont:TS:=fun D σ H=>D.ct σ H
theorem ps_continue:PS X (.Continue pos) tCont:=fun _ _ σ H _ I h=>wpAny_Continue ⟨σ,H,I,h⟩
/-- in a def's body nothing is shown -/
theorem Inv.quiet {pins:List (Addr × Obj)} {σ:St} {H:Hp} {s:Shared} (I:Inv X pins σ H s):interactive X.env=false:=by simp [interactive,I.ok.kind]
/-- an expression whose value is dropped -/
def tDrop (te:TE):TS:=fun D σ H=>te σ H fun _ H1=>D.nx σ H1
theorem ps_expr (he:PE X e te) (hs:swapsWith e none pos.line X.env=pure false:=by rfl):PS X (.Expr e pos) (tDrop te):=by
 intro pins s σ H D I h
 exact wpAny_Expr_any (thn (he pins s σ H _ I h) fun v s1 ⟨x,H1,I1,r1,q1⟩=>⟨σ,H1,I1,q1⟩) I.quiet hs
def tRet (te:TE):TS:=fun D σ H=>te σ H D.rt
theorem ps_ret (he:PE X e te):PS X (.Return (some e) pos) (tRet te):=by
 intro pins s σ H D I h
 exact wpAny_Return_some (thn (he pins s σ H _ I h) fun v s1 ⟨x,H1,I1,r1,q1⟩=>⟨x,σ,H1,I1,r1,q1⟩)
def tIfS (c:TT) (t u:TS):TS:=fun D σ H=>c σ H fun b H1=>if b=true then t D σ H1 else u D σ H1
theorem ps_if {c:Expr} {a b:List Stmt} {tc:TT} (hc:PT X c tc) (ha:PSs X a t) (hb:PSs X b u):PS X (.If c a b pos) (tIfS tc t u):=by
 intro pins s σ H D I h
 refine wpAny_If (thn (hc pins s σ H _ I h) fun d s1 ⟨H1,I1,q1⟩=>?_)
 cases d with
 | true=>exact ha pins s1 σ H1 D I1 q1
 | false=>exact hb pins s1 σ H1 D I1 q1
end
abbrev TG:=V->St->Hp->(St->Hp->Prop)->Prop
abbrev TGs:=List V->St->Hp->(St->Hp->Prop)->Prop
def PG (X:Cx) (target:Expr) (t:TG):Prop :=
 ∀ (pins:List (Addr × Obj)) (s:Shared) (σ:St) (H:Hp) (v:V) (u:Value) (Q:St->Hp->Prop),Inv X pins σ H s->RelV v u->t v σ H Q ->
  wpAny (model X.prog X.w) X.A (assign target X.env u) (fun _ s'=>∃ σ' H',Inv X pins σ' H' s'∧Q σ' H') X.xe s
/-- several targets, one after another -/
def PGs (X:Cx) (ts:List Expr) (t:TGs):Prop :=
 ∀ (pins:List (Addr × Obj)) (s:Shared) (σ:St) (H:Hp) (vs:List V) (us:List Value) (Q:St->Hp->Prop),Inv X pins σ H s->Vals vs us->t vs σ H Q ->
  wpAny (model X.prog X.w) X.A (assignInOrder ((assignEach ts X.env).map (·.2)) us) (fun _ s'=>∃ σ' H',Inv X pins σ' H' s'∧Q σ' H') X.xe s
/-- o[i] = v, by values -/
abbrev TSet:=V->V->V->Hp->(Hp->Prop)->Prop
def PSet (X:Cx) (t:TSet):Prop :=
 ∀ (pins:List (Addr × Obj)) (s:Shared) (σ:St) (H:Hp) (o i v:V) (ov iv u:Value) (Q:Hp->Prop),Inv X pins σ H s->RelV o ov->RelV i iv->RelV v u->t o i v H Q ->
  wpAny (model X.prog X.w) X.A (setItem ov iv u) (fun _ s'=>∃ H',Inv X pins σ H' s'∧Q H') X.xe s
section
variable {X:Cx} {pos:Pos}
def gName (i:Nat):TG:=fun v σ H Q=>Q (σ.set i (some v)) H
theorem pg_name {i:Nat} {x:Str} (hN:X.N.Nodup) (hi:X.N[i]?=some x) (hx:Loc X.env.scope x) (hf:X.fn x=true∨X.env.scope.names.lookup x=some .local:=by first | exact .inl rfl | exact .inr rfl | assumption):PG X (.Name x pos) (gName i):=by
 intro pins s σ H v u Q I r h
 exact wpAny_assign_Name (store_ok I hN hi hx r (fun s' I'=>⟨_,H,I',h⟩) hf)
def gNil:TGs:=fun vs σ H Q=>vs=[]∧Q σ H
def gCons (t:TG) (u:TGs):TGs:=fun vs σ H Q=>∃ v r,vs=v::r∧t v σ H fun σ' H'=>u r σ' H' Q
theorem pgs_nil:PGs X [] gNil:=by
 intro pins s σ H vs us Q I r h
 obtain⟨e,h⟩:=h
 subst e
 cases r
 exact assignInOrder_nil ⟨σ,H,I,h⟩
theorem pgs_cons {e:Expr} {es:List Expr} {t:TG} {u:TGs} (h1:PG X e t) (h2:PGs X es u)
  (hs:(assignEach (e::es) X.env).map (·.2)=assign e X.env::(assignEach es X.env).map (·.2):=by rfl):PGs X (e::es) (gCons t u):=by
 intro pins s σ H vs us Q I r h
 obtain⟨v,vr,e1,h⟩:=h
 subst e1
 cases r with
 | cons r rr =>
  rw[hs]
  refine assignInOrder_cons (thn (h1 pins s σ H _ _ _ I r h) fun _ s1 ⟨σ1,H1,I1,q1⟩=>?_)
  exact h2 pins s1 σ1 H1 _ _ Q I1 rr q1
/-- (a, b, ..) = a tuple of that length -/
def gTup (K:PySem.W.Frag) (n:Nat) (t:TGs):TG:=fun v σ H Q=>∃ a xs,v=.ref a∧SqT K H a xs∧xs.length=n∧t xs σ H Q
theorem pg_tup {es:List Expr} {k:Nat} {t:TGs} {n:Nat} (hc:X.calm=true) (h:PGs X es t)
  (hn:(assignEach es X.env).length=n:=by rfl) (hst:(assignEach es X.env).findIdx? (·.1)=none:=by rfl):PG X (.Tuple es k pos) (gTup X.K n t):=by
 intro pins s σ H v u Q I r hw
 obtain⟨a,xs,e1,hq,hl,hw⟩:=hw
 subst e1
 cases r
 obtain⟨its,rv,ht,hz⟩:=I.tuple hq
 refine assign_Tuple_tuple (I.ok.hd hc) ht (by simp [hn,← hl,rv.length]) hst fun h' hx=>?_
 have I1:Inv X pins σ H { s with heap:=h' }:=I.kept (t':=s.toks) fun b o e=>hx b o (Nat.ne_of_lt (Heap.lt_size e)) e
 exact h pins _ σ H xs _ Q I1 (by simpa using rv) hw
/-- o[i] = .. -/
def gSub (to ti:TE) (t:TSet):TG:=fun v σ H Q=>to σ H fun o H1=>ti σ H1 fun i H2=>t o i v H2 fun H3=>Q σ H3
theorem pg_sub {o i:Expr} {to ti:TE} {t:TSet} (ho:PE X o to) (hi:PE X i ti) (hs:PSet X t)
  (ha:∀ v,assign (.Subscript o i pos) X.env v=(do
   let ov ← holding [v] (eval o X.env)
   let iv ← holding [v,ov] (eval i X.env)
   standAt pos
   holding [v,ov,iv] (setItem ov iv v)
   release [v,ov,iv] []):=by intro _;rfl):PG X (.Subscript o i pos) (gSub to ti t):=by
 intro pins s σ H v u Q I r h
 rw[ha]
 refine wpAny_bind (wpAny_holding (thn (ho pins s σ H _ I h) fun ov s1 ⟨x,H1,I1,r1,q1⟩=>?_))
 refine wpAny_bind (wpAny_holding (thn (hi pins s1 σ H1 _ I1 q1) fun iv s2 ⟨y,H2,I2,r2,q2⟩=>?_))
 refine wpAny_bind (wpAny_standAt (wpAny_bind (wpAny_holding (thn (hs pins s2 σ H2 x y v ov iv u _ I2 r1 r2 r q2) fun _ s3 ⟨H3,I3,q3⟩=>?_))))
 exact wpAny_release ⟨σ,H3,I3,q3⟩
/-- target = value -/
def tAsg (te:TE) (g:TG):TS:=fun D σ H=>te σ H fun x H1=>g x σ H1 D.nx
theorem ps_asg {tg e:Expr} {te:TE} {g:TG} (he:PE X e te) (hg:PG X tg g) (hs:swapsWithSole [tg] e pos.line X.env=pure false:=by rfl) (hw:swappedStores [tg] e X.env=pure none:=by rfl)
  (h1:(assignEach [tg] X.env).map (·.2)=[assign tg X.env]:=by rfl):PS X (.Assign [tg] e pos) (tAsg te g):=by
 intro pins s σ H D I h
 refine wpAny_Assign_stores (thn (he pins s σ H _ I h) fun v s1 ⟨x,H1,I1,r1,q1⟩=>?_) hs hw
 rw[h1]
 exact thn (hg pins s1 σ H1 x v _ I1 r1 q1) fun _ s2 q=>q
/-- name = value -/
theorem ps_set {i:Nat} {x:Str} {e:Expr} {te:TE} {pos':Pos} (hN:X.N.Nodup) (hi:X.N[i]?=some x) (hx:Loc X.env.scope x) (he:PE X e te) (hs:swapsWith e (some (.Name x pos')) pos.line X.env=pure false:=by rfl) (hf:X.fn x=true∨X.env.scope.names.lookup x=some .local:=by first | exact .inl rfl | exact .inr rfl | assumption) :
  PS X (.Assign [.Name x pos'] e pos) (tAsg te (gName i)):=by
 intro pins s σ H D I h
 refine wpAny_Assign_Name (thn (he pins s σ H _ I h) fun v s1 ⟨y,H1,I1,r1,q1⟩=>?_) hs
 exact store_ok I1 hN hi hx r1 (fun s2 I2=>⟨_,H1,I2,q1⟩) hf
end
section
variable {X:Cx} {pos:Pos}
/-- the invariant W with its measure -/
def tWhile (c:TT) (tb:TS):TS:=fun D σ H=>∃ W:Nat->St->Hp->Prop,(∃ m,W m σ H)∧∀ m σ H,W m σ H ->
 c σ H fun b H1=>if b=true then ∃ N:St->Hp->Prop,(∀ σ' H',N σ' H'->∃ m',m' < m∧W m' σ' H')∧tb { D with nx:=N,ct:=N,bk:=D.nx } σ H1 else D.nx σ H1
theorem ps_while {c:Expr} {body:List Stmt} {tc:TT} {tb:TS} (hp:PassesOwn (model X.prog X.w) X.A X.env X.xe) (hc:PT X c tc) (hb:PSs X body tb):PS X (.While c body [] pos) (tWhile tc tb):=by
 intro pins s σ H D I h
 obtain⟨W,⟨m0,w0⟩,turn⟩:=h
 refine wpAny_While (codeAny_whileLoop (fun n s'=>∃ σ' H',Inv X pins σ' H' s'∧W n σ' H') ?_ m0 ⟨σ,H,I,w0⟩)
 rintro n s1 ⟨σ1,H1,I1,w1⟩
 refine wpAny_passesOwn hp (thn (hc pins s1 σ1 H1 _ I1 (turn n σ1 H1 w1)) fun b s2 ⟨H2,I2,q2⟩=>?_)
 cases b with
 | true =>
  obtain⟨N,hN,q2⟩:=q2
  rw[if_pos rfl]
  refine wpAny_passesOwn hp (thn (hb pins s2 σ1 H2 _ I2 q2) fun f s3 q3=>?_)
  cases f with
  | next =>
   obtain⟨σ3,H3,I3,n3⟩:=q3
   obtain⟨m',hm,w3⟩:=hN σ3 H3 n3
   exact⟨m',hm,σ3,H3,I3,w3⟩
  | cont =>
   obtain⟨σ3,H3,I3,n3⟩:=q3
   obtain⟨m',hm,w3⟩:=hN σ3 H3 n3
   exact⟨m',hm,σ3,H3,I3,w3⟩
  | brk=>exact q3
  | ret v=>exact q3
 | false =>
  rw[if_neg Bool.false_ne_true]
  exact wpAny_execs_nil ⟨σ1,H2,I2,q2⟩
end
/-- at turn i: it yields x (the heap may grow), or it stops -/
structure It where
 go:Nat->Hp->Prop
 yld:Nat->Hp->V->Hp->Prop
 stop:Nat->Hp->Prop
/-- the iterator's own objects may turn: they are not the frame's, not pinned, younger than the entry (or a comprehension's own) -/
def FpOk (X:Cx) (pins:List (Addr × Obj)) (H:Hp) (b:Addr):Prop :=
 H b=none∧b≠X.env.locals∧b ∉ X.fs∧(b ∈ X.ex∨X.s₀.heap.objs.size≤b)∧(∀ x c,X.env.cells.lookup x=some c->c≠b)∧∀ p ∈ X.pn++pins,p.1≠b
theorem Inv.fpOk {X:Cx} {pins:List (Addr × Obj)} {σ:St} {H H':Hp} {s:Shared} {b:Addr} (I:Inv X pins σ H s) (hb:s.heap.objs.size≤b) (hn:H' b=none):FpOk X pins H' b:=by
 refine⟨hn,Nat.ne_of_gt (Nat.lt_of_lt_of_le I.lt hb),I.nofs hb,.inr (Nat.le_trans I.sz hb),fun x c e z=>?_,fun p hp z=>?_⟩
 ·obtain⟨v,q⟩:=I.cell x c e
  exact absurd (Nat.lt_of_lt_of_le q.lt (by rw[z];exact hb)) (Nat.lt_irrefl _)
 ·exact absurd (Nat.lt_of_lt_of_le (Heap.lt_size (I.pin p hp).1) (by rw[z];exact hb)) (Nat.lt_irrefl _)
structure Turn (P:Program) (w:World) (K:PySem.W.Frag) (tg:Expr) (J:It) (fp:List Addr) (it:Addr) (tn:Nat->Heap->Prop):Prop where
 mem:it ∈ fp
 obj:∀ i h,tn i h->∀ b ∈ fp,∃ o,h.get? b=some o∧∀ v,o.data≠.cell v
 keep:∀ i h h',tn i h->(∀ b ∈ fp,∀ o,h.get? b=some o->h'.get? b=some o)->tn i h'
 item:∀ (X:Cx),X.prog=P->X.w=w->X.K=K->X.calm=true->∀ (i:Nat) (pins:List (Addr × Obj)) (s:Shared) (σ:St) (H:Hp) (E:Value->Shared->Prop),Inv X pins σ H s->(∀ b ∈ fp,FpOk X pins H b)->tn i s.heap->J.go i H ->
  wpAny (model P w) X.A (pyNext (.ref it)) (fun r s1=>∃ u,r=some u ∧
   wpAny (model P w) X.A (letOwnedTupleGo tg (.ref it) u) (fun _ s2=>∃ x H',Inv X pins σ H' s2∧RelV x u∧J.yld i H x H'∧tn (i + 1) s2.heap∧∀ b ∈ fp,H' b=none) E s1) E s
 done:∀ (X:Cx),X.prog=P->X.w=w->X.K=K->X.calm=true->∀ (i:Nat) (pins:List (Addr × Obj)) (s:Shared) (σ:St) (H:Hp) (E:Value->Shared->Prop),Inv X pins σ H s->(∀ b ∈ fp,FpOk X pins H b)->tn i s.heap->J.stop i H ->
  wpAny (model P w) X.A (pyNext (.ref it)) (fun r s1=>r=none∧Inv X pins σ H s1) E s
 self:∀ (A:Around) (i:Nat) (s:Shared) (Q:Value->Shared->Prop) (E:Value->Shared->Prop),tn i s.heap->Q (.ref it) s->wpAny (model P w) A (pyIter (.ref it)) Q E s
abbrev TI:=St->Hp->(It->Hp->Prop)->Prop
/-- an iterator has come -/
def PIE (X:Cx) (pins:List (Addr × Obj)) (σ:St) (tg:Expr) (R:It->Hp->Prop) (itv:Value) (s2:Shared):Prop :=
 ∃ (it:Addr) (fp:List Addr) (tn:Nat->Heap->Prop) (J:It) (H':Hp),itv=.ref it∧Inv X pins σ H' s2∧Turn X.prog X.w X.K tg J fp it tn∧tn 0 s2.heap∧(∀ b ∈ fp,FpOk X pins H' b)∧R J H'
def PI (X:Cx) (tg iter:Expr) (wi:TI):Prop :=
 ∀ (pins:List (Addr × Obj)) (s:Shared) (σ:St) (H:Hp) (R:It->Hp->Prop),Inv X pins σ H s->wi σ H R ->
  wpAny (model X.prog X.w) X.A (eval iter X.env) (fun v s1=>wpAny (model X.prog X.w) X.A (pyIter v) (PIE X pins σ tg R) X.xe s1) X.xe s
/-- the step ahead of the store is nothing for an iterator that keeps no tuple -/
theorem go_of {M:Model} {A:Around} {E:Value->Shared->Prop} {s:Shared} {tg:Expr} {it:Addr} {u:Value} {o:Obj} {n:String} {vs:Array Value} {Q:Unit->Shared->Prop} (ho:s.heap.get? it=some o) (hc:o.cls=.type n) (hd:o.data=.fields vs)
  (hn:["enumerate","zip","dict_itemiterator","dict_reverseitemiterator","odict_iterator","itertools.zip_longest","itertools.pairwise"].contains n=false) (hQ:Q () s):wpAny M A (letOwnedTupleGo tg (.ref it) u) Q E s:=by
 unfold letOwnedTupleGo
 cases tg <;> first
  | exact wpAny_pure hQ
  | (cases u <;> first
      | exact wpAny_pure hQ
      | (refine wpAny_bind (wpAny_load ho ?_)
         rw[hc,hd]
         show wpAny M A (if (["enumerate","zip","dict_itemiterator","dict_reverseitemiterator","odict_iterator","itertools.zip_longest","itertools.pairwise"].contains n && vs[0]? == some (rawInt _))=true then _ else _) Q E s
         rw[if_neg (by intro h;rw[hn,Bool.false_and] at h;cases h)]
         exact wpAny_pure hQ))
/-- the list at a, as it stands at each turn (a loop may append to it) -/
def Itl (K:PySem.W.Frag) (a:Addr):It :=
 ⟨fun i H=>∃ xs x,SqL K H a xs∧xs[i]?=some x,fun i H x H'=>H'=H∧∀ xs,SqL K H a xs->xs[i]?=some x,fun i H=>∃ xs,SqL K H a xs∧xs.length≤i⟩
def Itt (K:PySem.W.Frag) (a:Addr):It :=
 ⟨fun i H=>∃ xs x,SqT K H a xs∧xs[i]?=some x,fun i H x H'=>H'=H∧∀ xs,SqT K H a xs->xs[i]?=some x,fun i H=>∃ xs,SqT K H a xs∧xs.length≤i⟩
/-- lo, lo + 1, .. (n of them) -/
def Itr (lo:Int) (n:Nat):It:=⟨fun i _=>i < n,fun i H x H'=>H'=H∧x=.int (lo + i),fun i _=>n≤i⟩
theorem turn_list {P:Program} {w:World} {K:PySem.W.Frag} {tg:Expr} (a it:Addr):Turn P w K tg (Itl K a) [it] it (fun i h=>h.IsListIter it a i) where
 mem:=by simp
 obj:=fun i h st b hb=>by
  have e:b=it:=by simpa using hb
  subst e
  obtain⟨o,e,c,d⟩:=st
  exact⟨o,e,fun v z=>by rw[d] at z;cases z⟩
 keep:=fun i h h' st k=>st.at fun o e=>k it (by simp) o e
 item:=by
  intro X hP hw hK hc i pins s σ H E I hf st hg
  subst hP hw hK
  obtain⟨xs,x,hq,hx⟩:=hg
  obtain⟨its,rv,p,hz⟩:=I.list hq
  obtain⟨u,hu,ru⟩:=rv.get hx
  obtain⟨f0,f1,f2,f3,f4,f5⟩:=hf it (by simp)
  refine wpAny_pyNext_list_item st p.isList (x:=u) (by simpa using hu) fun h' st' sb=>?_
  have I1:Inv X pins σ H { s with heap:=h' }:=I.turned (t':=s.toks) (fun b o hb e=>(sb.2 b hb).trans e) f0 f1 f3 f4 f5
  obtain⟨o,e,c,d⟩:=id st'
  exact⟨u,rfl,go_of (s:={ s with heap:=h' }) e c d (by decide) ⟨x,H,I1,ru,⟨rfl,fun ys hy=>by rw[I.list_inj hy hq];exact hx⟩,st',fun b hb=>(hf b hb).1⟩⟩
 done:=by
  intro X hP hw hK hc i pins s σ H E I hf st hg
  subst hP hw hK
  obtain⟨xs,hq,hx⟩:=hg
  obtain⟨its,rv,p,hz⟩:=I.list hq
  obtain⟨f0,f1,f2,f3,f4,f5⟩:=hf it (by simp)
  have hl:=rv.length
  exact wpAny_pyNext_list_end (I.ok.hd hc) st p.isList (by simp;omega) fun h' eb=>⟨rfl,I.turned (t':=s.toks) (fun b o hb e=>eb b o hb e) f0 f1 f3 f4 f5⟩
 self:=fun _ _ _ _ _ st h=>wpAny_pyIter_listiter st h
theorem turn_tuple {P:Program} {w:World} {K:PySem.W.Frag} {tg:Expr} (a it:Addr):Turn P w K tg (Itt K a) [it] it (fun i h=>h.IsTupleIter it a i) where
 mem:=by simp
 obj:=fun i h st b hb=>by
  have e:b=it:=by simpa using hb
  subst e
  obtain⟨o,e,c,d⟩:=st
  exact⟨o,e,fun v z=>by rw[d] at z;cases z⟩
 keep:=fun i h h' st k=>st.at fun o e=>k it (by simp) o e
 item:=by
  intro X hP hw hK hc i pins s σ H E I hf st hg
  subst hP hw hK
  obtain⟨xs,x,hq,hx⟩:=hg
  obtain⟨its,rv,p,hz⟩:=I.tuple hq
  obtain⟨u,hu,ru⟩:=rv.get hx
  obtain⟨f0,f1,f2,f3,f4,f5⟩:=hf it (by simp)
  refine wpAny_pyNext_tuple_item st (show s.heap.IsTuple a its.toArray from p) (x:=u) (by simpa using hu) fun h' st' sb=>?_
  have I1:Inv X pins σ H { s with heap:=h' }:=I.turned (t':=s.toks) (fun b o hb e=>(sb.2 b hb).trans e) f0 f1 f3 f4 f5
  obtain⟨o,e,c,d⟩:=id st'
  exact⟨u,rfl,go_of (s:={ s with heap:=h' }) e c d (by decide) ⟨x,H,I1,ru,⟨rfl,fun ys hy=>by rw[I.tuple_inj hy hq];exact hx⟩,st',fun b hb=>(hf b hb).1⟩⟩
 done:=by
  intro X hP hw hK hc i pins s σ H E I hf st hg
  subst hP hw hK
  obtain⟨xs,hq,hx⟩:=hg
  obtain⟨its,rv,p,hz⟩:=I.tuple hq
  obtain⟨f0,f1,f2,f3,f4,f5⟩:=hf it (by simp)
  have hl:=rv.length
  exact wpAny_pyNext_tuple_end (I.ok.hd hc) st (show s.heap.IsTuple a its.toArray from p) (by simp;omega) fun h' eb=>⟨rfl,I.turned (t':=s.toks) (fun b o hb e=>eb b o hb e) f0 f1 f3 f4 f5⟩
 self:=fun _ _ _ _ _ st h=>wpAny_pyIter_tupleiter st h
theorem turn_range {P:Program} {w:World} {K:PySem.W.Frag} {tg:Expr} (it:Addr) (lo:Int) (n:Nat):Turn P w K tg (Itr lo n) [it] it (fun i h=>IsRangeIter h it (lo + (i:Nat) * 1) ((n:Int) - (i:Nat)) 1) where
 mem:=by simp
 obj:=fun i h st b hb=>by
  have e:b=it:=by simpa using hb
  subst e
  exact⟨_,st,fun v z=>by
   have z':Data.fields _=Data.cell v:=z
   cases z'⟩
 keep:=fun i h h' st k=>k it (by simp) _ st
 item:=by
  intro X hP hw hK hc i pins s σ H E I hf st hg
  subst hP hw hK
  obtain⟨f0,f1,f2,f3,f4,f5⟩:=hf it (by simp)
  have W:=Walks.range (prog:=X.prog) (w:=X.w) (I.ok.hd hc) it lo 1 n
  refine W.item i s _ _ hg st fun v h' tk hv st' kk=>?_
  obtain⟨t,rfl⟩:=hv
  have I1:Inv X pins σ H { s with heap:=h',toks:=tk }:=I.turned (fun b o hb e=>kk b o (by simpa using hb) e) f0 f1 f3 f4 f5
  refine⟨_,rfl,go_of (s:={ s with heap:=h',toks:=tk }) (n:="range_iterator") st' rfl rfl (by decide) ⟨.int (lo + i),H,I1,⟨t,?_⟩,⟨rfl,rfl⟩,st',fun b hb=>(hf b hb).1⟩⟩
  rw[Int.mul_one]
 done:=by
  intro X hP hw hK hc i pins s σ H E I hf st hg
  subst hP hw hK
  obtain⟨f0,f1,f2,f3,f4,f5⟩:=hf it (by simp)
  exact wpAny_pyNext_range_end (I.ok.hd hc) st (by have:n≤i:=hg;omega) fun h' eb=>⟨rfl,I.turned (t':=s.toks) (fun b o hb e=>eb b o hb e) f0 f1 f3 f4 f5⟩
 self:=fun _ _ _ _ _ st h=>wpAny_pyIter_rangeiter st h
end L2
namespace L2
open PySem PySem.Spec PyProof.Rows
section
variable {X:Cx} {tg:Expr}
def iList (K:PySem.W.Frag) (tl:TE):TI:=fun σ H R=>tl σ H fun x H1=>∃ a,x=.ref a∧(∃ xs,SqL K H1 a xs)∧R (Itl K a) H1
def iTup (K:PySem.W.Frag) (tl:TE):TI:=fun σ H R=>tl σ H fun x H1=>∃ a,x=.ref a∧(∃ xs,SqT K H1 a xs)∧R (Itt K a) H1
theorem pi_list {l:Expr} {tl:TE} (hl:PE X l tl):PI X tg l (iList X.K tl):=by
 intro pins s σ H R I h
 refine thn (hl pins s σ H _ I h) fun v s1 ⟨x,H1,I1,r1,q1⟩=>?_
 obtain⟨a,e,⟨xs,hq⟩,q⟩:=q1
 subst e
 cases r1
 obtain⟨its,rv,p,hz⟩:=I1.list hq
 refine wpAny_pyIter_list p.isList ?_
 refine⟨s1.heap.objs.size,[s1.heap.objs.size],_,_,H1,rfl,I1.kept (t':=s1.toks) fun b o e=>Heap.get?_push_of_some _ e,turn_list a _,⟨_,Heap.get?_push_size _ rfl,rfl,rfl⟩,fun b hb=>?_,q⟩
 have e:b=s1.heap.objs.size:=by simpa using hb
 subst e
 exact I1.fpOk (Nat.le_refl _) (I1.hok.fresh (Nat.le_refl _))
theorem pi_tup {l:Expr} {tl:TE} (hl:PE X l tl):PI X tg l (iTup X.K tl):=by
 intro pins s σ H R I h
 refine thn (hl pins s σ H _ I h) fun v s1 ⟨x,H1,I1,r1,q1⟩=>?_
 obtain⟨a,e,⟨xs,hq⟩,q⟩:=q1
 subst e
 cases r1
 obtain⟨its,rv,p,hz⟩:=I1.tuple hq
 refine wpAny_pyIter_tuple (show s1.heap.IsTuple a its.toArray from p) ?_
 refine⟨s1.heap.objs.size,[s1.heap.objs.size],_,_,H1,rfl,I1.kept (t':=s1.toks) fun b o e=>Heap.get?_push_of_some _ e,turn_tuple a _,⟨_,Heap.get?_push_size _ rfl,rfl,rfl⟩,fun b hb=>?_,q⟩
 have e:b=s1.heap.objs.size:=by simpa using hb
 subst e
 exact I1.fpOk (Nat.le_refl _) (I1.hok.fresh (Nat.le_refl _))
/-- a range object just made, walked -/
theorem range_it {pins:List (Addr × Obj)} {σ:St} {H:Hp} {s:Shared} {R:It->Hp->Prop} {E:Value->Shared->Prop} {lo hi:Int} {t u v:Tok} {tk:Nat} (I:Inv X pins σ H s) (h1:-(2 ^ 62)≤lo) (h2:lo < 2 ^ 62) (h3:-(2 ^ 62)≤hi) (h4:hi < 2 ^ 62)
  (q:R (Itr lo (hi - lo).toNat) H):wpAny (model X.prog X.w) X.A (pyIter (.ref s.heap.objs.size)) (PIE X pins σ tg R) E { s with heap:=s.heap.push { cls:=.type "range",data:=.fields #[.int lo t,.int hi u,.int 1 v] },toks:=tk }:=by
 refine wpAny_pyIter_range (IsRange.new ..) (small_one h1 h2 h3 h4) ?_
 have I1:Inv X pins σ H { s with heap:=s.heap.push { cls:=.type "range",data:=.fields #[.int lo t,.int hi u,.int 1 v] },toks:=tk }:=I.kept fun b o e=>Heap.get?_push_of_some _ e
 refine⟨(s.heap.push { cls:=.type "range",data:=.fields #[.int lo t,.int hi u,.int 1 v] }).objs.size,[(s.heap.push { cls:=.type "range",data:=.fields #[.int lo t,.int hi u,.int 1 v] }).objs.size],_,_,H,rfl,
  I1.kept (t':=tk) fun b o e=>Heap.get?_push_of_some _ e,turn_range _ lo (hi - lo).toNat,?_,fun b hb=>?_,q⟩
 ·have e1:lo + ((0:Nat):Int) * 1=lo:=by simp
  have e2:(((hi - lo).toNat:Nat):Int) - ((0:Nat):Int)=Builtin.Range.rangeSize lo hi 1:=by rw[rangeSize_one];split <;> omega
  show IsRangeIter _ _ (lo + ((0:Nat):Int) * 1) ((((hi - lo).toNat:Nat):Int) - ((0:Nat):Int)) 1
  rw[e1,e2]
  exact Heap.get?_push_size _ rfl
 ·have e:b=(s.heap.push { cls:=.type "range",data:=.fields #[.int lo t,.int hi u,.int 1 v] }).objs.size:=by simpa using hb
  subst e
  exact I1.fpOk (Nat.le_refl _) (I1.hok.fresh (Nat.le_refl _))
def iRng1 (ta:TA):TI:=fun σ H R=>ta σ H fun vs H1=>∃ j:Int,vs=[.int j]∧-(2 ^ 62)≤j∧j < 2 ^ 62∧R (Itr 0 j.toNat) H1
def iRng2 (ta:TA):TI:=fun σ H R=>ta σ H fun vs H1=>∃ i j:Int,vs=[.int i,.int j]∧(-(2 ^ 62)≤i∧i < 2 ^ 62∧-(2 ^ 62)≤j∧j < 2 ^ 62)∧R (Itr i (j - i).toNat) H1
theorem pi_range1 {a:Expr} {ta:TA} {p pos:Pos} (hg:Gl X "range") (hm:X.mg "range"=none) (ha:PA X [a] ta) (hs:starEach [a] X.env=[(false,eval a X.env)]:=by rfl):PI X tg (.Call (.Name "range" p) [a] [] pos) (iRng1 ta):=by
 intro pins s σ H R I h
 refine Call_ (ld_blt I hg hm boot_range (PyProof.Rows.callWith_type1 (thn (ha pos pins s σ H _ I h) fun us s1 ⟨vs,H1,I1,r1,q1⟩=>?_) hs rfl))
 obtain⟨j,e,q1,q2,q⟩:=q1
 subst e
 cases r1 with
 | cons r rr =>
  cases rr
  obtain⟨t,rfl⟩:=r
  exact call_range_1 (range_it I1 (by omega) (by omega) q1 q2 (by simpa using q))
theorem pi_range2 {a b:Expr} {ta:TA} {p pos:Pos} (hg:Gl X "range") (hm:X.mg "range"=none) (ha:PA X [a,b] ta) (hs:starEach [a,b] X.env=[(false,eval a X.env),(false,eval b X.env)]:=by rfl) (hs2:starEach [b] X.env=[(false,eval b X.env)]:=by rfl) :
  PI X tg (.Call (.Name "range" p) [a,b] [] pos) (iRng2 ta):=by
 intro pins s σ H R I h
 refine Call_ (ld_blt I hg hm boot_range (PyProof.Rows.callWith_type1 (thn (ha pos pins s σ H _ I h) fun us s1 ⟨vs,H1,I1,r1,q1⟩=>?_) (by rw[hs,hs2]) (by rw[hs2];rfl)))
 obtain⟨i,j,e,⟨q1,q2,q3,q4⟩,q⟩:=q1
 subst e
 cases r1 with
 | cons r rr =>
  cases rr with
  | cons r' rr =>
   cases rr
   obtain⟨t,rfl⟩:=r
   obtain⟨t',rfl⟩:=r'
   exact call_range_2 (range_it I1 q1 q2 q3 q4 q)
/-- W: the invariant by the turn and a measure; N: what the body is to reach -/
def tFor (wi:TI) (g:TG) (tb:TS):TS:=fun D σ H=>wi σ H fun J H1=>∃ W:Nat->Nat->St->Hp->Prop,(∃ m,W 0 m σ H1)∧∀ i m σ H,W i m σ H ->
 (J.stop i H∧D.nx σ H)∨(J.go i H∧∃ N:St->Hp->Prop,(∀ σ' H',N σ' H'->∃ m',m' < m∧W (i + 1) m' σ' H')∧∀ x H',J.yld i H x H'->g x σ H' fun σ2 H2=>tb { D with nx:=N,ct:=N,bk:=D.nx } σ2 H2)
/-- the records at fp as they stand -/
def pinsAt (fp:List Addr) (h:Heap):List (Addr × Obj):=fp.filterMap fun b=>(h.get? b).map fun o=>(b,o)
theorem mem_pinsAt {fp:List Addr} {h:Heap} {b:Addr} {o:Obj} (hb:b ∈ fp) (e:h.get? b=some o):(b,o) ∈ pinsAt fp h:=List.mem_filterMap.mpr ⟨b,hb,by rw[e];rfl⟩
theorem of_pinsAt {fp:List Addr} {h:Heap} {p:Addr × Obj} (hp:p ∈ pinsAt fp h):p.1 ∈ fp∧h.get? p.1=some p.2:=by
 obtain⟨b,hb,e⟩:=List.mem_filterMap.mp hp
 cases q:h.get? b with
 | none=>rw[q] at e;cases e
 | some o =>
  rw[q] at e
  have e':(b,o)=p:=Option.some.inj e
  subst e'
  exact⟨hb,q⟩
theorem Inv.pinned {pins:List (Addr × Obj)} {σ:St} {H:Hp} {s:Shared} {fp:List Addr} (I:Inv X pins σ H s) (hf:∀ b ∈ fp,FpOk X pins H b) (ho:∀ b ∈ fp,∃ o,s.heap.get? b=some o∧∀ v,o.data≠.cell v):Inv X (pins++pinsAt fp s.heap) σ H s :=
 I.pins_of fun p hp=>(List.mem_append.mp hp).elim (fun z=>I.pin p (List.mem_append_right _ z)) fun z=>by
  obtain⟨hb,e⟩:=of_pinsAt z
  obtain⟨f0,f1,f2,_⟩:=hf p.1 hb
  obtain⟨o,e',d⟩:=ho p.1 hb
  rw[e] at e';cases e'
  exact⟨e,f0,f1,f2,d⟩
theorem Inv.unpinned {pins pl:List (Addr × Obj)} {σ:St} {H:Hp} {s:Shared} (I:Inv X (pins++pl) σ H s):Inv X pins σ H s:=I.pins_of fun p hp=>I.pin p (List.mem_append_right _ (List.mem_append_left _ hp))
theorem ps_for {iter:Expr} {body:List Stmt} {wi:TI} {g:TG} {tb:TS} {pos:Pos} (hp:PassesOwn (model X.prog X.w) X.A X.env X.xe) (hc:X.calm=true) (hi:PI X tg iter wi) (hg:PG X tg g) (hb:PSs X body tb)
  (hs:∀ x,foldedSetIterable iter X.env x=pure x:=by intro _;rfl):PS X (.For tg iter body [] pos) (tFor wi g tb):=by
 intro pins s σ H D I h
 refine wpAny_For (thn (hi pins s σ H _ I h) fun v s1 h1=>thn h1 fun itv s2 h2=>?_) hs
 obtain⟨it,fp,tn,J,H2,e,I2,T,st2,f2,W,⟨m0,w0⟩,turn⟩:=h2
 subst e
  -- what stays true of the iterator's objects through the loop
 have stat:∀ {H':Hp},(∀ b ∈ fp,H' b=none)->∀ b ∈ fp,FpOk X pins H' b:=fun hn b hb=>⟨hn b hb,(f2 b hb).2⟩
 refine codeAny_forLoop_any (fun n s'=>∃ i σ' H',Inv X pins σ' H' s'∧tn i s'.heap∧(∀ b ∈ fp,H' b=none)∧W i n σ' H') ?_ m0 ⟨0,σ,H2,I2,st2,fun b hb=>(f2 b hb).1,w0⟩
 rintro n s3 ⟨i,σ3,H3,I3,st3,fr3,w3⟩
 rcases turn i n σ3 H3 w3 with ⟨stop,qn⟩ | ⟨go,N,hN,step⟩
 ·refine wpAny_passesOwn hp (thn (T.done X rfl rfl rfl hc i pins s3 σ3 H3 X.xe I3 (stat fr3) st3 stop) fun r s4 ⟨hr,I4⟩=>?_)
  subst hr
  exact wpAny_execs_nil ⟨σ3,H3,I4,qn⟩
 ·refine wpAny_passesOwn hp (thn (T.item X rfl rfl rfl hc i pins s3 σ3 H3 X.xe I3 (stat fr3) st3 go) fun r s4 ⟨u,hr,h4⟩=>?_)
  subst hr
  refine wpAny_passesOwn hp (thn h4 fun _ s5 ⟨x,H5,I5,r5,y5,st5,fr5⟩=>?_)
  have I5':=I5.pinned (stat fr5) (T.obj _ _ st5)
  refine wpAny_passesOwn hp (thn (hg _ s5 σ3 H5 x u _ I5' r5 (step x H5 y5)) fun _ s6 ⟨σ6,H6,I6,q6⟩=>?_)
  refine wpAny_passesOwn hp (thn (hb _ s6 σ6 H6 _ I6 q6) fun f s7 q7=>?_)
  have again:∀ {σ7:St} {H7:Hp},Inv X (pins++pinsAt fp s5.heap) σ7 H7 s7->N σ7 H7->∃ m,m < n∧∃ i σ' H',Inv X pins σ' H' s7∧tn i s7.heap∧(∀ b ∈ fp,H' b=none)∧W i m σ' H':=fun {σ7 H7} I7 n7=>by
   obtain⟨m',hm,w7⟩:=hN σ7 H7 n7
   refine⟨m',hm,i + 1,σ7,H7,I7.unpinned,T.keep _ _ _ st5 fun b hb o e=>(I7.pin (b,o) (List.mem_append_right _ (List.mem_append_right _ (mem_pinsAt hb e)))).1,fun b hb=>?_,w7⟩
   obtain⟨o,e,d⟩:=T.obj _ _ st5 b hb
   exact (I7.pin (b,o) (List.mem_append_right _ (List.mem_append_right _ (mem_pinsAt hb e)))).2.1
  cases f with
  | next=>obtain⟨σ7,H7,I7,n7⟩:=q7;exact again I7 n7
  | cont=>obtain⟨σ7,H7,I7,n7⟩:=q7;exact again I7 n7
  | brk=>obtain⟨σ7,H7,I7,q7⟩:=q7;exact⟨σ7,H7,I7.unpinned,q7⟩
  | ret v=>obtain⟨x7,σ7,H7,I7,r7,q7⟩:=q7;exact⟨x7,σ7,H7,I7.unpinned,r7,q7⟩
end
theorem for_tup {K:PySem.W.Frag} {a:Addr} {xs:List V} {g:TG} {tb:TS} {D:Ends} {σ:St} {H:Hp} (Pv:Nat->St->Hp->Prop) (h0:Pv 0 σ H) (hl:∀ i σ H,i≤xs.length->Pv i σ H->SqT K H a xs)
  (hs:∀ i x σ H,xs[i]?=some x->Pv i σ H->g x σ H fun σ2 H2=>tb { D with nx:=Pv (i + 1),ct:=Pv (i + 1),bk:=D.nx } σ2 H2) (hd:∀ σ H,Pv xs.length σ H->D.nx σ H) :
  ∃ W:Nat->Nat->St->Hp->Prop,(∃ m,W 0 m σ H)∧∀ i m σ H,W i m σ H ->
   ((Itt K a).stop i H∧D.nx σ H)∨((Itt K a).go i H∧∃ N:St->Hp->Prop,(∀ σ' H',N σ' H'->∃ m',m' < m∧W (i + 1) m' σ' H')∧∀ x H',(Itt K a).yld i H x H'->g x σ H' fun σ2 H2=>tb { D with nx:=N,ct:=N,bk:=D.nx } σ2 H2):=by
 refine⟨fun i m σ H=>m=xs.length - i∧i≤xs.length∧Pv i σ H,⟨xs.length,by simp,Nat.zero_le _,h0⟩,?_⟩
 rintro i m σ H ⟨rfl,hi,p⟩
 have q:=hl i σ H hi p
 by_cases hlt:i < xs.length
 ·refine .inr ⟨⟨xs,xs[i],q,by simp [hlt]⟩,Pv (i + 1),fun σ' H' p'=>⟨xs.length - (i + 1),by omega,rfl,hlt,p'⟩,fun x H' y=>?_⟩
  obtain⟨e,y⟩:=y
  subst e
  exact hs i x σ _ (y xs q) p
 ·have e:i=xs.length:=by omega
  subst e
  exact .inl ⟨⟨xs,q,Nat.le_refl _⟩,hd σ H p⟩
theorem for_range {lo:Int} {n:Nat} {g:TG} {tb:TS} {D:Ends} {σ:St} {H:Hp} (Pv:Nat->St->Hp->Prop) (h0:Pv 0 σ H)
  (hs:∀ i σ H,i < n->Pv i σ H->g (.int (lo + i)) σ H fun σ2 H2=>tb { D with nx:=Pv (i + 1),ct:=Pv (i + 1),bk:=D.nx } σ2 H2) (hd:∀ σ H,Pv n σ H->D.nx σ H) :
  ∃ W:Nat->Nat->St->Hp->Prop,(∃ m,W 0 m σ H)∧∀ i m σ H,W i m σ H ->
   ((Itr lo n).stop i H∧D.nx σ H)∨((Itr lo n).go i H∧∃ N:St->Hp->Prop,(∀ σ' H',N σ' H'->∃ m',m' < m∧W (i + 1) m' σ' H')∧∀ x H',(Itr lo n).yld i H x H'->g x σ H' fun σ2 H2=>tb { D with nx:=N,ct:=N,bk:=D.nx } σ2 H2):=by
 refine⟨fun i m σ H=>m=n - i∧i≤n∧Pv i σ H,⟨n,by simp,Nat.zero_le _,h0⟩,?_⟩
 rintro i m σ H ⟨rfl,hi,p⟩
 by_cases hlt:i < n
 ·refine .inr ⟨hlt,Pv (i + 1),fun σ' H' p'=>⟨n - (i + 1),by omega,rfl,hlt,p'⟩,fun x H' y=>?_⟩
  obtain⟨e,y⟩:=y
  subst e y
  exact hs i σ _ hlt p
 ·have e:i=n:=by omega
  subst e
  exact .inl ⟨Nat.le_refl _,hd σ H p⟩
end L2
namespace L2
open PySem PySem.Spec PyProof.Rows
abbrev R2:=V->V->Hp->VK->Prop
/-- a two-place operation on values: f is binaryOp op, inplaceOp op or compareOp op -/
def OpR (X:Cx) (f:Value->Value->Sem Value) (r:R2):Prop :=
 ∀ (pins:List (Addr × Obj)) (s:Shared) (σ:St) (H:Hp) (x y:V) (v u:Value) (Q:VK),Inv X pins σ H s->RelV x v->RelV y u->r x y H Q ->
  wpAny (model X.prog X.w) X.A (f v u) (EP X pins σ Q) X.xe s
/-- a one-place operation -/
def UnR (X:Cx) (f:Value->Sem Value) (r:V->Hp->VK->Prop):Prop :=
 ∀ (pins:List (Addr × Obj)) (s:Shared) (σ:St) (H:Hp) (x:V) (v:Value) (Q:VK),Inv X pins σ H s->RelV x v->r x H Q ->
  wpAny (model X.prog X.w) X.A (f v) (EP X pins σ Q) X.xe s
/-- a call of a value that is known (a builtin, a type) with values -/
def CallR (X:Cx) (f:Value) (r:List V->Hp->VK->Prop):Prop :=
 ∀ (pins:List (Addr × Obj)) (s:Shared) (σ:St) (H:Hp) (xs:List V) (us:List Value) (Q:VK),Inv X pins σ H s->Vals xs us->r xs H Q ->
  wpAny (model X.prog X.w) X.A (call f us) (EP X pins σ Q) X.xe s
def tOp (r:R2) (ta tb:TE):TE:=fun σ H Q=>ta σ H fun x H1=>tb σ H1 fun y H2=>r x y H2 Q
def tUn (r:V->Hp->VK->Prop) (ta:TE):TE:=fun σ H Q=>ta σ H fun x H1=>r x H1 Q
/-- ints in, under C, and a value out -/
def rI (C:Int->Int->Prop) (g:Int->Int->V):R2:=fun x y H Q=>∃ i j,x=.int i∧y=.int j∧C i j∧Q (g i j) H
def rI0 (g:Int->Int->V):R2:=fun x y H Q=>∃ i j,x=.int i∧y=.int j∧Q (g i j) H
def rU (g:Int->V):V->Hp->VK->Prop:=fun x H Q=>∃ i,x=.int i∧Q (g i) H
section
variable {X:Cx} {a b c:Expr} {ta tb tc:TE} {pos:Pos}
theorem binT (ha:PE X a ta) (hb:PE X b tb) {pins:List (Addr × Obj)} {s:Shared} {σ:St} {H:Hp} {R:V->V->Hp->Prop} (I:Inv X pins σ H s)
  (h:ta σ H fun x H1=>tb σ H1 fun y H2=>R x y H2) {Q:Value->Shared->Prop} {f:Value->Value->Sem Value}
  (hf:∀ v u s2 x y H2,Inv X pins σ H2 s2->RelV x v->RelV y u->R x y H2->wpAny (model X.prog X.w) X.A (f v u) Q X.xe s2) :
  wpAny (model X.prog X.w) X.A (eval a X.env) (fun v s₁=>wpAny (model X.prog X.w) X.A (eval b X.env) (fun u s₂=>wpAny (model X.prog X.w) X.A (f v u) Q X.xe s₂) X.xe s₁) X.xe s:=by
 refine thn (ha pins s σ H _ I h) fun v s1 ⟨x,H1,I1,r1,q1⟩=>?_
 refine thn (hb pins s1 σ H1 _ I1 q1) fun u s2 ⟨y,H2,I2,r2,q2⟩=>?_
 exact hf v u s2 x y H2 I2 r1 r2 q2
theorem pe_op {op:Operator} {r:R2} (ho:OpR X (binaryOp op) r) (ha:PE X a ta) (hb:PE X b tb):PE X (.BinOp a op b pos) (tOp r ta tb):=by
 intro pins s σ H Q I h
 exact wpAny_BinOp (binT ha hb I h fun v u s2 x y H2 I2 rx ry q=>ho pins s2 σ H2 x y v u Q I2 rx ry q)
theorem pe_un {op:UnaryOp} {r:V->Hp->VK->Prop} (ho:UnR X (unaryOp op) r) (ha:PE X a ta):PE X (.UnaryOp op a pos) (tUn r ta):=by
 intro pins s σ H Q I h
 exact UnaryOp_ (thn (ha pins s σ H _ I h) fun v s1 ⟨x,H1,I1,r1,q1⟩=>ho pins s1 σ H1 x v Q I1 r1 q1)
theorem opI {f:Value->Value->Sem Value} {C:Int->Int->Prop} {g:Int->Int->Int}
  (rule:∀ (i j:Int) (t u:Tok) (s:Shared) (Q:Value->Shared->Prop) (E:Value->Shared->Prop),C i j->Q (.int (g i j) s.toks) { s with toks:=s.toks + 1 }->wpAny (model X.prog X.w) X.A (f (.int i t) (.int j u)) Q E s) :
  OpR X f (rI C fun i j=>.int (g i j)):=by
 intro pins s σ H x y v u Q I rx ry h
 obtain⟨i,j,rfl,rfl,hc,q⟩:=h
 obtain⟨t,rfl⟩:=rx
 obtain⟨t',rfl⟩:=ry
 exact rule i j t t' s _ _ hc ⟨.int (g i j),H,I.tok _,⟨_,rfl⟩,q⟩
theorem opI0 {f:Value->Value->Sem Value} {g:Int->Int->Int}
  (rule:∀ (i j:Int) (t u:Tok) (s:Shared) (Q:Value->Shared->Prop) (E:Value->Shared->Prop),Q (.int (g i j) s.toks) { s with toks:=s.toks + 1 }->wpAny (model X.prog X.w) X.A (f (.int i t) (.int j u)) Q E s) :
  OpR X f (rI0 fun i j=>.int (g i j)):=by
 intro pins s σ H x y v u Q I rx ry h
 obtain⟨i,j,rfl,rfl,q⟩:=h
 obtain⟨t,rfl⟩:=rx
 obtain⟨t',rfl⟩:=ry
 exact rule i j t t' s _ _ ⟨.int (g i j),H,I.tok _,⟨_,rfl⟩,q⟩
theorem opB0 {f:Value->Value->Sem Value} {g:Int->Int->Bool}
  (rule:∀ (i j:Int) (t u:Tok) (s:Shared) (Q:Value->Shared->Prop) (E:Value->Shared->Prop),Q (.bool (g i j)) s->wpAny (model X.prog X.w) X.A (f (.int i t) (.int j u)) Q E s) :
  OpR X f (rI0 fun i j=>.bl (g i j)):=by
 intro pins s σ H x y v u Q I rx ry h
 obtain⟨i,j,rfl,rfl,q⟩:=h
 obtain⟨t,rfl⟩:=rx
 obtain⟨t',rfl⟩:=ry
 exact rule i j t t' s _ _ ⟨.bl (g i j),H,I,rfl,q⟩
def CDiv (i j:Int):Prop:=0 < j∧j < 1073741824
def CPow (i j:Int):Prop:=0≤j∧j≤1000000∧i.natAbs < 2 ^ 64
def CMul (i j:Int):Prop:=(-(2 ^ 64) < i∧i < 2 ^ 64)∨(-(2 ^ 64) < j∧j < 2 ^ 64)
theorem CMul.ok {i j:Int} (h:CMul i j):IntMulOk i j:=by
 rcases h with ⟨h1,h2⟩ | ⟨h1,h2⟩
 ·exact .of_left (intBits_le_64 h1 h2)
 ·exact .of_right (intBits_le_64 h1 h2)
theorem op_add:OpR X (binaryOp .Add) (rI0 fun i j=>.int (i + j)):=opI0 fun _ _ _ _ _ _ _ q=>add_int q
theorem op_sub:OpR X (binaryOp .Sub) (rI0 fun i j=>.int (i - j)):=opI0 fun _ _ _ _ _ _ _ q=>sub_int q
theorem op_mul:OpR X (binaryOp .Mult) (rI CMul fun i j=>.int (i * j)):=opI fun _ _ _ _ _ _ _ hc q=>mul_int q hc.ok
/-- // by a positive divisor -/
theorem op_fdiv:OpR X (binaryOp .FloorDiv) (rI CDiv fun i j=>.int (i / j)):=opI fun i j _ _ _ _ _ hc q=>by
 have h1:(0:Int) < j:=hc.1
 have h2:j < 1073741824:=hc.2
 exact floordiv_int (by omega) (by rw[Int.fdiv_eq_ediv_of_nonneg i (by omega)];exact q) (.inl (PyProof.noPylong_small (by omega)))
/-- % by a positive divisor of any size -/
theorem op_mod:OpR X (binaryOp .Mod) (rI (fun _ j=>0 < j) fun i j=>.int (i % j)):=opI fun i j _ _ _ _ _ hc q=>by
 have h1:(0:Int) < j:=hc
 exact mod_int' (by omega) (by rw[Int.fmod_eq_emod_of_nonneg i (by omega)];exact q)
theorem op_pow:OpR X (binaryOp .Pow) (rI CPow fun i j=>.int (i ^ j.toNat)):=opI fun _ _ _ _ _ _ _ hc q=>pow_int_small hc.1 hc.2.1 hc.2.2 q
theorem unI {f:Value->Sem Value} {g:Int->Int}
  (rule:∀ (i:Int) (t:Tok) (s:Shared) (Q:Value->Shared->Prop) (E:Value->Shared->Prop),Q (.int (g i) s.toks) { s with toks:=s.toks + 1 }->wpAny (model X.prog X.w) X.A (f (.int i t)) Q E s) :
  UnR X f (rU fun i=>.int (g i)):=by
 intro pins s σ H x v Q I rx h
 obtain⟨i,rfl,q⟩:=h
 obtain⟨t,rfl⟩:=rx
 exact rule i t s _ _ ⟨.int (g i),H,I.tok _,⟨_,rfl⟩,q⟩
theorem un_neg:UnR X (unaryOp .USub) (rU fun i=>.int (-i)):=unI fun _ _ _ _ _ q=>neg_int q
end
/-- the scalars that == tells apart as data does -/
def scal:V->V->Bool
 | .non,.non=>true | .non,.int _=>true | .int _,.non=>true | .non,.bl _=>true | .bl _,.non=>true | .non,.str _=>true | .str _,.non=>true
 | .int _,.int _=>true | .bl _,.bl _=>true | .str _,.str _=>true | .byt _,.byt _=>true
 | .int _,.str _=>true | .str _,.int _=>true | .bl _,.str _=>true | .str _,.bl _=>true
 | _,_=>false
def rEq:R2:=fun x y H Q=>scal x y=true∧Q (.bl (decide (x=y))) H
def rNe:R2:=fun x y H Q=>scal x y=true∧Q (.bl (!decide (x=y))) H
theorem dec_int {i j:Int}:decide (V.int i=V.int j)=(i == j):=by
 rw[Bool.eq_iff_iff]
 simp
theorem dec_bl {i j:Bool}:decide (V.bl i=V.bl j)=(i == j):=by
 rw[Bool.eq_iff_iff]
 simp
theorem dec_str {i j:Str}:decide (V.str i=V.str j)=(i == j):=by
 rw[Bool.eq_iff_iff]
 simp
theorem dec_byt {i j:Array UInt8}:decide (V.byt i=V.byt j)=(i.toList == j.toList):=by
 rw[Bool.eq_iff_iff]
 cases i
 cases j
 simp
section
variable {X:Cx} {a b c:Expr} {ta tb tc:TE} {pos:Pos}
theorem fin_bl {pins:List (Addr × Obj)} {σ:St} {H:Hp} {s:Shared} {Q:VK} {k k':Bool} (I:Inv X pins σ H s) (q:Q (.bl k) H) (e:k=k'):EP X pins σ Q (.bool k') s:=by
 subst e
 exact⟨.bl k,H,I,rfl,q⟩
theorem op_eq:OpR X (compareOp .Eq) rEq:=by
 intro pins s σ H x y v u Q I rx ry h
 obtain⟨hs,q⟩:=h
 cases x with
 | non =>
  cases rx
  cases y with
  | non=>cases ry;exact PySem.EqNone.eq_none_none (fin_bl I q (by simp))
  | bl j=>cases ry;exact PySem.EqNone.eq_none_bool (fin_bl I q (by simp))
  | int j=>obtain⟨t',rfl⟩:=ry;exact PySem.EqNone.eq_none_int (fin_bl I q (by simp))
  | str j=>obtain⟨t',rfl⟩:=ry;exact PySem.EqNone.eq_none_str (fin_bl I q (by simp))
  | _=>exact absurd (show false=true from hs) Bool.false_ne_true
 | bl i =>
  cases rx
  cases y with
  | non=>cases ry;exact PySem.EqNone.eq_bool_none (fin_bl I q (by simp))
  | bl j=>cases ry;exact eq_bool (fin_bl I q dec_bl)
  | str j=>obtain⟨t',rfl⟩:=ry;exact PySem.EqMixed.eq_bool_str (fin_bl I q (by simp))
  | _=>exact absurd (show false=true from hs) Bool.false_ne_true
 | int i =>
  obtain⟨t,rfl⟩:=rx
  cases y with
  | non=>cases ry;exact PySem.EqNone.eq_int_none (fin_bl I q (by simp))
  | int j=>obtain⟨t',rfl⟩:=ry;exact eq_int (fin_bl I q dec_int)
  | str j=>obtain⟨t',rfl⟩:=ry;exact PySem.EqMixed.eq_int_str (fin_bl I q (by simp))
  | _=>exact absurd (show false=true from hs) Bool.false_ne_true
 | str i =>
  obtain⟨t,rfl⟩:=rx
  cases y with
  | non=>cases ry;exact PySem.EqNone.eq_str_none (fin_bl I q (by simp))
  | bl j=>cases ry;exact PySem.EqMixed.eq_str_bool (fin_bl I q (by simp))
  | int j=>obtain⟨t',rfl⟩:=ry;exact PySem.EqMixed.eq_str_int (fin_bl I q (by simp))
  | str j=>obtain⟨t',rfl⟩:=ry;exact eq_str (fin_bl I q dec_str)
  | _=>exact absurd (show false=true from hs) Bool.false_ne_true
 | byt i =>
  obtain⟨t,rfl⟩:=rx
  cases y with
  | byt j=>obtain⟨t',rfl⟩:=ry;exact PySem.W.eq_bytes (fin_bl I q dec_byt)
  | _=>exact absurd (show false=true from hs) Bool.false_ne_true
 | _=>cases y <;> exact absurd (show false=true from hs) Bool.false_ne_true
theorem op_ne:OpR X (compareOp .NotEq) rNe:=by
 intro pins s σ H x y v u Q I rx ry h
 obtain⟨hs,q⟩:=h
 cases x with
 | non =>
  cases rx
  cases y with
  | non=>cases ry;exact PySem.EqNone.ne_none_none (fin_bl I q (by simp))
  | bl j=>cases ry;exact PySem.EqNone.ne_none_bool (fin_bl I q (by simp))
  | int j=>obtain⟨t',rfl⟩:=ry;exact PySem.EqNone.ne_none_int (fin_bl I q (by simp))
  | str j=>obtain⟨t',rfl⟩:=ry;exact PySem.EqNone.ne_none_str (fin_bl I q (by simp))
  | _=>exact absurd (show false=true from hs) Bool.false_ne_true
 | bl i =>
  cases rx
  cases y with
  | non=>cases ry;exact PySem.EqNone.ne_bool_none (fin_bl I q (by simp))
  | bl j=>cases ry;exact ne_bool (fin_bl I q (congrArg not dec_bl))
  | str j=>obtain⟨t',rfl⟩:=ry;exact PySem.EqMixed.ne_bool_str (fin_bl I q (by simp))
  | _=>exact absurd (show false=true from hs) Bool.false_ne_true
 | int i =>
  obtain⟨t,rfl⟩:=rx
  cases y with
  | non=>cases ry;exact PySem.EqNone.ne_int_none (fin_bl I q (by simp))
  | int j=>obtain⟨t',rfl⟩:=ry;exact ne_int (fin_bl I q (congrArg not dec_int))
  | str j=>obtain⟨t',rfl⟩:=ry;exact PySem.EqMixed.ne_int_str (fin_bl I q (by simp))
  | _=>exact absurd (show false=true from hs) Bool.false_ne_true
 | str i =>
  obtain⟨t,rfl⟩:=rx
  cases y with
  | non=>cases ry;exact PySem.EqNone.ne_str_none (fin_bl I q (by simp))
  | bl j=>cases ry;exact PySem.EqMixed.ne_str_bool (fin_bl I q (by simp))
  | int j=>obtain⟨t',rfl⟩:=ry;exact PySem.EqMixed.ne_str_int (fin_bl I q (by simp))
  | str j=>obtain⟨t',rfl⟩:=ry;exact ne_str (fin_bl I q (congrArg not dec_str))
  | _=>exact absurd (show false=true from hs) Bool.false_ne_true
 | byt i =>
  obtain⟨t,rfl⟩:=rx
  cases y with
  | byt j=>obtain⟨t',rfl⟩:=ry;exact PySem.W.ne_bytes (fin_bl I q (congrArg not dec_byt))
  | _=>exact absurd (show false=true from hs) Bool.false_ne_true
 | _=>cases y <;> exact absurd (show false=true from hs) Bool.false_ne_true
theorem op_lt:OpR X (compareOp .Lt) (rI0 fun i j=>.bl (decide (i < j))):=opB0 fun _ _ _ _ _ _ _ q=>lt_int q
theorem op_gt:OpR X (compareOp .Gt) (rI0 fun i j=>.bl (decide (j < i))):=opB0 fun _ _ _ _ _ _ _ q=>gt_int q
/-- is None, is not None: the right side a value none -/
theorem op_isN:OpR X (compareOp .Is) (fun x y H Q=>y=.non∧Q (.bl (decide (x=.non))) H):=by
 intro pins s σ H x y v u Q I rx ry h
 obtain⟨rfl,q⟩:=h
 cases ry
 refine is_none_gen (fin_bl I q ?_)
 cases x <;> first
  | (cases rx;rfl)
  | (obtain⟨t,rfl⟩:=rx;rfl)
theorem op_notN:OpR X (compareOp .IsNot) (fun x y H Q=>y=.non∧Q (.bl (!decide (x=.non))) H):=by
 intro pins s σ H x y v u Q I rx ry h
 obtain⟨rfl,q⟩:=h
 cases ry
 refine isnot_none_gen (fin_bl I q ?_)
 cases x <;> first
  | (cases rx;rfl)
  | (obtain⟨t,rfl⟩:=rx;rfl)
theorem nomark (b:Expr) {op:CmpOp} (h:op≠.In:=by decide) (h2:op≠.NotIn:=by decide):behindInMarks op b=false:=by
 have e1:(op == CmpOp.In)=false:=by cases op <;> first | rfl | exact absurd rfl h
 have e2:(op == CmpOp.NotIn)=false:=by cases op <;> first | rfl | exact absurd rfl h2
 cases b <;> simp [behindInMarks,e1,e2]
/-- a comparison as a value; hm: nomark b, or (for in, not in) by with_unfolding_all rfl -/
theorem pe_cmpR {op:CmpOp} {r:R2} (ho:OpR X (compareOp op) r) (ha:PE X a ta) (hb:PE X b tb) (hm:behindInMarks op b=false):PE X (.Compare a [op] [b] pos) (tOp r ta tb):=by
 intro pins s σ H Q I h
 exact wpAny_Compare1 (binT ha hb I h fun v u s2 x y H2 I2 rx ry q=>ho pins s2 σ H2 x y v u Q I2 rx ry q) hm
/-- a reading of a value as a test -/
def tTest (t:TE):TT:=fun σ H Q=>t σ H fun x H'=>∃ k,x=.bl k∧Q k H'
theorem pt_cmpR {op:CmpOp} {r:R2} (ho:OpR X (compareOp op) r) (ha:PE X a ta) (hb:PE X b tb) (hm:behindInMarks op b=false):PT X (.Compare a [op] [b] pos) (tTest (tOp r ta tb)):=by
 intro pins s σ H Q I h
 refine wpAny_isTrue_Compare1 (thn (ha pins s σ H _ I h) fun v s1 ⟨x,H1,I1,r1,q1⟩=>thn (hb pins s1 σ H1 _ I1 q1) fun u s2 ⟨y,H2,I2,r2,q2⟩ =>
  thn (ho pins s2 σ H2 x y v u _ I2 r1 r2 q2) fun c s3 ⟨z,H3,I3,r3,k,e,q3⟩=>?_) hm
 subst e
 cases r3
 exact wpAny_truthy_bool ⟨H3,I3,q3⟩
theorem line63:(sizeLine:Nat) < 2 ^ 63:=by rw[sizeLine_eq];decide
theorem vals1 {x:V} {us:List Value} (r:Vals [x] us):∃ u,us=[u]∧RelV x u:=by
 cases r with
 | cons r1 r2=>cases r2;exact⟨_,rfl,r1⟩
theorem vals2 {x y:V} {us:List Value} (r:Vals [x,y] us):∃ u w',us=[u,w']∧RelV x u∧RelV y w':=by
 cases r with
 | cons r1 r2 =>
  cases r2 with
  | cons r3 r4=>cases r4;exact⟨_,_,rfl,r1,r3⟩
theorem call_max2 (hc:X.calm=true):CallR X (.builtin "max") (fun xs H Q=>∃ i j,xs=[.int i,.int j]∧Q (.int (if j > i then j else i)) H):=by
 intro pins s σ H xs us Q I r h
 obtain⟨i,j,rfl,q⟩:=h
 obtain⟨u,w',rfl,⟨t,rfl⟩,⟨t',rfl⟩⟩:=vals2 r
 refine max_two_ints (I.ok.hd hc) fun h' tk k=>⟨_,H,I.kept k,?_,q⟩
 by_cases hj:j > i
 ·rw[if_pos hj,if_pos hj];exact⟨_,rfl⟩
 ·rw[if_neg hj,if_neg hj];exact⟨_,rfl⟩
theorem call_min2 (hc:X.calm=true):CallR X (.builtin "min") (fun xs H Q=>∃ i j,xs=[.int i,.int j]∧Q (.int (if j < i then j else i)) H):=by
 intro pins s σ H xs us Q I r h
 obtain⟨i,j,rfl,q⟩:=h
 obtain⟨u,w',rfl,⟨t,rfl⟩,⟨t',rfl⟩⟩:=vals2 r
 refine min_two_ints (I.ok.hd hc) fun h' tk k=>⟨_,H,I.kept k,?_,q⟩
 by_cases hj:j < i
 ·rw[if_pos hj,if_pos hj];exact⟨_,rfl⟩
 ·rw[if_neg hj,if_neg hj];exact⟨_,rfl⟩
theorem call_int1:CallR X (.type "int") (fun xs H Q=>(∃ i,xs=[.int i]∧Q (.int i) H)∨∃ k,xs=[.bl k]∧Q (.int (if k then 1 else 0)) H):=by
 intro pins s σ H xs us Q I r h
 rcases h with ⟨i,rfl,q⟩ | ⟨k,rfl,q⟩
 ·obtain⟨u,rfl,t,rfl⟩:=vals1 r
  exact call_int_int ⟨.int i,H,I,⟨_,rfl⟩,q⟩
 ·obtain⟨u,rfl,r1⟩:=vals1 r
  cases r1
  exact call_int_bool ⟨.int (if k then 1 else 0),H,I.tok _,⟨_,rfl⟩,q⟩
end
end L2
namespace L2
open PySem PySem.Spec PyProof.Rows
structure ObjM (h:Heap) (x dx C:Addr) (mA:Str->Option Value):Prop where
 obj:h.get? x=some (PySem.W.instObj C dx)
 ns:h.Ns1 dx mA
 ne:dx≠x
theorem lookIn_ns {h:Heap} {dx:Addr} {mA:Str->Option Value} (n:h.Ns1 dx mA):∃ od,h.get? dx=some od∧∀ name,PySem.W.lookIn name od=some (mA name):=by
 obtain⟨o,es,ep,ho,hd,hk,_,hm⟩:=n
 refine⟨o,ho,fun name=>?_⟩
 have e:=hm name
 unfold nsFind findBy at e
 rw[← Array.find?_toList] at e
 unfold PySem.W.lookIn
 rw[hd]
 dsimp only
 split
 ·rename_i y q
  rw[q] at e
  exact congrArg some e
 ·rename_i q
  rw[q] at e
  have a:es.toList.any (·.refKey)=false:=by
   rw[List.any_eq_false]
   intro y hy
   obtain⟨z,t,hkey⟩:=hk y (Array.mem_toList_iff.mp hy)
   simp [DictEntry.refKey,hkey]
  have a':¬ es.toList.any (·.refKey)=true:=by rw[a];exact Bool.false_ne_true
  rw[if_neg a']
  exact congrArg some e
theorem ObjM.look {h:Heap} {x dx C:Addr} {mA:Str->Option Value} (I:ObjM h x dx C mA):∃ od,PySem.W.InstAt h x (PySem.W.instObj C dx) C (some od)∧∀ name,PySem.W.lookIn name od=some (mA name) :=
 let ⟨od,ho,hl⟩:=lookIn_ns I.ns
 ⟨od,⟨I.obj,rfl,rfl,ho⟩,hl⟩
section
variable {prog:Program} {w:World} {A:Around} {E:Value->Shared->Prop} {s:Shared} {K:PySem.W.Frag} {x dx C f:Addr} {mA:Str->Option Value} {name:Str} {v:Value}
end
section
variable {P:Program} {w:World} {H H':Hp} {h h':Heap} {a C dx:Addr} {fs fs':List (Str × V)}
theorem ins_get (hok:HOk P w H h) (e:H a=some (.ins C dx fs)):∃ mA,ObjM h a dx C mA∧(∀ f,RelO (fs.lookup f) (mA f))∧PySem.Within mA (fs.map (·.1))∧fs.length≤1000∧H dx=some (.own a):=by
 obtain⟨d,z,ne,ob,mA,n,r,q⟩:=(show ObjOk P w H h a (.ins C dx fs) from hok a _ e)
 exact⟨mA,⟨ob,n,ne⟩,r,q,z,d⟩
end
structure Cls (K:PySem.W.Frag) (C:Addr):Prop where
 pg:PySem.W.plainGet K C Str.empty=true
 hd:PySem.W.hasDictIn K C=true
 po:PySem.W.plainOver K C=true
 sa:PySem.W.findIn K (.ref C) "__setattr__"=some (some (.builtin "object.__setattr__"))
theorem Cls.get {K:PySem.W.Frag} {C:Addr} (c:Cls K C) (f:Str):PySem.W.plainGet K C f=true:=c.pg
/-- a constant of the class -/
structure Con (K:PySem.W.Frag) (C:Addr) (f:Str) (v:V) (u:Value):Prop where
 at_:PySem.W.findIn K (.ref C) f=some (some u)
 rel:RelV v u
 get:PySem.W.specialIn K u "__get__"=some none
 cp:PySem.W.copiedNames.contains f=false
section
variable {X:Cx} {pins:List (Addr × Obj)} {σ:St} {H:Hp} {s:Shared} {a C dx:Addr} {fs:List (Str × V)} {f:Str} {v:V} {A:Around} {E:Value->Shared->Prop}
end
section
variable {X:Cx} {o e value:Expr} {f:Str} {pos pos' tpos:Pos} {ta tv:TE}
end
section
variable {X:Cx} {pins:List (Addr × Obj)} {σ:St} {H:Hp} {s:Shared} {A:Around} {E:Value->Shared->Prop} {Q:Value->Shared->Prop} {c:Value} {b:Bool}
/-- the type of a value, as the fragment's deciders take it; for an instance its class -/
inductive TyOf (K:PySem.W.Frag) (H:Hp):V->Value->Prop where
 | non:TyOf K H .non (.type "NoneType")
 | bl (x:Bool):TyOf K H (.bl x) (.type "bool")
 | int (i:Int):TyOf K H (.int i) (.type "int")
 | str (x:Str):TyOf K H (.str x) (.type "str")
 | flt (x:UInt64):TyOf K H (.flt x) (.type "float")
 | lst {a:Addr} {xs:List V} (e:H a=some (.lst xs)):TyOf K H (.ref a) (.type "list")
 | frz {a:Addr} {o:Obj} {xs:List V} (e:H a=some (.frz o (.lst xs))):TyOf K H (.ref a) (.type "list")
 | tup {a:Addr} {xs:List V} (e:H a=some (.tup xs)):TyOf K H (.ref a) (.type "tuple")
 | dK {a:Addr} {kvs:List (Key × V)} (e:H a=some (.dK kvs)):TyOf K H (.ref a) (.type "dict")
 | dT {a:Addr} {kvs:List (List Key × V)} (e:H a=some (.dT kvs)):TyOf K H (.ref a) (.type "dict")
 | ins {a C dx : Addr} {fs : List (Str × V)} (e : H a = some (.ins C dx fs)) (cl : Cls K C) (ha : PySem.W.findIn K (.ref C) "__class__" = some (some (.builtin "object.__class__")))
     (hn:PySem.W.specialIn K (.builtin "object.__class__") "__get__"=some (some (.builtin "getset_descriptor.__get__"))) (htk:PySem.W.takesIn K (.builtin "object.__class__")=some true)
     (hm:PySem.W.mroIn K C (.type "object")=some true):TyOf K H (.ref a) (.ref C)
/-- isinstance(x, c) for one class c, a built-in or an own one: kitOne's answer -/
theorem isinst_ok {x:V} {u t:Value} (I:Inv X pins σ H s) (rx:RelV x u) (ty:TyOf X.K H x t) (e:PySem.W.kitOne X.K t c=some b) (h:∀ tk,Q (.bool b) { s with toks:=tk }) :
  wpAny (model X.prog X.w) A (call (.builtin "isinstance") [u,c]) Q E s:=by
 cases ty with
 | non=>cases (show u=Value.none from rx);exact PySem.W.kia_one PySem.W.kitx_none I.kIn True.intro e (fun z=>nomatch z) h
 | bl y=>cases (show u=Value.bool y from rx);exact PySem.W.kia_one PySem.W.kitx_bool I.kIn True.intro e (fun z=>nomatch z) h
 | int i=>obtain⟨t,q⟩:=(show ∃ t,u=Value.int i t from rx);cases q;exact PySem.W.kia_one PySem.W.kitx_int I.kIn True.intro e (fun z=>nomatch z) h
 | str y=>obtain⟨t,q⟩:=(show ∃ t,u=Value.str y t from rx);cases q;exact PySem.W.kia_one PySem.W.kitx_str I.kIn True.intro e (fun z=>nomatch z) h
 | flt y=>obtain⟨t,q⟩:=(show ∃ t,u=Value.float y t from rx);cases q;exact PySem.W.kia_one PySem.W.kitx_float I.kIn True.intro e (fun z=>nomatch z) h
 | @lst a xs ea =>
  cases (show u=Value.ref a from rx)
  obtain⟨_,_,n,_,h1⟩:=(show ObjOk X.prog X.w H s.heap a (.lst xs) from I.hok a _ ea)
  exact PySem.W.kia_one PySem.W.kitx_list I.kIn ⟨_,h1,rfl⟩ e (fun z=>nomatch z) h
 | @frz a ob xs ea =>
  cases (show u=Value.ref a from rx)
  obtain⟨_,_,_,n,_,h1⟩:=(show ObjOk X.prog X.w H s.heap a (.frz ob (.lst xs)) from I.hok a _ ea)
  exact PySem.W.kia_one PySem.W.kitx_list I.kIn ⟨_,h1,rfl⟩ e (fun z=>nomatch z) h
 | @tup a xs ea =>
  cases (show u=Value.ref a from rx)
  obtain⟨_,_,_,p⟩:=(show ObjOk X.prog X.w H s.heap a (.tup xs) from I.hok a _ ea)
  obtain⟨o,h1,h2,_⟩:=p
  exact PySem.W.kia_one PySem.W.kitx_tuple I.kIn ⟨o,h1,h2⟩ e (fun z=>nomatch z) h
 | @dK a kvs ea =>
  cases (show u=Value.ref a from rx)
  obtain⟨_,_,vs,_,p⟩:=(show ObjOk X.prog X.w H s.heap a (.dK kvs) from I.hok a _ ea)
  obtain⟨o,es,ep,h1,h2,_⟩:=p
  exact PySem.W.kia_one PySem.W.kitx_dict I.kIn ⟨o,h1,h2.1⟩ e (fun z=>nomatch z) h
 | @dT a kvs ea =>
  cases (show u=Value.ref a from rx)
  obtain⟨_,_,xs,_,o,es,ep,h1,h2,_⟩:=(show ObjOk X.prog X.w H s.heap a (.dT kvs) from I.hok a _ ea)
  exact PySem.W.kia_one PySem.W.kitx_dict I.kIn ⟨o,h1,h2.1⟩ e (fun z=>nomatch z) h
 | @ins a C dx fs ea cl ha hn htk hm =>
  cases (show u=Value.ref a from rx)
  obtain⟨mA,O,_⟩:=ins_get I.hok ea
  obtain⟨od,J,_⟩:=O.look
  exact PySem.W.kia_one (PySem.W.kitx_own (cl.get _) cl.hd ha hn htk hm) I.kIn J e (fun z=>nomatch z) h
end
end L2
namespace L2
open PySem PySem.Spec PyProof.Rows
structure Room (k:Nat) (A:Around):Prop where
 hd:A.handled=none
 dp:A.depth + 3 * k + 5 < recursionLimit
 un:A.units + 16 * k + 200 < cLine
 gd:A.guards=some []
theorem Room.mono {j k:Nat} {A:Around} (r:Room k A) (h:j≤k):Room j A:=⟨r.hd,by have:=r.dp;omega,by have:=r.un;omega,r.gd⟩
theorem Room.deeper {k:Nat} {A:Around} (r:Room (k + 1) A) (env:Env):Room k (A.deeper env) :=
 ⟨r.hd,by have:=r.dp;show A.depth + 1 + 3 * k + 5 < _;omega,by have:=r.un;show A.units + 3 + 16 * k + 200 < _;omega,r.gd⟩
theorem Room.depth {k:Nat} {A:Around} (r:Room k A):A.depth < recursionLimit:=by have:=r.dp;omega
theorem Room.units {k:Nat} {A:Around} (r:Room k A):A.units + 64 < cLine:=by have:=r.un;omega
theorem Room.units0 {k:Nat} {A:Around} (r:Room k A):A.units < cLine:=by have:=r.un;omega
def tNil:TA:=fun _ H Q=>Q [] H
def tCons (ta:TE) (tr:TA):TA:=fun σ H Q=>ta σ H fun x H1=>tr σ H1 fun xs H2=>Q (x::xs) H2
section
variable {X:Cx} {e:Expr} {es:List Expr} {te:TE} {t:TA} {pos:Pos}
theorem pa_nil:PA X [] tNil:=fun _ _ _ _ H Q I h=>Calls.spliced_nil ⟨[],H,I,.nil,h⟩
theorem pa_cons (ha:PE X e te) (hr:PA X es t) (hs:starEach (e::es) X.env=(false,eval e X.env)::starEach es X.env:=by rfl):PA X (e::es) (tCons te t):=by
 intro pos pins s σ H Q I h
 rw[hs]
 show wpAny _ _ (spliced ((false,eval e X.env)::backTo pos (starEach es X.env))) _ _ s
 refine Calls.spliced_cons (thn (ha pins s σ H _ I h) fun u s1 ⟨x,H1,I1,r1,q1⟩=>?_)
 exact thn (hr pos pins s1 σ H1 _ I1 q1) fun us s2 ⟨xs,H2,I2,r2,q2⟩=>⟨x::xs,H2,I2,.cons r1 r2,q2⟩
/-- a tuple, a list of written items -/
def tTup (t:TA):TE:=fun σ H Q=>t σ H fun xs H1=>xs.length≤sizeLine∧∀ p,H1 p=none->Q (.ref p) (upd H1 p (.tup xs))
def tLst (t:TA):TE:=fun σ H Q=>t σ H fun xs H1=>xs.length≤sizeLine∧∀ p,H1 p=none->Q (.ref p) (upd H1 p (.lst xs))
theorem pe_tup {x1} (h:PA X es t):PE X (.Tuple es x1 pos) (tTup t):=by
 intro pins s σ H Q I hq
 refine wpAny_Tuple_spliced (thn (h pos pins s σ H _ I hq) fun us s1 ⟨xs,H1,I1,r,z,q⟩=>⟨by rw[← r.length];exact z,?_⟩)
 have hf:H1 s1.heap.objs.size=none:=I1.hok.fresh (Nat.le_refl _)
 refine⟨.ref s1.heap.objs.size,upd H1 s1.heap.objs.size (.tup xs),I1.laid (t':=s1.toks) (fun b u e=>Heap.get?_push_of_some _ e) (Nat.le_refl _) ?_,rfl,q _ hf⟩
 exact⟨z,us,r,⟨_,Heap.get?_push_size _ rfl,rfl,⟨_,rfl⟩,rfl⟩⟩
theorem pe_lst (h:PA X es t):PE X (.List es pos) (tLst t):=by
 intro pins s σ H Q I hq
 refine wpAny_List_spliced (thn (h pos pins s σ H _ I hq) fun us s1 ⟨xs,H1,I1,r,z,q⟩=>⟨by rw[← r.length];exact z,?_⟩)
 have hf:H1 s1.heap.objs.size=none:=I1.hok.fresh (Nat.le_refl _)
 refine⟨.ref s1.heap.objs.size,upd H1 s1.heap.objs.size (.lst xs),I1.laid (t':=s1.toks) (fun b u e=>Heap.get?_push_of_some _ e) (Nat.le_refl _) ?_,rfl,q _ hf⟩
 exact⟨z,us,0,r,Heap.get?_push_size _ rfl⟩
end
/-- a def's promise: the bound arguments in the parameters' order, the heap, the wanted end, the wanted exception -/
abbrev Sp:=List V->Hp->VK->XK->Prop
/-- how an exception lies behind a call (file 08 gives it): the callers' frames, abstract heap and state ahead of the call, the wish, the exception, the state -/
abbrev CXT:=List Env->Hp->Shared->XK->Value->Shared->Prop
/-- the state at a call -/
structure Env0 (P:Program) (w:World) (K:PySem.W.Frag) (mg:Str->Option Value) (base:Heap) (A:Around) (outer:List Env) (s:Shared) (H:Hp):Prop where
 frames:A.frames=some outer
 mod:Mod K mg base
 bs:∀ b o,base.get? b=some o->s.heap.get? b=some o∧H b=none
 bsz:base.objs.size≤s.heap.objs.size
 funs:s.heap.FunFrames base outer
 frf:∀ b ∈ frs outer,H b=none
 hok:HOk P w H s.heap
 bare:AllBare s.gens
/-- a call's end -/
def CE (outer:List Env) (P:Program) (w:World) (H:Hp) (s:Shared) (Q:VK) (u:Value) (s':Shared):Prop :=
 ∃ v H',s'.os=s.os∧AllBare s'.gens∧Un (frs outer) [] H H' s.heap s'.heap∧HOk P w H' s'.heap∧RelV v u∧Q v H'
def CR (CX:CXT) (outer:List Env) (P:Program) (w:World) (H:Hp) (s:Shared) (Q:VK) (E:XK) (r:Result) (s':Shared):Prop :=
 match r with
 | .ok (.ret u)=>CE outer P w H s Q u s'
 | .ok _=>False
 | .error e=>CX outer H s E e s'
structure FnOk (P:Program) (w:World) (K:PySem.W.Frag) (mg:Str->Option Value) (base:Heap) (CX:CXT) (k:Nat) (f:Addr) (fd:FuncData) (ps:List Str) (sp:Sp):Prop where
 len:∀ vs H Q E,sp vs H Q E->vs.length=ps.length
 run:∀ (A:Around) (outer:List Env) (s:Shared) (H:Hp) (args:Args) (us:List Value) (vs:List V) (Q:VK) (E:XK),Room k A->Env0 P w K mg base A outer s H->BindsTo s fd args (ps.zip us)->Vals vs us->sp vs H Q E ->
  codeAny (model P w) A (.call (.ref f) args) (CR CX outer P w H s Q E) s
theorem FnOk.mono {P:Program} {w:World} {K:PySem.W.Frag} {mg:Str->Option Value} {base:Heap} {CX:CXT} {j k:Nat} {f:Addr} {fd:FuncData} {ps:List Str} {sp:Sp} (F:FnOk P w K mg base CX j f fd ps sp) (h:j≤k) :
  FnOk P w K mg base CX k f fd ps sp:=⟨F.len,fun A outer s H args us vs Q E hr=>F.run A outer s H args us vs Q E (hr.mono h)⟩
/-- a weaker promise -/
theorem FnOk.imp {P:Program} {w:World} {K:PySem.W.Frag} {mg:Str->Option Value} {base:Heap} {CX:CXT} {k:Nat} {f:Addr} {fd:FuncData} {ps:List Str} {sp sp':Sp} (F:FnOk P w K mg base CX k f fd ps sp)
  (h:∀ vs H Q E,sp' vs H Q E->sp vs H Q E):FnOk P w K mg base CX k f fd ps sp' :=
 ⟨fun vs H Q E q=>F.len vs H Q E (h _ _ _ _ q),fun A outer s H args us vs Q E hr he hb hv hs=>F.run A outer s H args us vs Q E hr he hb hv (h _ _ _ _ hs)⟩
section
variable {X:Cx} {pins:List (Addr × Obj)} {σ:St} {H:Hp} {s s':Shared}
/-- from a body: what a callee wants -/
theorem Inv.env0 (I:Inv X pins σ H s):Env0 X.prog X.w X.K X.mg X.base X.A X.stack s H :=
 ⟨I.ok.frames,I.ok.mod,I.bs,Nat.le_trans I.ok.bsz I.sz,I.stack,I.stkFree,I.hok,I.bare⟩
/-- behind a call -/
theorem Inv.after {Q:VK} {u:Value} (I:Inv X pins σ H s) (h:CE X.stack X.prog X.w H s Q u s'):EP X pins σ Q u s':=by
 obtain⟨v,H',os,bare,un,hok,r,q⟩:=h
 obtain⟨hh,g,d,t,os'⟩:=s'
 obtain rfl:os'=s.os:=os
 exact⟨v,H',I.call (h':=hh) (g':=g) (d':=d) (t':=t) (ch:=[]) un hok bare (fun b z=>absurd z (by simp)),r,q⟩
end
/-- f(..): the written arguments, then the defaults dvs; E: what is wanted of an exception -/
def tCall (sp:Sp) (dvs:List V) (E:XK) (t:TA):TE:=fun σ H Q=>t σ H fun vs H1=>sp (vs++dvs) H1 Q E
/-- how the parameters are bound: us the positional arguments, kw the keywords' values by name, ds the defaults that fill up -/
def Binds (K:PySem.W.Frag) (fd:FuncData) (ps:List Str) (ds:List Value):Prop :=
 ∀ (s:Shared) (us:List Value),K.In s.heap->(us++ds).length=ps.length->BindsTo s fd ⟨us,[]⟩ (ps.zip (us++ds))
/-- every parameter is given -/
theorem Binds.all {K:PySem.W.Frag} {fd:FuncData} {ps:List Str} (h:∀ us:List Value,us.length=ps.length->bindArgs fd ⟨us,[]⟩=pure (ps.zip us)):Binds K fd ps []:=fun s us _ hl=>by
 rw[List.append_nil] at hl ⊢
 exact .of_eq (h us hl)
/-- an exception of a callee reaches what this body wants of exceptions -/
def Passes (CX:CXT) (X:Cx) (E:XK):Prop:=∀ (pins:List (Addr × Obj)) (σ:St) (H:Hp) (s:Shared) (e:Value) (s':Shared),Inv X pins σ H s->CX X.stack H s E e s'->X.xe e s'
section
variable {X:Cx} {CX:CXT} {k:Nat} {f C:Addr} {fd:FuncData} {ps:List Str} {sp:Sp} {dvs:List V} {ds:List Value} {E:XK} {x m:Str} {p pos apos:Pos} {e o:Expr} {es:List Expr} {ta:TE} {t:TA}
/-- the callee runs -/
theorem run_fn {pins:List (Addr × Obj)} {σ:St} {H:Hp} {s:Shared} {Q:VK} {us:List Value} {vs:List V} (F:FnOk X.prog X.w X.K X.mg X.base CX k f fd ps sp) (hr:Room k X.A) (hb:Binds X.K fd ps ds) (hd:Vals dvs ds) (hx:Passes CX X E)
  (I:Inv X pins σ H s) (r:Vals vs us) (h:sp (vs++dvs) H Q E):wpAny (model X.prog X.w) X.A (call (.ref f) us) (EP X pins σ Q) X.xe s:=by
 have r2:Vals (vs++dvs) (us++ds):=r.append hd
 have hl:(us++ds).length=ps.length:=by rw[← r2.length];exact F.len _ _ _ _ h
 refine wpAny_call (codeAny_mono (F.run X.A X.stack s H ⟨us,[]⟩ (us++ds) (vs++dvs) Q E hr I.env0 (hb s us I.kIn hl) r2 h) fun r s' hq=>?_)
 cases r with
 | error e=>exact hx pins σ H s e s' I hq
 | ok fl =>
  cases fl with
  | ret u=>exact I.after hq
  | next=>exact False.elim hq
  | brk=>exact False.elim hq
  | cont=>exact False.elim hq
theorem pe_call (F:FnOk X.prog X.w X.K X.mg X.base CX k f fd ps sp) (hr:Room k X.A) (hg:Gl X x) (hm:X.mg x=some (.ref f)) (hk:PySem.W.keepIn X.K (.ref f)=true) (hb:Binds X.K fd ps ds) (hd:Vals dvs ds) (hx:Passes CX X E)
  (ha:PA X (e::es) t) (hdb:(x == ("__debug__":Str))=false:=by decide) (he:starEach (e::es) X.env=(false,eval e X.env)::starEach es X.env:=by rfl) (hpl:(backTo pos (starEach es X.env)).any (·.1)=false:=by rfl) :
  PE X (.Call (.Name x p) (e::es) [] pos) (tCall sp dvs E t):=by
 intro pins s σ H Q I h
 refine wpAny_Call_Name_kw (ld_glob I hg hm ?_ hdb)
 refine PySem.W.callWith_K (h₀:=X.base) I.ok.mod.kin hk (thn (ha pos pins s σ H _ I h) fun us s1 ⟨vs,H1,I1,r,q⟩=>⟨I1.kIn,?_⟩) he hpl
 exact run_fn F hr hb hd hx I1 r q
end
section
variable {X:Cx} {CX:CXT} {k:Nat} {f C:Addr} {fd:FuncData} {ps ks:List Str} {sp:Sp} {E:XK} {x m:Str} {p pos apos kpos:Pos} {e o:Expr} {es:List Expr} {kws:List Keyword} {te ta:TE} {t tk:TA} {nm:Option Str}
variable {g:List Value->List Value->List Value} {gV:List V->List V->List V}
end
/-- names: the parameters first -/
structure FnScope (N P:List Str) (sc:Scope):Prop where
 kind:sc.kind=.function
 co:sc.isCoroutine=false
 gen:sc.isGenerator=false
 nd:N.Nodup
 pre:N.take P.length=P
 par:∀ x ∈ P,sc.names.lookup x=some .local∨sc.names.lookup x=some .cell
 nofree:∀ y ∈ sc.names,y.2≠.free
theorem bindL_out {kindOf:Str->Option NameKind} {x:Str}:∀ {binds:List (Str × Value)} {m:Str->Option Value},(∀ v,(x,v) ∉ binds)->bindL kindOf binds m x=m x
 | [],_,_=>rfl
 | (n,v)::r,m,h=>by
  unfold bindL
  rw[bindL_out fun w hw=>h w (List.mem_cons_of_mem _ hw)]
  split
  ·have:x≠n:=by rintro rfl;exact h v List.mem_cons_self
   simp [this]
  ·rfl
theorem bindC_out {kindOf:Str->Option NameKind} {x:Str}:∀ {binds:List (Str × Value)} {m:Str->Option Value},(∀ v,(x,v) ∉ binds)->bindC kindOf binds m x=m x
 | [],_,_=>rfl
 | (n,v)::r,m,h=>by
  unfold bindC
  rw[bindC_out fun w hw=>h w (List.mem_cons_of_mem _ hw)]
  split
  ·rfl
  ·have:x≠n:=by rintro rfl;exact h v List.mem_cons_self
   simp [this]
theorem bindL_get {kindOf:Str->Option NameKind} {x:Str} {v:Value}:∀ {P:List Str} {vs:List Value} {i:Nat} {m:Str->Option Value},P.Nodup->P[i]?=some x->vs[i]?=some v->kindOf x=some .local ->
  bindL kindOf (P.zip vs) m x=some v
 | [],_,_,_,_,h,_,_=>by simp at h
 | _::_,[],_,_,_,_,h,_=>by simp at h
 | p::P,w::vs,0,m,nd,h1,h2,hk=>by
  simp at h1 h2;subst h1;subst h2
  show bindL kindOf ((p,w)::P.zip vs) m p=_
  unfold bindL
  rw[bindL_out fun v hv=>(List.nodup_cons.mp nd).1 (List.of_mem_zip hv).1,if_pos hk]
  simp
 | p::P,w::vs,i + 1,m,nd,h1,h2,hk=>by
  show bindL kindOf ((p,w)::P.zip vs) m x=_
  unfold bindL
  exact bindL_get (i:=i) (List.nodup_cons.mp nd).2 (by simpa using h1) (by simpa using h2) hk
theorem bindC_get {kindOf:Str->Option NameKind} {x:Str} {v:Value}:∀ {P:List Str} {vs:List Value} {i:Nat} {m:Str->Option Value},P.Nodup->P[i]?=some x->vs[i]?=some v->kindOf x≠some .local ->
  bindC kindOf (P.zip vs) m x=some v
 | [],_,_,_,_,h,_,_=>by simp at h
 | _::_,[],_,_,_,_,h,_=>by simp at h
 | p::P,w::vs,0,m,nd,h1,h2,hk=>by
  simp at h1 h2;subst h1;subst h2
  show bindC kindOf ((p,w)::P.zip vs) m p=_
  unfold bindC
  rw[bindC_out fun v hv=>(List.nodup_cons.mp nd).1 (List.of_mem_zip hv).1,if_neg hk]
  simp
 | p::P,w::vs,i + 1,m,nd,h1,h2,hk=>by
  show bindC kindOf ((p,w)::P.zip vs) m x=_
  unfold bindC
  exact bindC_get (i:=i) (List.nodup_cons.mp nd).2 (by simpa using h1) (by simpa using h2) hk
/-- the names' values at the entry -/
def start (N:List Str) (vs:List V):St:=vs.map some++List.replicate (N.length - vs.length) none
/-- the context of a def's body, at its entry; an exception leaves the frame, then lies as CX says -/
def cxOf (CX:CXT) (P:Program) (w:World) (K:PySem.W.Frag) (mg:Str->Option Value) (base:Heap) (N:List Str) (qual:Str) (scope:Scope) (f:Addr) (cd:Value) (A:Around) (outer:List Env) (s:Shared) (H:Hp) (E:XK):Cx where
 prog:=P
 w:=w
 K:=K
 mg:=mg
 base:=base
 A:=A.deeper (envOfC qual scope s.heap.objs.size f cd)
 N:=N
 s₀:=s
 H₀:=H
 env:=envOfC qual scope s.heap.objs.size f cd
 outer:=outer
 stack:=envOfC qual scope s.heap.objs.size f cd::outer
 ex:=[]
 calm:=true
 fn:=fun _=>true
 pn:=[]
 xe:=fun e s'=>wpAny (model P w) (A.deeper (envOfC qual scope s.heap.objs.size f cd)) (leaving (envOfC qual scope s.heap.objs.size f cd) e) (fun _ s''=>CX outer H s E e s'') (fun e' s''=>CX outer H s E e' s'') s'
theorem cell_has {sc:Scope} {n:Nat} {x:Str} (h:sc.names.lookup x=some .cell):∃ c,(cellsFrom n sc.names []).lookup x=some c:=by
 have q:=PySem.W.cellsFrom_some sc.names n [] (.inl h)
 exact Option.isSome_iff_exists.mp q
theorem inv_start {CX:CXT} {P:Program} {w:World} {K:PySem.W.Frag} {mg:Str->Option Value} {base:Heap} {N ps:List Str} {qual:Str} {scope:Scope} {f:Addr} {cd:Value} {A:Around} {outer:List Env} {s s1:Shared} {H:Hp} {E:XK} {us:List Value} {vs:List V}
  (S:FnScope N ps scope) (hd:A.handled=none) (e0:Env0 P w K mg base A outer s H) (hl:vs.length=ps.length) (r:Vals vs us)
  (x:InCallC s s.heap.objs.size (bindL (envOfC qual scope s.heap.objs.size f cd).kindOf (ps.zip us) fun _=>none) (cellsFrom (s.heap.objs.size + 1) scope.names []) (bindC (envOfC qual scope s.heap.objs.size f cd).kindOf (ps.zip us) fun _=>none) s1) :
  Inv (cxOf CX P w K mg base N qual scope f cd A outer s H E) [] (start N vs) H s1:=by
 have hpl:ps.length≤N.length:=by have:=congrArg List.length S.pre;rw[List.length_take] at this;omega
 obtain⟨h1,tk,rfl,hk⟩:=x.done
 have noA:∀ b:Addr,b ∉ (cxOf CX P w K mg base N qual scope f cd A outer s H E).ex:=fun b z=>absurd (show b ∈ ([]:List Addr) from z) (by simp)
 refine⟨⟨e0.mod,S.kind,rfl,rfl,Nat.le_refl _,fun y z c h1 h2=>?_,fun y hy=>?_,fun y c _ h=>?_,fun _=>hd,Around.frames_deeper e0.frames,.inr ⟨rfl,rfl⟩,fun b z=>absurd z (noA b),e0.bs,e0.bsz,fun b _ _=>noA b,fun b z=>absurd z (noA b),e0.funs,e0.frf⟩,
  rfl,e0.bare,Un.kept hk,⟨_,x.toInCall.ns,fun i y v h1 h2 h3=>?_⟩,fun y c h=>⟨_,x.cell y c h⟩,e0.hok.fresh (Nat.le_refl _),fun y c h=>?_,fun p hp=>absurd (show p ∈ ([]:List (Addr × Obj)) from hp) (by simp),e0.hok.kept hk,?_⟩
 ·exact name_of_addr x.apart (PySem.mem_of_lookup h1) (PySem.mem_of_lookup h2)
 ·have hy:scope.names.lookup y=some .cell∨scope.names.lookup y=some .free:=hy
  rcases hy with hy | hy
  ·exact cell_has hy
  ·exact absurd rfl (S.nofree _ (PySem.mem_of_lookup hy))
 ·exact Nat.le_of_lt (x.above y c (PySem.mem_of_lookup h))
 ·have hi:i < vs.length:=by
   unfold start at h2
   by_cases hi:i < vs.length
   ·exact hi
   ·rw[List.getElem?_append_right (by simpa using hi)] at h2
    rw[List.getElem?_replicate] at h2
    split at h2 <;> cases h2
  have ha:vs[i]?=some v:=by
   unfold start at h2
   rw[List.getElem?_append_left (by simpa using hi),List.getElem?_map] at h2
   cases e:vs[i]? with
   | none=>rw[e] at h2;cases h2
   | some a=>rw[e] at h2;cases h2;rfl
  obtain⟨u,hu,rv⟩:=r.get ha
  have hp:ps[i]?=some y:=by
   rw[← S.pre,List.getElem?_take_of_lt (by omega)];exact h1
  have ndP:ps.Nodup:=by rw[← S.pre];exact S.nd.sublist (List.take_sublist _ _)
  refine⟨u,rv,?_⟩
  rcases S.par y (List.mem_of_getElem? hp) with k | k
  ·exact .inl ⟨k,bindL_get ndP hp hu k⟩
  ·obtain⟨c,e⟩:=cell_has (n:=s.heap.objs.size + 1) k
   refine .inr ⟨.inl k,c,e,?_⟩
   have q:=x.cell y c e
   rw[bindC_get ndP hp hu (by show scope.names.lookup y≠_;rw[k];decide)] at q
   exact q
 ·exact e0.hok.fresh (Nat.le_of_lt (x.above y c (PySem.mem_of_lookup h)))
 ·unfold start
  show _=N.length
  rw[List.length_append,List.length_map,List.length_replicate]
  omega
/-- THE RULE: a def (or a method) of the text, by its body. The body's reading t is chosen for each entry; it is run at the parameters' values -/
theorem fn_of {CX:CXT} {P:Program} {w:World} {K:PySem.W.Frag} {mg:Str->Option Value} {base:Heap} {k:Nat} {f:Addr} {name qual:Str} {params:Arguments} {body:List Stmt} {scope:Scope} {dV kV doc pm cdv ct oc:Value} {an od:Option Addr}
  {osl:Array (Option Value)} {N ps:List Str} {sp:Sp} (lk:K.lookup f=some ⟨oc,od,.func (PySem.W.fnOf name qual params body scope dV kV doc pm an cdv ct),osl⟩) (hcd:PySem.W.codeIn K cdv qual=true) (S:FnScope N ps scope)
  (len:∀ vs H Q E,sp vs H Q E->vs.length=ps.length)
  (hbody:∀ (A:Around) (outer:List Env) (s:Shared) (H:Hp) (vs:List V) (Q:VK) (E:XK),Room k (A.deeper (envOfC qual scope s.heap.objs.size f cdv))->sp vs H Q E ->
   ∃ t,PSs (cxOf CX P w K mg base N qual scope f cdv A outer s H E) body t∧t { nx:=fun _ H'=>Q .non H',rt:=Q } (start N vs) H) :
  FnOk P w K mg base CX (k + 1) f (PySem.W.fnOf name qual params body scope dV kV doc pm an cdv ct) ps sp:=by
 refine⟨len,fun A outer s H args us vs Q E hr e0 hb r hsp=>?_⟩
 have hl:=len _ _ _ _ hsp
 have KX:K.In s.heap:=e0.mod.kin.keeps fun b o e=>(e0.bs b o e).1
 have lim:s.heap.NoLimit:=e0.mod.nolimit.keeps fun b o e=>(e0.bs b o e).1
 have hkind:∀ y ∈ ps.zip us,scope.names.lookup y.1=some .local∨(scope.names.lookup y.1=some .cell∧((cellsFrom (s.heap.objs.size + 1) scope.names []).lookup y.1).isSome=true):=fun ⟨n,v⟩ hy=>by
  rcases S.par n (List.of_mem_zip hy).1 with q | q
  ·exact .inl q
  ·exact .inr ⟨q,PySem.W.cellsFrom_some _ _ _ (.inl q)⟩
 refine codeAny_call_function hr.depth (KX _ _ lk) rfl S.co S.gen rfl (PySem.W.codeRec_of KX hcd) (hb _ _ _ _ ?_)
 refine wpAny_newFunctionEnv_cells S.kind hkind fun env he s1 x=>?_
 subst he
 refine⟨lim.keeps x.toInCall.keep,codeAny_func ?_⟩
 obtain⟨t,ht,hq⟩:=hbody A outer s H vs Q E (hr.deeper _) hsp
 have I:Inv (cxOf CX P w K mg base N qual scope f cdv A outer s H E) [] (start N vs) H s1:=inv_start S hr.hd e0 hl r x
 refine wpAny_mono (ht [] s1 (start N vs) H _ I hq) (fun fl s' hs=>?_) fun e s' hs=>hs
 have fin:∀ {σ':St} {H':Hp} {v:V} {u:Value},Inv (cxOf CX P w K mg base N qual scope f cdv A outer s H E) [] σ' H' s'->RelV v u->Q v H'->CE outer P w H s Q u s' :=
  fun {σ' H' v u} J rv q=>⟨v,H',J.os,J.bare,J.base,J.hok,rv,q⟩
 cases fl with
 | ret u =>
  obtain⟨v,σ',H',J,rv,q⟩:=hs
  exact fin J rv q
 | next =>
  obtain⟨σ',H',J,q⟩:=hs
  exact fin (v:=V.non) (u:=Value.none) J rfl q
 | brk =>
  obtain⟨_,_,_,q⟩:=hs
  exact False.elim q
 | cont =>
  obtain⟨_,_,_,q⟩:=hs
  exact False.elim q
end L2
namespace L2
open PySem PySem.Spec PyProof.Rows
section
variable {X:Cx} {x:Str} {p pos:Pos} {e:Expr} {es:List Expr} {t:TA} {id T:String} {r:List V->Hp->VK->Prop}
def tCB (r:List V->Hp->VK->Prop) (t:TA):TE:=fun σ H Q=>t σ H fun vs H1=>r vs H1 Q
/-- f(e, ..), f a built-in function -/
theorem pe_callB (hc:CallR X (.builtin id) r) (hg:Gl X x) (hm:X.mg x=none) (hv:bootBuiltins x=some (.builtin id)) (ha:PA X (e::es) t) (hn:x≠"__name__":=by decide) (hdb:(x == ("__debug__":Str))=false:=by decide)
  (he:starEach (e::es) X.env=(false,eval e X.env)::starEach es X.env:=by rfl) (hpl:(backTo pos (starEach es X.env)).any (·.1)=false:=by rfl):PE X (.Call (.Name x p) (e::es) [] pos) (tCB r t):=by
 intro pins s σ H Q I h
 refine wpAny_Call_Name_kw (ld_blt I hg hm hv ?_ hn hdb)
 exact PyProof.Rows.callWith_builtin1 (thn (ha pos pins s σ H _ I h) fun us s1 ⟨vs,H1,I1,r1,q1⟩=>hc pins s1 σ H1 vs us Q I1 r1 q1) he hpl
/-- T(e, ..), T a built-in type -/
theorem pe_callTy (hc:CallR X (.type T) r) (hg:Gl X x) (hm:X.mg x=none) (hv:bootBuiltins x=some (.type T)) (ha:PA X (e::es) t) (hn:x≠"__name__":=by decide) (hdb:(x == ("__debug__":Str))=false:=by decide)
  (he:starEach (e::es) X.env=(false,eval e X.env)::starEach es X.env:=by rfl) (hpl:(backTo pos (starEach es X.env)).any (·.1)=false:=by rfl):PE X (.Call (.Name x p) (e::es) [] pos) (tCB r t):=by
 intro pins s σ H Q I h
 refine wpAny_Call_Name_kw (ld_blt I hg hm hv ?_ hn hdb)
 exact PyProof.Rows.callWith_type1 (thn (ha pos pins s σ H _ I h) fun us s1 ⟨vs,H1,I1,r1,q1⟩=>hc pins s1 σ H1 vs us Q I1 r1 q1) he hpl
end
end L2
namespace HT
open PySem PyProof.Rows
/-- t < u of tuples of ints -/
def lexLt:List Int->List Int->Bool
 | [],[]=>false
 | [],_::_=>true
 | _::_,[]=>false
 | x::xs,y::ys=>if x=y then lexLt xs ys else decide (x < y)
theorem lexLt_cons (x y:Int) (xs ys:List Int):lexLt (x::xs) (y::ys)=if x=y then lexLt xs ys else decide (x < y):=rfl
theorem lexLt_nil_nil:lexLt [] []=false:=rfl
theorem lexLt_nil_cons (y:Int) (ys:List Int):lexLt [] (y::ys)=true:=rfl
theorem lexLt_cons_nil (x:Int) (xs:List Int):lexLt (x::xs) []=false:=rfl
theorem eqAt_int (A:Around) (s:Shared) (a:Int) (t:Tok) (c:Int) (u:Tok):∃ e,SeqAt.EqAt A s (.int a t) (.int c u) e∧(e=true↔a=c) :=
 ⟨(a == c),SeqAt.EqAt.int_int a t c u,by simp⟩
theorem rcLt_int (A:Around) (s:Shared) (a:Int) (t:Tok) (c:Int) (u:Tok) (prog:Program) (w:World) (E:Value->Shared->Prop) (Q:Value->Shared->Prop) (h:Q (.bool (decide (a < c))) s) :
  wpAny (model prog w) A (richCompare .Lt (.int a t) (.int c u)) Q E s :=
 (PyProof.Rows.lt_int h:wpAny (model prog w) A (compareOp .Lt (.int a t) (.int c u)) Q E s)
section
open PySem.SeqAt
open PySem.AutoSeq1 (wpAny_loadPart')
open PySem.MeetsSeq PySem.MeetsSeq2 PySem.MeetsSeq3
theorem tuple_lt_ints (l b:Addr) (items items2:Array Value) (n n2:Nat) (dd dd2:Option Addr) (sl sl2:Array (Option Value)) (ns ms:List Int) (hi:IntsAre items.toList ns) (hj:IntsAre items2.toList ms) :
  Meets (Builtin.«tuple.__lt__» ⟨[.ref l,.ref b],[]⟩)
   (fun _ R s=>s.heap.get? l=some { cls:=.type "tuple",dict:=dd,data:=.seq items n,slots:=sl }∧s.heap.get? b=some { cls:=.type "tuple",dict:=dd2,data:=.seq items2 n2,slots:=sl2 } ∧
    R (.ok (.ret (.bool (lexLt ns ms)))) s) :=
 .of_wp fun prog w A R s h=>by
  obtain⟨hp,g,d,tk,os⟩:=s;obtain⟨hl,hb,h⟩:=h
  have f2:=AutoSeq1.sub_tuple_tuple
  have z1:items.size=ns.length:=by rw[← hi.length];simp
  have z2:items2.size=ms.length:=by rw[← hj.length];simp
  wp_walk using wpAny_loadPart' hl,wpAny_loadPart' hb,wpAny_forIn_list _ (fun rest b s'=>b.1=none∧s'=⟨hp,g,d,tk,os⟩∧∃ (vs ws:List Value) (ns' ms':List Int),rest=vs.zip ws ∧
   IntsAre vs ns'∧IntsAre ws ms'∧ns'.length + items2.size=ms'.length + items.size∧R (.ok (.ret (.bool (lexLt ns' ms')))) ⟨hp,g,d,tk,os⟩) _
  case turn =>
   rintro ⟨y,x⟩ rest b s' ⟨hb',rfl,vs,ws,ns',ms',hz,hvi,hwi,hlen,hR⟩
   cases hvi with
   | nil=>rw[List.zip_nil_left] at hz;cases hz
   | cons a t hvi' =>
    cases hwi with
    | nil=>rw[List.zip_nil_right] at hz;cases hz
    | cons c u hwi' =>
     rw[List.zip_cons_cons] at hz
     injection hz with hyx hrest
     injection hyx with hy hx
     subst hy hx
     rw[lexLt_cons] at hR
     simp only [List.length_cons] at hlen
     obtain⟨e,he,hiff⟩:=eqAt_int A.in1 ⟨hp,g,d,tk,os⟩ a t c u
     refine wpAny_bind (he prog w _ _ ?_)
     cases e with
     | true =>
      rw[if_pos (hiff.mp rfl)] at hR
      wp_walk
      exact⟨rfl,rfl,_,_,_,_,hrest,hvi',hwi',by omega,hR⟩
     | false =>
      rw[if_neg (fun q=>absurd (hiff.mpr q) Bool.false_ne_true)] at hR
      have hri:=rcLt_int A.in1 ⟨hp,g,d,tk,os⟩ a t c u prog w
      wp_walk using hri
      exact⟨_,rfl,by simpa using hR⟩
  case fin =>
   rintro ⟨b1,b2⟩ s' ⟨hb',rfl,vs,ws,ns',ms',hz,hvi,hwi,hlen,hR⟩
   simp only at hb'
   subst hb'
   have hv:lexLt ns' ms'=decide (items.size < items2.size):=by
    cases hvi with
    | nil =>
     cases hwi with
     | nil =>
      simp only [List.length_nil] at hlen
      rw[lexLt_nil_nil]
      exact (decide_eq_false (by omega)).symm
     | cons c u hw =>
      simp only [List.length_nil,List.length_cons] at hlen
      rw[lexLt_nil_cons]
      exact (decide_eq_true (by omega)).symm
    | cons a t hv =>
     cases hwi with
     | nil =>
      simp only [List.length_nil,List.length_cons] at hlen
      rw[lexLt_cons_nil]
      exact (decide_eq_false (by omega)).symm
     | cons c u hw =>
      rw[List.zip_cons_cons] at hz
      cases hz
   rw[hv] at hR
   wp_walk
   exact⟨_,rfl,by simpa [Builtin.Tuple.tupleCompareSizes] using hR⟩
  case h =>
   exact⟨rfl,rfl,items.toList,items2.toList,ns,ms,rfl,hi,hj,by omega,h⟩
end
section
variable {prog:Program} {w:World} {A:Around} {E:Value->Shared->Prop} {s:Shared}
theorem lt_tupInts {l b:Addr} {items items2:Array Value} {ns ms:List Int} {Q:Value->Shared->Prop} (hl:IsTup s.heap l items) (hb:IsTup s.heap b items2) (hi:IntsAre items.toList ns) (hj:IntsAre items2.toList ms)
  (hu:A.units < cLine) (h:Q (.bool (lexLt ns ms)) s):wpAny (model prog w) A (compareOp .Lt (.ref l) (.ref b)) Q E s:=by
 obtain⟨⟨cls,dd,data,sl⟩,ho,hc,n,hd⟩:=id hl
 obtain⟨⟨cls2,dd2,data2,sl2⟩,ho2,hc2,n2,hd2⟩:=id hb
 simp only at hc hd hc2 hd2
 subst hc hd hc2 hd2
 exact richCompare_meets_room (op:=.Lt) ⟨_,ho,rfl⟩ ⟨_,ho2,rfl⟩ PySem.F.slot_tuple_lt PySem.F.entry_tuple_lt (PySem.F.args_tuple_lt_2 _ _) (tuple_lt_ints l b items items2 n n2 dd dd2 sl sl2 ns ms hi hj)
  ⟨ho,ho2,show Value.bool (lexLt ns ms)≠Value.notImplemented∧Q (.bool (lexLt ns ms)) s from ⟨(fun x=>nomatch x),h⟩⟩ hu
/-- a slice's bound as a place among n (d where it is left out) -/
def sIx (n d:Nat):Option Int->Nat
 | none=>d
 | some v=>if v < 0 then (v + (n:Int)).toNat else min v.toNat n
theorem sIx_none (n d:Nat):sIx n d none=d:=rfl
theorem sIx_nat (n d k:Nat):sIx n d (some (k:Int))=min k n:=by
 show (if (k:Int) < 0 then ((k:Int) + (n:Int)).toNat else min (k:Int).toNat n)=min k n
 rw[if_neg (by omega),Int.toNat_natCast]
theorem sIx_le (n d:Nat) (hd:d≤n) (o:Option Int):sIx n d o≤n:=by
 cases o with
 | none=>exact hd
 | some v =>
  show (if v < 0 then (v + (n:Int)).toNat else min v.toNat n)≤n
  by_cases hv:v < 0
  ·rw[if_pos hv];omega
  ·rw[if_neg hv];exact Nat.min_le_right _ _
theorem clip_eq (v:Int) (n d:Nat):(if v < 0 then max (v + (n:Int)) 0 else min v (n:Int))=((sIx n d (some v):Nat):Int):=by
 show (if v < 0 then max (v + (n:Int)) 0 else min v (n:Int))=(((if v < 0 then (v + (n:Int)).toNat else min v.toNat n):Nat):Int)
 by_cases hv:v < 0
 ·simp only [if_pos hv];omega
 ·simp only [if_neg hv];omega
theorem adjust_gen (lo hi:Option Int) (n:Nat):Builtin.Slice.sliceAdjust lo hi 1 (n:Int)=(((sIx n 0 lo:Nat):Int),((sIx n n hi:Nat):Int)):=by
 have h1:¬ ((1:Int) < 0):=by omega
 unfold Builtin.Slice.sliceAdjust
 simp only [h1,if_false]
 refine Prod.ext ?_ ?_
 ·cases lo with
  | none=>rfl
  | some v=>exact clip_eq v n 0
 ·cases hi with
  | none=>rfl
  | some v=>exact clip_eq v n n
theorem places_gen (i j:Nat):Builtin.Slice.slicePlaces (i:Int) (j:Int) 1=j - i:=by
 unfold Builtin.Slice.slicePlaces
 have h1:(1:Int) > 0:=by omega
 simp only [h1,if_true,Int.ediv_one]
 split <;> omega
theorem slicePart_ {v:Value} {o:Option Int} {Q:Option Int->Shared->Prop} (p:IsPart v o) (h:Q o s):wpAny (model prog w) A (Builtin.Slice.slicePartIndex v) Q E s:=by
 cases p with
 | none=>exact slicePart_none h
 | int i t=>exact slicePart_int h
theorem sliceApplied_gen {sl:Addr} {vl vu:Value} {lo hi:Option Int} {n:Nat} {Q:Int × Int × Nat->Shared->Prop} (hs:s.heap.IsSliceOf sl vl vu .none) (pl:IsPart vl lo) (pu:IsPart vu hi)
  (h:Q (((sIx n 0 lo:Nat):Int),1,sIx n n hi - sIx n 0 lo) s):wpAny (model prog w) A (Builtin.Slice.sliceApplied (.ref sl) (pure (n:Int))) Q E s:=by
 obtain⟨os,hos,hcs,hds⟩:=id hs
 unfold Builtin.Slice.sliceApplied Builtin.Slice.sliceFields
 refine wpAny_bind (wpAny_bind (wpAny_field hos hds (x:=vl) rfl (wpAny_bind (wpAny_field hos hds (x:=vu) rfl (wpAny_bind (wpAny_field hos hds (x:=.none) rfl (wpAny_pure ?_)))))))
 refine wpAny_bind (slicePart_none ?_)
 show wpAny _ _ (if ((1:Int) == 0)=true then _ else _) _ _ s
 rw[if_neg (by decide)]
 refine wpAny_bind (slicePart_ pl (wpAny_bind (slicePart_ pu (wpAny_bind (wpAny_pure ?_)))))
 show wpAny _ _ (match Builtin.Slice.sliceAdjust lo hi 1 (n:Int) with | (lo,hi)=>pure (lo,(1:Int),Builtin.Slice.slicePlaces lo hi 1)) _ _ s
 rw[adjust_gen lo hi n]
 show wpAny _ _ (pure (((sIx n 0 lo:Nat):Int),(1:Int),Builtin.Slice.slicePlaces ((sIx n 0 lo:Nat):Int) ((sIx n n hi:Nat):Int) 1)) _ _ s
 rw[places_gen]
 exact wpAny_pure h
theorem pick_gen (xs:Array Value) (i k:Nat):((List.range k).filterMap fun (m:Nat)=>xs[((i:Int) + (m:Int) * 1).toNat]?).toArray=((xs.toList.drop i).take k).toArray:=by
 have e:(fun (m:Nat)=>xs[((i:Int) + (m:Int) * 1).toNat]?)=fun m=>xs[i + m]?:=by
  funext m
  have:((i:Int) + (m:Int) * 1).toNat=i + m:=by omega
  rw[this]
 rw[e]
 have:=pick_run xs i k
 rw[List.filterMap_map] at this
 have e2:((fun x=>xs[x]?) ∘ fun x=>i + x)=fun m=>xs[i + m]?:=rfl
 rw[e2] at this
 rw[this]
theorem getItem_tuple_cut {t sl:Addr} {items:Array Value} {vl vu:Value} {lo hi:Option Int} {Q:Value->Shared->Prop} (ht:IsTup s.heap t items) (hs:s.heap.IsSliceOf sl vl vu .none) (pl:IsPart vl lo) (pu:IsPart vu hi)
  (hw:¬ (sIx items.size 0 lo=0∧sIx items.size items.size hi=items.size))
  (h:Q (.ref s.heap.objs.size) { s with heap:=s.heap.push { cls:=.type "tuple",data:=.seq ((items.toList.drop (sIx items.size 0 lo)).take (sIx items.size items.size hi - sIx items.size 0 lo)).toArray } })
  (hsz:items.size≤sizeLine):wpAny (model prog w) A (getItem (.ref t) (.ref sl)) Q E s:=by
 have htake:sizeOk (.seq ((items.toList.drop (sIx items.size 0 lo)).take (sIx items.size items.size hi - sIx items.size 0 lo)).toArray):=by
  show ((items.toList.drop (sIx items.size 0 lo)).take (sIx items.size items.size hi - sIx items.size 0 lo)).toArray.size≤sizeLine
  rw[List.size_toArray,List.length_take,List.length_drop,Array.length_toList]
  omega
 have hj:sIx items.size items.size hi≤items.size:=sIx_le _ _ (Nat.le_refl _) hi
 obtain⟨os,hos,hcs,hds⟩:=id hs
 have hTs:s.TypeIs (.ref sl) "slice":=⟨os,hos,hcs⟩
 unfold getItem
 try with_reducible refine wpAny_holding ?_
 first | refine wpAny_bind (wpAny_pure ?_) | skip
 refine wpAny_bind (wpAny_sequenceKey ht.typeIs (by decide) ?_)
 refine wpAny_bind (wpAny_callSpecial?_slot (name:=Str.ofString "__getitem__") ht.typeIs PyProof.Rows.slot_tuple_getitem
  (wpAny_call_entry PyProof.Rows.slot_tuple_getitem ht.typeIs entry_tuple_getitem ?_ (args_tuple_getitem _ _)))
 show wpAny _ _ (Builtin.Tuple.tupleItemsOf (.ref t) >>= _) _ _ s
 refine wpAny_bind (tupleItemsOf_ ht ?_)
 refine wpAny_bind (wpAny_typeOf hTs ?_)
 rw[if_pos (by decide)]
 refine wpAny_bind (sliceApplied_gen hs pl pu ?_)
 have hno:¬ ((((sIx items.size 0 lo:Nat):Int) == 0 && (1:Int) == 1 && (sIx items.size items.size hi - sIx items.size 0 lo) == items.size)=true):=by
  intro q
  rw[Bool.and_eq_true,Bool.and_eq_true] at q
  have q1:((sIx items.size 0 lo:Nat):Int)=0:=eq_of_beq q.1.1
  have q2:sIx items.size items.size hi - sIx items.size 0 lo=items.size:=eq_of_beq q.2
  exact hw ⟨by omega,by omega⟩
 show wpAny _ _ (if (((sIx items.size 0 lo:Nat):Int) == 0 && (1:Int) == 1 && (sIx items.size items.size hi - sIx items.size 0 lo) == items.size)=true then _ else _) _ _ s
 rw[if_neg hno,pick_gen]
 first
  | exact wpAny_bind (m:=Builtin.Tuple.tupleExact _) (wpAny_newObj_type (wpAny_pure ⟨_,rfl,wpAny_pure h⟩) htake)
  | exact wpAny_bind (m:=Builtin.Tuple.tupleExact _) (wpAny_newObj_type (wpAny_bind (wpAny_pure (wpAny_pure ⟨_,rfl,wpAny_pure h⟩))) htake)
  | exact wpAny_bind (wpAny_bind (m:=Builtin.Tuple.tupleExact _) (wpAny_newObj_type (wpAny_pure (wpAny_pure ⟨_,rfl,wpAny_pure h⟩)) htake))
  | exact wpAny_bind (wpAny_bind (m:=Builtin.Tuple.tupleExact _) (wpAny_newObj_type (wpAny_pure ⟨_,rfl,wpAny_pure h⟩) htake))
end
end HT
namespace L2
open PySem PySem.Spec PyProof.Rows
abbrev TO:=St->Hp->(Option Int->Hp->Prop)->Prop
/-- a slice's part (left out, or an int) -/
def PO (X:Cx) (e:Option Expr) (t:TO):Prop :=
 ∀ (pins:List (Addr × Obj)) (s:Shared) (σ:St) (H:Hp) (Q:Option Int->Hp->Prop),Inv X pins σ H s->t σ H Q ->
  wpAny (model X.prog X.w) X.A (evalPart e X.env) (fun u s'=>∃ o H',Inv X pins σ H' s'∧IsPart u o∧Q o H') X.xe s
def tNoPart:TO:=fun _ H Q=>Q none H
def tPart (t:TE):TO:=fun σ H Q=>t σ H fun x H1=>∃ i,x=.int i∧Q (some i) H1
theorem intsAre_of {ns:List Int}:∀ {us:List Value},Vals (ns.map V.int) us->IntsAre us ns:=by
 induction ns with
 | nil=>intro us r;rw[List.map_nil] at r;cases r;exact .nil
 | cons n ns ih =>
  intro us r
  rw[List.map_cons] at r
  cases r with
  | cons r1 r2 =>
   obtain⟨t,e⟩:=r1
   subst e
   exact .cons n t (ih r2)
section
variable {X:Cx} {e:Expr} {te:TE} {lo hi:Option Expr} {tl th:TO} {pos p2:Pos}
theorem po_none:PO X none tNoPart:=by
 intro pins s σ H Q I h
 rw[evalPart_none]
 exact wpAny_pure ⟨none,H,I,.none,h⟩
theorem po_some (h:PE X e te):PO X (some e) (tPart te):=by
 intro pins s σ H Q I hw
 rw[evalPart_some]
 refine thn (h pins s σ H _ I hw) fun u s1 ⟨x,H1,I1,r1,q1⟩=>?_
 obtain⟨i,rfl,q⟩:=q1
 obtain⟨t,rfl⟩:=r1
 exact⟨some i,H1,I1,.int i t,q⟩
/-- what a slice of a value is, by values: the slice object stands at sl -/
def SlR (X:Cx) (r:V->Option Int->Option Int->Hp->VK->Prop):Prop :=
 ∀ (pins:List (Addr × Obj)) (s:Shared) (σ:St) (H:Hp) (x:V) (v vl vu:Value) (lo hi:Option Int) (sl:Addr) (Q:VK),Inv X pins σ H s->RelV x v->s.heap.IsSliceOf sl vl vu .none->IsPart vl lo->IsPart vu hi->r x lo hi H Q ->
  ∃ T id,typeLookup (.type T) "__getitem__"=pure (some (.builtin id))∧s.TypeIs v T∧wpAny (model X.prog X.w) X.A (getItem v (.ref sl)) (EP X pins σ Q) X.xe s
def tSl (r:V->Option Int->Option Int->Hp->VK->Prop) (te:TE) (tl th:TO):TE:=fun σ H Q=>te σ H fun x H1=>tl σ H1 fun l H2=>th σ H2 fun u H3=>r x l u H3 Q
/-- a[lo:hi], any a -/
theorem pe_slice {r:V->Option Int->Option Int->Hp->VK->Prop} (hr:SlR X r) (he:PE X e te) (hl:PO X lo tl) (hu:PO X hi th):PE X (.Subscript e (.Slice lo hi none p2) pos) (tSl r te tl th):=by
 intro pins s σ H Q I h
 refine Subscript_ (thn (he pins s σ H _ I h) fun v s1 ⟨x,H1,I1,r1,q1⟩=>?_)
 refine wpAny_Slice (thn (hl pins s1 σ H1 _ I1 q1) fun vl s2 ⟨l,H2,I2,pl,q2⟩=>thn (hu pins s2 σ H2 _ I2 q2) fun vu s3 ⟨u,H3,I3,pu,q3⟩=>?_)
 rw[evalPart_none]
 refine wpAny_pure ?_
 have I4:Inv X pins σ H3 { s3 with heap:=s3.heap.push { cls:=.type "slice",data:=.fields #[vl,vu,.none] } }:=I3.kept (t':=s3.toks) fun b ob q=>Heap.get?_push_of_some _ q
 obtain⟨T,id,hT,ht,hg⟩:=hr pins { s3 with heap:=s3.heap.push { cls:=.type "slice",data:=.fields #[vl,vu,.none] } } σ H3 x v vl vu l u s3.heap.objs.size Q I4 r1 (Heap.IsSliceOf.new ..) pl pu q3
 show wpAny (model X.prog X.w) X.A (subscriptTail e (.Slice lo hi none p2) v (.ref s3.heap.objs.size)) (EP X pins σ Q) X.xe { s3 with heap:=s3.heap.push { cls:=.type "slice",data:=.fields #[vl,vu,.none] } }
 exact tail_any (ops:=[.ref s3.heap.objs.size,v]) ht hT hg (by with_unfolding_all rfl)
/-- the items of xs[lo:hi] -/
def cutV (xs:List V) (lo hi:Option Int):List V:=(xs.drop (HT.sIx xs.length 0 lo)).take (HT.sIx xs.length xs.length hi - HT.sIx xs.length 0 lo)
theorem cutV_length (xs:List V) (lo hi:Option Int):(cutV xs lo hi).length≤xs.length:=by
 unfold cutV
 rw[List.length_take,List.length_drop]
 omega
/-- t[lo:hi], not the whole of it (the whole would be t itself) -/
def rSlT (K:PySem.W.Frag):V->Option Int->Option Int->Hp->VK->Prop:=fun x lo hi H Q=>∃ a xs,x=.ref a∧SqT K H a xs ∧
 ¬ (HT.sIx xs.length 0 lo=0∧HT.sIx xs.length xs.length hi=xs.length)∧∀ p,H p=none->Q (.ref p) (upd H p (.tup (cutV xs lo hi)))
theorem sl_tup:SlR X (rSlT X.K):=by
 intro pins s σ H x v vl vu lo hi sl Q I rx hs pl pu h
 obtain⟨a,xs,rfl,hx,hw,q⟩:=h
 cases rx
 obtain⟨its,r,ht,hz⟩:=I.tuple hx
 have hlen:its.toArray.size=xs.length:=by rw[List.size_toArray];exact r.length.symm
 refine⟨"tuple",_,PyProof.Rows.slot_tuple_getitem.lookup,ht.typeIs,?_⟩
 refine HT.getItem_tuple_cut ht hs pl pu (by rw[hlen];exact hw) ?_ (by rw[hlen];exact hz)
 rw[hlen]
 refine⟨.ref s.heap.objs.size,_,I.laid (t':=s.toks) (o:=.tup (cutV xs lo hi)) (fun b ob q=>Heap.get?_push_of_some _ q) (Nat.le_refl _) ?_,rfl,q _ (I.hok.fresh (Nat.le_refl _))⟩
 exact⟨Nat.le_trans (cutV_length xs lo hi) hz,_,(r.drop (HT.sIx xs.length 0 lo)).take (HT.sIx xs.length xs.length hi - HT.sIx xs.length 0 lo),TupN.new _ _⟩
def rLtT (K:PySem.W.Frag):R2:=fun x y H Q=>∃ a b ns ms,x=.ref a∧y=.ref b∧SqT K H a (ns.map V.int)∧SqT K H b (ms.map V.int)∧Q (.bl (HT.lexLt ns ms)) H
theorem op_ltT (hu:X.A.units < cLine):OpR X (compareOp .Lt) (rLtT X.K):=by
 intro pins s σ H x y v u Q I rx ry h
 obtain⟨a,b,ns,ms,rfl,rfl,ha,hb,q⟩:=h
 cases rx
 cases ry
 obtain⟨its,r1,p1,_⟩:=I.tuple ha
 obtain⟨its2,r2,p2,_⟩:=I.tuple hb
 have i1:IntsAre its.toArray.toList ns:=intsAre_of r1
 have i2:IntsAre its2.toArray.toList ms:=intsAre_of r2
 exact HT.lt_tupInts p1 p2 i1 i2 hu ⟨.bl (HT.lexLt ns ms),H,I,rfl,q⟩
end
end L2
namespace L2
open PySem PySem.Spec PyProof.Rows
/-- the place that an index of any sign means -/
def ixN (n:Nat) (i:Int):Option Nat:=if 0≤i then (if i < n then some i.toNat else none) else if -(n:Int)≤i then some (i + n).toNat else none
def atI {α:Type} (xs:List α) (i:Int):Option α:=(ixN xs.length i).bind fun j=>xs[j]?
theorem ixN_seq {n:Nat} {i:Int} {j:Nat} (h:ixN n i=some j):seqIndex? i n=some j∧j < n∧-(n:Int)≤i∧i < n:=by
 unfold ixN at h
 by_cases h0:0≤i
 ·rw[if_pos h0] at h
  by_cases h1:i < n
  ·rw[if_pos h1] at h
   have e:i.toNat=j:=Option.some.inj h
   exact⟨by rw[seqIndex_of h0 h1,e],by omega,by omega,h1⟩
  ·rw[if_neg h1] at h;cases h
 ·rw[if_neg h0] at h
  by_cases h1:-(n:Int)≤i
  ·rw[if_pos h1] at h
   have e:(i + n).toNat=j:=Option.some.inj h
   exact⟨by rw[seqIndex_neg (by omega) h1,e],by omega,h1,by omega⟩
  ·rw[if_neg h1] at h;cases h
theorem atI_get {α:Type} {xs:List α} {i:Int} {v:α} (h:atI xs i=some v):∃ j,seqIndex? i xs.length=some j∧xs[j]?=some v∧j < xs.length∧-(xs.length:Int)≤i∧i < xs.length:=by
 unfold atI at h
 cases e:ixN xs.length i with
 | none=>rw[e] at h;cases h
 | some j =>
  rw[e] at h
  obtain⟨h1,h2,h3,h4⟩:=ixN_seq e
  exact⟨j,h1,h,h2,h3,h4⟩
theorem atI_nat {α:Type} {xs:List α} {j:Nat} {v:α} (h:xs[j]?=some v):atI xs (j:Int)=some v:=by
 have hj:j < xs.length:=(List.getElem?_eq_some_iff.mp h).1
 have e:ixN xs.length (j:Int)=some j:=by
  unfold ixN
  rw[if_pos (by omega),if_pos (by omega)];simp
 unfold atI;rw[e];exact h
theorem atI_last {α:Type} (xs:List α) (v:α):atI (xs++[v]) (-1)=some v:=by
 have hl:(xs++[v]).length=xs.length + 1:=by simp
 have e:ixN (xs++[v]).length (-1)=some xs.length:=by
  unfold ixN
  rw[hl,if_neg (by decide),if_pos (by omega)]
  congr 1
  omega
 unfold atI
 rw[e]
 show (xs++[v])[xs.length]?=some v
 simp
/-- what stands as an index of a plain subscript -/
def PlainIx (b:Expr):Prop:=∀ o i,subscripted b false o i=operate [o,i] (getItem o i)
/-- a subscript by values -/
def IxR (X:Cx) (r:R2):Prop :=
 ∀ (value slice:Expr) (pins:List (Addr × Obj)) (s:Shared) (σ:St) (H:Hp) (x y:V) (v u:Value) (Q:VK),Inv X pins σ H s->RelV x v->RelV y u->r x y H Q ->
  subscripted slice false v u=operate [v,u] (getItem v u)->wpAny (model X.prog X.w) X.A (subscriptTail value slice v u) (EP X pins σ Q) X.xe s
/-- a call of a builtin's method by values: the receiver, the arguments -/
def MtR (X:Cx) (id:String) (r:V->List V->Hp->VK->Prop):Prop :=
 ∀ (pins:List (Addr × Obj)) (s:Shared) (σ:St) (H:Hp) (x:V) (xs:List V) (v:Value) (us:List Value) (Q:VK),Inv X pins σ H s->RelV x v->Vals xs us->r x xs H Q ->
  wpAny (model X.prog X.w) X.A (call (.builtin id) (v::us)) (EP X pins σ Q) X.xe s
section
variable {X:Cx} {a b:Expr} {ta tb:TE} {pos:Pos}
/-- a[b] -/
theorem pe_ix {r:R2} (hr:IxR X r) (ha:PE X a ta) (hb:PE X b tb) (hs:PlainIx b):PE X (.Subscript a b pos) (tOp r ta tb):=by
 intro pins s σ H Q I h
 exact Subscript_ (binT ha hb I h fun v u s2 x y H2 I2 rx ry q=>hr a b pins s2 σ H2 x y v u Q I2 rx ry q (hs _ _))
def rIxL (K:PySem.W.Frag):R2:=fun x y H Q=>∃ p xs i v,x=.ref p∧y=.int i∧SqL K H p xs∧atI xs i=some v∧Q v H
def rIxT (K:PySem.W.Frag):R2:=fun x y H Q=>∃ p xs i v,x=.ref p∧y=.int i∧SqT K H p xs∧atI xs i=some v∧Q v H
theorem ix_list:IxR X (rIxL X.K):=by
 intro value slice pins s σ H x y v u Q I rx ry h hs
 obtain⟨p,xs,i,z,rfl,rfl,hq,he,q⟩:=h
 cases rx
 obtain⟨t,rfl⟩:=ry
 obtain⟨its,r,pl,hz⟩:=I.list hq
 obtain⟨j,h1,h2,h3,h4,h5⟩:=atI_get he
 obtain⟨w,ew,rw'⟩:=r.get h2
 have hl:=r.length
 have hn:=line63
 have fin:EP X pins σ Q w s:=⟨z,H,I,rw',q⟩
 by_cases h0:0≤i
 ·have hj:i.toNat=j:=by
   rw[seqIndex_of h0 h5] at h1
   exact Option.some.inj h1
  exact item_listR pl.isList h0 (by omega) (by rw[hj];simpa using ew) fin hs
 ·have hj:(i + (its.toArray.size:Int)).toNat=j:=by
   rw[seqIndex_neg (by omega) h4] at h1
   rw[List.size_toArray,← hl]
   exact Option.some.inj h1
  exact subscriptTail_builtinR (x:=w) pl.isList.typeIs slot_list_getitem.lookup
   (wpAny_getItem_list_neg (Q:=fun r s'=>r=w∧EP X pins σ Q r s') pl.isList (by omega) (by rw[List.size_toArray] <;> omega) (by omega) (by rw[hj];simpa using ew) ⟨rfl,fin⟩) hs
theorem ix_tup:IxR X (rIxT X.K):=by
 intro value slice pins s σ H x y v u Q I rx ry h hs
 obtain⟨p,xs,i,z,rfl,rfl,hq,he,q⟩:=h
 cases rx
 obtain⟨t,rfl⟩:=ry
 obtain⟨its,r,pl,hz⟩:=I.tuple hq
 obtain⟨j,h1,h2,h3,h4,h5⟩:=atI_get he
 obtain⟨w,ew,rw'⟩:=r.get h2
 have hl:=r.length
 have hn:=line63
 have fin:EP X pins σ Q w s:=⟨z,H,I,rw',q⟩
 exact subscriptTail_builtinR (x:=w) pl.typeIs slot_tuple_getitem.lookup
  (getItem_tuple (j:=j) (Q:=fun r s'=>r=w∧EP X pins σ Q r s') pl (by omega) (by omega) (by rw[List.size_toArray,← hl];exact h1) (by simpa using ew) ⟨rfl,fin⟩) hs
/-- the list's object behind a store -/
theorem mapSeq_set (its:List Value) (n j:Nat) (u:Value):Obj.mapSeq (·.setIfInBounds j u) { cls:=.type "list",data:=.seq its.toArray n }={ cls:=.type "list",data:=.seq (its.set j u).toArray n }:=by
 simp [Obj.mapSeq]
theorem Inv.lst {pins:List (Addr × Obj)} {σ:St} {H:Hp} {s:Shared} {p:Addr} {xs:List V} (I:Inv X pins σ H s) (h:H p=some (.lst xs)) :
  ∃ (its:List Value) (n:Nat),Vals xs its∧s.heap.get? p=some { cls:=.type "list",data:=.seq its.toArray n }∧xs.length≤sizeLine:=by
 obtain⟨z,its,n,r,e⟩:=I.hok p _ h
 exact⟨its,n,r,e,z⟩
/-- the list at p is written by an update of its object -/
theorem Inv.lstUpd {pins:List (Addr × Obj)} {σ:St} {H:Hp} {s:Shared} {p:Addr} {xs ys:List V} {its its':List Value} {n n':Nat} {f:Obj->Obj} (I:Inv X pins σ H s) (h:H p=some (.lst xs))
  (ho:s.heap.get? p=some { cls:=.type "list",data:=.seq its.toArray n }) (hf:f { cls:=.type "list",data:=.seq its.toArray n }={ cls:=.type "list",data:=.seq its'.toArray n' }) (r:Vals ys its') (hz:ys.length≤sizeLine) (t:Nat) :
  Inv X pins σ (upd H p (.lst ys)) { s with heap:=s.heap.update p f,toks:=t }:=by
 have e:(s.heap.update p f).get? p=some { cls:=.type "list",data:=.seq its'.toArray n' }:=by
  rw[Heap.get?_update_self f ho (by rw[hf] <;> rfl),hf]
 refine I.write (x:=p) (e:=p) (by rw[h];trivial) (.inl rfl) (fun b u hb q=>(Heap.get?_update_other _ _ (Ne.symm hb)).trans q) ⟨_,e⟩ ?_
 exact⟨hz,its',n',r,e⟩
def rSetL:V->V->V->Hp->(Hp->Prop)->Prop:=fun o i v H Q=>∃ p xs k j,o=.ref p∧i=.int k∧H p=some (.lst xs)∧ixN xs.length k=some j∧Q (upd H p (.lst (xs.set j v)))
theorem set_list:PSet X rSetL:=by
 intro pins s σ H o i v ov iv u Q I ro ri rv h
 obtain⟨p,xs,k,j,rfl,rfl,hp,hj,q⟩:=h
 cases ro
 obtain⟨t,rfl⟩:=ri
 obtain⟨its,n,r,ho,hz⟩:=I.lst hp
 obtain⟨h1,h2,h3,h4⟩:=ixN_seq hj
 have hl:=r.length
 have hn:=line63
 have I':Inv X pins σ (upd H p (.lst (xs.set j v))) { s with heap:=s.heap.update p (Obj.mapSeq (·.setIfInBounds j u)) } :=
  I.lstUpd hp ho (mapSeq_set its n j u) (r.set rv j) (by rw[List.length_set];exact hz) s.toks
 by_cases h0:0≤k
 ·have hk:k.toNat=j:=by
   rw[seqIndex_of h0 h4] at h1
   exact Option.some.inj h1
  exact PySem.W.ki_setAt ho h0 (by omega) (by rw[List.size_toArray,← hl];exact h4) (by rw[hk];exact⟨_,I',q⟩)
 ·have hk:(k + (its.toArray.size:Int)).toNat=j:=by
   rw[seqIndex_neg (by omega) h3] at h1
   rw[List.size_toArray,← hl]
   exact Option.some.inj h1
  exact PySem.W.ki_setBack ho (by omega) (by rw[List.size_toArray,← hl];exact h3) (by omega) (by rw[hk];exact⟨_,I',q⟩)
theorem slice_bounds (lo hi:Option Int) (n:Nat):(sliceBounds lo hi none n).1=((HT.sIx n 0 lo:Nat):Int)∧(sliceBounds lo hi none n).2.1=((HT.sIx n n hi:Nat):Int)∧(sliceBounds lo hi none n).2.2=1:=by
 refine⟨?_,?_,rfl⟩
 ·cases lo with
  | none=>simp [sliceBounds,HT.sIx]
  | some i =>
   simp only [sliceBounds,HT.sIx,Option.getD_none,show (1:Int) > 0 by decide,if_true]
   by_cases h:i < 0
   ·simp only [h,if_true] <;> omega
   ·simp only [h,if_false] <;> omega
 ·cases hi with
  | none=>simp [sliceBounds,HT.sIx]
  | some i =>
   simp only [sliceBounds,HT.sIx,Option.getD_none,show (1:Int) > 0 by decide,if_true]
   by_cases h:i < 0
   ·simp only [h,if_true] <;> omega
   ·simp only [h,if_false] <;> omega
theorem slicePick_cut (its:List Value) (lo hi:Option Int):slicePick its.toArray lo hi none=((its.drop (HT.sIx its.length 0 lo)).take (HT.sIx its.length its.length hi - HT.sIx its.length 0 lo)).toArray:=by
 obtain⟨h1,h2,h3⟩:=slice_bounds lo hi its.toArray.size
 unfold slicePick
 rw[h1,h2,h3]
 simp only [sliceRange_one,pick_run,List.size_toArray] <;> rfl
/-- xs[lo:hi] of a list: a new list -/
def rSlL (K:PySem.W.Frag):V->Option Int->Option Int->Hp->VK->Prop:=fun x lo hi H Q=>∃ a xs,x=.ref a∧SqL K H a xs∧∀ p,H p=none->Q (.ref p) (upd H p (.lst (cutV xs lo hi)))
theorem sl_list:SlR X (rSlL X.K):=by
 intro pins s σ H x v vl vu lo hi sl Q I rx hs pl pu h
 obtain⟨a,xs,rfl,hx,q⟩:=h
 cases rx
 obtain⟨its,r,ht,hz⟩:=I.list hx
 have hlen:=r.length
 refine⟨"list",_,slot_list_getitem.lookup,ht.isList.typeIs,?_⟩
 refine wpAny_getItem_list_slice ht.isList hs pl pu .none (by simp) ?_ (by rw[List.size_toArray] <;> omega)
 rw[slicePick_cut,← hlen]
 refine⟨.ref s.heap.objs.size,_,I.laid (t':=s.toks) (o:=.lst (cutV xs lo hi)) (fun b ob q=>Heap.get?_push_of_some _ q) (Nat.le_refl _) ?_,rfl,q _ (I.hok.fresh (Nat.le_refl _))⟩
 exact⟨Nat.le_trans (cutV_length xs lo hi) hz,_,0,(r.drop (HT.sIx xs.length 0 lo)).take (HT.sIx xs.length xs.length hi - HT.sIx xs.length 0 lo),Heap.get?_push_size _ rfl⟩
def flatV:V->Bool
 | .non=>true
 | .bl _=>true
 | .int _=>true
 | .str _=>true
 | _=>false
/-- == of flat values -/
def eqV:V->V->Bool
 | .non,.non=>true
 | .bl a,.bl b=>a == b
 | .bl a,.int b=>(if a then 1 else 0) == b
 | .int a,.bl b=>a == (if b then 1 else 0)
 | .int a,.int b=>a == b
 | .str a,.str b=>a == b
 | _,_=>false
theorem eqAt_V {A:Around} {s:Shared} {y x:V} {u v:Value} (ry:RelV y u) (rx:RelV x v) (fy:flatV y=true) (fx:flatV x=true):SeqAt.EqAt A s u v (eqV y x):=by
 cases y with
 | non =>
  cases ry
  cases x with
  | non=>cases rx;exact SeqAt.EqAt.same _
  | bl b=>cases rx;exact SeqAt.EqAt.none_bool b
  | int b=>obtain⟨t,rfl⟩:=rx;exact SeqAt.EqAt.none_int b t
  | str b=>obtain⟨t,rfl⟩:=rx;exact SeqAt.EqAt.none_str b t
  | _=>exact absurd (show false=true from fx) Bool.false_ne_true
 | bl a =>
  cases ry
  cases x with
  | non=>cases rx;exact SeqAt.EqAt.bool_none a
  | bl b=>cases rx;exact SeqAt.EqAt.bool_bool a b
  | int b=>obtain⟨t,rfl⟩:=rx;exact SeqAt.EqAt.bool_int a b t
  | str b=>obtain⟨t,rfl⟩:=rx;exact SeqAt.EqAt.bool_str a b t
  | _=>exact absurd (show false=true from fx) Bool.false_ne_true
 | int a =>
  obtain⟨t',rfl⟩:=ry
  cases x with
  | non=>cases rx;exact SeqAt.EqAt.int_none a t'
  | bl b=>cases rx;exact SeqAt.EqAt.int_bool a t' b
  | int b=>obtain⟨t,rfl⟩:=rx;exact SeqAt.EqAt.int_int a t' b t
  | str b=>obtain⟨t,rfl⟩:=rx;exact SeqAt.EqAt.int_str a t' b t
  | _=>exact absurd (show false=true from fx) Bool.false_ne_true
 | str a =>
  obtain⟨t',rfl⟩:=ry
  cases x with
  | non=>cases rx;exact SeqAt.EqAt.str_none a t'
  | bl b=>cases rx;exact SeqAt.EqAt.str_bool a t' b
  | int b=>obtain⟨t,rfl⟩:=rx;exact SeqAt.EqAt.str_int a t' b t
  | str b=>obtain⟨t,rfl⟩:=rx;exact SeqAt.EqAt.str_str a t' b t
  | _=>exact absurd (show false=true from fx) Bool.false_ne_true
 | _=>exact absurd (show false=true from fy) Bool.false_ne_true
/-- the items' answers, read off the values (a value's own answer does not lean on its token) -/
def eqU (x:V) (u:Value):Bool:=match u with
 | .none=>eqV .non x
 | .bool b=>eqV (.bl b) x
 | .int i _=>eqV (.int i) x
 | .str z _=>eqV (.str z) x
 | _=>false
theorem eqU_of {x y:V} {u:Value} (r:RelV y u) (f:flatV y=true):eqU x u=eqV y x:=by
 cases y with
 | non=>cases r;rfl
 | bl b=>cases r;rfl
 | int i=>obtain⟨t,rfl⟩:=r;rfl
 | str z=>obtain⟨t,rfl⟩:=r;rfl
 | _=>exact absurd (show false=true from f) Bool.false_ne_true
theorem any_eqU {x:V}:∀ {xs:List V} {us:List Value},Vals xs us->xs.all flatV=true->us.any (eqU x)=xs.any fun y=>eqV y x
 | _,_,.nil,_=>rfl
 | y::xs,u::us,.cons r t,f=>by
  rw[List.all_cons,Bool.and_eq_true] at f
  rw[List.any_cons,List.any_cons,eqU_of r f.1,any_eqU t f.2]
theorem mem_eqAt {A:Around} {s:Shared} {x:V} {v:Value} (rx:RelV x v) (fx:flatV x=true):∀ {xs:List V} {us:List Value},Vals xs us->xs.all flatV=true->∀ u ∈ us,SeqAt.EqAt A s u v (eqU x u)
 | _,_,.nil,_=>fun u hu=>by cases hu
 | y::xs,u::us,.cons r t,f=>fun u' hu=>by
  rw[List.all_cons,Bool.and_eq_true] at f
  rcases List.mem_cons.mp hu with rfl | hu
  ·rw[eqU_of r f.1];exact eqAt_V r rx f.1 fx
  ·exact mem_eqAt rx fx t f.2 u' hu
def inV (x:V) (xs:List V):Bool:=xs.any fun y=>eqV y x
/-- x in a list or tuple of flat items -/
def rIn (K:PySem.W.Frag) (neg:Bool):R2:=fun x y H Q=>∃ p xs,y=.ref p∧(SqL K H p xs∨SqT K H p xs)∧flatV x=true∧xs.all flatV=true∧Q (.bl (if neg then !inV x xs else inV x xs)) H
theorem op_in_seq:OpR X (compareOp .In) (rIn X.K false):=by
 intro pins s σ H x y v u Q I rx ry h
 obtain⟨p,xs,rfl,hq,fx,fs,q⟩:=h
 cases ry
 rcases hq with hq | hq
 ·obtain⟨its,r,pl,hz⟩:=I.list hq
  refine SeqAt.in_listAt (eqU x) pl.isList (fun w hw=>mem_eqAt rx fx r fs w (by simpa using hw)) ⟨.bl _,H,I,rfl,?_⟩
  rw[show its.toArray.any (eqU x)=its.any (eqU x) by simp,any_eqU r fs]
  exact q
 ·obtain⟨its,r,pl,hz⟩:=I.tuple hq
  refine SeqAt.in_tupleAt (eqU x) pl (fun w hw=>mem_eqAt rx fx r fs w (by simpa using hw)) ⟨.bl _,H,I,rfl,?_⟩
  rw[show its.toArray.any (eqU x)=its.any (eqU x) by simp,any_eqU r fs]
  exact q
theorem call_len_seq:CallR X (.builtin "len") (fun xs H Q=>∃ p ys,xs=[.ref p]∧(SqL X.K H p ys∨SqT X.K H p ys)∧Q (.int ys.length) H):=by
 intro pins s σ H xs us Q I r h
 obtain⟨p,ys,rfl,hq,q⟩:=h
 obtain⟨u,rfl,rx⟩:=vals1 r
 cases rx
 have hn:=line63
 rcases hq with hq | hq
 ·obtain⟨its,r',pl,hz⟩:=I.list hq
  have hlen:=r'.length
  exact Calls.call_len_list pl.isList (by simp only [List.size_toArray] <;> omega) ⟨.int ys.length,H,I.tok _,⟨s.toks + 1,by rw[List.size_toArray,hlen]⟩,q⟩
 ·obtain⟨its,r',pl,hz⟩:=I.tuple hq
  have hlen:=r'.length
  exact len_tuple pl (by simp only [List.size_toArray] <;> omega) ⟨.int ys.length,H,I.tok _,⟨s.toks + 1,by rw[List.size_toArray,hlen]⟩,q⟩
theorem call_tuple_of:CallR X (.type "tuple") (fun xs H Q=>∃ p ys,xs=[.ref p]∧((SqL X.K H p ys∧∀ l,H l=none->Q (.ref l) (upd H l (.tup ys)))∨(SqT X.K H p ys∧Q (.ref p) H))):=by
 intro pins s σ H xs us Q I r h
 obtain⟨p,ys,rfl,h⟩:=h
 obtain⟨u,rfl,rx⟩:=vals1 r
 cases rx
 rcases h with ⟨hq,q⟩ | ⟨hq,q⟩
 ·obtain⟨its,r',pl,hz⟩:=I.list hq
  have hlen:=r'.length
  refine call_tuple_list pl.isList (fun h' kp=>?_) (by simp only [List.size_toArray] <;> omega)
  have I1:Inv X pins σ H { s with heap:=h' }:=I.kept (t':=s.toks) kp
  have I2:Inv X pins σ (upd H h'.objs.size (.tup ys)) { s with heap:=h'.push { cls:=.type "tuple",data:=.seq its.toArray } } :=
   I1.laid (t':=s.toks) (fun b o e=>Heap.get?_push_of_some _ e) (Nat.le_refl _) (show ObjOk X.prog X.w _ _ _ (.tup ys) from ⟨hz,its,r',TupN.new _ _⟩)
  exact⟨.ref h'.objs.size,_,I2,rfl,q _ (I1.hok.fresh (Nat.le_refl _))⟩
 ·obtain⟨its,r',pl,hz⟩:=I.tuple hq
  exact call_tuple_same pl ⟨.ref p,H,I,rfl,q⟩
/-- the value is of that builtin type -/
def tyV (K:PySem.W.Frag) (T:String) (x:V) (H:Hp):Prop:=match x with
 | .str _=>T="str"
 | .int _=>T="int"
 | .ref p => (T = "list" ∧ ∃ xs, SqL K H p xs) ∨ (T = "tuple" ∧ ∃ o, K.lookup p = some o ∧ o.cls = .type "tuple" ∧ o.dict = none) ∨
     (T="dict"∧((∃ kvs,H p=some (.dK kvs))∨∃ kvs,H p=some (.dT kvs)))∨(T="set"∧∃ S n,H p=some (.set S n))
 | _=>False
theorem tyV_is {pins:List (Addr × Obj)} {σ:St} {H:Hp} {s:Shared} {T:String} {x:V} {v:Value} (I:Inv X pins σ H s) (r:RelV x v) (ty:tyV X.K T x H) :
  s.TypeIs v T∧∀ a,v=.ref a->∃ ob,s.heap.get? a=some ob∧ob.dict=none:=by
 cases x with
 | str z =>
  obtain⟨t,rfl⟩:=r
  cases (show T="str" from ty)
  exact⟨typeIs_str s z t,fun _ e=>nomatch e⟩
 | int i =>
  obtain⟨t,rfl⟩:=r
  cases (show T="int" from ty)
  exact⟨typeIs_int s i t,fun _ e=>nomatch e⟩
 | ref p =>
  cases r
  rcases ty with ⟨rfl,xs,hq⟩ | ⟨rfl,o,hk,hc,hd⟩ | ⟨rfl,hk⟩ | ⟨rfl,S,n,hk⟩
  ·obtain⟨its,_,pl,_⟩:=I.list hq
   refine⟨pl.isList.typeIs,fun a e=>?_⟩
   cases e
   obtain⟨o,n,e,c,hd,_⟩:=pl
   exact⟨o,e,hd⟩
  ·refine⟨⟨o,I.kIn p o hk,hc⟩,fun a e=>?_⟩
   cases e
   exact⟨o,I.kIn _ o hk,hd⟩
  ·have z:∃ o,s.heap.get? p=some o∧o.ExactDict:=by
    rcases hk with ⟨kvs,hk⟩ | ⟨kvs,hk⟩
    ·obtain⟨_,_,_,_,o,_,_,e,ex,_⟩:=I.hok p _ hk
     exact⟨o,e,ex⟩
    ·obtain⟨_,_,_,_,o,_,_,e,ex,_⟩:=I.hok p _ hk
     exact⟨o,e,ex⟩
   obtain⟨o,e,ex⟩:=z
   refine⟨⟨o,e,ex.1⟩,fun a e2=>?_⟩
   cases e2
   exact⟨o,e,ex.2.1⟩
  ·obtain⟨o,_,_,_,e,ex,_⟩:=I.hok p _ hk
   refine⟨⟨o,e,ex.1⟩,fun a e2=>?_⟩
   cases e2
   exact⟨o,e,ex.2.1⟩
 | _=>exact False.elim ty
def tBM (K:PySem.W.Frag) (T:String) (r:V->List V->Hp->VK->Prop) (to:TE) (t:TA):TE:=fun σ H Q=>to σ H fun x H1=>tyV K T x H1∧t σ H1 fun xs H2=>r x xs H2 Q
variable {o e:Expr} {es:List Expr} {to:TE} {t:TA} {name:Str} {apos cpos:Pos} {T id:String} {r:V->List V->Hp->VK->Prop}
theorem pe_bm (pa:PlainAttrs T) (slot:Slot T name id) (hty:typeOf (.builtin id)=pure (.type "method_descriptor")) (hm:MtR X id r) (ho:PE X o to) (ha:PA X (e::es) t)
  (hbase:attributeBase o name X.env (eval o X.env)=eval o X.env:=by rfl)
  (hfew:((backTo cpos (starEach (e::es) X.env)).all (fun x=>!x.1) && (backToKw cpos (keywordEach [] X.env)).all (fun x=>x.1.isSome)
   && decide ((e::es).length + ([]:List Keyword).length + (if ([]:List Keyword).isEmpty then 0 else 1) < 30))=true:=by rfl)
  (hline:(apos.endLine == cpos.line)=true:=by rfl) (hs:starEach (e::es) X.env=(false,eval e X.env)::starEach es X.env:=by rfl) (hplain:(backTo cpos (starEach es X.env)).any (·.1)=false:=by rfl) :
  PE X (.Call (.Attribute o name apos) (e::es) [] cpos) (tBM X.K T r to t):=by
 intro pins s σ H Q I h
 refine wpAny_Call_method_late hbase hfew hline rfl (thn (ho pins s σ H _ I h) fun v s1 ⟨x,H1,I1,r1,ty,q1⟩=>?_)
 obtain⟨h1,h2⟩:=tyV_is I1 r1 ty
 refine⟨T,id,pa,slot,hty,h1,h2,?_⟩
 have hA:=ha cpos pins s1 σ H1 _ I1 q1
 rw[hs] at hA ⊢
 refine Calls.callWith_builtin (by show (false || (backTo cpos (starEach es X.env)).any (·.1))=false;rw[hplain] <;> rfl) (Calls.evalArgs_plain ?_)
 exact thn hA fun us s2 ⟨vs,H2,I2,r2,q2⟩=>hm pins s2 σ H2 x vs v us Q I2 r1 r2 q2
end
end L2
namespace L2
open PySem PySem.Spec PyProof.Rows
def MtM (X:Cx) (id:String) (r:V->List V->Hp->VK->Prop):Prop :=
 ∀ (pins:List (Addr × Obj)) (s:Shared) (σ:St) (H:Hp) (x:V) (xs:List V) (v:Value) (us:List Value) (Q:VK),Inv X pins σ H s->RelV x v->Vals xs us->r x xs H Q ->
  wpAny (model X.prog X.w) X.A (call (.builtin id) (v::us)) (EP X pins σ Q) X.xe s
theorem Vals.one:∀ {x:V} {us:List Value},Vals [x] us->∃ u,us=[u]∧RelV x u
 | _,_,.cons r .nil=>⟨_,rfl,r⟩
theorem Vals.two:∀ {x y:V} {us:List Value},Vals [x,y] us->∃ u v,us=[u,v]∧RelV x u∧RelV y v
 | _,_,_,.cons r (.cons q .nil)=>⟨_,_,rfl,r,q⟩
theorem Vals.eraseIdx:∀ {xs:List V} {us:List Value} (i:Nat),Vals xs us->Vals (xs.eraseIdx i) (us.eraseIdx i)
 | _,_,_,.nil=>.nil
 | _,_,0,.cons _ t=>t
 | _,_,i + 1,.cons r t=>.cons r (Vals.eraseIdx i t)
theorem Vals.reverse {xs:List V} {us:List Value} (h:Vals xs us):Vals xs.reverse us.reverse:=by
 induction h with
 | nil=>exact .nil
 | cons r t ih=>rw[List.reverse_cons,List.reverse_cons];exact Vals.append ih (.cons r .nil)
theorem Vals.rep {xs:List V} {us:List Value} (h:Vals xs us):∀ k:Nat,Vals (List.replicate k xs).flatten (List.replicate k us).flatten
 | 0=>.nil
 | k + 1=>by
  rw[List.replicate_succ,List.replicate_succ,List.flatten_cons,List.flatten_cons]
  exact Vals.append h (Vals.rep h k)
theorem len_erase {α:Type}:∀ (l:List α) (i:Nat),(l.eraseIdx i).length≤l.length
 | [],_=>Nat.le_refl _
 | _::_,0=>Nat.le_succ _
 | _::r,i + 1=>Nat.succ_le_succ (len_erase r i)
theorem foldl_rep (its:List Value):∀ (k:Nat) (acc:List Value),
  List.foldl (fun x1 x2=>x1++x2) acc.toArray (List.replicate k its.toArray)=(acc++(List.replicate k its).flatten).toArray
 | 0,acc=>by simp
 | k + 1,acc=>by
  have e:acc.toArray++its.toArray=(acc++its).toArray:=by simp
  have e2:(acc++its)++(List.replicate k its).flatten=acc++(List.replicate (k + 1) its).flatten:=by
   rw[List.replicate_succ,List.flatten_cons,List.append_assoc]
  rw[← e2,← foldl_rep its k (acc++its),← e,List.replicate_succ,List.foldl_cons]
section
variable {X:Cx} {pins:List (Addr × Obj)} {σ:St} {H:Hp} {s:Shared} {l b:Addr} {xs ys zs:List V}
theorem Inv.lset {its its':List Value} {n:Nat} {f:Array Value->Array Value} {t':Nat} (I:Inv X pins σ H s) (hH:H l=some (.lst xs))
  (e:s.heap.get? l=some { cls:=.type "list",data:=.seq its.toArray n }) (hf:f its.toArray=its'.toArray) (hv:Vals ys its') (hz:ys.length≤sizeLine) :
  Inv X pins σ (upd H l (.lst ys)) { s with heap:=s.heap.update l (Obj.mapSeq f),toks:=t' }:=by
 have q:=PySem.IsL.update e f
 rw[hf] at q
 refine I.write (x:=l) (e:=l) (by rw[hH];exact trivial) (.inl rfl) (fun b' u hb hu=>(Heap.get?_update_other s.heap (Obj.mapSeq f) (Ne.symm hb)).trans hu) ⟨_,q⟩ ?_
 exact⟨hz,its',_,hv,q⟩
theorem Inv.lnew {its:List Value} {t':Nat} (I:Inv X pins σ H s) (hv:Vals ys its) (hz:ys.length≤sizeLine) :
  Inv X pins σ (upd H s.heap.objs.size (.lst ys)) { s with heap:=s.heap.push { cls:=.type "list",data:=.seq its.toArray },toks:=t' } :=
 I.laid (fun _ _ q=>Heap.get?_push_of_some _ q) (Nat.le_refl _) ⟨hz,its,0,hv,Heap.get?_push_size _ rfl⟩
theorem Inv.fresh (I:Inv X pins σ H s):H s.heap.objs.size=none:=I.hok.fresh (Nat.le_refl _)
theorem Inv.lstM (I:Inv X pins σ H s) (hH:H l=some (.lst xs)):xs.length≤sizeLine∧∃ (its:List Value) (n:Nat),Vals xs its∧xs.length=its.length∧s.heap.get? l=some { cls:=.type "list",data:=.seq its.toArray n }:=by
 obtain⟨z,its,n,r,e⟩:=I.hok l _ hH
 exact⟨z,its,n,r,r.length,e⟩
theorem notLongL {n:Nat} (h:n≤sizeLine):Builtin.List.listTooLong n=false:=by
 unfold Builtin.List.listTooLong
 exact decide_eq_false (by omega)
end
section
variable {X:Cx}
def rAppend:V->List V->Hp->VK->Prop:=fun x vs H Q=>∃ l xs y,x=.ref l∧vs=[y]∧H l=some (.lst xs)∧xs.length < sizeLine∧Q .non (upd H l (.lst (xs++[y])))
theorem mt_append:MtM X "list.append" rAppend:=by
 intro pins s σ H x vs v us Q I rx rv h
 obtain⟨l,xs,y,rfl,rfl,hH,hz,q⟩:=h
 cases rx
 obtain⟨u,rfl,ru⟩:=rv.one
 obtain⟨z,its,n,r,hl,e⟩:=I.lstM hH
 refine call_meets F.slot_list_append ⟨_,e,rfl⟩ F.entry_list_append (F.args_list_append_2 _ _) (PySem.list_append l its.toArray n u (by rw[List.size_toArray];omega)) ⟨e,?_⟩
 refine⟨.non,_,I.lset (its':=its++[u]) hH e (by simp) (r.append (.cons ru .nil)) ?_,rfl,q⟩
 rw[List.length_append,List.length_singleton]
 omega
def rExtend:V->List V->Hp->VK->Prop:=fun x vs H Q=>∃ l b xs zs,x=.ref l∧vs=[.ref b]∧H l=some (.lst xs)∧H b=some (.lst zs)∧xs.length + zs.length≤sizeLine∧Q .non (upd H l (.lst (xs++zs)))
theorem mt_extend:MtM X "list.extend" rExtend:=by
 intro pins s σ H x vs v us Q I rx rv h
 obtain⟨l,b,xs,zs,rfl,rfl,hH,hB,hz,q⟩:=h
 cases rx
 obtain⟨u,rfl,ru⟩:=rv.one
 cases ru
 obtain⟨z,its,n,r,hl,e⟩:=I.lstM hH
 obtain⟨z2,its2,n2,r2,hl2,e2⟩:=I.lstM hB
 have hsz:its.toArray.size + its2.toArray.size≤sizeLine:=by rw[List.size_toArray,List.size_toArray];omega
 have hlong:¬ (!its.toArray.isEmpty && Builtin.List.listTooLong (its.toArray.size + its2.toArray.size))=true:=by
  rw[notLongL hsz,Bool.and_false]
  exact Bool.false_ne_true
 refine call_meets F.slot_list_extend ⟨_,e,rfl⟩ F.entry_list_extend (F.args_list_extend_2 _ _)
  (AutoSeq1.list_extend_list_list_0 l its.toArray n b its2.toArray n2 hlong (by rw[List.size_toArray];omega) (by omega)) ⟨e,e2,?_⟩
 refine⟨.non,_,I.lset (its':=its++its2) hH e (by simp) (r.append r2) ?_,rfl,q⟩
 rw[List.length_append]
 omega
def rPopAt:V->List V->Hp->VK->Prop:=fun x vs H Q=>∃ l xs i k y,x=.ref l∧vs=[.int i]∧H l=some (.lst xs)∧-(2 ^ 63)≤i∧i < 2 ^ 63∧seqIndex? i xs.length=some k∧xs[k]?=some y∧Q y (upd H l (.lst (xs.eraseIdx k)))
theorem mt_popAt:MtM X "list.pop" rPopAt:=by
 intro pins s σ H x vs v us Q I rx rv h
 obtain⟨l,xs,i,k,y,rfl,rfl,hH,h1,h2,hk,hy,q⟩:=h
 cases rx
 obtain⟨u,rfl,ru⟩:=rv.one
 obtain⟨t,rfl⟩:=ru
 obtain⟨z,its,n,r,hl,e⟩:=I.lstM hH
 obtain⟨w,hw,rw'⟩:=r.get hy
 refine call_meets F.slot_list_pop ⟨_,e,rfl⟩ F.entry_list_pop (F.args_list_pop_2 _ _)
  (MeetsSeq.list_pop_at l its.toArray n i t k w (fitsIndex_both h1 h2) (by rw[List.size_toArray,← hl];exact hk) (by rw[← Array.getElem?_toList];exact hw) (by rw[List.size_toArray];omega)) ⟨e,?_⟩
 refine⟨y,_,I.lset (its':=its.eraseIdx k) hH e ?_ (r.eraseIdx k) ?_,rw',q⟩
 ·show its.toArray.eraseIdxIfInBounds k=(its.eraseIdx k).toArray
  rw[List.eraseIdxIfInBounds_toArray]
 ·have:=len_erase xs k
  omega
/-- a list times an int (a negative one is nothing) -/
def rRep:R2:=fun x y H Q=>∃ l k xs,x=.ref l∧y=.int k∧H l=some (.lst xs)∧-(2 ^ 63)≤k∧k < 2 ^ 63∧xs.length * k.toNat≤sizeLine ∧
 ∀ p,H p=none->Q (.ref p) (upd H p (.lst (List.replicate k.toNat xs).flatten))
theorem len_rep {α:Type} (xs:List α) (k:Nat):(List.replicate k xs).flatten.length=k * xs.length:=by
 induction k with
 | zero=>simp
 | succ k ih=>rw[List.replicate_succ,List.flatten_cons,List.length_append,ih,Nat.succ_mul,Nat.add_comm]
theorem op_rep:OpR X (binaryOp .Mult) rRep:=by
 intro pins s σ H x y v u Q I rx ry h
 obtain⟨l,k,xs,rfl,rfl,hH,h1,h2,hz,q⟩:=h
 cases rx
 obtain⟨t,rfl⟩:=ry
 obtain⟨z,its,n,r,hl,e⟩:=I.lstM hH
 have hlen:its.toArray.size * k.toNat≤sizeLine:=by rw[List.size_toArray,← hl];exact hz
 have hcap:¬ its.toArray.size * k.toNat > (2 ^ 63 - 1) / 8:=by
  have:(sizeLine:Nat)≤(2 ^ 63 - 1) / 8:=by decide
  omega
 have hfit:¬ (!Builtin.List.listFitsIndex k)=true:=by
  rw[fitsIndex_both h1 h2]
  exact Bool.false_ne_true
 have hlong:¬ Builtin.List.listTooLong (its.toArray.size * k.toNat)=true:=by
  rw[notLongL hlen]
  exact Bool.false_ne_true
 have hnew:List.foldl (fun x1 x2=>x1++x2) #[] (List.replicate (if its.toArray.isEmpty=true then 0 else k.toNat) its.toArray)=(List.replicate k.toNat its).flatten.toArray:=by
  have f0:∀ m:Nat,List.foldl (fun x1 x2=>x1++x2) #[] (List.replicate m its.toArray)=(List.replicate m its).flatten.toArray:=fun m=>by
   have:=foldl_rep its m []
   rw[List.nil_append] at this
   exact this
  rw[f0]
  cases its with
  | nil=>simp
  | cons a r'=>rw[if_neg (by simp)]
 refine wpAny_binaryOp_repeat_ref (T:="list") (U:="int") (by decide) ⟨_,e,rfl⟩ (fun s'=>typeIs_int s' k t) noFill_list_mul F.fills_int_mul F.slot_int_rmul repeat_list F.slot_int_index.lookup
  (call_meets F.slot_int_rmul (typeIs_int s k t) F.entry_int_rmul (F.args_int_rmul_2 _ _) (int___rmul___int_list k t l its.toArray n)
   ⟨e,rfl,⟨_,e,rfl⟩,call_meets F.slot_list_mul ⟨_,e,rfl⟩ F.entry_list_mul (F.args_list_mul_2 _ _) (AutoListH.list___mul___list_int_3 l its.toArray n k t hfit hcap hlong) ⟨e,?_⟩⟩)
 rw[hnew]
 exact⟨.ref _,_,I.lnew (t':=s.toks) (r.rep k.toNat) (by rw[len_rep,Nat.mul_comm];exact hz),rfl,q _ I.fresh⟩
end
section
variable {prog:Program} {w:World} {A:Around} {E:Value->Shared->Prop} {s:Shared}
end
section
variable {X:Cx}
end
end L2
namespace Att
open PySem PySem.W PySem.Calls PyProof.Rows
theorem ints_of_wellAll {P:Params} {h:Heap}:∀ (ns:List Int) (vs:List Value),WellAll P h vs (ns.map WData.int)->IntsAre vs ns:=by
 intro ns
 induction ns with
 | nil =>
  intro vs w
  rw[List.map_nil] at w
  cases w
  exact .nil
 | cons n ns ih =>
  intro vs w
  rw[List.map_cons] at w
  cases w with
  | cons a b =>
   cases a
   exact .cons _ _ (ih _ b)
theorem script_of {l:OpenLaw} {n:Nat} (hn:l.most=some n) {P:Params} {h:Heap} {args:List WData} {vals:List Value}
  (hpre:l.row.toRowW.claim.pre args=true) (hwl:WellAll P h vals args) :
  ∃ a vs ns,vals=[Value.ref a]∧args=[WData.list (ns.map WData.int)]∧h.get? a=some { cls:=.type "list",data:=.seq vs.toArray }∧IntsAre vs ns∧ns.length≤n:=by
 have hsh:WShape.hasAll [] args [.list .int]=true:=(pre_splitW hpre).1
 have hc:l.pre.holds [] { args:=args }=true:=(pre_splitW hpre).2
 obtain⟨d,r,rfl,h1,h2⟩:=hasAllW_cons hsh
 obtain rfl:=hasAllW_nil h2
 obtain⟨xs,rfl,h3⟩:=hasW_list h1
 obtain⟨ns,rfl⟩:=items_int h3
 have hlen:ns.length≤n:=by
  unfold OpenLaw.pre at hc
  have h4:(WTm.not (.lt (.lit (.int (n:Int))) (.len (.arg 0)))).holds [] { args:=[.list (ns.map .int)] }=true:=by
   have h4:=(holds_andW hc).1
   rw[hn] at h4
   exact h4
  have h5:=condW_of h4 (w_not (w_lt w_lit (w_len_list (w_arg rfl))))
  rw[List.length_map] at h5
  refine Nat.le_of_not_lt fun q=>?_
  have q':(n:Int) < ((ns.length:Nat):Int):=by omega
  first
   | (rw[decide_eq_true q'] at h5;exact absurd h5 (by decide))
   | (simp at h5;omega)
 cases hwl with
 | cons w1 w2 =>
  cases w2
  cases w1 with
  | list ho hall=>exact⟨_,_,ns,rfl,rfl,ho,ints_of_wellAll ns _ hall,hlen⟩
theorem post_true (l:OpenLaw) (args:List WData):l.row.toRowW.claim.post args (.bool true) args=true :=
 postW_of (r:=l.row.toRowW) (X:=(true == true))
  (show WShape.has [] (.bool true) .bool=true by first | rfl | decide | simp [WShape.has,WShape.arms,WShape.armsAll])
  (show (WTm.eq .res (.lit (.bool true))).value [] { args:=args,res:=some (.bool true),after:=args }=some (.bool (true == true)) from w_eq_bool (w_res rfl) w_lit) rfl
/-- the same from a codeAny of the CALL (for a layer whose function contracts speak of calls) -/
theorem attach_call {l:OpenLaw} {n:Nat} {q:Program} {loose:List Str} {XP:(Str->Option Value)->Heap->Prop} {YP:World->Heap->Prop} {d:DefRec}
  (hn:l.most=some n) (hdf:d.params.defaults=[])
  (call:∀ (w:World) (s₀ s₁:Shared) (mg mb:Str->Option Value) (fa:Addr) (o:Obj) (pm cd doc:Value) (a:Addr) (vs:List Value) (ns:List Int),
   Ground q loose [] XP w s₀ mg mb s₁.heap->YP w s₁.heap ->
   s₁.heap.get? fa=some o->o.data=.func (docDef d.name d.params d.body d.scope pm cd doc)->s₁.heap.CodeRec cd d.name->mg d.name=some (.ref fa) ->
   s₁.heap.get? a=some { cls:=.type "list",data:=.seq vs.toArray }->IntsAre vs ns->ns.length≤n->s₁.gens=#[] ->
   codeAny (model l.prog w) callerA (.call (.ref fa) ⟨[.ref a],[]⟩) (fun r s'=>r=.ok (.ret (.bool true))∧OldK s₁.heap s'.heap∧s'.os=s₁.os∧AllBare s'.gens) s₁) :
  WalkO q loose XP YP l.row.toRowW d [] (fun f vs=>PySem.call f vs):=by
 intro w s₀ s₁ mg mb G Y fa o pm cd doc dV kV ho hd hcd hD hmg hg args vals as hpre hlay hrd hwl hlo
 obtain rfl:dV=.none:=Dflts.none hD hdf
 obtain rfl:kV=.none:=Dflts.noKw hD
 obtain⟨a,vs,ns,rfl,rfl,hobj,hints,hlen⟩:=script_of hn hpre hwl
 refine enter_call (codeAny_mono (call w s₀ s₁ mg mb fa o pm cd doc a vs ns G Y ho (fd_plain hd) hcd hmg hobj hints hlen hg) fun r s' hq=>?_)
 obtain⟨rfl,h2,h3,h4⟩:=hq
 exact⟨.inl ⟨.bool true,.bool true,[],rfl,fun _=>rfl,.bool true,post_true l _,fun _=>⟨List.Pairwise.nil,fun _ hm=>(nomatch hm)⟩⟩,h2,h3,h4⟩
section
variable {prog:Program} {w:World} {A:Around} {E:Value->Shared->Prop} {s:Shared} {K:Frag}
end
end Att
namespace L2
open PySem PySem.Spec PyProof.Rows
theorem vals_ints:∀ {vs:List Value} {ns:List Int},IntsAre vs ns->Vals (ns.map V.int) vs
 | _,_,.nil=>.nil
 | _,_,.cons n t h=>.cons ⟨t,rfl⟩ (vals_ints h)
/-- nothing is tracked but the script, known to the object (or it is an object of the module) -/
def Only (H:Hp):Prop:=∀ b,H b=none∨∃ o xs,H b=some (.frz o (.lst xs))
/-- THE HEAD: the law's promise, at the heap behind the top. F, the promise of the law's def, may use that base is part of the heap (so K.In base, base.Ns mainGlobals mg stand in Mod) -/
theorem law_call {P:Program} {w:World} {K:PySem.W.Frag} {mg mb:Str->Option Value} {CX:CXT} {k:Nat} {fa a:Addr} {fd:FuncData} {x:Str} {sp:Sp} {s₁:Shared} {vs:List Value} {ns:List Int}
  (KX:K.In s₁.heap) (hns:s₁.heap.Ns mainGlobals mg) (hb:s₁.heap.Ns builtinsNs mb) (hbb:∀ x:Str,x≠"__name__"->mb x=bootBuiltins x) (hlim:s₁.heap.NoLimit) (hg:s₁.gens=#[])
  (ha:s₁.heap.get? a=some { cls:=.type "list",data:=.seq vs.toArray }) (hi:IntsAre vs ns) (hl:ns.length≤sizeLine) (hr:Room k callerA)
  (F:∀ base:Heap,K.In base->base.Ns mainGlobals mg->FnOk P w K mg base CX k fa fd [x] sp) (hbind:∀ (s:Shared) (u:Value),BindsTo s fd ⟨[u],[]⟩ [(x,u)])
  (hsp:∀ H:Hp,Only H->SqL K H a (ns.map V.int)->sp [.ref a] H (fun v _=>v=.bl true) fun _ _ _=>False)
  (hCX:∀ H e s',CX [] H s₁ (fun _ _ _=>False) e s'->False) :
  codeAny (model P w) callerA (.call (.ref fa) ⟨[.ref a],[]⟩) (fun r s'=>r=.ok (.ret (.bool true))∧OldK s₁.heap s'.heap∧s'.os=s₁.os∧AllBare s'.gens) s₁:=by
 have rv:=vals_ints hi
 have lenV:=hi.length
  -- from an abstract heap in which nothing but the script may be tracked
 have core : ∀ H : Hp, Only H → SqL K H a (ns.map V.int) → HOk P w H s₁.heap → (∀ b, H b ≠ none → b = a) → (H a ≠ none → K.lookup a = none) →
     codeAny (model P w) callerA (.call (.ref fa) ⟨[.ref a],[]⟩) (fun r s'=>r=.ok (.ret (.bool true))∧OldK s₁.heap s'.heap∧s'.os=s₁.os∧AllBare s'.gens) s₁:=by
  intro H hO hS hok hA hK
  have base_of:∀ {b:Addr} {o:Obj},s₁.heap.get? b=some o->H b=none->(hidT s₁.heap H).get? b=some o:=fun e n=>hidT_get e n
  have noA:∀ {b:Addr} {o:Obj} {es:Array DictEntry} {ep:Nat},s₁.heap.get? b=some o->o.data=.dict es ep->H b=none:=fun {b o es ep} e d=>by
   cases q:H b with
   | none=>rfl
   | some u =>
    have e':b=a:=hA b (by rw[q];simp)
    subst e'
    rw[ha] at e;cases e
    have d':Data.seq vs.toArray _=Data.dict es ep:=d
    cases d'
  have nsK:∀ {b:Addr} {m:Str->Option Value},s₁.heap.Ns b m->(hidT s₁.heap H).Ns b m:=fun {b m} ⟨o,es,ep,e,d,r⟩=>⟨o,es,ep,base_of e (noA e d),d,r⟩
  have hKb:K.In (hidT s₁.heap H):=fun b o e=>base_of (KX b o e) (by
   cases q:H b with
   | none=>rfl
   | some u =>
    have e':b=a:=hA b (by rw[q];simp)
    subst e'
    rw[hK (by rw[q];simp)] at e;cases e)
  have hM:Mod K mg (hidT s₁.heap H):=⟨hKb,nsK hns,⟨mb,nsK hb,hbb⟩,let ⟨mc,h1,h2⟩:=hlim;⟨mc,nsK h1,h2⟩⟩
  have e0:Env0 P w K mg (hidT s₁.heap H) callerA [] s₁ H:=⟨rfl,hM,fun b o e=>of_hidT e,Nat.le_of_eq (hidT_size _ _),trivial,fun b hb=>absurd (show b ∈ ([]:List Addr) from hb) (by simp),hok,.of_eq hg⟩
  refine codeAny_mono ((F _ hKb (nsK hns)).run callerA [] s₁ H ⟨[.ref a],[]⟩ [.ref a] [.ref a] _ _ hr e0 (hbind s₁ (.ref a)) (.cons rfl .nil) (hsp H hO hS)) fun r s' h=>?_
  cases r with
  | error e=>exact (hCX H e s' h).elim
  | ok fl =>
   cases fl with
   | next=>exact False.elim h
   | brk=>exact False.elim h
   | cont=>exact False.elim h
   | ret u =>
    obtain⟨v,H',os,bare,un,hok',r',q⟩:=h
    have q':v=.bl true:=q
    subst q'
    obtain rfl:u=Value.bool true:=r'
    refine⟨rfl,OldK.of_keep fun b o e=>?_,os,bare⟩
    cases q:H b with
    | none=>exact un.keep b o e q (by intro z;exact absurd (show b ∈ ([]:List Addr) from z) (by simp)) (by simp)
    | some u =>
     rcases hO b with z | ⟨ob,xs,z⟩
     ·rw[q] at z;cases z
     ·have z2:=un.frzs b ob _ z
      obtain⟨e1,_⟩:=hok b _ z
      obtain⟨e2,_⟩:=hok' b _ z2
      rw[e] at e1;cases e1
      exact e2
 cases hk:K.lookup a with
 | some o =>
    -- the script is one of the module's own objects
  have e:=KX a o hk
  rw[ha] at e
  cases e
  refine core (fun _=>none) (fun _=>.inl rfl) (.inr ⟨_,vs.toArray,_,hk,rfl,rfl,rfl,by rw[List.size_toArray,lenV];exact hl,by simpa using rv⟩) (fun b u z=>by have z':(none:Option HO)=some u:=z;cases z') (fun b z=>absurd rfl z) fun z=>absurd rfl z
 | none =>
  refine core (fun b=>if b=a then some (.frz { cls:=.type "list",data:=.seq vs.toArray } (.lst (ns.map V.int))) else none) (fun b=>?_) (.inl (.inr ⟨{ cls:=.type "list",data:=.seq vs.toArray },if_pos rfl⟩)) (fun b u z=>?_) (fun b z=>?_) fun _=>hk
  ·by_cases hb:b=a
   ·exact .inr ⟨_,_,if_pos hb⟩
   ·exact .inl (if_neg hb)
  ·by_cases hb:b=a
   ·have z':=(if_pos hb).symm.trans z
    cases z'
    subst hb
    exact⟨ha,by rw[List.length_map];exact hl,vs,_,rv,ha⟩
   ·have z':=(if_neg hb).symm.trans z
    cases z'
  ·by_cases hb:b=a
   ·exact hb
   ·exact absurd (if_neg hb) z
end L2
namespace L2
open PySem PySem.Spec PyProof.Rows
/-- the goal that k_head leaves (case hc), from the law's promise. F gives the function object fd (K's own) once, then the promise over every base -/
theorem walk_of {l:PySem.W.OpenLaw} {n k:Nat} {q:Program} {loose:List Str} {XP:(Str->Option Value)->Heap->Prop} {YP:World->Heap->Prop} {d:DefRec} {K:Params->PySem.W.Frag} {CX:World->CXT} {sp:World->Sp} {x:Str}
  (hn:l.most=some n) (hn2:n≤sizeLine) (hdf:d.params.defaults=[]) (hr:Room k callerA)
  (hY:∀ (w:World) (h:Heap),YP w h->(K w.params).In h)
  (F:∀ (w:World) (mg:Str->Option Value) (fa:Addr) (h:Heap),(K w.params).In h->h.Ns mainGlobals mg->mg d.name=some (.ref fa) ->
   ∃ fd:FuncData,(∀ (s:Shared) (u:Value),BindsTo s fd ⟨[u],[]⟩ [(x,u)]) ∧
    ∀ base:Heap,(K w.params).In base->base.Ns mainGlobals mg->FnOk l.prog w (K w.params) mg base (CX w) k fa fd [x] (sp w))
  (hsp:∀ (w:World) (H:Hp) (a:Addr) (ns:List Int),ns.length≤n->Only H->SqL (K w.params) H a (ns.map V.int)->sp w [.ref a] H (fun v _=>v=.bl true) fun _ _ _=>False)
  (hCX:∀ (w:World) (H:Hp) (s:Shared) (e:Value) (s':Shared),CX w [] H s (fun _ _ _=>False) e s'->False) :
  PySem.W.WalkO q loose XP YP l.row.toRowW d [] (fun f vs=>PySem.call f vs):=by
 refine Att.attach_call hn hdf fun w s₀ s₁ mg mb fa o pm cd doc a vs ns G Y ho hd hcd hmg hobj hints hlen hg=>?_
 have KX:=hY w _ Y
 obtain⟨fd,hb,hF⟩:=F w mg fa _ KX G.T.g hmg
 exact law_call KX G.T.g G.T.b G.T.builtins G.T.nolimit hg hobj hints (Nat.le_trans hlen hn2) hr hF hb (fun H hO hS=>hsp w H a ns hlen hO hS) fun H e s'=>hCX w H s₁ e s'
end L2
namespace L2
open PySem PySem.Spec PyProof.Rows
def defArgs (s:Stmt):Arguments:=match s with
 | .FunctionDef _ a _ _ _ _ _ _ _ _=>a
 | _=>{ posonlyargs:=[],args:=[],vararg:=none,kwonlyargs:=[],kw_defaults:=[],kwarg:=none,defaults:=[] }
def defBody (s:Stmt):List Stmt:=match s with
 | .FunctionDef _ _ b _ _ _ _ _ _ _=>b
 | _=>[]
def defScope (s:Stmt):Scope:=match s with
 | .FunctionDef _ _ _ _ _ _ sc _ _ _=>sc
 | _=>{ kind:=.function,names:=[],isGenerator:=false,isCoroutine:=false }
abbrev CX0:CXT:=fun _ _ _ _ _ _=>False
abbrev E0:XK:=fun _ _ _=>False
theorem pass0 {X:Cx}:Passes CX0 X E0:=fun _ _ _ _ _ _ _ h=>h.elim
structure Fun (K:PySem.W.Frag) (x qual:Str) (st:Stmt) (f:Addr) (fd:FuncData):Prop where
 ex:∃ (oc:Value) (od:Option Addr) (kV doc pm:Value) (an:Option Addr) (cdv ct:Value) (osl:Array (Option Value)),
  fd=PySem.W.fnOf x qual (defArgs st) (defBody st) (defScope st) .none kV doc pm an cdv ct∧K.lookup f=some ⟨oc,od,.func fd,osl⟩∧PySem.W.codeIn K cdv qual=true
 kp:PySem.W.keepIn K (.ref f)=true
section
variable {P:Program} {w:World} {K:PySem.W.Frag} {mg:Str->Option Value} {base:Heap}
/-- THE RULE for a def: its body as a term of rules, and the reading of that term -/
theorem Fun.ok {x qual:Str} {st:Stmt} {f:Addr} {fd:FuncData} {N ps:List Str} {k:Nat} {sp:Sp} (F:Fun K x qual st f fd) (S:FnScope N ps (defScope st)) (len:∀ vs H Q E,sp vs H Q E->vs.length=ps.length)
  (hbody:∀ (cdv:Value) (A:Around) (outer:List Env) (s:Shared) (H:Hp) (vs:List V) (Q:VK) (E:XK),Room k (A.deeper (envOfC qual (defScope st) s.heap.objs.size f cdv))->sp vs H Q E ->
   ∃ t,PSs (cxOf CX0 P w K mg base N qual (defScope st) f cdv A outer s H E).nox (defBody st) t∧t { nx:=fun _ H'=>Q .non H',rt:=Q } (start N vs) H):FnOk P w K mg base CX0 (k + 1) f fd ps sp:=by
 obtain⟨oc,od,kV,doc,pm,an,cdv,ct,osl,rfl,lk,hcd⟩:=F.ex
 refine fn_of lk hcd S len fun A outer s H vs Q E hr hsp=>?_
 obtain⟨t,h,q⟩:=hbody cdv A outer s H vs Q E hr hsp
 exact⟨t,h.nox,q⟩
/-- how its arguments bind (no defaults): h is «fun _ _ _ _ _ _ us hl => match us, hl with | [_, _], _ => rfl», one _ a parameter -/
theorem Fun.binds {x qual:Str} {st:Stmt} {f:Addr} {fd:FuncData} {ps:List Str} (F:Fun K x qual st f fd)
  (h:∀ (kV doc pm:Value) (an:Option Addr) (cdv ct:Value) (us:List Value),us.length=ps.length->bindArgs (PySem.W.fnOf x qual (defArgs st) (defBody st) (defScope st) .none kV doc pm an cdv ct) ⟨us,[]⟩=pure (ps.zip us)):Binds K fd ps []:=by
 obtain⟨oc,od,kV,doc,pm,an,cdv,ct,osl,rfl,lk,hcd⟩:=F.ex
 exact .all (h kV doc pm an cdv ct)
theorem fun_mk {x qual:Str} {st:Stmt} {f:Addr} {oc:Value} {od an:Option Addr} {osl:Array (Option Value)} {kV doc pm cdv ct:Value} (l:K.lookup f=some ⟨oc,od,.func (PySem.W.fnOf x qual (defArgs st) (defBody st) (defScope st) .none kV doc pm an cdv ct),osl⟩)
  (c:PySem.W.codeIn K cdv qual=true) (k:PySem.W.keepIn K (.ref f)=true):Fun K x qual st f (PySem.W.fnOf x qual (defArgs st) (defBody st) (defScope st) .none kV doc pm an cdv ct):=⟨⟨oc,od,kV,doc,pm,an,cdv,ct,osl,rfl,l,c⟩,k⟩
end
section
variable {X:Cx}
theorem pv (i:Nat) {x:Str} {pos:Pos} (hN:X.N[i]?=some x:=by rfl) (hv:Vis X.env.scope x:=by first | exact Or.inl rfl | exact Or.inr (Or.inl rfl) | exact Or.inr (Or.inr rfl)) (hd:(x == ("__debug__":Str))=false:=by decide)
  (hcd:(x == ("__classdict__":Str))=false:=by decide):PE X (.Name x pos) (tVar i):=pe_var hN hv hd hcd
end
theorem iteF {A B:Prop} (h:B):if false=true then A else B:=by
 rw[if_neg Bool.false_ne_true]
 exact h
theorem iteT {A B:Prop} (h:A):if true=true then A else B:=by
 rw[if_pos rfl]
 exact h
theorem ite2 {c A B:Prop} [Decidable c] (h1:c->A) (h2:¬ c->B):if c then A else B:=by
 by_cases h:c
 ·rw[if_pos h]
  exact h1 h
 ·rw[if_neg h]
  exact h2 h
theorem iteNS {c A B:Prop} [Decidable c] (hc:c) (h:B):if (!decide c)=true then A else B:=by
 rw[decide_eq_true hc]
 exact iteF h
/-- all that was tracked is as it was -/
def Same (H H':Hp):Prop:=∀ b o,H b=some o->H' b=some o
theorem Same.refl (H:Hp):Same H H:=fun _ _ h=>h
theorem Same.trans {H H1 H2:Hp} (a:Same H H1) (b:Same H1 H2):Same H H2:=fun c o h=>b c o (a c o h)
theorem Same.free {H H':Hp} (e:Same H H') {l:Addr} (h:H' l=Option.none):H l=Option.none:=by
 cases q:H l with
 | none=>rfl
 | some o =>
  rw[e l o q] at h
  cases h
theorem Same.seq {K:PySem.W.Frag} {H H':Hp} {a:Addr} {xs:List V} (e:Same H H') (h:SqL K H a xs):SqL K H' a xs:=by
 rcases h with (h | ⟨o,h⟩) | h
 ·exact .inl (.inl (e _ _ h))
 ·exact .inl (.inr ⟨o,e _ _ h⟩)
 ·exact .inr h
end L2
namespace L2
open PySem PySem.Spec PyProof.Rows
section
variable {κ:Type} [DecidableEq κ]
def valV (kvs:List (κ × V)) (k:κ):Option V:=(kvs.find? fun kv=>decide (kv.1=k)).map (·.2)
/-- in its place, or at the end -/
def putK (kvs:List (κ × V)) (k:κ) (v:V):List (κ × V) :=
 if (kvs.any fun kv=>decide (kv.1=k))=true then kvs.map (fun kv=>if kv.1=k then (kv.1,v) else kv) else kvs++[(k,v)]
def dropK (kvs:List (κ × V)) (k:κ):List (κ × V):=kvs.filter fun kv=>decide (kv.1≠k)
theorem RelO.getD {o:Option V} {u:Option Value} {d:V} {d':Value} (r:RelO o u) (rd:RelV d d'):RelV (o.getD d) (u.getD d'):=by
 cases o with
 | none=>cases u with
  | none=>exact rd
  | some _=>exact (show False from r).elim
 | some _=>cases u with
  | none=>exact (show False from r).elim
  | some _=>exact r
theorem KV.length {kvs:List (κ × V)} {vs:List (κ × Value)} (r:KV kvs vs):kvs.length=vs.length:=Paired.length r
end
/-- raw entries of a dict with tuple keys -/
abbrev KT (H:Hp):List (List Key × V)->List (List Key × Addr × Value)->Prop:=Paired fun p q=>p.1=q.1∧H q.2.1=some (.tup (p.1.map kV))∧RelV p.2 q.2.2
section
variable {P:Program} {w:World} {H:Hp} {h:Heap} {a:Addr}
end
/-- what the dict at a holds at the key y -/
def DGet (H:Hp) (a:Addr) (y:V) (r:Option V):Prop :=
 (∃ kvs k,Rd H a (.dK kvs)∧y=kV k∧r=valV kvs k)∨∃ kvs k b,Rd H a (.dT kvs)∧y=.ref b∧H b=some (.tup (k.map kV))∧r=valV kvs k
/-- the heap behind a[y] = v -/
def DPut (H:Hp) (a:Addr) (y v:V) (H':Hp):Prop :=
 (∃ kvs k,H a=some (.dK kvs)∧y=kV k∧kvs.length < sizeLine∧H'=upd H a (.dK (putK kvs k v))) ∨
 ∃ kvs k b,H a=some (.dT kvs)∧y=.ref b∧H b=some (.tup (k.map kV))∧kvs.length < sizeLine∧H'=upd H a (.dT (putK kvs k v))
section
variable {X:Cx} {pins:List (Addr × Obj)} {σ:St} {H:Hp} {s:Shared} {a:Addr} {y v:V} {u r:Value} {o:Option V} {A:Around} {E:Value->Shared->Prop}
end
section
variable {X:Cx} {pins:List (Addr × Obj)} {σ:St} {H:Hp} {s:Shared} {a:Addr} {kvs:List (Key × V)} {k:Key} {u:Value} {A:Around} {E:Value->Shared->Prop}
end
section
variable {X:Cx} {o i e value:Expr} {pos pos' tpos:Pos} {td ty tv:TE}
end
section
variable {X:Cx} {pos:Pos}
end
end L2
set_option maxHeartbeats 4000000
namespace Srt
open PySem PySem.W PyProof.Rows
section
variable {N:Nat} {r:Nat->Int} {cmp:Nat->Nat->(Bool->Shared->Prop)->Shared->Prop} {s:Shared}
def ky (r:Nat->Int) (p:Array Nat) (m:Nat):Int:=r (p.getD m 0)
def Up (r:Nat->Int) (p:Array Nat) (n:Nat):Prop:=∀ i j,i≤j->j < n->ky r p i≤ky r p j
def Dn (r:Nat->Int) (p:Array Nat) (n:Nat):Prop:=∀ i j,i≤j->j < n->ky r p j≤ky r p i
def Ask (N:Nat) (r:Nat->Int) (cmp:Nat->Nat->(Bool->Shared->Prop)->Shared->Prop) (s:Shared):Prop :=
 ∀ i j C,i < N->j < N->C (decide (r i < r j)) s->cmp i j C s
def Gd (N:Nat) (p:Array Nat):Prop:=p.Perm (List.toArray (List.range N))
theorem Gd.sz {p:Array Nat} (g:Gd N p):p.size=N:=by
 have:=g.size_eq
 simpa using this
theorem Gd.lt {p:Array Nat} (g:Gd N p) (h:0 < N) (m:Nat):p.getD m 0 < N:=by
 by_cases hm:m < p.size
 ·have e:p.getD m 0=p[m]:=by simp [Array.getD,hm]
  rw[e]
  have h1:p[m] ∈ p:=Array.getElem_mem hm
  have h2:p[m] ∈ List.toArray (List.range N):=g.mem_iff.mp h1
  simpa using h2
 ·have e:p.getD m 0=0:=by simp [Array.getD,hm]
  omega
theorem ky_of {p q:Array Nat} {i j:Nat} (h:p[i]?=q[j]?):ky r p i=ky r q j:=by
 have e:∀ (a:Array Nat) (k:Nat),a.getD k 0=(a[k]?).getD 0:=fun a k=>by
  by_cases hk:k < a.size <;> simp [Array.getD,hk]
 unfold ky
 rw[e,e,h]
theorem ky_rev {p:Array Nat} {i j:Nat} (hj:j≤p.size) (k:Nat):ky r (kas_rev p i j) k=if i≤k∧k < j then ky r p (i + j - 1 - k) else ky r p k:=by
 have e:=getElem?_mirror_all (i:=i) hj k
 by_cases h:i≤k∧k < j
 ·rw[if_pos h] at e ⊢
  exact ky_of e
 ·rw[if_neg h] at e ⊢
  exact ky_of e
theorem ky_bub {p:Array Nat} {k d:Nat} (hs:k < p.size) (hd:d≤k) (m:Nat) :
  ky r (bubble p k d) m=if m=k - d then ky r p k else if k - d < m∧m≤k then ky r p (m - 1) else ky r p m:=by
 have e:=getElem?_bubble hs d hd m
 by_cases h1:m=k - d
 ·rw[if_pos h1] at e ⊢
  exact ky_of e
 ·rw[if_neg h1] at e ⊢
  by_cases h2:k - d < m∧m≤k
  ·rw[if_pos h2] at e ⊢
   exact ky_of e
  ·rw[if_neg h2] at e ⊢
   exact ky_of e
theorem Gd.rev {p:Array Nat} (g:Gd N p) (i j:Nat):Gd N (kas_rev p i j):=(mirror_perm p i j _).trans g
theorem Gd.bub {p:Array Nat} (g:Gd N p) (i j:Nat):Gd N (bubble p i j):=(bubble_perm p i j).trans g
theorem asc_wp (h:Ask N r cmp s) (hN:0 < N) {p:Array Nat} (g:Gd N p) {Q:Nat->Shared->Prop}:∀ f n,1≤n->Up r p n ->
  (∀ m,n≤m->m≤n + f->Up r p m->(m < n + f->ky r p m < ky r p (m - 1))->Q m s)->(kas_asc p f n).kasWp cmp Q s
 | 0,n,_,hu,q=>q n (Nat.le_refl _) (Nat.le_refl _) hu (fun z=>absurd z (Nat.lt_irrefl _))
 | f + 1,n,h1,hu,q=>by
  refine h _ _ _ (g.lt hN _) (g.lt hN _) ?_
  by_cases c:r (p.getD n 0) < r (p.getD (n - 1) 0)
  ·rw[decide_eq_true c]
   exact q n (Nat.le_refl _) (by omega) hu (fun _=>c)
  ·rw[decide_eq_false c]
   refine asc_wp h hN g f (n + 1) (by omega) (fun i j hij hj=>?_) (fun m a b u d=>q m (by omega) (by omega) u (fun z=>d (by omega)))
   have c':ky r p (n - 1)≤ky r p n:=by unfold ky;omega
   by_cases e:j=n
   ·subst e
    by_cases e2:i=j
    ·subst e2;exact Int.le_refl _
    ·exact Int.le_trans (hu i (j - 1) (by omega) (by omega)) c'
   ·exact hu i j hij (by omega)
theorem ky_rev_eq {p:Array Nat} {i j:Nat} (hj:j≤p.size) (v:Int) (he:∀ k,i≤k->k < j->ky r p k=v) (k:Nat):ky r (kas_rev p i j) k=ky r p k:=by
 rw[ky_rev hj]
 split
 ·rename_i c
  rw[he _ (by omega) (by omega),he k c.1 c.2]
 ·rfl
theorem desc_wp (h:Ask N r cmp s) (hN:0 < N) {Q:Array Nat × Nat × Nat->Shared->Prop}:∀ f p n q,Gd N p->1≤n->n + f≤N->Dn r p n->q + 1≤n->(∀ i,n - (q + 1)≤i->i < n->ky r p i=ky r p (n - 1)) ->
  (∀ p' n' q',Gd N p'->n≤n'->n'≤n + f->Dn r p' n'->q' + 1≤n'->(∀ i,n' - (q' + 1)≤i->i < n'->ky r p' i=ky r p' (n' - 1))->Q (p',n',q') s)->(kas_desc f p n q).kasWp cmp Q s
 | 0,p,n,q,g,_,_,hd,hq,he,z=>z p n q g (Nat.le_refl _) (Nat.le_refl _) hd hq he
 | f + 1,p,n,q,g,h1,hf,hd,hq,he,z=>by
  refine h _ _ _ (g.lt hN _) (g.lt hN _) ?_
  by_cases c:r (p.getD n 0) < r (p.getD (n - 1) 0)
  ·rw[decide_eq_true c]
   have c':ky r p n < ky r p (n - 1):=c
   have dn:∀ {p':Array Nat},(∀ k,ky r p' k=ky r p k)->Dn r p' (n + 1):=fun e i j hij hj=>by
    rw[e,e]
    by_cases ej:j=n
    ·subst ej
     by_cases ei:i=j
     ·subst ei;exact Int.le_refl _
     ·exact Int.le_trans (Int.le_of_lt c') (hd i (j - 1) (by omega) (by omega))
    ·exact hd i j hij (by omega)
   show KasT.kasWp cmp (if q > 0 then kas_desc f (kas_rev p (n - (q + 1)) n) (n + 1) 0 else kas_desc f p (n + 1) 0) Q s
   by_cases hq0:q > 0
   ·rw[if_pos hq0]
    have e:=ky_rev_eq (r:=r) (p:=p) (i:=n - (q + 1)) (j:=n) (by rw[g.sz];omega) (ky r p (n - 1)) he
    exact desc_wp h hN f _ (n + 1) 0 (g.rev _ _) (by omega) (by omega) (dn e) (by omega) (fun i a b=>by congr 1;omega)
     (fun p' n' q' g' a b d e1 e2=>z p' n' q' g' (by omega) (by omega) d e1 e2)
   ·rw[if_neg hq0]
    exact desc_wp h hN f _ (n + 1) 0 g (by omega) (by omega) (dn fun _=>rfl) (by omega) (fun i a b=>by congr 1;omega)
     (fun p' n' q' g' a b d e1 e2=>z p' n' q' g' (by omega) (by omega) d e1 e2)
  ·rw[decide_eq_false c]
   refine h _ _ _ (g.lt hN _) (g.lt hN _) ?_
   by_cases d:r (p.getD (n - 1) 0) < r (p.getD n 0)
   ·rw[decide_eq_true d]
    exact z p n q g (Nat.le_refl _) (by omega) hd hq he
   ·rw[decide_eq_false d]
    have e:ky r p n=ky r p (n - 1):=by unfold ky;omega
    refine desc_wp h hN f p (n + 1) (q + 1) g (by omega) (by omega) (fun i j hij hj=>?_) (by omega) (fun i a b=>?_)
     (fun p' n' q' g' a b d e1 e2=>z p' n' q' g' (by omega) (by omega) d e1 e2)
    ·by_cases ej:j=n
     ·subst ej
      by_cases ei:i=j
      ·subst ei;exact Int.le_refl _
      ·rw[e];exact hd i (j - 1) (by omega) (by omega)
     ·exact hd i j hij (by omega)
    ·rw[show n + 1 - 1=n by omega]
     by_cases ei:i=n
     ·rw[ei]
     ·rw[e];exact he i (by omega) (by omega)
theorem tail3_wp (h:Ask N r cmp s) (hN:0 < N) {Q:Nat × Array Nat->Shared->Prop} {p:Array Nat} {n:Nat} (g:Gd N p) (h1:1≤n) (hn:n≤N) (hd:Dn r p n)
  (z:∀ m p',Gd N p'->1≤m->m≤N->Up r p' m->Q (m,p') s):(kas_tail3 n N p).kasWp cmp Q s:=by
 unfold kas_tail3
 rw[KasT.kasWp_bind]
 refine asc_wp h hN (g.rev 0 n) _ n h1 (fun i j hij hj=>?_) (fun m a b u _=>z m _ (g.rev 0 n) (by omega) (by omega) u)
 rw[ky_rev (by rw[g.sz];omega),ky_rev (by rw[g.sz];omega),if_pos (by omega),if_pos (by omega)]
 exact hd _ _ (by omega) (by omega)
theorem descPart_wp (h:Ask N r cmp s) (hN:0 < N) {Q:Nat × Array Nat->Shared->Prop} {p:Array Nat} {n:Nat} (g:Gd N p) (h1:1≤n) (hn:n + 1≤N) (hd:Dn r p (n + 1))
  (z:∀ m p',Gd N p'->1≤m->m≤N->Up r p' m->Q (m,p') s):(kas_descPart n N p).kasWp cmp Q s:=by
 unfold kas_descPart
 rw[KasT.kasWp_bind]
 refine desc_wp h hN _ p (n + 1) 0 g (by omega) (by omega) hd (by omega) (fun i a b=>by congr 1;omega) (fun p' n' q' g' a b d e1 e2=>?_)
 show KasT.kasWp cmp (if q' > 0 then kas_tail3 n' N (kas_rev p' (n' - (q' + 1)) n') else kas_tail3 n' N p') Q s
 by_cases hq:q' > 0
 ·rw[if_pos hq]
  have e:=ky_rev_eq (r:=r) (p:=p') (i:=n' - (q' + 1)) (j:=n') (by rw[g'.sz];omega) (ky r p' (n' - 1)) e2
  exact tail3_wp h hN (g'.rev _ _) (by omega) (by omega) (fun i j hij hj=>by rw[e,e];exact d i j hij hj) z
 ·rw[if_neg hq]
  exact tail3_wp h hN g' (by omega) (by omega) d z
theorem count_wp (h:Ask N r cmp s) (hN:0 < N) {Q:Nat × Array Nat->Shared->Prop} {p:Array Nat} (g:Gd N p)
  (z:∀ m p',Gd N p'->1≤m->m≤N->Up r p' m->Q (m,p') s):(kas_count N p).kasWp cmp Q s:=by
 unfold kas_count
 rw[KasT.kasWp_bind]
 refine asc_wp h hN g _ 1 (Nat.le_refl _) (fun i j hij hj=>?_) (fun m a b u d=>?_)
 ·have:i=j:=by omega
  subst this;exact Int.le_refl _
 show KasT.kasWp cmp (if (m == N)=true then .ret (m,p) else if m > 1 then .ask (p.getD 0 0) (p.getD (m - 1) 0) fun c=>if c=true then .ret (m,p) else kas_descPart m N (kas_rev p 0 m) else kas_descPart m N p) Q s
 by_cases hm:m=N
 ·rw[if_pos (by simpa using hm)]
  exact z m p g a (by omega) u
 ·rw[if_neg (by simpa using hm)]
  have d':=d (by omega)
  by_cases h1:m > 1
  ·rw[if_pos h1]
   refine h _ _ _ (g.lt hN _) (g.lt hN _) ?_
   by_cases c:r (p.getD 0 0) < r (p.getD (m - 1) 0)
   ·rw[decide_eq_true c]
    exact z m p g a (by omega) u
   ·rw[decide_eq_false c]
    have c':ky r p (m - 1)≤ky r p 0:=by unfold ky;omega
    have eq:∀ k,0≤k->k < m->ky r p k=ky r p 0:=fun k _ hk=>by
     have a1:=u 0 k (by omega) hk
     have a2:=u k (m - 1) (by omega) (by omega)
     omega
    have e:=ky_rev_eq (r:=r) (p:=p) (i:=0) (j:=m) (by rw[g.sz];omega) (ky r p 0) eq
    refine descPart_wp h hN (g.rev 0 m) (by omega) (by omega) (fun i j hij hj=>?_) z
    rw[e,e]
    by_cases ej:j=m
    ·subst ej
     by_cases ei:i=j
     ·subst ei;exact Int.le_refl _
     ·rw[eq i (by omega) (by omega)]
      have:=eq (j - 1) (by omega) (by omega)
      omega
    ·rw[eq i (by omega) (by omega),eq j (by omega) (by omega)]
     exact Int.le_refl _
  ·rw[if_neg h1]
   have e1:m=1:=by omega
   subst e1
   refine descPart_wp h hN g (by omega) (by omega) (fun i j hij hj=>?_) z
   by_cases ej:j=1
   ·subst ej
    by_cases ei:i=1
    ·subst ei;exact Int.le_refl _
    ·have:i=0:=by omega
     subst this
     exact Int.le_of_lt d'
   ·have:i=j:=by omega
    subst this;exact Int.le_refl _
theorem place_wp (h:Ask N r cmp s) (hN:0 < N) {Q:Nat->Shared->Prop} {p:Array Nat} {k:Nat} (g:Gd N p) (hu:Up r p k):∀ f l rr,l≤rr->rr≤k->rr - l≤f->(∀ i,i < l->ky r p i≤ky r p k)->(∀ i,rr≤i->i < k->ky r p k < ky r p i) ->
  (∀ l',l'≤k->(∀ i,i < l'->ky r p i≤ky r p k)->(∀ i,l'≤i->i < k->ky r p k < ky r p i)->Q l' s)->(kas_place p k f l rr).kasWp cmp Q s
 | 0,l,rr,h1,h2,h3,a,b,z=>z l (by omega) a (fun i x y=>b i (by omega) y)
 | f + 1,l,rr,h1,h2,h3,a,b,z=>by
  unfold kas_place
  by_cases hl:l ≥ rr
  ·rw[if_pos hl]
   exact z l (by omega) a (fun i x y=>b i (by omega) y)
  ·rw[if_neg hl]
   refine h _ _ _ (g.lt hN _) (g.lt hN _) ?_
   by_cases c:r (p.getD k 0) < r (p.getD ((l + rr) / 2) 0)
   ·rw[decide_eq_true c]
    have c':ky r p k < ky r p ((l + rr) / 2):=c
    exact place_wp h hN g hu f l ((l + rr) / 2) (by omega) (by omega) (by omega) a (fun i x y=>Int.lt_of_lt_of_le c' (hu _ _ x y)) z
   ·rw[decide_eq_false c]
    have c':ky r p ((l + rr) / 2)≤ky r p k:=by unfold ky;omega
    exact place_wp h hN g hu f ((l + rr) / 2 + 1) rr (by omega) (by omega) (by omega) (fun i x=>Int.le_trans (hu i ((l + rr) / 2) (by omega) (by omega)) c') b z
theorem bin_wp (h:Ask N r cmp s) (hN:0 < N) {Q:Array Nat->Shared->Prop}:∀ f p k,Gd N p->k + f≤N->Up r p k->(∀ p',Gd N p'->Up r p' (k + f)->Q p' s)->(kas_bin f p k).kasWp cmp Q s
 | 0,p,k,g,_,hu,z=>z p g hu
 | f + 1,p,k,g,hk,hu,z=>by
  unfold kas_bin
  rw[KasT.kasWp_bind]
  refine place_wp h hN g hu k 0 k (by omega) (Nat.le_refl _) (by omega) (fun i x=>absurd x (Nat.not_lt_zero _)) (fun i x y=>absurd (Nat.lt_of_le_of_lt x y) (Nat.lt_irrefl _)) (fun l hl a b=>?_)
  have e:=fun m=>ky_bub (r:=r) (p:=p) (k:=k) (d:=k - l) (by rw[g.sz];omega) (by omega) m
  refine bin_wp h hN f _ (k + 1) (g.bub _ _) (by omega) (fun i j hij hj=>?_) (fun p' g' u'=>z p' g' (by rw[show k + (f + 1)=k + 1 + f by omega];exact u'))
  rw[e,e]
  have ekl:k - (k - l)=l:=by omega
  rw[ekl]
  by_cases i1:i=l
  ·rw[if_pos i1]
   by_cases j1:j=l
   ·rw[if_pos j1];exact Int.le_refl _
   ·rw[if_neg j1,if_pos (by omega)]
    exact Int.le_of_lt (b _ (by omega) (by omega))
  ·rw[if_neg i1]
   by_cases i2:l < i∧i≤k
   ·rw[if_pos i2,if_neg (by omega),if_pos (by omega)]
    exact hu _ _ (by omega) (by omega)
   ·rw[if_neg i2]
    by_cases j1:j=l
    ·rw[if_pos j1];exact a _ (by omega)
    ·rw[if_neg j1]
     by_cases j2:l < j∧j≤k
     ·rw[if_pos j2];exact hu _ _ (by omega) (by omega)
     ·rw[if_neg j2];exact hu _ _ hij (by omega)
/-- the sort's tree, asked by ranks, ends at an order of the places by which the ranks rise -/
theorem sort_wp (h:Ask N r cmp s) (hN:0 < N) {Q:Array Nat->Shared->Prop} (z:∀ p,Gd N p->Up r p N->Q p s):(kas_sort N).kasWp cmp Q s:=by
 unfold kas_sort
 rw[KasT.kasWp_bind]
 refine count_wp h hN (Array.Perm.refl _) (fun m p g h1 hm u=>?_)
 show KasT.kasWp cmp (if m < N then kas_bin (N - max m 1) p (max m 1) else .ret p) Q s
 by_cases c:m < N
 ·rw[if_pos c,Nat.max_eq_left h1]
  exact bin_wp h hN _ p m g (by omega) u (fun p' g' u'=>z p' g' (by rw[show m + (N - m)=N by omega] at u';exact u'))
 ·rw[if_neg c]
  have:m=N:=by omega
  subst this
  exact z p g u
end
end Srt
namespace Srt
open PySem PySem.W PyProof.Rows
section
variable {n:Nat} {lt:Nat->Nat->Bool}
def rank (n:Nat) (lt:Nat->Nat->Bool) (i:Nat):Int:=(((List.range n).countP fun k=>lt k i:Nat):Int)
theorem countP_lt {α:Type} {p q:α->Bool}:∀ {l:List α} {x:α},(∀ y ∈ l,p y=true->q y=true)->x ∈ l->p x=false->q x=true->l.countP p < l.countP q
 | [],_,_,hx,_,_=>by cases hx
 | a::r,x,h,hx,hp,hq=>by
  have hr:∀ y ∈ r,p y=true->q y=true:=fun y hy=>h y (List.mem_cons_of_mem _ hy)
  have mono:r.countP p≤r.countP q:=List.countP_mono_left hr
  rw[List.countP_cons,List.countP_cons]
  rcases List.mem_cons.mp hx with e | hx
  ·subst e
   simp only [hp,hq,Bool.false_eq_true,if_false,if_true]
   omega
  ·have ih:=countP_lt hr hx hp hq
   cases hpa:p a with
   | false=>simp only [Bool.false_eq_true,if_false];split <;> omega
   | true =>
    have:=h a List.mem_cons_self hpa
    simp only [this,if_true]
    omega
theorem rank_lt (hi:∀ i,lt i i=false) (ht:∀ i j k,i < n->j < n->k < n->lt i j=true->lt j k=true->lt i k=true) (hn:∀ i j k,i < n->j < n->k < n->lt i k=true->lt i j=true∨lt j k=true)
  {i j:Nat} (h1:i < n) (h2:j < n):decide (rank n lt i < rank n lt j)=lt i j:=by
 unfold rank
 cases e:lt i j with
 | true =>
  refine decide_eq_true ?_
  have:=countP_lt (p:=fun k=>lt k i) (q:=fun k=>lt k j) (l:=List.range n) (x:=i) (fun k hk q=>ht k i j (List.mem_range.mp hk) h1 h2 q e) (List.mem_range.mpr h1) (hi i) e
  omega
 | false =>
  refine decide_eq_false ?_
  have:(List.range n).countP (fun k=>lt k j)≤(List.range n).countP (fun k=>lt k i):=List.countP_mono_left fun k hk q=>by
   rcases hn k i j (List.mem_range.mp hk) h1 h2 q with z | z
   ·exact z
   ·rw[e] at z;cases z
  omega
end
section
variable {prog:Program} {w:World} {A:Around} {E:Value->Shared->Prop} {s:Shared}
abbrev Stay (a:Addr) (h h':Heap):Prop:=∀ b o,b≠a->h.get? b=some o->h'.get? b=some o
def outOf (vs:List Value) (p:Array Nat):List Value:=p.toList.map fun i=>vs.getD i Value.none
theorem out_range (vs:List Value):outOf vs (List.toArray (List.range vs.length))=vs:=by
 unfold outOf
 refine List.ext_getElem (by simp) fun i h1 h2=>?_
 simp
 rw[List.getElem?_eq_getElem h2]
 rfl
theorem gd_len {vs:List Value} {p:Array Nat} (g:Gd vs.length p):(outOf vs p).length=vs.length:=by
 unfold outOf
 rw[List.length_map,Array.length_toList,g.sz]
/-- list.sort of a list whose items are told apart by ranks; nothing is written by a comparison -/
theorem lsort {a:Addr} {vs:List Value} {n:Nat} {P:PySem.Fin->Shared->Prop} {r:Nat->Int} {κ:SortKind} (ho:s.heap.get? a=some (seqObj "list" vs.toArray n)) (h64:vs.length < 64)
  (hk:2≤vs.length->∀ (s':Shared) (Q:SortKind->Shared->Prop),Stay a s.heap s'.heap->Q κ s'->wpAny (model prog w) A (keyKind' vs.toArray) Q (fun _ _=>False) s')
  (hc:∀ (s':Shared) (i j:Nat) (C:Bool->Shared->Prop),Stay a s.heap s'.heap->i < vs.length->j < vs.length->C (decide (r i < r j)) s'->kas_ask prog w A κ vs i j C s')
  (h:∀ (p:Array Nat) (h':Heap) (c:Nat),Gd vs.length p->Up r p vs.length->Stay a s.heap h'->h'.get? a=some (seqObj "list" (outOf vs p).toArray c)->P (.done (.ret .none)) { s with heap:=h' }) :
  wpAny (model prog w) A (Builtin.«list.sort» ⟨[.ref a],[]⟩) P E s:=by
 rw[list_sort_plain]
 have ha:a < s.heap.objs.size:=Heap.lt_size ho
 have line:(64:Nat)≤sizeLine:=by rw[sizeLine_eq];decide
 refine wpAny_bind (listItems_at ho rfl (wpAny_bind (listUpdate_at ho rfl ?_ (by rw[List.size_toArray];omega) (Nat.zero_le _))))
 have e1:=get?_update_seq ho fun _=>(#[]:Array Value)
 generalize (if ((fun _=>(#[]:Array Value)) vs.toArray).size == vs.toArray.size then n else n + 1)=n1 at e1
 have k1:Stay a s.heap (s.heap.update a (Obj.mapSeq fun _=>(#[]:Array Value))):=fun b o hb q=>(Heap.get?_update_other s.heap _ (Ne.symm hb)).trans q
 refine wpAny_bind (seqEpoch_at e1 rfl (wpAny_bind (wpAny_newTuple ?_ (by show vs.length≤_;omega))))
 refine wpAny_bind (wpAny_newList ?_ (Nat.zero_le _))
 refine wpAny_holding ?_
 show wpAny (model prog w) A _ P E { s with heap:=(((s.heap.update a (Obj.mapSeq fun _=>(#[]:Array Value))).push (seqObj "tuple" vs.toArray 0)).push (seqObj "list" #[] 0):Heap) }
 generalize hg:((s.heap.update a (Obj.mapSeq fun _=>(#[]:Array Value))).push (seqObj "tuple" vs.toArray 0)).push (seqObj "list" #[] 0)=g
 have e2:g.get? a=some (seqObj "list" #[] n1):=by rw[← hg];exact Heap.get?_push_of_some _ (Heap.get?_push_of_some _ e1)
 have k2:Stay a s.heap g:=fun b o hb q=>by rw[← hg];exact Heap.get?_push_of_some _ (Heap.get?_push_of_some _ (k1 b o hb q))
 have fin:∀ (p:Array Nat),Gd vs.length p->Up r p vs.length->P (.done (.ret .none)) { s with heap:=g.update a (Obj.mapSeq fun _=>(outOf vs p).toArray) }:=fun p g1 u1 =>
  h p _ _ g1 u1 (fun b o hb q=>(Heap.get?_update_other g _ (Ne.symm hb)).trans (k2 b o hb q)) (get?_update_seq e2 fun _=>(outOf vs p).toArray)
 by_cases h2:vs.length < 2
 ·have h2':vs.toArray.size < 2:=by rw[List.size_toArray];exact h2
  simp only [if_pos h2']
  refine wpAny_bind (wpAny_pure ?_)
  rw[StateT.run_pure]
  refine wpAny_bind (wpAny_pure ?_)
  have eo:((arrOf (SortSt.mk' general' (vs.toArray.zip vs.toArray) #[] 7 none)).map (·.2))=vs.toArray:=by
   apply Array.toList_inj.mp
   show ((vs.toArray.zip vs.toArray).map (·.2)).toList=_
   rw[Array.toList_map]
   simp only [Array.toList_zip,List.toList_toArray]
   exact List.map_snd_zip (Nat.le_refl _)
  dsimp only
  refine wpAny_bind (seqEpoch_at e2 rfl ?_)
  rw[eo]
  refine wpAny_bind (listUpdate_at e2 rfl ?_ (Nat.zero_le _) (by rw[List.size_toArray];omega))
  simp only [bne_self_eq_false,Bool.false_eq_true,if_false]
  have f:=fin (List.toArray (List.range vs.length)) (Array.Perm.refl _) (fun i j hij hj=>by
   have:i=j:=by omega
   subst this;exact Int.le_refl _)
  rw[out_range] at f
  exact wpAny_pure f
 ·have h2':¬ vs.toArray.size < 2:=by rw[List.size_toArray];exact h2
  simp only [if_neg h2']
  refine wpAny_bind (wpAny_mono (hk (by omega) { s with heap:=g } (fun κ' s'=>κ'=κ∧s'={ s with heap:=g }) k2 ⟨rfl,rfl⟩) (fun κ' s' hq=>?_) fun _ _ x=>x.elim)
  obtain⟨rfl,rfl⟩:=hq
  refine wpAny_bind (wpAny_mono (kat_run (ks:=vs) (Q:=fun st' s'=>∃ p:Array Nat,arrOf st'=p.map (kas_item (vs.toArray.zip vs.toArray))∧failedOf st'=none∧s'={ s with heap:=g }∧Gd vs.length p∧Up r p vs.length)
   (G:=fun p s'=>s'={ s with heap:=g }∧Gd vs.length p∧Up r p vs.length) rfl (by omega) h64 (fun p st' s' _ b2 b3 b4=>⟨p,b2,b3,b4.1,b4.2.1,b4.2.2⟩)
   (sort_wp (r:=r) (fun i j C hi hj q=>hc _ i j C k2 hi hj q) (by omega) fun p g1 u1=>⟨rfl,g1,u1⟩)) ?_ fun _ _ e=>e)
  rintro ⟨⟨⟩,st'⟩ s' ⟨p,har,hf,rfl,g1,u1⟩
  have hout:=kat_snds (ks:=vs) (vs:=vs) rfl har
  have ol:(outOf vs p).length=vs.length:=gd_len g1
  dsimp only
  rw[hout]
  refine wpAny_bind (seqEpoch_at e2 rfl ?_)
  refine wpAny_bind (listUpdate_at e2 rfl ?_ (Nat.zero_le _) (by show (outOf vs p).toArray.size≤_;rw[List.size_toArray];omega))
  rw[hf]
  simp only [bne_self_eq_false,Bool.false_eq_true,if_false]
  exact wpAny_pure (fin p g1 u1)
/-- sorted(l) -/
theorem sorted_by {l:Addr} {vs:List Value} {Q:Value->Shared->Prop} {r:Nat->Int} {κ:SortKind} (hl:s.heap.IsList l vs.toArray) (h64:vs.length < 64)
  (hk:2≤vs.length->∀ (A':Around) (s':Shared) (Q:SortKind->Shared->Prop),(∀ b o,s.heap.get? b=some o->s'.heap.get? b=some o)->Q κ s'->wpAny (model prog w) A' (keyKind' vs.toArray) Q (fun _ _=>False) s')
  (hc:∀ (A':Around) (s':Shared) (i j:Nat) (C:Bool->Shared->Prop),(∀ b o,s.heap.get? b=some o->s'.heap.get? b=some o)->i < vs.length->j < vs.length->C (decide (r i < r j)) s'->kas_ask prog w A' κ vs i j C s')
  (h:∀ (p:Array Nat) (h':Heap) (c:Nat),Gd vs.length p->Up r p vs.length->(∀ b o,s.heap.get? b=some o->h'.get? b=some o)->h'.get? (s.heap.objs.size + 1)=some (seqObj "list" (outOf vs p).toArray c)->Q (.ref (s.heap.objs.size + 1)) { s with heap:=h' }) :
  wpAny (model prog w) A (call (.builtin "sorted") [.ref l]) Q E s:=by
 have line:(64:Nat)≤sizeLine:=by rw[sizeLine_eq];decide
 refine Calls.call_function_entry kind_sorted plain_sorted entry_sorted (args_sorted1 _) ?_
 unfold Builtin.«sorted»
 refine wpAny_bind (m:=checkCount "sorted" 1 1 _) (wpAny_pure (wpAny_bind (collect_list hl (wpAny_bind (wpAny_newList ?_ (by omega))) (by omega))))
 generalize hg:(s.heap.push (seqObj "list" #[] 0)).update s.heap.objs.size (Obj.mapSeq (·++vs.toArray))=g
 have sz:g.objs.size=s.heap.objs.size + 1:=by rw[← hg,Heap.size_update,size_push']
 have k1:∀ b o,s.heap.get? b=some o->g.get? b=some o:=fun b o q=>by
  rw[← hg]
  exact (Heap.get?_update_other _ _ (Ne.symm (Nat.ne_of_lt (Heap.lt_size q)))).trans (Heap.get?_push_of_some _ q)
 have hoL:(g.push { cls:=.type "list",data:=.seq vs.toArray }).get? (s.heap.objs.size + 1)=some (seqObj "list" vs.toArray 0):=by rw[← sz];exact Heap.get?_push_size _ rfl
 have k2:∀ b o,s.heap.get? b=some o->(g.push { cls:=.type "list",data:=.seq vs.toArray }).get? b=some o:=fun b o q=>Heap.get?_push_of_some _ (k1 b o q)
 have ne:∀ b o,s.heap.get? b=some o->b≠s.heap.objs.size + 1:=fun b o q=>Nat.ne_of_lt (Nat.lt_succ_of_lt (Heap.lt_size q))
 show wpAny _ _ _ _ _ { s with heap:=g.push { cls:=.type "list",data:=.seq vs.toArray } }
 rw[sz]
 refine wpAny_bind (wpAny_holding (wpAny_call_entry slot_list_sort ⟨_,hoL,rfl⟩ entry_list_sort ?_ (args_list_sort _)))
 refine lsort (s:={ s with heap:=g.push { cls:=.type "list",data:=.seq vs.toArray } }) (r:=r) (κ:=κ) hoL h64 (fun h2 s' Q' st q=>hk h2 _ s' Q' (fun b o e=>st b o (ne b o e) (k2 b o e)) q)
  (fun s' i j C st hi hj q=>hc _ s' i j C (fun b o e=>st b o (ne b o e) (k2 b o e)) hi hj q) fun p h' c g1 u1 st e=>⟨_,rfl,?_⟩
 exact wpAny_pure ⟨_,rfl,h p h' c g1 u1 (fun b o e=>st b o (ne b o e) (k2 b o e)) e⟩
def lexI:List Int->List Int->Bool
 | [],[]=>false
 | [],_::_=>true
 | _::_,[]=>false
 | x::xs,y::ys=>if x=y then lexI xs ys else decide (x < y)
theorem lexI_irr:∀ xs,lexI xs xs=false
 | []=>rfl
 | x::xs=>by show (if x=x then lexI xs xs else _)=false;rw[if_pos rfl];exact lexI_irr xs
theorem lexI_trans:∀ xs ys zs,lexI xs ys=true->lexI ys zs=true->lexI xs zs=true
 | [],[],_,h,_=>by cases h
 | [],_::_,[],_,h=>by cases h
 | [],_::_,_::_,_,_=>rfl
 | _::_,[],_,h,_=>by cases h
 | _::_,_::_,[],_,h=>by cases h
 | x::xs,y::ys,z::zs,h1,h2=>by
  simp only [lexI] at h1 h2 ⊢
  by_cases e1:x=y
  ·subst e1
   rw[if_pos rfl] at h1
   by_cases e2:x=z
   ·rw[if_pos e2] at h2 ⊢;exact lexI_trans xs ys zs h1 h2
   ·rw[if_neg e2] at h2 ⊢;exact h2
  ·rw[if_neg e1] at h1
   have l1:x < y:=of_decide_eq_true h1
   by_cases e2:y=z
   ·subst e2
    rw[if_neg e1];exact h1
   ·rw[if_neg e2] at h2
    have l2:y < z:=of_decide_eq_true h2
    rw[if_neg (by omega)]
    exact decide_eq_true (by omega)
theorem lexI_neg:∀ xs ys zs,lexI xs zs=true->lexI xs ys=true∨lexI ys zs=true
 | [],[],_,h=>.inr h
 | [],_::_,_,_=>.inl rfl
 | _::_,_,[],h=>by cases h
 | _::_,[],_::_,_=>.inr rfl
 | x::xs,y::ys,z::zs,h=>by
  simp only [lexI] at h ⊢
  by_cases e:x=z
  ·subst e
   rw[if_pos rfl] at h
   by_cases e1:x=y
   ·subst e1
    rw[if_pos rfl,if_pos rfl];exact lexI_neg xs ys zs h
   ·rw[if_neg e1,if_neg (Ne.symm e1)]
    by_cases l:x < y
    ·exact .inl (decide_eq_true l)
    ·exact .inr (decide_eq_true (by omega))
  ·rw[if_neg e] at h
   have l:x < z:=of_decide_eq_true h
   by_cases e1:x=y
   ·subst e1
    rw[if_neg e];exact .inr h
   ·by_cases e2:y=z
    ·subst e2
     rw[if_neg e1];exact .inl h
    ·rw[if_neg e1,if_neg e2]
     by_cases l1:x < y
     ·exact .inl (decide_eq_true l1)
     ·exact .inr (decide_eq_true (by omega))
theorem lexI_tot:∀ xs ys,lexI xs ys=false->lexI ys xs=false->xs=ys
 | [],[],_,_=>rfl
 | [],_::_,h,_=>by cases h
 | _::_,[],_,h=>by cases h
 | x::xs,y::ys,h1,h2=>by
  simp only [lexI] at h1 h2
  by_cases e:x=y
  ·subst e
   rw[if_pos rfl] at h1 h2
   rw[lexI_tot xs ys h1 h2]
  ·rw[if_neg e] at h1
   rw[if_neg (Ne.symm e)] at h2
   have:=of_decide_eq_false h1
   have:=of_decide_eq_false h2
   exact absurd (by omega) e
/-- the values of a list that are tuples of ints -/
def TupI (h:Heap) (v:Value) (k:List Int):Prop:=∃ a o its n,v=.ref a∧h.get? a=some o∧o.cls=.type "tuple"∧o.data=.seq its n∧IntsAre its.toList k
theorem TupI.to {h h':Heap} {v:Value} {k:List Int} (t:TupI h v k) (e:∀ b o,h.get? b=some o->h'.get? b=some o):TupI h' v k :=
 let ⟨a,o,its,n,q1,q2,q3⟩:=t
 ⟨a,o,its,n,q1,e _ _ q2,q3⟩
theorem katI {C:Bool->Shared->Prop}:∀ {xs ys:List Value} {k k':List Int} (i:Nat),IntsAre xs k->IntsAre ys k'->C (lexI k k') s->KatLex prog w A true (decide (k.length < k'.length)) C (xs.zip ys) i s
 | _,_,_,_,i,.nil,.nil,h=>h
 | _,_,_,_,i,.nil,.cons c u h',h=>by
  rw[List.zip_nil_left]
  refine kat_nil ?_
  rw[decide_eq_true (by simp)]
  exact h
 | _,_,_,_,i,.cons a t h',.nil,h=>by
  rw[List.zip_nil_right]
  refine kat_nil ?_
  rw[decide_eq_false (by simp)]
  exact h
 | _,_,_,_,i,.cons a t (vs:=xs) (ns:=k) h1,.cons c u (vs:=ys) (ns:=k') h2,h=>by
  rw[List.zip_cons_cons]
  refine kat_cons (wpAny_eqBool_int ?_)
  have ef:decide ((a::k).length < (c::k').length)=decide (k.length < k'.length):=by simp
  have hh:C (if a=c then lexI k k' else decide (a < c)) s:=h
  rw[ef]
  by_cases e:a=c
  ·rw[if_pos e] at hh
   rw[show (a == c)=true by simpa using e]
   exact kat_yes (katI (i + 1) h1 h2 hh)
  ·rw[if_neg e] at hh
   rw[show (a == c)=false by simpa using e]
   refine kat_no ?_
   cases hi:(true && i == 0) with
   | true=>exact oneLt_int hh
   | false=>exact kat_one _ _ (lt_int hh)
theorem tup_ask {vs:List Value} {ks:List (List Int)} (hk:Paired (TupI s.heap) vs ks) {i j:Nat} {C:Bool->Shared->Prop} (hi:i < vs.length) (hj:j < vs.length) (h:C (lexI (ks.getD i []) (ks.getD j [])) s):kas_ask prog w A (tuples' true) vs i j C s:=by
 have at_:∀ {vs:List Value} {ks:List (List Int)} (i:Nat),Paired (TupI s.heap) vs ks->i < vs.length->TupI s.heap (vs.getD i Value.none) (ks.getD i []):=by
  intro vs ks i p
  induction p generalizing i with
  | nil=>intro h;exact absurd h (by simp)
  | cons r t ih =>
   intro h
   cases i with
   | zero=>exact r
   | succ i=>exact ih i (by simpa using h)
 obtain⟨a,o,its,n,e1,q1,q2,q3,q4⟩:=at_ i hk hi
 obtain⟨a',o',its',n',e1',q1',q2',q3',q4'⟩:=at_ j hk hj
 unfold kas_ask
 rw[e1,e1']
 refine kat_lt q1 q3 q1' q3' ?_
 have l1:its.size=(ks.getD i []).length:=by have:=q4.length;simpa using this
 have l2:its'.size=(ks.getD j []).length:=by have:=q4'.length;simpa using this
 rw[l1,l2]
 exact katI 0 q4 q4' h
theorem tup_kind {vs:List Value} {ks:List (List Int)} (hk:Paired (TupI s.heap) vs ks) (hne:∀ k ∈ ks,k≠[]) (h2:2≤vs.length) {Q:SortKind->Shared->Prop} (h:Q (tuples' true) s):wpAny (model prog w) A (keyKind' vs.toArray) Q E s:=by
 have mk:∀ {vs:List Value} {ks:List (List Int)},Paired (TupI s.heap) vs ks->(∀ k ∈ ks,k≠[])->∃ fs:List Value,KatTups s.heap vs fs∧fs.length=vs.length∧∀ f ∈ fs,∃ n t,f=.int n t:=by
  intro vs ks p
  induction p with
  | nil=>exact fun _=>⟨[],.nil,rfl,fun f hf=>nomatch hf⟩
  | cons r t ih =>
   intro hn
   obtain⟨fs,g1,g2,g3⟩:=ih fun k hk=>hn k (List.mem_cons_of_mem _ hk)
   obtain⟨a,o,its,n,e1,q1,q2,q3,q4⟩:=r
   have hne:=hn _ List.mem_cons_self
   subst e1
   cases hz:its.toList with
   | nil=>rw[hz] at q4;cases q4;exact absurd rfl hne
   | cons v r =>
    rw[hz] at q4
    obtain⟨m,tk,ev⟩:=q4.all v List.mem_cons_self
    refine⟨v::fs,.cons q1 q2 q3 ?_ g1,by simp [g2],fun f hf=>?_⟩
    ·rw[← Array.getElem?_toList,hz];rfl
    ·rcases List.mem_cons.mp hf with e | hf
     ·exact⟨m,tk,e.trans ev⟩
     ·exact g3 f hf
 obtain⟨fs,g1,g2,g3⟩:=mk hk hne
 refine kat_kind (T:=.type "int") g1 (by omega) (fun v hv=>?_) (by decide +kernel) h
 obtain⟨m,tk,rfl⟩:=g3 v hv
 exact Looks.of_pure rfl
theorem int_ask {vs:List Value} {ns:List Int} (hk:IntsAre vs ns) {i j:Nat} {C:Bool->Shared->Prop} (hi:i < vs.length) (hj:j < vs.length) (h:C (decide (ns.getD i 0 < ns.getD j 0)) s):kas_ask prog w A oneType' vs i j C s:=by
 have at_:∀ {vs:List Value} {ns:List Int} (i:Nat),IntsAre vs ns->i < vs.length->∃ t,vs.getD i Value.none=.int (ns.getD i 0) t:=by
  intro vs ns i p
  induction p generalizing i with
  | nil=>intro h;exact absurd h (by simp)
  | cons n t r ih =>
   intro h
   cases i with
   | zero=>exact⟨t,rfl⟩
   | succ i=>exact ih i (by simpa using h)
 obtain⟨t,e1⟩:=at_ i hk hi
 obtain⟨u,e2⟩:=at_ j hk hj
 unfold kas_ask
 rw[e1,e2]
 exact kat_lt_int h
theorem int_kind {vs:List Value} {ns:List Int} (hk:IntsAre vs ns) (h2:2≤vs.length) {Q:SortKind->Shared->Prop} (h:Q oneType' s):wpAny (model prog w) A (keyKind' vs.toArray) Q E s:=by
 refine kas_kind (T:=.type "int") h2 (fun v hv=>?_) (by decide +kernel) (by decide +kernel) h
 obtain⟨m,tk,rfl⟩:=hk.all v hv
 exact Looks.of_pure rfl
end
end Srt
namespace Z3
open PySem
section
variable {prog:Program} {w:World} {A:Around} {E:Value->Shared->Prop} {s:Shared}
/-- a sequence (t: a tuple, else a list) and an iterator over it -/
def SqAt (t:Bool) (h:Heap) (l:Addr) (xs:Array Value):Prop:=if t=true then h.IsTuple l xs else h.IsList l xs
def ItAt (t:Bool) (h:Heap) (it l:Addr) (i:Nat):Prop:=if t=true then h.IsTupleIter it l i else h.IsListIter it l i
def itObj (t:Bool) (l:Addr):Obj:=if t=true then { cls:=.type "tuple_iterator",data:=.fields #[.ref l,.int 0 0] } else { cls:=.type "list_iterator",data:=.fields #[.ref l,.int 0 0] }
theorem SqAt.to {t:Bool} {h h':Heap} {l:Addr} {xs:Array Value} (x:SqAt t h l xs) (e:∀ o,h.get? l=some o->h'.get? l=some o):SqAt t h' l xs:=by
 cases t with
 | true=>exact Heap.IsTuple.at (show h.IsTuple l xs from x) e
 | false=>exact Heap.IsList.at (show h.IsList l xs from x) e
theorem ItAt.to {t:Bool} {h h':Heap} {it l:Addr} {i:Nat} (x:ItAt t h it l i) (e:∀ o,h.get? it=some o->h'.get? it=some o):ItAt t h' it l i:=by
 cases t with
 | true=>exact Heap.IsTupleIter.at (show h.IsTupleIter it l i from x) e
 | false=>exact Heap.IsListIter.at (show h.IsListIter it l i from x) e
theorem ItAt.obj {t:Bool} {h:Heap} {it l:Addr} {i:Nat} (x:ItAt t h it l i):∃ o n,h.get? it=some o∧o.cls=.type n∧o.data=.fields #[.ref l,.int i 0]:=by
 cases t with
 | true=>obtain⟨o,a,b,c⟩:=(show h.IsTupleIter it l i from x);exact⟨o,_,a,b,c⟩
 | false=>obtain⟨o,a,b,c⟩:=(show h.IsListIter it l i from x);exact⟨o,_,a,b,c⟩
theorem ItAt.new {t:Bool} {h:Heap} {l:Addr}:ItAt t (h.push (itObj t l)) h.objs.size l 0:=by
 cases t with
 | true=>exact⟨_,Heap.get?_push_size _ rfl,rfl,rfl⟩
 | false=>exact⟨_,Heap.get?_push_size _ rfl,rfl,rfl⟩
theorem iter_at {t:Bool} {l:Addr} {xs:Array Value} {Q:Value->Shared->Prop} (hl:SqAt t s.heap l xs) (h:Q (.ref s.heap.objs.size) { s with heap:=s.heap.push (itObj t l) }):wpAny (model prog w) A (pyIter (.ref l)) Q E s:=by
 cases t with
 | true=>exact wpAny_pyIter_tuple hl h
 | false=>exact wpAny_pyIter_list hl h
theorem draw_tup {it l:Addr} {i:Nat} {xs:Array Value} {x:Value} {Q:Value->Shared->Prop} (hi:s.heap.IsTupleIter it l i) (hl:s.heap.IsTuple l xs) (hx:xs[i]?=some x)
  (h:∀ h',h'.IsTupleIter it l (i + 1)->Heap.SameBut it s.heap h'->Q x { s with heap:=h' }):wpAny (model prog w) A (Builtin.SmallTypes.nextOf (.ref it)) Q E s:=by
 obtain⟨o1,q1,q2,q3⟩:=id hi
 obtain⟨o2,q4,_,n2,q5⟩:=hl
 unfold Builtin.SmallTypes.nextOf
 refine wpAny_bind (wpAny_callSpecial?_slot (name:=Str.ofString "__next__") hi.typeIs F.slot_tuple_iterator_next (wpAny_call_entry F.slot_tuple_iterator_next hi.typeIs F.entry_tuple_iterator_next ?_ (F.args_tuple_iterator_next_1 _)))
 show wpAny _ _ (field (.ref it) 0 >>= _) _ _ s
 refine wpAny_bind (wpAny_field q1 q3 (x:=.ref l) rfl ?_)
 show wpAny _ _ (if (Value.ref l == Value.none)=true then _ else _) _ _ s
 rw[if_neg (show ¬ ((Value.ref l == Value.none)=true) from Bool.false_ne_true)]
 show wpAny _ _ (field (.ref it) 1 >>= _) _ _ s
 refine wpAny_bind (wpAny_field q1 q3 (x:=.int i 0) rfl ?_)
 show wpAny _ _ (seqItems? (.ref l) >>= _) _ _ s
 refine wpAny_bind (wpAny_seqItems q4 q5 ?_)
 simp only [Int.toNat_natCast,hx]
 refine wpAny_bind (wpAny_setField q1 q3 (by simp) (wpAny_pure ⟨x,rfl,wpAny_pure (h _ ?_ (Heap.SameBut.update ..))⟩))
 exact⟨_,Heap.get?_update_self _ q1 (Obj.isFreed_of_fields (Obj.data_mapFields q3 _)),(Obj.cls_mapFields ..).trans q2,by rw[Obj.data_mapFields q3];simp [rawInt]⟩
theorem stop_tup {it l:Addr} {i:Nat} {xs:Array Value} {Q:Value->Shared->Prop} (hh:A.handled=none) (hi:s.heap.IsTupleIter it l i) (hl:s.heap.IsTuple l xs) (hx:xs[i]?=none)
  (h:∀ h' e,Heap.ExtBut it s.heap h'->(∃ o,h'.get? e=some o∧o.cls=.type "StopIteration")->E (.ref e) { s with heap:=h' }):wpAny (model prog w) A (Builtin.SmallTypes.nextOf (.ref it)) Q E s:=by
 obtain⟨o1,q1,q2,q3⟩:=id hi
 obtain⟨o2,q4,_,n2,q5⟩:=hl
 unfold Builtin.SmallTypes.nextOf
 refine wpAny_bind (wpAny_callSpecial?_slot (name:=Str.ofString "__next__") hi.typeIs F.slot_tuple_iterator_next (wpAny_call_entry F.slot_tuple_iterator_next hi.typeIs F.entry_tuple_iterator_next ?_ (F.args_tuple_iterator_next_1 _)))
 show wpAny _ _ (field (.ref it) 0 >>= _) _ _ s
 refine wpAny_bind (wpAny_field q1 q3 (x:=.ref l) rfl ?_)
 show wpAny _ _ (if (Value.ref l == Value.none)=true then _ else _) _ _ s
 rw[if_neg (show ¬ ((Value.ref l == Value.none)=true) from Bool.false_ne_true)]
 show wpAny _ _ (field (.ref it) 1 >>= _) _ _ s
 refine wpAny_bind (wpAny_field q1 q3 (x:=.int i 0) rfl ?_)
 show wpAny _ _ (seqItems? (.ref l) >>= _) _ _ s
 refine wpAny_bind (wpAny_seqItems q4 q5 ?_)
 simp only [Int.toNat_natCast,hx]
 refine wpAny_bind (wpAny_rule (wpAny_bind (wpAny_setField q1 q3 (by simp) ?_)))
 show wpAny _ _ (newExc (.type "StopIteration") [] >>= _) _ _ { s with heap:=_ }
 refine wpAny_bind (by
  simp only [newExc,newTuple]
  refine wpAny_bind (wpAny_newObj_type ?_ (by size_fits))
  refine wpAny_bind (m:=firstArgMember _ _) (wpAny_of_eq (a:=Value.none) (by first | rfl | (simp only [firstArgMember];rfl)) ?_)
  refine wpAny_newObj_type ?_ (by size_fits)
  simp only [raiseNew]
  refine wpAny_bind (wpAny_handled ?_)
  first | rw[show A.in1.handled=none from hh] | rw[hh]
  exact wpAny_bind (wpAny_pure (wpAny_throw (h _ _ (((Heap.SameBut.update ..).extBut.push _).push _) ⟨_,Heap.get?_push_size _ rfl,rfl⟩))))
theorem draw_at {t:Bool} {it l:Addr} {i:Nat} {xs:Array Value} {x:Value} {Q:Value->Shared->Prop} (hi:ItAt t s.heap it l i) (hl:SqAt t s.heap l xs) (hx:xs[i]?=some x)
  (h:∀ h',ItAt t h' it l (i + 1)->Heap.SameBut it s.heap h'->Q x { s with heap:=h' }):wpAny (model prog w) A (Builtin.SmallTypes.nextOf (.ref it)) Q E s:=by
 cases t with
 | true=>exact draw_tup hi hl hx h
 | false=>exact wpAny_nextOf_list_item hi hl hx h
theorem stop_at {t:Bool} {it l:Addr} {i:Nat} {xs:Array Value} {Q:Value->Shared->Prop} (hh:A.handled=none) (hi:ItAt t s.heap it l i) (hl:SqAt t s.heap l xs) (hx:xs[i]?=none)
  (h:∀ h' e,Heap.ExtBut it s.heap h'->(∃ o,h'.get? e=some o∧o.cls=.type "StopIteration")->E (.ref e) { s with heap:=h' }):wpAny (model prog w) A (Builtin.SmallTypes.nextOf (.ref it)) Q E s:=by
 cases t with
 | true=>exact stop_tup hh hi hl hx h
 | false=>exact wpAny_nextOf_list_end hh hi hl hx h
/-- a zip of two sequences: all its objects at their places -/
structure Zd (t1 t2:Bool) (h:Heap) (z TI TO i1 i2 l1 l2:Addr) (f0:Value) (k:Nat):Prop where
 z:IsZip h z TI TO f0
 ti:IsPair h TI (.ref i1) (.ref i2)
 to:∃ a b,IsPair h TO a b
 a1:ItAt t1 h i1 l1 k
 a2:ItAt t2 h i2 l2 k
/-- its five own objects differ; those it walks are others -/
structure Ap (z TI TO i1 i2:Addr):Prop where
 n1:TI≠z
 n2:TO≠z
 n3:i1≠z
 n4:i2≠z
 n5:TI≠TO
 n6:TI≠i1
 n7:TI≠i2
 n8:TO≠i1
 n9:TO≠i2
 n10:i1≠i2
def Out (z TI TO i1 i2 l:Addr):Prop:=l≠z∧l≠TI∧l≠TO∧l≠i1∧l≠i2
theorem zip_more {t1 t2:Bool} {z TI TO i1 i2 l1 l2:Addr} {k:Nat} {xs ys:Array Value} {x y:Value} {Q:Value->Shared->Prop} (D:Ap z TI TO i1 i2) (o1:Out z TI TO i1 i2 l1) (o2:Out z TI TO i1 i2 l2)
  (Z:Zd t1 t2 s.heap z TI TO i1 i2 l1 l2 .none k) (hl1:SqAt t1 s.heap l1 xs) (hl2:SqAt t2 s.heap l2 ys) (hx:xs[k]?=some x) (hy:ys[k]?=some y)
  (hQ:∀ h',Zd t1 t2 h' z TI TO i1 i2 l1 l2 (rawInt s.heap.objs.size) (k + 1)->IsPair h' s.heap.objs.size x y->h'.objs.size=s.heap.objs.size + 1 ->
   (∀ c o,c≠z->c≠TO->c≠i1->c≠i2->s.heap.get? c=some o->h'.get? c=some o)->Q (.ref s.heap.objs.size) { s with heap:=h' }) :
  wpAny (model prog w) A (Builtin.«zip.__next__» ⟨[.ref z],[]⟩) (fun fin s'=>∃ v,fin=.done (.ret v)∧Q v s') E s:=by
 obtain⟨hz,hti,⟨a,b,hto⟩,h1,h2⟩:=Z
 show wpAny _ _ (field (.ref z) 2 >>= _) _ _ s
 refine wpAny_bind (wpAny_field hz rfl (x:=.bool false) rfl ?_)
 show wpAny _ _ (field (.ref z) 3 >>= _) _ _ s
 refine wpAny_bind (wpAny_field hz rfl (x:=.ref TI) rfl ?_)
 refine wpAny_bind (wpAny_seqItems hti rfl ?_)
 show wpAny _ _ (Builtin.SmallTypes.ownedTupleIsFree (.ref z) >>= _) _ _ s
 refine wpAny_bind ?_
 unfold Builtin.SmallTypes.ownedTupleIsFree
 refine wpAny_bind (wpAny_field hz rfl (x:=.none) rfl (wpAny_pure ?_))
 simp only [if_true]
 refine wpAny_bind (wpAny_rule ?_)
 refine wpAny_bind (wpAny_field hz rfl (x:=.ref TO) rfl ?_)
 refine wpAny_bind (wpAny_setField_rec hz (by simp) fun g1 z1 e1=>?_)
 replace z1:IsZip g1 z TI TO .ellipsis:=z1
 refine wpAny_bind ?_
 simp only [List.zipIdx_cons,List.zipIdx_nil,List.forIn_cons,List.forIn_nil]
 refine wpAny_bind (wpAny_bind (wpAny_onRaise ?_))
 show wpAny _ _ (Builtin.SmallTypes.nextOf (.ref i1) >>= _) _ _ { s with heap:=g1 }
 refine wpAny_bind (draw_at (h1.to fun o e=>e1.extBut _ _ D.n3 e) (hl1.to fun o e=>e1.extBut _ _ o1.1 e) hx fun g2 a2 e2=>wpAny_pure ?_)
 have b2:IsPair g2 TO a b:=e2.extBut _ _ D.n8 (e1.extBut _ _ D.n2 hto)
 refine wpAny_bind (wpAny_seqItems b2 rfl ?_)
 refine wpAny_bind (wpAny_updateSeq_pair b2 fun g3 b3 e3=>?_)
 replace b3:IsPair g3 TO x b:=b3
 refine wpAny_bind (wpAny_letGo (wpAny_pure ?_))
 refine wpAny_bind (wpAny_bind (wpAny_onRaise ?_))
 show wpAny _ _ (Builtin.SmallTypes.nextOf (.ref i2) >>= _) _ _ { s with heap:=g3 }
 refine wpAny_bind (draw_at (h2.to fun o e=>e3.extBut _ _ D.n9.symm (e2.extBut _ _ D.n10.symm (e1.extBut _ _ D.n4 e))) (hl2.to fun o e=>e3.extBut _ _ o2.2.2.1 (e2.extBut _ _ o2.2.2.2.1 (e1.extBut _ _ o2.1 e))) hy fun g4 a4 e4=>wpAny_pure ?_)
 have b4:IsPair g4 TO x b:=e4.extBut _ _ D.n9 b3
 refine wpAny_bind (wpAny_seqItems b4 rfl ?_)
 refine wpAny_bind (wpAny_updateSeq_pair b4 fun g5 b5 e5=>?_)
 replace b5:IsPair g5 TO x y:=b5
 refine wpAny_bind (wpAny_letGo (wpAny_pure (wpAny_pure ?_)))
 refine wpAny_bind (wpAny_seqItems b5 rfl ?_)
 refine wpAny_bind (wpAny_newTuple ?_)
 have sz:g5.objs.size=s.heap.objs.size:=by rw[e5.1,e4.1,e3.1,e2.1,e1.1]
 have z5:IsZip g5 z TI TO .ellipsis:=e5.extBut _ _ D.n2.symm (e4.extBut _ _ D.n4.symm (e3.extBut _ _ D.n2.symm (e2.extBut _ _ D.n3.symm z1)))
 have k5:∀ c o,c≠z->c≠TO->c≠i1->c≠i2->s.heap.get? c=some o->g5.get? c=some o:=fun c o c1 c2 c3 c4 e =>
  e5.extBut _ _ c2 (e4.extBut _ _ c4 (e3.extBut _ _ c2 (e2.extBut _ _ c3 (e1.extBut _ _ c1 e))))
 have a15:ItAt t1 g5 i1 l1 (k + 1):=a2.to fun o e=>e5.extBut _ _ D.n8.symm (e4.extBut _ _ D.n10 (e3.extBut _ _ D.n8.symm e))
 have a25:ItAt t2 g5 i2 l2 (k + 1):=a4.to fun o e=>e5.extBut _ _ D.n9.symm e
 have zlt:z < g5.objs.size:=Heap.lt_size z5
 show wpAny _ _ (Builtin.SmallTypes.ownedTupleHandOut (.ref z) (.ref g5.objs.size) >>= _) _ _ { s with heap:=_ }
 refine wpAny_bind ?_
 unfold Builtin.SmallTypes.ownedTupleHandOut
 have z6:IsZip (g5.push { cls:=.type "tuple",data:=.seq #[x,y] }) z TI TO .ellipsis:=Heap.get?_push_of_some _ z5
 refine wpAny_bind (wpAny_setField_rec z6 (by simp) fun g7 z7 e7=>?_)
 replace z7:IsZip g7 z TI TO (rawInt g5.objs.size):=z7
 refine wpAny_setField_rec z7 (by simp) fun g8 z8 e8=>?_
 replace z8:IsZip g8 z TI TO (rawInt g5.objs.size):=z8
 have up:∀ c o,c≠z->g5.get? c=some o->g8.get? c=some o:=fun c o c1 e=>e8.extBut _ _ c1 (e7.extBut _ _ c1 (Heap.get?_push_of_some _ e))
 have t8:IsPair g8 g5.objs.size x y:=e8.extBut _ _ (Nat.ne_of_gt zlt) (e7.extBut _ _ (Nat.ne_of_gt zlt) (Heap.get?_push_size _ rfl))
 have sz8:g8.objs.size=g5.objs.size + 1:=by rw[e8.1,e7.1,Heap.size_push]
 rw[sz] at z8 t8 sz8
 refine wpAny_pure ⟨_,rfl,?_⟩
 show Q (.ref g5.objs.size) { s with heap:=g8 }
 rw[sz]
 exact hQ g8 ⟨z8,up _ _ D.n1 (k5 _ _ D.n1 D.n5 D.n6 D.n7 hti),⟨x,y,up _ _ D.n2 b5⟩,a15.to fun o e=>up _ o D.n3 e,a25.to fun o e=>up _ o D.n4 e⟩ t8 sz8 fun c o c1 c2 c3 c4 e=>up c o c1 (k5 c o c1 c2 c3 c4 e)
theorem zip_stop {t1 t2:Bool} {z TI TO i1 i2 l1 l2:Addr} {k:Nat} {xs ys:Array Value} {Q:Fin->Shared->Prop} (hh:A.handled=none) (D:Ap z TI TO i1 i2) (o1:Out z TI TO i1 i2 l1) (o2:Out z TI TO i1 i2 l2)
  (Z:Zd t1 t2 s.heap z TI TO i1 i2 l1 l2 .none k) (hl1:SqAt t1 s.heap l1 xs) (hl2:SqAt t2 s.heap l2 ys) (hend:xs[k]?=none∨ys[k]?=none)
  (hE:∀ h' e,(∀ c o,c≠z->c≠TO->c≠i1->c≠i2->s.heap.get? c=some o->h'.get? c=some o)->(∃ o,h'.get? e=some o∧o.cls=.type "StopIteration")->E (.ref e) { s with heap:=h' }) :
  wpAny (model prog w) A (Builtin.«zip.__next__» ⟨[.ref z],[]⟩) Q E s:=by
 obtain⟨hz,hti,⟨a,b,hto⟩,h1,h2⟩:=Z
 show wpAny _ _ (field (.ref z) 2 >>= _) _ _ s
 refine wpAny_bind (wpAny_field hz rfl (x:=.bool false) rfl ?_)
 show wpAny _ _ (field (.ref z) 3 >>= _) _ _ s
 refine wpAny_bind (wpAny_field hz rfl (x:=.ref TI) rfl ?_)
 refine wpAny_bind (wpAny_seqItems hti rfl ?_)
 show wpAny _ _ (Builtin.SmallTypes.ownedTupleIsFree (.ref z) >>= _) _ _ s
 refine wpAny_bind ?_
 unfold Builtin.SmallTypes.ownedTupleIsFree
 refine wpAny_bind (wpAny_field hz rfl (x:=.none) rfl (wpAny_pure ?_))
 simp only [if_true]
 refine wpAny_bind (wpAny_rule ?_)
 refine wpAny_bind (wpAny_field hz rfl (x:=.ref TO) rfl ?_)
 refine wpAny_bind (wpAny_setField_rec hz (by simp) fun g1 z1 e1=>?_)
 replace z1:IsZip g1 z TI TO .ellipsis:=z1
 refine wpAny_bind ?_
 simp only [List.zipIdx_cons,List.zipIdx_nil,List.forIn_cons,List.forIn_nil]
 refine wpAny_bind (wpAny_bind (wpAny_onRaise ?_))
 show wpAny _ _ (Builtin.SmallTypes.nextOf (.ref i1) >>= _) _ _ { s with heap:=g1 }
 cases hx:xs[k]? with
 | none =>
  refine wpAny_bind (stop_at hh (h1.to fun o e=>e1.extBut _ _ D.n3 e) (hl1.to fun o e=>e1.extBut _ _ o1.1 e) hx fun g2 e e2 he=>?_)
  obtain⟨oe,p1,p2⟩:=he
  have z2:IsZip g2 z TI TO .ellipsis:=e2 _ _ D.n3.symm z1
  have ez:e≠z:=fun q=>by subst q;rw[z2] at p1;cases p1;simp at p2
  exact wpAny_setField_rec z2 (by simp) fun g3 _ e3=>hE g3 e (fun c o c1 _ c3 _ q=>e3.extBut _ _ c1 (e2 _ _ c3 (e1.extBut _ _ c1 q))) ⟨oe,e3.extBut _ _ ez p1,p2⟩
 | some x =>
  have hy:ys[k]?=none:=by
   rcases hend with q | q
   ·rw[hx] at q;cases q
   ·exact q
  refine wpAny_bind (draw_at (h1.to fun o e=>e1.extBut _ _ D.n3 e) (hl1.to fun o e=>e1.extBut _ _ o1.1 e) hx fun g2 a2 e2=>wpAny_pure ?_)
  have b2:IsPair g2 TO a b:=e2.extBut _ _ D.n8 (e1.extBut _ _ D.n2 hto)
  refine wpAny_bind (wpAny_seqItems b2 rfl ?_)
  refine wpAny_bind (wpAny_updateSeq_pair b2 fun g3 b3 e3=>?_)
  refine wpAny_bind (wpAny_letGo (wpAny_pure ?_))
  refine wpAny_bind (wpAny_bind (wpAny_onRaise ?_))
  show wpAny _ _ (Builtin.SmallTypes.nextOf (.ref i2) >>= _) _ _ { s with heap:=g3 }
  refine wpAny_bind (stop_at hh (h2.to fun o e=>e3.extBut _ _ D.n9.symm (e2.extBut _ _ D.n10.symm (e1.extBut _ _ D.n4 e))) (hl2.to fun o e=>e3.extBut _ _ o2.2.2.1 (e2.extBut _ _ o2.2.2.2.1 (e1.extBut _ _ o2.1 e))) hy fun g4 e e4 he=>?_)
  obtain⟨oe,p1,p2⟩:=he
  have z4:IsZip g4 z TI TO .ellipsis:=e4 _ _ D.n4.symm (e3.extBut _ _ D.n2.symm (e2.extBut _ _ D.n3.symm z1))
  have ez:e≠z:=fun q=>by subst q;rw[z4] at p1;cases p1;simp at p2
  exact wpAny_setField_rec z4 (by simp) fun g5 _ e5=>hE g5 e (fun c o c1 c2 c3 c4 q=>e5.extBut _ _ c1 (e4 _ _ c4 (e3.extBut _ _ c2 (e2.extBut _ _ c3 (e1.extBut _ _ c1 q))))) ⟨oe,e5.extBut _ _ ez p1,p2⟩
theorem next_more {t1 t2:Bool} {z TI TO i1 i2 l1 l2:Addr} {k:Nat} {xs ys:Array Value} {x y:Value} {Q:Option Value->Shared->Prop} (D:Ap z TI TO i1 i2) (o1:Out z TI TO i1 i2 l1) (o2:Out z TI TO i1 i2 l2)
  (Z:Zd t1 t2 s.heap z TI TO i1 i2 l1 l2 .none k) (hl1:SqAt t1 s.heap l1 xs) (hl2:SqAt t2 s.heap l2 ys) (hx:xs[k]?=some x) (hy:ys[k]?=some y)
  (hQ:∀ h',Zd t1 t2 h' z TI TO i1 i2 l1 l2 (rawInt s.heap.objs.size) (k + 1)->IsPair h' s.heap.objs.size x y->h'.objs.size=s.heap.objs.size + 1 ->
   (∀ c o,c≠z->c≠TO->c≠i1->c≠i2->s.heap.get? c=some o->h'.get? c=some o)->Q (some (.ref s.heap.objs.size)) { s with heap:=h' }) :
  wpAny (model prog w) A (pyNext (.ref z)) Q E s:=by
 have hT:s.TypeIs (.ref z) "zip":=⟨_,Z.z,rfl⟩
 unfold pyNext
 exact wpAny_bind (wpAny_attempt (wpAny_callSpecial?_slot (name := Str.ofString "__next__") hT F.slot_zip_next (wpAny_call_entry F.slot_zip_next hT F.entry_zip_next
     (zip_more D o1 o2 Z hl1 hl2 hx hy fun h' b1 b2 b3 b4=>wpAny_pure (hQ h' b1 b2 b3 b4)) (F.args_zip_next_1 _))))
theorem next_stop {t1 t2:Bool} {z TI TO i1 i2 l1 l2:Addr} {k:Nat} {xs ys:Array Value} {Q:Option Value->Shared->Prop} (hh:A.handled=none) (D:Ap z TI TO i1 i2) (o1:Out z TI TO i1 i2 l1) (o2:Out z TI TO i1 i2 l2)
  (Z:Zd t1 t2 s.heap z TI TO i1 i2 l1 l2 .none k) (hl1:SqAt t1 s.heap l1 xs) (hl2:SqAt t2 s.heap l2 ys) (hend:xs[k]?=none∨ys[k]?=none)
  (hQ:∀ h',(∀ c o,c≠z->c≠TO->c≠i1->c≠i2->s.heap.get? c=some o->h'.get? c=some o)->Q none { s with heap:=h' }):wpAny (model prog w) A (pyNext (.ref z)) Q E s:=by
 have hT:s.TypeIs (.ref z) "zip":=⟨_,Z.z,rfl⟩
 unfold pyNext
 refine wpAny_bind (wpAny_attempt (wpAny_callSpecial?_slot (name := Str.ofString "__next__") hT F.slot_zip_next (wpAny_call_entry F.slot_zip_next hT F.entry_zip_next
     (zip_stop hh D o1 o2 Z hl1 hl2 hend fun h' e hk he=>?_) (F.args_zip_next_1 _))))
 obtain⟨o,p1,p2⟩:=he
 exact wpAny_bind (wpAny_isInstance (T:="StopIteration") (b:=true) ⟨o,p1,p2⟩ isSubtype_stop (wpAny_pure (hQ _ hk)))
abbrev zh1 (h:Heap) (t1:Bool) (l1:Addr):Heap:=h.push (itObj t1 l1)
abbrev zh2 (h:Heap) (t1 t2:Bool) (l1 l2:Addr):Heap:=(zh1 h t1 l1).push (itObj t2 l2)
abbrev zh3 (h:Heap) (t1 t2:Bool) (l1 l2:Addr):Heap:=(zh2 h t1 t2 l1 l2).push { cls:=.type "tuple",data:=.seq #[.ref h.objs.size,.ref (zh1 h t1 l1).objs.size] }
abbrev zh4 (h:Heap) (t1 t2:Bool) (l1 l2:Addr):Heap:=(zh3 h t1 t2 l1 l2).push { cls:=.type "tuple",data:=.seq #[.none,.none] }
abbrev zh5 (h:Heap) (t1 t2:Bool) (l1 l2:Addr):Heap:=(zh4 h t1 t2 l1 l2).push { cls:=.type "zip",data:=.fields #[.none,.bool false,.bool false,.ref (zh2 h t1 t2 l1 l2).objs.size,.ref (zh3 h t1 t2 l1 l2).objs.size] }
theorem zip_new (t1 t2:Bool) (l1 l2:Addr) (xs ys:Array Value) :
  Meets (Builtin.«zip.__new__» ⟨[.type "zip",.ref l1,.ref l2],[]⟩) (fun _ R s=>SqAt t1 s.heap l1 xs∧SqAt t2 s.heap l2 ys∧R (.ok (.ret (.ref (zh4 s.heap t1 t2 l1 l2).objs.size))) { s with heap:=zh5 s.heap t1 t2 l1 l2 }) :=
 .of_wp fun prog w A R s h=>by
  obtain⟨hp,g,d,tk,os⟩:=s;obtain⟨hl1,hl2,h⟩:=h
  have hsub:=sub_zip
  have b1:SqAt t1 (Shared.heap ⟨hp,g,d,tk,os⟩) l1 xs:=hl1
  have b2:SqAt t2 (Shared.heap ⟨hp.push (itObj t1 l1),g,d,tk,os⟩) l2 ys:=SqAt.to hl2 fun o e=>Heap.get?_push_of_some _ e
  wp_walk using iter_at b1,iter_at b2
  exact⟨_,rfl,h⟩
theorem call_zip {t1 t2:Bool} {l1 l2:Addr} {xs ys:Array Value} {Q:Value->Shared->Prop} (hl1:SqAt t1 s.heap l1 xs) (hl2:SqAt t2 s.heap l2 ys)
  (h:∀ h',Zd t1 t2 h' (s.heap.objs.size + 4) (s.heap.objs.size + 2) (s.heap.objs.size + 3) s.heap.objs.size (s.heap.objs.size + 1) l1 l2 .none 0->h'.objs.size=s.heap.objs.size + 5 ->
   (∀ c o,s.heap.get? c=some o->h'.get? c=some o)->Q (.ref (s.heap.objs.size + 4)) { s with heap:=h' }) :
  wpAny (model prog w) A (call (.type "zip") [.ref l1,.ref l2]) Q E s:=by
 refine callType_new F.called_zip (by decide) (F.typeCall_zip_2 _ _) (F.newCall_zip_2 _ _) (fun obj=>F.args_object_init_3 obj _ _) F.entry_zip_new (zip_new t1 t2 l1 l2 xs ys) ⟨hl1,hl2,?_⟩
 have z1:(zh1 s.heap t1 l1).objs.size=s.heap.objs.size + 1:=Heap.size_push ..
 have z2:(zh2 s.heap t1 t2 l1 l2).objs.size=s.heap.objs.size + 2:=by rw[Heap.size_push,z1]
 have z3:(zh3 s.heap t1 t2 l1 l2).objs.size=s.heap.objs.size + 3:=by rw[Heap.size_push,z2]
 have z4:(zh4 s.heap t1 t2 l1 l2).objs.size=s.heap.objs.size + 4:=by rw[Heap.size_push,z3]
 have z5:(zh5 s.heap t1 t2 l1 l2).objs.size=s.heap.objs.size + 5:=by rw[Heap.size_push,z4]
 have g5:(zh5 s.heap t1 t2 l1 l2).get? (zh4 s.heap t1 t2 l1 l2).objs.size=some _:=Heap.get?_push_size _ rfl
 have g4:(zh5 s.heap t1 t2 l1 l2).get? (zh3 s.heap t1 t2 l1 l2).objs.size=some _:=Heap.get?_push_of_some _ (Heap.get?_push_size _ rfl)
 have g3:(zh5 s.heap t1 t2 l1 l2).get? (zh2 s.heap t1 t2 l1 l2).objs.size=some _:=Heap.get?_push_of_some _ (Heap.get?_push_of_some _ (Heap.get?_push_size _ rfl))
 have g2:ItAt t2 (zh5 s.heap t1 t2 l1 l2) (zh1 s.heap t1 l1).objs.size l2 0:=(ItAt.new (t:=t2) (h:=zh1 s.heap t1 l1) (l:=l2)).to fun o e=>Heap.get?_push_of_some _ (Heap.get?_push_of_some _ (Heap.get?_push_of_some _ e))
 have g1:ItAt t1 (zh5 s.heap t1 t2 l1 l2) s.heap.objs.size l1 0:=(ItAt.new (t:=t1) (h:=s.heap) (l:=l1)).to fun o e=>Heap.get?_push_of_some _ (Heap.get?_push_of_some _ (Heap.get?_push_of_some _ (Heap.get?_push_of_some _ e)))
 show _∧_
 rw[z2,z3,z4] at g5
 rw[z1,z2] at g3
 rw[z3] at g4
 rw[z1] at g2
 rw[z4]
 exact⟨⟨_,g5,rfl⟩,h _ ⟨g5,g3,⟨_,_,g4⟩,g1,g2⟩ z5 fun c o q=>Heap.get?_push_of_some _ (Heap.get?_push_of_some _ (Heap.get?_push_of_some _ (Heap.get?_push_of_some _ (Heap.get?_push_of_some _ q))))⟩
theorem ap_new (n:Nat):Ap (n + 4) (n + 2) (n + 3) n (n + 1):=by
 constructor <;> (show (_:Nat)≠(_:Nat)) <;> omega
theorem out_new {n l:Nat} (h:l < n):Out (n + 4) (n + 2) (n + 3) n (n + 1) l:=by
 refine⟨?_,?_,?_,?_,?_⟩ <;> (show (_:Nat)≠(_:Nat)) <;> omega
end
end Z3
namespace U3
open PySem PyProof.Rows
section
variable {prog:Program} {w:World} {A:Around} {E:Value->Shared->Prop} {s:Shared}
theorem draw_lst {it l:Addr} {xs:Array Value} (hne:l≠it):∀ (n i:Nat) (s:Shared) (Q:List Value->Shared->Prop),s.heap.IsListIter it l i->s.heap.IsList l xs->i + n≤xs.size ->
  (∀ h',h'.IsListIter it l (i + n)->Heap.SameBut it s.heap h'->Q ((xs.toList.drop i).take n) { s with heap:=h' })->wpAny (model prog w) A (draw (.ref it) n) Q E s
 | 0,i,s,Q,hi,_,_,h=>by
  show wpAny _ _ (pure []) Q E s
  exact wpAny_pure (by simpa using h s.heap hi (Heap.SameBut.refl ..))
 | n + 1,i,s,Q,hi,hl,hle,h=>by
  have lt:i < xs.size:=by omega
  show wpAny _ _ (pyNext (.ref it) >>= _) Q E s
  refine wpAny_bind (wpAny_pyNext_list_item hi hl (x:=xs[i]) (by simp [lt]) fun g1 i1 e1=>?_)
  refine wpAny_bind (wpAny_holding (draw_lst hne n (i + 1) _ _ i1 (hl.extBut e1.extBut hne) (by omega) fun g2 i2 e2=>wpAny_pure ?_))
  have hd:xs.toList.drop i=xs[i]::xs.toList.drop (i + 1):=by simp [List.drop_eq_getElem_cons,lt]
  have q:=h g2 (by rw[show i + (n + 1)=i + 1 + n by omega];exact i2) (e1.trans e2)
  rw[hd,List.take_succ_cons] at q
  exact q
theorem unpack_lst {l:Addr} {xs:Array Value} {targets:List (Bool × (Value->Sem Unit))} {Q:Unit->Shared->Prop} (hh:A.handled=none) (hl:s.heap.IsList l xs)
  (hn:targets.length=xs.size) (hs:targets.findIdx? (·.1)=none)
  (h:∀ h',Heap.ExtBut s.heap.objs.size s.heap h'->wpAny (model prog w) A (assignInOrder (targets.map (·.2)) xs.toList) Q E { s with heap:=h' }) :
  wpAny (model prog w) A (unpack (.ref l) targets) Q E s:=by
 have ne:l≠s.heap.objs.size:=by obtain⟨o,ho,_⟩:=hl;exact Nat.ne_of_lt (Heap.lt_size ho)
 unfold unpack
 rw[hn,hs]
 refine wpAny_bind (wpAny_holding ?_)
 unfold unpackItems
 refine wpAny_bind ?_
 unfold notIterableAtAll
 refine wpAny_bind (wpAny_specialOf hl.typeIs slot_list_iter.lookup ?_)
 refine wpAny_pure ?_
 simp only [Bool.false_eq_true,if_false]
 refine wpAny_bind (wpAny_holding (wpAny_pyIter_list hl ?_))
 refine wpAny_bind (wpAny_holding (draw_lst ne xs.size 0 _ _ ⟨_,Heap.get?_push_size _ rfl,rfl,rfl⟩ (hl.push _) (by omega) fun g1 i1 e1=>?_))
 have all:List.take xs.size (List.drop 0 xs.toList)=xs.toList:=by
  rw[List.drop_zero];exact List.take_of_length_le (by simp)
 rw[all,if_neg (by simp)]
 have l1:g1.IsList l xs:=(hl.push _).extBut e1.extBut ne
 refine wpAny_bind (wpAny_holding (wpAny_pyNext_list_end hh i1 l1 (by simp) fun g2 e2=>?_))
 simp only [Option.isSome_none,Bool.false_eq_true,if_false]
 exact wpAny_pure (h g2 fun b o hb e=>e2 b o hb (e1.extBut b o hb (Heap.get?_push_of_some _ e)))
theorem assign_tuple_lst {env:Env} {elts:List Expr} {x1} {pos:Pos} {l:Addr} {xs:Array Value} {Q:Unit->Shared->Prop} (hh:A.handled=none) (hl:s.heap.IsList l xs)
  (hn:(assignEach elts env).length=xs.size) (hs:(assignEach elts env).findIdx? (·.1)=none)
  (h:∀ h',Heap.ExtBut s.heap.objs.size s.heap h'->wpAny (model prog w) A (assignInOrder ((assignEach elts env).map (·.2)) xs.toList) Q E { s with heap:=h' }) :
  wpAny (model prog w) A (assign (.Tuple elts x1 pos) env (.ref l)) Q E s:=by
 rw[assign_Tuple]
 exact wpAny_bind (wpAny_standAt (unpack_lst hh hl hn hs h))
end
end U3
namespace L3
open PySem PySem.Spec PyProof.Rows L2
abbrev Fls:Value->Shared->Prop:=fun _ _=>False
abbrev testsOf (ifs:List Expr) (env:Env):Sem Bool :=
 forIn ifs true fun c r=>if r=true then do let ok ← isTrue c env (eval c env);pure (ForInStep.yield ok) else pure (ForInStep.yield r)
section
variable {prog:Program} {w:World} {A:Around} {R:Result->Shared->Prop} {s:Shared}
/-- a list comprehension of one clause, turn by turn; nothing raises in it -/
theorem comp_turns {elt tg iter:Expr} {ifs:List Expr} {scope:Scope} {pos:Pos} {it acc:Value} {env:Env} (W:Nat->Shared->Prop)
  (step:∀ n s,W n s->wpAny (model prog w) A (pyNext it) (fun r s1=>(r=none∧R (.ok .next) s1)∨∃ v,r=some v ∧
   wpAny (model prog w) A (letOwnedTupleGo tg it v) (fun _ s2=>wpAny (model prog w) A (assign tg env v) (fun _ s3 =>
    wpAny (model prog w) A (testsOf ifs env) (fun ok s4=>if ok=true then wpAny (model prog w) A (eval elt env) (fun x s5 =>
     wpAny (model prog w) A (call (.builtin "list.append") [acc,x]) (fun _ s6=>∃ m,m < n∧W m s6) Fls s5) Fls s4 else ∃ m,m < n∧W m s4) Fls s3) Fls s2) Fls s1) Fls s)
  (n:Nat) (h:W n s):codeAny (model prog w) A (.compLoop (.ListComp elt [⟨tg,iter,ifs,0⟩] scope pos) 0 it acc env) R s:=by
 refine codeAny_loop rfl W (fun k s1 hk=>?_) n h
 show wpAny _ A ((compTurn (.ListComp elt [⟨tg,iter,ifs,0⟩] scope pos) 0 it acc env).onRaise (fun x=>do noteFrame x env;theTreesLotGoes x)) _ _ s1
 refine wpAny_noted ?_
 rw[compTurn_list]
 refine wpAny_bind (wpAny_standAt (wpAny_bind (wpAny_mono (step k s1 hk) (fun r s2 h2=>?_) fun _ _ z=>z.elim)))
 rcases h2 with ⟨rfl,h2⟩ | ⟨v,rfl,h2⟩
 ·exact wpAny_pure h2
 ·refine wpAny_bind (wpAny_mono h2 (fun _ s3 h3=>?_) fun _ _ z=>z.elim)
  refine wpAny_bind (wpAny_mono h3 (fun _ s4 h4=>?_) fun _ _ z=>z.elim)
  refine wpAny_bind (wpAny_mono h4 (fun ok s5 h5=>?_) fun _ _ z=>z.elim)
  cases ok with
  | false=>exact wpAny_pure ⟨rfl,h5⟩
  | true =>
   refine wpAny_bind (wpAny_bind (wpAny_mono h5 (fun x s6 h6=>?_) fun _ _ z=>z.elim))
   refine wpAny_bind (wpAny_mono h6 (fun _ s7 h7=>?_) fun _ _ z=>z.elim)
   exact wpAny_pure (wpAny_pure ⟨rfl,h7⟩)
end
def clOf (cells:List (Str × Addr)):List (Str × NameKind)->List (Str × Addr)->List (Str × Addr)
 | [],cs=>cs
 | (n,k)::r,cs=>clOf cells r (if k=.free then (n,(cells.lookup n).getD 0)::cs else cs)
theorem clOf_mem {cells:List (Str × Addr)}:∀ {names:List (Str × NameKind)} {cs:List (Str × Addr)} {p:Str × Addr},p ∈ clOf cells names cs->p ∈ cs∨((p.1,NameKind.free) ∈ names∧p.2=(cells.lookup p.1).getD 0)
 | [],_,_,h=>.inl h
 | (n,k)::r,cs,p,h=>by
  rcases clOf_mem (names:=r) h with q | ⟨q1,q2⟩
  ·by_cases hk:k=.free
   ·rw[if_pos hk] at q
    rcases List.mem_cons.mp q with e | q
    ·subst e;subst hk;exact .inr ⟨List.mem_cons_self,rfl⟩
    ·exact .inl q
   ·rw[if_neg hk] at q;exact .inl q
  ·exact .inr ⟨List.mem_cons_of_mem _ q1,q2⟩
theorem clOf_has {cells:List (Str × Addr)}:∀ {names:List (Str × NameKind)} {cs:List (Str × Addr)} {x:Str},((x,NameKind.free) ∈ names∨∃ c,(x,c) ∈ cs)->∃ c,(x,c) ∈ clOf cells names cs
 | [],_,_,h=>h.elim (fun z=>nomatch z) id
 | (n,k)::r,cs,x,h=>by
  refine clOf_has (names:=r) ?_
  rcases h with h | ⟨c,h⟩
  ·rcases List.mem_cons.mp h with e | h
   ·cases e
    exact .inr ⟨_,by rw[if_pos rfl];exact List.mem_cons_self⟩
   ·exact .inl h
  ·refine .inr ⟨c,?_⟩
   split
   ·exact List.mem_cons_of_mem _ h
   ·exact h
theorem closure_go {env:Env}:∀ (names:List (Str × NameKind)) (cs:List (Str × Addr)),(∀ y ∈ names,y.2=.free->∃ c,env.cells.lookup y.1=some c) ->
  (forIn names cs fun x r=>(match x with | (n,k)=>if (k == NameKind.free)=true then do let c ← cellOf env n;pure (ForInStep.yield ((n,c)::r)) else pure (ForInStep.yield r):Sem (ForInStep (List (Str × Addr)))))=pure (clOf env.cells names cs)
 | [],cs,_=>rfl
 | (n,k)::r,cs,h=>by
  rw[List.forIn_cons]
  by_cases hk:k=.free
  ·subst hk
   obtain⟨c,hc⟩:=h (n,.free) List.mem_cons_self rfl
   have e1:cellOf env n=pure c:=by unfold cellOf;rw[hc]
   have e2:clOf env.cells ((n,NameKind.free)::r) cs=clOf env.cells r ((n,c)::cs):=by
    show clOf env.cells r (if NameKind.free=NameKind.free then (n,(env.cells.lookup n).getD 0)::cs else cs)=_
    rw[if_pos rfl,hc]
    rfl
   rw[e2,← closure_go r ((n,c)::cs) fun y hy=>h y (List.mem_cons_of_mem _ hy)]
   simp only [beq_self_eq_true,if_true,e1,pure_bind]
  ·have e2:clOf env.cells ((n,k)::r) cs=clOf env.cells r cs:=by
    show clOf env.cells r (if k=NameKind.free then _ else cs)=_
    rw[if_neg hk]
   have hb:(k == NameKind.free)=false:=by simpa using hk
   rw[e2,← closure_go r cs fun y hy=>h y (List.mem_cons_of_mem _ hy)]
   simp only [hb,Bool.false_eq_true,if_false,pure_bind]
theorem closure_is {scope:Scope} {env:Env} (h:∀ y ∈ scope.names,y.2=.free->∃ c,env.cells.lookup y.1=some c):closureFor scope env=pure (clOf env.cells scope.names []):=by
 have q:=closure_go (env:=env) scope.names [] h
 unfold closureFor
 refine Eq.trans ?_ q
 first | rfl | simp
theorem look_relabel_free {env:Env}:∀ {names:List (Str × NameKind)} {x:Str},names.lookup x=some .free ->
  (names.map fun (n,k)=>if (k == NameKind.free && env.scope.kind == .function && env.kindOf n == some .cell) then (n,NameKind.cell) else (n,k)).lookup x=some .cell ∨
  (names.map fun (n,k)=>if (k == NameKind.free && env.scope.kind == .function && env.kindOf n == some .cell) then (n,NameKind.cell) else (n,k)).lookup x=some .free
 | [],_,h=>by simp at h
 | (n,k)::r,x,h=>by
  have ih:=@look_relabel_free env r x
  rw[List.map_cons]
  by_cases hx:(x == n)=true
  ·rw[List.lookup_cons,hx] at h
   have h':k=.free:=by simpa using h
   subst h'
   dsimp only
   split
   ·left;rw[List.lookup_cons,hx]
   ·right;rw[List.lookup_cons,hx]
  ·have hx':(x == n)=false:=by simpa using hx
   rw[List.lookup_cons,hx'] at h
   dsimp only
   split
   ·rw[List.lookup_cons,hx'];exact ih h
   ·rw[List.lookup_cons,hx'];exact ih h
theorem of_relabel {env:Env}:∀ {names:List (Str × NameKind)} {x:Str},(∀ y ∈ names,y.2≠.cell) ->
  ((names.map fun (n,k)=>if (k == NameKind.free && env.scope.kind == .function && env.kindOf n == some .cell) then (n,NameKind.cell) else (n,k)).lookup x=some .cell ∨
  (names.map fun (n,k)=>if (k == NameKind.free && env.scope.kind == .function && env.kindOf n == some .cell) then (n,NameKind.cell) else (n,k)).lookup x=some .free)->(x,NameKind.free) ∈ names
 | [],_,_,h=>by simp at h
 | (n,k)::r,x,hc,h=>by
  rw[List.map_cons] at h
  by_cases hx:(x == n)=true
  ·have e:x=n:=by simpa using hx
   subst e
   dsimp only at h
   by_cases hk:(k == NameKind.free && env.scope.kind == .function && env.kindOf x == some .cell)=true
   ·rw[if_pos hk] at h
    have:k=.free:=by
     simp only [Bool.and_eq_true] at hk
     simpa using hk.1.1
    subst this
    exact List.mem_cons_self
   ·rw[if_neg hk,List.lookup_cons,hx] at h
    rcases h with h | h
    ·exact absurd (by simpa using h) (hc (x,k) List.mem_cons_self)
    ·have:k=.free:=by simpa using h
     subst this
     exact List.mem_cons_self
  ·have hx':(x == n)=false:=by simpa using hx
   refine List.mem_cons_of_mem _ (of_relabel (env:=env) (fun y hy=>hc y (List.mem_cons_of_mem _ hy)) ?_)
   dsimp only at h
   split at h
   ·rw[List.lookup_cons,hx'] at h;exact h
   ·rw[List.lookup_cons,hx'] at h;exact h
/-- what is looked at of the two scopes: closed, for decide -/
def compOk (N:List Str) (sc0 scope:Scope) (fr:List Str) (js:List Nat):Bool :=
 decide (scope.kind=.function) && (scope.names.all fun y=>decide (y.2≠.cell) && (decide (y.2≠.free) || decide (sc0.names.lookup y.1=some .cell) || decide (sc0.names.lookup y.1=some .free)) &&
  (decide (y.2≠.local) || decide (scope.names.lookup y.1=some .local))) && decide (fr.length=js.length) &&
 ((fr.zip js).all fun p=>decide (N[p.2]?=some p.1) && decide (scope.names.lookup p.1=some .free) && (decide (sc0.names.lookup p.1=some .cell) || decide (sc0.names.lookup p.1=some .free)))
/-- the context of the block -/
def cxComp (X:Cx) (own fr:List Str) (scope:Scope) (fp:List Addr) (pins:List (Addr × Obj)) (s3:Shared) (H3:Hp):Cx :=
 { X with N:=own++fr,s₀:=s3,H₀:=H3,env:=compEnvC scope (clOf X.env.cells scope.names []) s3.heap.objs.size X.env,outer:=X.stack,stack:=X.stack,ex:=fp,fn:=fun _=>false,pn:=X.pn++pins,xe:=Fls }
/-- the tests of a clause -/
def PTs (X:Cx) (ifs:List Expr) (t:TT):Prop :=
 ∀ (pins:List (Addr × Obj)) (s:Shared) (σ:L2.St) (H:Hp) (Q:Bool->Hp->Prop),Inv X pins σ H s->t σ H Q->wpAny (model X.prog X.w) X.A (testsOf ifs X.env) (TP X pins σ Q) X.xe s
def tTrue:TT:=fun _ H Q=>Q true H
theorem pts_nil {X:Cx}:PTs X [] tTrue:=fun _ _ _ H _ I h=>wpAny_tests_nil ⟨H,I,h⟩
theorem pts_one {X:Cx} {c:Expr} {t:TT} (h:PT X c t):PTs X [c] t:=fun pins s σ H Q I q=>wpAny_tests_one (h pins s σ H Q I q)
def start3 (own:List Str) (js:List Nat) (σ:L2.St):L2.St:=List.replicate own.length none++js.map fun j=>(σ[j]?).join
/-- the reading: W is the word, by the turn, a measure, what is laid by so far, the names, the heap; D the new list -/
def CompGo (own:List Str) (js:List Nat) (g:TG) (tt:TT) (te:TE) (σ:L2.St) (Q:VK) (J:It) (H1:Hp):Prop:=∀ D,H1 D=none->∃ W:Nat->Nat->List V->L2.St->Hp->Prop,
 (∃ m,W 0 m [] (start3 own js σ) (upd H1 D (.lst [])))∧∀ i m ys σ' H',W i m ys σ' H'->H' D=some (.lst ys) ->
  (J.stop i H'∧Q (.ref D) H')∨(J.go i H'∧∀ x H2,J.yld i H' x H2->g x σ' H2 fun σ3 H3=>tt σ3 H3 fun b H4 =>
   if b=true then te σ3 H4 fun v H5=>H5 D=some (.lst ys)∧ys.length < sizeLine∧∃ m',m' < m∧W (i + 1) m' (ys++[v]) σ3 (upd H5 D (.lst (ys++[v])))
   else H4 D=some (.lst ys)∧∃ m',m' < m∧W (i + 1) m' ys σ3 H4)
def tComp (own:List Str) (js:List Nat) (wi:TI) (g:TG) (tt:TT) (te:TE):TE:=fun σ H Q=>wi σ H fun J H1=>CompGo own js g tt te σ Q J H1
section
variable {X:Cx} {elt tg iter:Expr} {ifs:List Expr} {scope sc0:Scope} {pos:Pos} {own fr N:List Str} {js:List Nat} {wi:TI} {g:TG} {tt:TT} {te:TE}
theorem join_some {σ:L2.St} {js:List Nat} {k:Nat} {v:V} (e:(js.map fun j=>(σ[j]?).join)[k]?=some (some v)):∃ j,js[k]?=some j∧σ[j]?=some (some v):=by
 rw[List.getElem?_map] at e
 cases hj:js[k]? with
 | none=>rw[hj] at e;cases e
 | some j =>
  rw[hj] at e
  refine⟨j,rfl,?_⟩
  have e':(σ[j]?).join=some v:=by simpa using e
  cases hs:σ[j]? with
  | none=>rw[hs] at e';cases e'
  | some o=>rw[hs] at e';exact congrArg some e'
theorem inv_comp {pins:List (Addr × Obj)} {σ:L2.St} {H3:Hp} {s3:Shared} {fp:List Addr} {h4:Heap} {t4:Nat} {m4:Str->Option Value}
  (hN:X.N=N) (hsc:X.env.scope=sc0) (hok:compOk N sc0 scope fr js=true) (I:Inv X pins σ H3 s3) (hf:∀ b ∈ fp,FpOk X pins H3 b) (hlt:∀ b ∈ fp,b < s3.heap.objs.size)
  (k:∀ b o,s3.heap.get? b=some o->h4.get? b=some o) (hns:h4.Ns s3.heap.objs.size m4):Inv (cxComp X own fr scope fp pins s3 H3) [] (start3 own js σ) H3 { s3 with heap:=h4,toks:=t4 }:=by
 subst hN hsc
 unfold compOk at hok
 simp only [Bool.and_eq_true,decide_eq_true_eq,List.all_eq_true] at hok
 obtain⟨⟨⟨hk,hall⟩,hlen⟩,hfr⟩:=hok
 have hfree:∀ y ∈ scope.names,y.2=.free->∃ c,X.env.cells.lookup y.1=some c:=fun y hy e=>by
  have q:=(hall y hy).1.2
  simp only [Bool.or_eq_true,decide_eq_true_eq] at q
  rcases q with (q | q) | q
  ·exact absurd e q
  ·exact I.ok.has y.1 (.inl q)
  ·exact I.ok.has y.1 (.inr q)
 have hcl:∀ x c,(clOf X.env.cells scope.names []).lookup x=some c->X.env.cells.lookup x=some c:=fun x c e=>by
  rcases clOf_mem (PySem.mem_of_lookup e) with z | ⟨z1,z2⟩
  ·exact absurd z (by simp)
  ·obtain⟨c',hc'⟩:=hfree _ z1 rfl
   have hc'':X.env.cells.lookup x=some c':=hc'
   have z2':c=(X.env.cells.lookup x).getD 0:=z2
   rw[hc''] at z2' ⊢
   simp at z2'
   rw[z2']
 have hasC:∀ x,(x,NameKind.free) ∈ scope.names->∃ c,(clOf X.env.cells scope.names []).lookup x=some c:=fun x hx=>by
  obtain⟨c,hc⟩:=clOf_has (cells:=X.env.cells) (cs:=[]) (.inl hx)
  cases q:(clOf X.env.cells scope.names []).lookup x with
  | some c'=>exact⟨c',rfl⟩
  | none =>
   have:∀ (l:List (Str × Addr)),(x,c) ∈ l->l.lookup x≠none:=fun l=>by
    induction l with
    | nil=>intro z;cases z
    | cons p r ih =>
     intro z
     obtain⟨p1,p2⟩:=p
     rw[List.lookup_cons]
     rcases List.mem_cons.mp z with z | z
     ·cases z
      simp
     ·split
      ·simp
      ·exact ih z
   exact absurd q (this _ hc)
 have hcell:∀ y ∈ scope.names,y.2≠.cell:=fun y hy=>(hall y hy).1.1
 have sz:X.base.objs.size≤s3.heap.objs.size:=Nat.le_trans I.ok.bsz I.sz
 refine⟨⟨I.ok.mod,hk,I.ok.glob,I.ok.blt,Nat.le_refl _,fun x y c e1 e2=>I.ok.inj x y c (hcl x c e1) (hcl y c e2),fun x hx=>hasC x (of_relabel hcell hx),fun x c z=>absurd z (by simp [cxComp]),
  I.ok.hd,I.ok.frames,.inl rfl,fun b hb=>⟨Nat.ne_of_lt (hlt b hb),fun x c e=>(hf b hb).2.2.2.2.1 x c (hcl x c e)⟩,I.bs,sz,fun b o e hb=>?_,fun b hb z=>?_,I.stack,I.stkFree⟩,
  rfl,I.bare,Un.kept k,⟨m4,hns,fun i x v e1 e2 e3=>?_⟩,fun x c e=>?_,I.hok.fresh (Nat.le_refl _),fun x c e=>I.freeC x c (hcl x c e),fun p hp=>?_,I.hok.kept k,?_⟩
 ·obtain⟨_,_,_,f3,_⟩:=hf b hb
  rcases f3 with f3 | f3
  ·exact I.ok.noex b o e f3
  ·exact absurd (Nat.lt_of_lt_of_le (Heap.lt_size e) (Nat.le_trans I.ok.bsz f3)) (Nat.lt_irrefl _)
 ·obtain⟨_,f1,f2,_⟩:=hf b hb
  rcases List.mem_cons.mp (I.stkSub b z) with z | z
  ·exact f1 z
  ·exact f2 z
 ·have e2':(List.replicate own.length (none:Option V)++js.map fun j=>(σ[j]?).join)[i]?=some (some v):=e2
  have e1':(own++fr)[i]?=some x:=e1
  by_cases hi:i < own.length
  ·rw[List.getElem?_append_left (by simpa using hi),List.getElem?_replicate,if_pos hi] at e2'
   cases e2'
  ·rw[List.getElem?_append_right (by simpa using hi),List.length_replicate] at e2'
   rw[List.getElem?_append_right (by omega)] at e1'
   obtain⟨j,hj,hv⟩:=join_some e2'
   have hz:(fr.zip js)[i - own.length]?=some (x,j):=by
    rw[List.getElem?_zip_eq_some]
    exact⟨e1',hj⟩
   have q:=hfr _ (List.mem_of_getElem? hz)
   obtain⟨⟨q1,q2⟩,q3⟩:=q
   have q3'':X.env.scope.names.lookup x=some .cell∨X.env.scope.names.lookup x=some .free:=by simpa using q3
   have q3':X.env.kindOf x=some .cell∨X.env.kindOf x=some .free:=q3''
   obtain⟨m,hn,hl⟩:=I.loc
   obtain⟨u,r,l⟩:=hl j x v q1 hv (q3'.elim (fun z=>.inr (.inl z)) fun z=>.inr (.inr z))
   refine⟨u,r,.inr ⟨look_relabel_free q2,?_⟩⟩
   rcases l with ⟨z,_⟩ | ⟨_,c,hc,hcellv⟩
   ·rcases q3' with w | w <;> (rw[z] at w;cases w)
   ·obtain⟨c',hc'⟩:=hasC x (PySem.mem_of_lookup q2)
    have e:=hcl x c' hc'
    rw[hc] at e
    cases e
    obtain⟨o,ho,hd⟩:=hcellv
    exact⟨c,hc',o,k c o ho,hd⟩
 ·obtain⟨v,o,ho,hd⟩:=I.cell x c (hcl x c e)
  exact⟨v,o,k c o ho,hd⟩
 ·have hp':p ∈ X.pn++pins:=by
   have:p ∈ (X.pn++pins)++([]:List (Addr × Obj)):=hp
   simpa using this
  obtain⟨a,b,c,d,f⟩:=I.pin p hp'
  refine⟨k _ _ a,b,Nat.ne_of_lt (Heap.lt_size a),fun z=>?_,f⟩
  rcases List.mem_cons.mp (I.stkSub p.1 z) with z | z
  ·exact c z
  ·exact d z
 ·show (List.replicate own.length (none:Option V)++js.map fun j=>(σ[j]?).join).length=(own++fr).length
  simp [hlen]
theorem comp_core {pins:List (Addr × Obj)} {s:Shared} {σ:L2.St} {H:Hp} {Q:VK} {use:Option (Value->Sem Unit)} {Qo:Value->Shared->Prop} {cpos:Pos}
  (hc:X.calm=true) (hi:PI X tg iter wi) (hg:∀ fp pins s3 H3,PG (cxComp X own fr scope fp pins s3 H3) tg g) (ht:∀ fp pins s3 H3,PTs (cxComp X own fr scope fp pins s3 H3) ifs tt)
  (he:∀ fp pins s3 H3,PE (cxComp X own fr scope fp pins s3 H3) elt te) (hok:compOk N sc0 scope fr js=true) (hN:X.N=N) (hsc:X.env.scope=sc0)
  (hs:∀ x,foldedSetIterable iter X.env x=pure x) (I:Inv X pins σ H s) (h:tComp own js wi g tt te σ H Q)
  (fin:∀ (C D:Addr) (s6:Shared) (H6:Hp) (m6:Str->Option Value),Inv X pins σ H6 s6->FpOk X pins H6 C->s6.heap.Ns C m6->Q (.ref D) H6->compPost (model X.prog X.w) X.A X.xe use Qo (.ref D) C (.ok .next) s6) :
  wpAny (model X.prog X.w) X.A (comprehension (.ListComp elt [⟨tg,iter,ifs,0⟩] scope pos) scope X.env cpos (newList []) false (eval iter X.env) use) Qo X.xe s:=by
 have hok':=hok
 unfold compOk at hok'
 simp only [Bool.and_eq_true,decide_eq_true_eq,List.all_eq_true] at hok'
 obtain⟨⟨⟨hk,hall⟩,hlen⟩,hfr⟩:=hok'
 have hcell:∀ y ∈ scope.names,y.2≠.cell:=fun y hy=>(hall y hy).1.1
 have hloc:∀ y ∈ scope.names,y.2=.local->scope.names.lookup y.1=some .local:=fun y hy e=>by
  have q:=(hall y hy).2
  simp only [Bool.or_eq_true,decide_eq_true_eq] at q
  rcases q with q | q
  ·exact absurd e q
  ·exact q
 have hfree:∀ y ∈ scope.names,y.2=.free->∃ c,X.env.cells.lookup y.1=some c:=fun y hy e=>by
  have q:=(hall y hy).1.2
  simp only [Bool.or_eq_true,decide_eq_true_eq] at q
  rw[← hsc] at q
  rcases q with (q | q) | q
  ·exact absurd e q
  ·exact I.ok.has y.1 (.inl q)
  ·exact I.ok.has y.1 (.inr q)
 refine wpAny_comprehension_free (use:=use) rfl hs (closure_is hfree) hk hloc (thn (hi pins s σ H _ I h) fun v s1 h1=>thn h1 fun itv s2 h2=>?_)
 obtain⟨it,fp,tn,J,H2,e,I2,T,st2,f2,rd⟩:=h2
 subst e
 have hD2:H2 s2.heap.objs.size=none:=I2.fresh
 obtain⟨W,⟨m0,w0⟩,turn⟩:=rd s2.heap.objs.size hD2
  -- the new list
 refine wpAny_newList ?_ (Nat.zero_le _)
 have I3:Inv X pins σ (upd H2 s2.heap.objs.size (.lst [])) { s2 with heap:=s2.heap.push { cls:=.type "list",data:=.seq ([]:List Value).toArray } }:=I2.lnew (t':=s2.toks) .nil (Nat.zero_le _)
 generalize hs3:({ s2 with heap:=s2.heap.push { cls:=.type "list",data:=.seq ([]:List Value).toArray } }:Shared)=s3 at I3
 generalize hD:s2.heap.objs.size=D at *
 have fpl:∀ b ∈ fp,b < D:=fun b hb=>by
  obtain⟨o,ho,_⟩:=T.obj _ _ st2 b hb
  rw[← hD];exact Heap.lt_size ho
 have k23:∀ b o,s2.heap.get? b=some o->s3.heap.get? b=some o:=fun b o e=>by rw[← hs3];exact Heap.get?_push_of_some _ e
 have hD3:s3.heap.objs.size=D + 1:=by rw[← hs3,← hD];exact Heap.size_push ..
 have f3:∀ b ∈ fp,FpOk X pins (upd H2 D (.lst [])) b:=fun b hb=>by
  obtain⟨f0,f⟩:=f2 b hb
  exact⟨by rw[upd_ne (Nat.ne_of_lt (fpl b hb))];exact f0,f⟩
 refine wpAny_newFunctionEnv hcell (by intro y hy;simp at hy) (fun h4 hns4 hsb4=>?_) hk
 have k34:∀ b o,s3.heap.get? b=some o->h4.get? b=some o:=fun b o e=>hsb4.extBut b o (Nat.ne_of_lt (Heap.lt_size e)) (Heap.get?_push_of_some _ e)
 have I4:=inv_comp (own:=own) (t4:=s3.toks + ([]:List (Str × Value)).length) hN hsc hok I3 f3 (fun b hb=>Nat.lt_of_lt_of_le (fpl b hb) (by rw[hD3];exact Nat.le_succ _)) k34 hns4
 have tn4:tn 0 h4:=T.keep 0 s2.heap h4 st2 fun b hb o e=>k34 b o (k23 b o e)
 have I4o:=I4.ok
 have fpS:∀ {H'':Hp},(∀ b ∈ fp,H'' b=none)->∀ b ∈ fp,FpOk (cxComp X own fr scope fp pins s3 (upd H2 D (.lst []))) [] H'' b:=fun hn b hb =>
  ⟨hn b hb,(I4o.exf b hb).1,I4o.exfs b hb,.inl hb,(I4o.exf b hb).2,fun p hp=>(f2 b hb).2.2.2.2.2 p (by
   have:p ∈ (X.pn++pins)++([]:List (Addr × Obj)):=hp
   simpa using this)⟩
 have loop : codeAny (model X.prog X.w) X.A (.compLoop (.ListComp elt [⟨tg, iter, ifs, 0⟩] scope pos) 0 (.ref it) (.ref D) (compEnvC scope (clOf X.env.cells scope.names []) s3.heap.objs.size X.env))
     (compPost (model X.prog X.w) X.A X.xe use Qo (.ref D) s3.heap.objs.size) { s3 with heap:=h4,toks:=s3.toks + ([]:List (Str × Value)).length }:=by
  refine comp_turns (fun n s'=>∃ i ys σ' H',Inv (cxComp X own fr scope fp pins s3 (upd H2 D (.lst []))) [] σ' H' s'∧tn i s'.heap∧(∀ b ∈ fp,H' b=none)∧H' D=some (.lst ys)∧W i n ys σ' H')
   ?step m0 ⟨0,[],_,_,I4,tn4,fun b hb=>(f3 b hb).1,upd_same,w0⟩
  rintro n s5 ⟨i,ys,σ5,H5,I5,tn5,fr5,d5,w5⟩
  rcases turn i n ys σ5 H5 w5 d5 with ⟨stop,q⟩ | ⟨go,stp⟩
  ·refine thn (T.done (cxComp X own fr scope fp pins s3 (upd H2 D (.lst []))) rfl rfl rfl hc i [] s5 σ5 H5 Fls I5 (fpS fr5) tn5 stop) fun r s6 ⟨hr,I6⟩=>.inl ⟨hr,?_⟩
   obtain⟨m6,hn6,_⟩:=id I6.loc
   have u1:Un (frs X.stack) fp H2 H5 s2.heap s6.heap:=(Un.laid k23 (Nat.le_of_eq hD) hD2).trans I6.base
   have fC:H5 s3.heap.objs.size=none:=I6.free
   have IX:Inv X pins σ H5 s6:=I2.call' (s':=s6) (ch:=fp) (by
    have:=I6.os
    rw[← hs3] at this
    exact this) u1 I6.hok I6.bare fun b hb=>by
     obtain⟨_,g1,_,g3,g4,g5⟩:=f2 b hb
     exact⟨g3,g1,g4,g5⟩
   exact fin s3.heap.objs.size D s6 H5 m6 IX (I2.fpOk (by rw[hD3,hD];exact Nat.le_succ _) fC) hn6 q
  ·refine thn (T.item (cxComp X own fr scope fp pins s3 (upd H2 D (.lst []))) rfl rfl rfl hc i [] s5 σ5 H5 Fls I5 (fpS fr5) tn5 go) fun r s6 ⟨u,hr,h6⟩=>.inr ⟨u,hr,thn h6 fun _ s7 ⟨x,H7,I7,r7,y7,tn7,fr7⟩=>?_⟩
   have I7':=I7.pinned (fpS fr7) (T.obj _ _ tn7)
   refine thn (hg fp pins s3 (upd H2 D (.lst [])) _ s7 σ5 H7 x u _ I7' r7 (stp x H7 y7)) fun _ s8 ⟨σ8,H8,I8,q8⟩=>?_
   refine thn (ht fp pins s3 (upd H2 D (.lst [])) _ s8 σ8 H8 _ I8 q8) fun ok s9 ⟨H9,I9,q9⟩=>?_
   have back:∀ {σ':L2.St} {H':Hp} {s':Shared},Inv (cxComp X own fr scope fp pins s3 (upd H2 D (.lst []))) ([]++pinsAt fp s7.heap) σ' H' s'->tn (i + 1) s'.heap∧∀ b ∈ fp,H' b=none:=fun {σ' H' s'} J=>by
    refine⟨T.keep _ _ _ tn7 fun b hb o e=>(J.pin (b,o) (List.mem_append_right _ (List.mem_append_right _ (mem_pinsAt hb e)))).1,fun b hb=>?_⟩
    obtain⟨o,e,_⟩:=T.obj _ _ tn7 b hb
    exact (J.pin (b,o) (List.mem_append_right _ (List.mem_append_right _ (mem_pinsAt hb e)))).2.1
   cases ok with
   | false =>
    rw[if_neg Bool.false_ne_true] at q9
    obtain⟨d9,m',hm,w9⟩:=q9
    rw[if_neg Bool.false_ne_true]
    exact⟨m',hm,i + 1,ys,σ8,H9,I9.unpinned,(back I9).1,(back I9).2,d9,w9⟩
   | true =>
    rw[if_pos rfl] at q9 ⊢
    refine thn (he fp pins s3 (upd H2 D (.lst [])) _ s9 σ8 H9 _ I9 q9) fun xv s10 ⟨v,H10,I10,r10,d10,len,m',hm,w10⟩=>?_
    refine thn (mt_append (X:=cxComp X own fr scope fp pins s3 (upd H2 D (.lst []))) _ s10 σ8 H10 (.ref D) [v] (.ref D) [xv] (fun _ H'=>H'=upd H10 D (.lst (ys++[v]))) I10 rfl (.cons r10 .nil) ⟨D,ys,v,rfl,rfl,d10,len,rfl⟩) fun _ s11 ⟨_,H11,I11,_,e11⟩=>?_
    subst e11
    exact⟨m',hm,i + 1,ys++[v],σ8,_,I11.unpinned,(back I11).1,(back I11).2,upd_same,w10⟩
 exact codeAny_compStart_list loop (T.self X.A 0 _ _ _ tn4 loop)
theorem pe_comp (hc:X.calm=true) (hi:PI X tg iter wi) (hg:∀ fp pins s3 H3,PG (cxComp X own fr scope fp pins s3 H3) tg g) (ht:∀ fp pins s3 H3,PTs (cxComp X own fr scope fp pins s3 H3) ifs tt)
  (he:∀ fp pins s3 H3,PE (cxComp X own fr scope fp pins s3 H3) elt te) (hok:compOk N sc0 scope fr js=true:=by decide +kernel) (hN:X.N=N:=by rfl) (hsc:X.env.scope=sc0:=by rfl)
  (hs:∀ x,foldedSetIterable iter X.env x=pure x:=by intro _;rfl):PE X (.ListComp elt [⟨tg,iter,ifs,0⟩] scope pos) (tComp own js wi g tt te):=by
 intro pins s σ H Q I h
 rw[eval_ListComp]
 refine comp_core hc hi hg ht he hok hN hsc hs I h fun C D s6 H6 m6 I6 f6 n6 q6=>⟨m6,n6,fun h7 sb=>⟨.ref D,H6,?_,rfl,q6⟩⟩
 obtain⟨f0,f1,_,f3,f4,f5⟩:=f6
 exact I6.turned (it:=C) (t':=s6.toks) (fun b o hb e=>sb.extBut b o hb e) f0 f1 f3 f4 f5
/-- name = [..], where the machine stores ahead of letting the block's names go -/
theorem ps_setcomp {i:Nat} {y:Str} {py spos:Pos} (hc:X.calm=true) (hi:PI X tg iter wi) (hg:∀ fp pins s3 H3,PG (cxComp X own fr scope fp pins s3 H3) tg g) (ht:∀ fp pins s3 H3,PTs (cxComp X own fr scope fp pins s3 H3) ifs tt)
  (he:∀ fp pins s3 H3,PE (cxComp X own fr scope fp pins s3 H3) elt te) (hNd:X.N.Nodup) (hy:X.N[i]?=some y) (hx:Loc X.env.scope y) (hok:compOk N sc0 scope fr js=true:=by decide +kernel) (hN:X.N=N:=by rfl) (hsc:X.env.scope=sc0:=by rfl)
  (hsw:swapsWith (.ListComp elt [⟨tg,iter,ifs,0⟩] scope pos) (some (.Name y py)) spos.line X.env=pure true:=by rfl) (hf:X.fn y=true∨X.env.scope.names.lookup y=some .local:=by first | exact .inl rfl | exact .inr rfl | assumption)
  (hs:∀ x,foldedSetIterable iter X.env x=pure x:=by intro _;rfl):PS X (.Assign [.Name y py] (.ListComp elt [⟨tg,iter,ifs,0⟩] scope pos) spos) (tAsg (tComp own js wi g tt te) (gName i)):=by
 intro pins s σ H D I h
 rw[exec_Assign_Name_used _ _ _ _ hsw]
 refine wpAny_bind (wpAny_standAt (wpAny_bind ?_))
 show wpAny _ _ (do let _ ← comprehension (.ListComp elt [⟨tg,iter,ifs,0⟩] scope pos) scope X.env _ (newList []) false (eval iter X.env) (some (assign (.Name y py) X.env))) _ _ s
 refine wpAny_bind (wpAny_mono (comp_core (use:=some (assign (.Name y py) X.env)) (Qo:=fun _ s'=>SP X pins D .next s') hc hi hg ht he hok hN hsc hs I h fun C L s6 H6 m6 I6 f6 n6 q6=>?_) (fun _ s' q=>wpAny_pure (wpAny_pure q)) fun _ _ z=>z)
 obtain⟨f0,f1,f2,f3,f4,f5⟩:=f6
 show wpAny _ _ (assign (.Name y py) X.env (.ref L)) _ _ s6
 refine wpAny_assign_Name (store_ok2 I6 hNd hy hx (v:=.ref L) rfl (fun s7 I7 ⟨a,sb,ha⟩=>?_) hf)
 have ne:C≠a:=by
  rcases ha with e | e
  ·rw[e];exact f1
  ·exact fun z=>f4 y a e z.symm
 refine⟨m6,n6.sameBut sb ne,fun h8 sb8=>⟨σ.set i (some (.ref L)),H6,?_,q6⟩⟩
 exact I7.turned (it:=C) (t':=s7.toks) (fun b o hb e=>sb8.extBut b o hb e) f0 f1 f3 f4 f5
end
end L3
namespace L3
open PySem PySem.Spec PyProof.Rows L2
section
variable {X:Cx} {pins:List (Addr × Obj)} {σ:L2.St} {H H':Hp} {s:Shared} {h':Heap} {ch:List Addr} {t':Nat}
/-- several own records have turned, the abstract heap has grown -/
theorem turnsTo (I:Inv X pins σ H s) (hf:∀ b ∈ ch,FpOk X pins H b) (k:∀ b o,b ∉ ch->s.heap.get? b=some o->h'.get? b=some o) (hH:∀ b u,H b=some u->H' b=some u)
  (hfree:∀ b o,s.heap.get? b=some o->H b=none->H' b=none) (hok:HOk X.prog X.w H' h'):Inv X pins σ H' { s with heap:=h',toks:=t' }:=by
 refine I.step (g':=s.gens) (d':=s.drawn) (ch:=ch) (fun b hb=>?_) (fun b o _ _ hc e _=>k b o hc e) (fun b o _ _ hc e _=>⟨o.slots,k b o hc e⟩) (fun b o _ e n=>hfree b o e n) (fun b o hc e=>⟨o,k b o hc e⟩)
  (fun b xs e=>hH _ _ e) (fun b o u e=>hH _ _ e) (fun b ps e=>⟨#[],by rw[hH _ _ e];simp⟩) (fun m hm=>?_) hok I.bare
 ·obtain⟨_,f1,_,f3,f4,f5⟩:=hf b hb
  exact⟨f3,f1,f4,f5⟩
 ·obtain⟨o,es,ep,ho,r⟩:=hm
  exact⟨o,es,ep,k _ o (fun z=>(hf _ z).2.1 rfl) ho,r⟩
theorem turns (I:Inv X pins σ H s) (hf:∀ b ∈ ch,FpOk X pins H b) (k:∀ b o,b ∉ ch->s.heap.get? b=some o->h'.get? b=some o):Inv X pins σ H { s with heap:=h',toks:=t' }:=by
 refine turnsTo I hf k (fun _ _ e=>e) (fun _ _ _ n=>n) fun b u e=>?_
 refine (I.hok b u e).stay (fun c v hc q=>k c v (fun z=>?_) q) (fun _ q=>q) fun _ _ q=>q
 have n:=(hf c z).1
 rcases hc with rfl | hc
 ·rw[n] at e;cases e
 ·rw[n] at hc;cases hc
theorem turnsTup {xs:List V} {its:List Value} {T:Addr} (I:Inv X pins σ H s) (hf:∀ b ∈ ch,FpOk X pins H b) (k:∀ b o,b ∉ ch->s.heap.get? b=some o->h'.get? b=some o) (hT:s.heap.objs.size≤T)
  (hz:xs.length≤sizeLine) (hv:Vals xs its) (ht:TupN h' T its.toArray):Inv X pins σ (upd H T (.tup xs)) { s with heap:=h',toks:=t' }:=by
 have fr:H T=none:=I.hok.fresh hT
 have ne:∀ b u,H b=some u->b≠T:=fun b u e=>ne_of_none e fr
 refine turnsTo I hf k (fun b u e=>by rw[upd_ne (ne b u e)];exact e) (fun b o e n=>by rw[upd_ne (Nat.ne_of_lt (Nat.lt_of_lt_of_le (Heap.lt_size e) hT))];exact n) fun b u e=>?_
 by_cases hb:b=T
 ·subst hb
  rw[upd_same] at e
  cases e
  exact⟨hz,its,hv,ht⟩
 ·rw[upd_ne hb] at e
  refine (I.hok b u e).stay (fun c v hc q=>k c v (fun z=>?_) q) (fun c q=>by rw[upd_ne (ne c _ q)];exact q) fun c ys q=>by rw[upd_ne (ne c _ q)];exact q
  have n:=(hf c z).1
  rcases hc with rfl | hc
  ·rw[n] at e;cases e
  ·rw[n] at hc;cases hc
end
def SqX (t:Bool) (K:PySem.W.Frag) (H:Hp) (a:Addr) (xs:List V):Prop:=if t=true then SqT K H a xs else SqL K H a xs
section
variable {X:Cx} {pins:List (Addr × Obj)} {σ:L2.St} {H:Hp} {s:Shared} {a:Addr} {xs ys:List V} {t:Bool}
theorem seqX (I:Inv X pins σ H s) (h:SqX t X.K H a xs):∃ its:List Value,Vals xs its∧Z3.SqAt t s.heap a its.toArray∧xs.length≤sizeLine:=by
 cases t with
 | true=>obtain⟨its,r,p,z⟩:=I.tuple (show SqT X.K H a xs from h);exact⟨its,r,p,z⟩
 | false=>obtain⟨its,r,p,z⟩:=I.list (show SqL X.K H a xs from h);exact⟨its,r,p.isList,z⟩
theorem seqX_inj (I:Inv X pins σ H s) (h:SqX t X.K H a xs) (h':SqX t X.K H a ys):xs=ys:=by
 cases t with
 | true=>exact I.tuple_inj h h'
 | false=>exact I.list_inj h h'
end
def Itz (t1 t2:Bool) (K:PySem.W.Frag) (l1 l2:Addr):It :=
 ⟨fun i H=>∃ xs ys x y,SqX t1 K H l1 xs∧SqX t2 K H l2 ys∧xs[i]?=some x∧ys[i]?=some y,
  fun i H v H'=>∃ T x y,H T=none∧v=.ref T∧H'=upd H T (.tup [x,y])∧(∀ xs,SqX t1 K H l1 xs->xs[i]?=some x)∧(∀ ys,SqX t2 K H l2 ys->ys[i]?=some y),
  fun i H=>∃ xs ys,SqX t1 K H l1 xs∧SqX t2 K H l2 ys∧(xs.length≤i∨ys.length≤i)⟩
theorem turn_zip {P:Program} {w:World} {K:PySem.W.Frag} {elts:List Expr} {kk:Nat} {pos:Pos} {t1 t2:Bool} {z TI TO i1 i2 l1 l2:Addr} (D:Z3.Ap z TI TO i1 i2) (o1:Z3.Out z TI TO i1 i2 l1) (o2:Z3.Out z TI TO i1 i2 l2) :
  Turn P w K (.Tuple elts kk pos) (Itz t1 t2 K l1 l2) [z,TI,TO,i1,i2] z (fun i h=>Z3.Zd t1 t2 h z TI TO i1 i2 l1 l2 .none i) where
 mem:=by simp
 obj:=fun i h st b hb=>by
  obtain⟨q1,q2,⟨_,_,q3⟩,q4,q5⟩:=st
  obtain⟨o4,n4,e4,_,d4⟩:=q4.obj
  obtain⟨o5,n5,e5,_,d5⟩:=q5.obj
  simp only [List.mem_cons,List.not_mem_nil,or_false] at hb
  rcases hb with rfl | rfl | rfl | rfl | rfl
  ·exact⟨_,q1,fun v q=>by cases q⟩
  ·exact⟨_,q2,fun v q=>by cases q⟩
  ·exact⟨_,q3,fun v q=>by cases q⟩
  ·exact⟨_,e4,fun v q=>by rw[d4] at q;cases q⟩
  ·exact⟨_,e5,fun v q=>by rw[d5] at q;cases q⟩
 keep:=fun i h h' st k=>by
  obtain⟨q1,q2,⟨a,b,q3⟩,q4,q5⟩:=st
  exact⟨k z (by simp) _ q1,k TI (by simp) _ q2,⟨a,b,k TO (by simp) _ q3⟩,q4.to fun o e=>k i1 (by simp) o e,q5.to fun o e=>k i2 (by simp) o e⟩
 item:=by
  intro X hP hw hK hc i pins s σ H E I hf st hg
  subst hP hw hK
  obtain⟨xs,ys,x,y,q1,q2,hx,hy⟩:=hg
  obtain⟨its1,r1,p1,z1⟩:=seqX I q1
  obtain⟨its2,r2,p2,z2⟩:=seqX I q2
  obtain⟨u1,hu1,ru1⟩:=r1.get hx
  obtain⟨u2,hu2,ru2⟩:=r2.get hy
  have hf4:∀ b ∈ [z,TO,i1,i2],FpOk X pins H b:=fun b hb=>hf b (by
   simp only [List.mem_cons,List.not_mem_nil,or_false] at hb ⊢
   rcases hb with rfl | rfl | rfl | rfl <;> simp)
  refine Z3.next_more D o1 o2 st p1 p2 (x:=u1) (y:=u2) (by simpa using hu1) (by simpa using hu2) fun h' zd tp sz kp=>?_
  have I1 : Inv X pins σ (upd H s.heap.objs.size (.tup [x, y])) { s with heap := h', toks := s.toks } := turnsTup (ch := [z, TO, i1, i2]) (its := [u1, u2]) I hf4 (fun b o hb e => by
      simp only [List.mem_cons,List.not_mem_nil,or_false,not_or] at hb
      exact kp b o hb.1 hb.2.1 hb.2.2.1 hb.2.2.2 e) (Nat.le_refl _) (by show 2≤sizeLine;rw[sizeLine_eq];decide) (.cons ru1 (.cons ru2 .nil)) ⟨_,tp,rfl,⟨_,rfl⟩,rfl⟩
  have fr:H s.heap.objs.size=none:=I.fresh
  have zne:∀ b ∈ [z,TI,TO,i1,i2],b≠s.heap.objs.size:=fun b hb e=>by
   have key:∃ o,s.heap.get? b=some o:=by
    obtain⟨q1,q2,⟨_,_,q3⟩,q4,q5⟩:=st
    obtain⟨o4,n4,e4,_,d4⟩:=q4.obj
    obtain⟨o5,n5,e5,_,d5⟩:=q5.obj
    simp only [List.mem_cons,List.not_mem_nil,or_false] at hb
    rcases hb with rfl | rfl | rfl | rfl | rfl
    ·exact⟨_,q1⟩
    ·exact⟨_,q2⟩
    ·exact⟨_,q3⟩
    ·exact⟨_,e4⟩
    ·exact⟨_,e5⟩
   obtain⟨o,ho⟩:=key
   exact absurd (Heap.lt_size ho) (by rw[e];exact Nat.lt_irrefl _)
  refine⟨_,rfl,wpAny_letOwnedTupleGo_zip zd.z fun h2 zd2 sb=>?_⟩
  obtain⟨f0,f1,f2,f3,f4,f5⟩:=hf z (by simp)
  have I2:Inv X pins σ (upd H s.heap.objs.size (.tup [x,y])) { s with heap:=h2,toks:=s.toks }:=Inv.turned (s:={ s with heap:=h',toks:=s.toks }) (it:=z) (t':=s.toks) I1 (fun b o hb e=>sb.extBut b o hb e) (by rw[upd_ne (zne z (by simp))];exact f0) f1 f3 f4 f5
  refine⟨.ref s.heap.objs.size,_,I2,rfl,⟨_,x,y,fr,rfl,rfl,fun zs hz=>by rw[seqX_inj I hz q1];exact hx,fun zs hz=>by rw[seqX_inj I hz q2];exact hy⟩,?_,fun b hb=>by rw[upd_ne (zne b hb)];exact (hf b hb).1⟩
  obtain⟨_,w2,⟨a3,b3,w3⟩,w4,w5⟩:=zd
  exact⟨zd2,sb.extBut _ _ D.n1 w2,⟨a3,b3,sb.extBut _ _ D.n2 w3⟩,w4.to fun o e=>sb.extBut _ _ D.n3 e,w5.to fun o e=>sb.extBut _ _ D.n4 e⟩
 done:=by
  intro X hP hw hK hc i pins s σ H E I hf st hg
  subst hP hw hK
  obtain⟨xs,ys,q1,q2,hx⟩:=hg
  obtain⟨its1,r1,p1,z1⟩:=seqX I q1
  obtain⟨its2,r2,p2,z2⟩:=seqX I q2
  have l1:=r1.length
  have l2:=r2.length
  have hf4:∀ b ∈ [z,TO,i1,i2],FpOk X pins H b:=fun b hb=>hf b (by
   simp only [List.mem_cons,List.not_mem_nil,or_false] at hb ⊢
   rcases hb with rfl | rfl | rfl | rfl <;> simp)
  refine Z3.next_stop (I.ok.hd hc) D o1 o2 st p1 p2 (hx.elim (fun q=>.inl (by simp;omega)) fun q=>.inr (by simp;omega)) fun h' kp=>⟨rfl,?_⟩
  exact turns (ch:=[z,TO,i1,i2]) (t':=s.toks) I hf4 fun b o hb e=>by
   simp only [List.mem_cons,List.not_mem_nil,or_false,not_or] at hb
   exact kp b o hb.1 hb.2.1 hb.2.2.1 hb.2.2.2 e
 self:=fun _ _ _ _ _ st h=>wpAny_pyIter_zip st.z h
def iZip (t1 t2:Bool) (K:PySem.W.Frag) (ta:TA):TI:=fun σ H R=>ta σ H fun vs H1=>∃ l1 l2,vs=[.ref l1,.ref l2]∧(∃ xs,SqX t1 K H1 l1 xs)∧(∃ ys,SqX t2 K H1 l2 ys)∧R (Itz t1 t2 K l1 l2) H1
theorem pi_zip {X:Cx} {elts:List Expr} {kk:Nat} {pos':Pos} (t1 t2:Bool) {a b:Expr} {ta:TA} {p pos:Pos} (hg:Gl X "zip") (hm:X.mg "zip"=none) (ha:PA X [a,b] ta)
  (hs:starEach [a,b] X.env=[(false,eval a X.env),(false,eval b X.env)]:=by rfl) (hs2:starEach [b] X.env=[(false,eval b X.env)]:=by rfl) :
  PI X (.Tuple elts kk pos') (.Call (.Name "zip" p) [a,b] [] pos) (iZip t1 t2 X.K ta):=by
 intro pins s σ H R I h
 refine Call_ (ld_blt I hg hm boot_zip (PyProof.Rows.callWith_type1 (thn (ha pos pins s σ H _ I h) fun us s1 ⟨vs,H1,I1,r1,q1⟩=>?_) (by rw[hs,hs2]) (by rw[hs2];rfl)))
 obtain⟨l1,l2,e,⟨xs,qx⟩,⟨ys,qy⟩,q⟩:=q1
 subst e
 cases r1 with
 | cons r rr =>
  cases rr with
  | cons r' rr =>
   cases rr
   cases r
   cases r'
   obtain⟨its1,r1,p1,z1⟩:=seqX I1 qx
   obtain⟨its2,r2,p2,z2⟩:=seqX I1 qy
   have lt:∀ {t:Bool} {l:Addr} {xs:Array Value},Z3.SqAt t s1.heap l xs->l < s1.heap.objs.size:=fun {t l xs} q=>by
    cases t with
    | true=>obtain⟨o,e,_⟩:=(show s1.heap.IsTuple l xs from q);exact Heap.lt_size e
    | false=>obtain⟨o,e,_⟩:=(show s1.heap.IsList l xs from q);exact Heap.lt_size e
   refine Z3.call_zip p1 p2 fun h' zd sz kp=>wpAny_pyIter_zip zd.z ?_
   have I2:Inv X pins σ H1 { s1 with heap:=h',toks:=s1.toks }:=I1.kept (t':=s1.toks) kp
   refine⟨s1.heap.objs.size + 4,[s1.heap.objs.size + 4,s1.heap.objs.size + 2,s1.heap.objs.size + 3,s1.heap.objs.size,s1.heap.objs.size + 1],_,_,H1,rfl,I2,turn_zip (Z3.ap_new _) (Z3.out_new (lt p1)) (Z3.out_new (lt p2)),zd,fun b hb=>?_,q⟩
   have hb':s1.heap.objs.size≤b:=by
    simp only [List.mem_cons,List.not_mem_nil,or_false] at hb
    rcases hb with rfl | rfl | rfl | rfl | rfl
    ·exact Nat.le_add_right _ _
    ·exact Nat.le_add_right _ _
    ·exact Nat.le_add_right _ _
    ·exact Nat.le_refl _
    ·exact Nat.le_add_right _ _
   exact I1.fpOk hb' (I1.hok.fresh hb')
section
variable {X:Cx} {pos:Pos}
def gLst (K:PySem.W.Frag) (n:Nat) (t:TGs):TG:=fun v σ H Q=>∃ a xs,v=.ref a∧SqL K H a xs∧xs.length=n∧t xs σ H Q
theorem pg_lst {es:List Expr} {k:Nat} {t:TGs} {n:Nat} (hc:X.calm=true) (h:PGs X es t) (hn:(assignEach es X.env).length=n:=by rfl) (hst:(assignEach es X.env).findIdx? (·.1)=none:=by rfl):PG X (.Tuple es k pos) (gLst X.K n t):=by
 intro pins s σ H v u Q I r hw
 obtain⟨a,xs,e1,hq,hl,hw⟩:=hw
 subst e1
 cases r
 obtain⟨its,rv,ht,hz⟩:=I.list hq
 refine U3.assign_tuple_lst (I.ok.hd hc) ht.isList (by simp [hn,← hl,rv.length]) hst fun h' hx=>?_
 have I1:Inv X pins σ H { s with heap:=h' }:=I.kept (t':=s.toks) fun b o e=>hx b o (Nat.ne_of_lt (Heap.lt_size e)) e
 exact h pins _ σ H xs _ Q I1 (by simpa using rv) hw
theorem truth_bl {prog:Program} {w:World} {A:Around} {bs:List Bool} {its:List Value} (r:Vals (bs.map V.bl) its):TruthOf prog w A (fun i v=>its.toArray[i]?=some v) (fun i=>bs.getD i true):=by
 intro i v s Q E hP hq
 have hP':its[i]?=some v:=by simpa using hP
 have hl:=r.length
 have hi:i < its.length:=(List.getElem?_eq_some_iff.mp hP').1
 have hb:i < bs.length:=by rw[List.length_map] at hl;omega
 obtain⟨u,hu,ru⟩:=r.get (i:=i) (x:=V.bl bs[i]) (by rw[List.getElem?_map,List.getElem?_eq_getElem hb];rfl)
 rw[hP'] at hu
 cases hu
 have e:v=Value.bool bs[i]:=ru
 subst e
 have e2:bs.getD i true=bs[i]:=by simp [List.getD,hb]
 have hq':Q (bs.getD i true) s:=hq
 rw[e2] at hq'
 exact wpAny_truthy_bool hq'
theorem all_range (bs:List Bool):((List.range bs.length).all fun i=>bs.getD i true)=bs.all id:=by
 rw[Bool.eq_iff_iff,List.all_eq_true,List.all_eq_true]
 constructor
 ·intro h b hb
  obtain⟨i,hi,e⟩:=List.getElem_of_mem hb
  have:=h i (List.mem_range.mpr hi)
  rw[← e]
  simpa [List.getD,hi] using this
 ·intro h i hi
  have hi':=List.mem_range.mp hi
  have:=h bs[i] (List.getElem_mem hi')
  simpa [List.getD,hi'] using this
theorem call_all (hh:X.calm=true):CallR X (.builtin "all") (fun xs H Q=>∃ (p:Addr) (bs:List Bool),xs=[.ref p]∧SqL X.K H p (bs.map V.bl)∧Q (.bl (bs.all id)) H):=by
 intro pins s σ H xs us Q I r h
 obtain⟨p,bs,rfl,hq,q⟩:=h
 obtain⟨u,rfl,rx⟩:=vals1 r
 cases rx
 obtain⟨its,rv,pl,hz⟩:=I.list hq
 have hl:=rv.length
 have lt:p≠s.heap.objs.size:=by obtain⟨o,e,_⟩:=pl.isList;exact Nat.ne_of_lt (Heap.lt_size e)
 refine call_all_walk (wpAny_pyIter_list pl.isList ?_)
 have W:=Walks.list (prog:=X.prog) (w:=X.w) (A:=X.A.in1) (show X.A.in1.handled=none from I.ok.hd hh) s.heap.objs.size p lt its.toArray
 refine⟨s.heap.objs.size,_,_,_,_,_,_,rfl,W,⟨⟨_,Heap.get?_push_size _ rfl,rfl,rfl⟩,pl.isList.push _⟩,truth_bl rv,fun h' tk hk=>?_⟩
 refine⟨.bl (bs.all id),H,I.kept (t':=tk) fun b o e=>hk b o (fun z=>?_) (Heap.get?_push_of_some _ e),?_,q⟩
 ·have:b=s.heap.objs.size:=by simpa using z
  exact absurd (Heap.lt_size e) (by rw[this];exact Nat.lt_irrefl _)
 ·show Value.bool _=Value.bool _
  have e1:its.toArray.size=bs.length:=by rw[List.size_toArray,← hl,List.length_map]
  rw[e1,all_range]
theorem call_isi {n:String}:CallR X (.builtin "isinstance") (fun xs H Q=>∃ x t b,xs=[x,.ty n]∧TyOf X.K H x t∧PySem.W.kitOne X.K t (.type n)=some b∧Q (.bl b) H):=by
 intro pins s σ H xs us Q I r h
 obtain⟨x,t,b,rfl,ty,e,q⟩:=h
 obtain⟨u,c,rfl,ru,rc⟩:=r.two
 cases rc
 exact isinst_ok I ru ty e fun tk=>⟨.bl b,H,I.tok tk,rfl,q⟩
variable {a b c d:Expr} {ta tb tc td:TE}
end
end L3
namespace L3
open PySem PySem.Spec PyProof.Rows L2
mutual
def Is (K:PySem.W.Frag) (H:Hp):PyData->V->Prop
 | .none,v=>v=.non
 | .bool b,v=>v=.bl b
 | .int i,v=>v=.int i
 | .str x,v=>v=.str x
 | .tuple ds,v=>∃ p vs,v=.ref p∧H p=some (.tup vs)∧IsAll K H ds vs
 | .list ds,v=>∃ p vs,v=.ref p∧H p=some (.lst vs)∧IsAll K H ds vs
 | .dict kvs,v=>kvs=[]∧∃ p,v=.ref p∧H p=some (.dK [])
def IsAll (K:PySem.W.Frag) (H:Hp):List PyData->List V->Prop
 | [],vs=>vs=[]
 | d::ds,vs=>∃ v r,vs=v::r∧Is K H d v∧IsAll K H ds r
end
section
variable {K:PySem.W.Frag} {H H':Hp}
mutual
theorem Is.same (e:Same H H'):∀ (d:PyData) {v:V},Is K H d v->Is K H' d v
 | .none,_,h=>h
 | .bool _,_,h=>h
 | .int _,_,h=>h
 | .str _,_,h=>h
 | .tuple ds,_,h=>let ⟨p,vs,q1,q2,q3⟩:=h;⟨p,vs,q1,e _ _ q2,IsAll.same e ds q3⟩
 | .list ds,_,h=>let ⟨p,vs,q1,q2,q3⟩:=h;⟨p,vs,q1,e _ _ q2,IsAll.same e ds q3⟩
 | .dict kvs,_,h=>let ⟨q0,p,q1,q2⟩:=h;⟨q0,p,q1,e _ _ q2⟩
theorem IsAll.same (e:Same H H'):∀ (ds:List PyData) {vs:List V},IsAll K H ds vs->IsAll K H' ds vs
 | [],_,h=>h
 | d::ds,_,h=>let ⟨v,r,q1,q2,q3⟩:=h;⟨v,r,q1,Is.same e d q2,IsAll.same e ds q3⟩
end
theorem IsAll.length:∀ {ds:List PyData} {vs:List V},IsAll K H ds vs->vs.length=ds.length
 | [],_,h=>by rw[show _=[] from h];rfl
 | d::ds,_,⟨v,r,q1,q2,q3⟩=>by rw[q1,List.length_cons,List.length_cons,IsAll.length q3]
theorem IsAll.get:∀ {ds:List PyData} {vs:List V} {i:Nat} {d:PyData},IsAll K H ds vs->ds[i]?=some d->∃ v,vs[i]?=some v∧Is K H d v
 | [],_,_,_,_,e=>by simp at e
 | d::ds,_,0,d',⟨v,r,q1,q2,q3⟩,e=>by
  have e':d=d':=by simpa using e
  subst e';subst q1;exact⟨v,rfl,q2⟩
 | d::ds,_,i + 1,_,⟨v,r,q1,q2,q3⟩,e=>by
  subst q1
  obtain⟨u,h1,h2⟩:=IsAll.get (i:=i) q3 (by simpa using e)
  exact⟨u,by simpa using h1,h2⟩
theorem IsAll.of:∀ {ds:List PyData} {vs:List V},vs.length=ds.length->(∀ (i:Nat) (d:PyData) (v:V),ds[i]?=some d->vs[i]?=some v->Is K H d v)->IsAll K H ds vs
 | [],[],_,_=>rfl
 | [],_::_,h,_=>by simp at h
 | _::_,[],h,_=>by simp at h
 | d::ds,v::vs,h,q=>⟨v,vs,rfl,q 0 d v rfl rfl,IsAll.of (by simpa using h) fun i d' v' h1 h2=>q (i + 1) d' v' (by simpa using h1) (by simpa using h2)⟩
theorem IsAll.append:∀ {ds es:List PyData} {vs us:List V},IsAll K H ds vs->IsAll K H es us->IsAll K H (ds++es) (vs++us)
 | [],_,_,_,h,q=>by rw[show _=[] from h];exact q
 | d::ds,_,_,_,⟨v,r,q1,q2,q3⟩,q=>⟨v,r++_,by rw[q1];rfl,q2,IsAll.append q3 q⟩
theorem IsAll.ints (ns:List Int):IsAll K H (ns.map .int) (ns.map V.int):=by
 refine IsAll.of (by simp) fun i d v h1 h2=>?_
 rw[List.getElem?_map] at h1 h2
 cases e:ns[i]? with
 | none=>rw[e] at h1;cases h1
 | some n=>rw[e] at h1 h2;cases h1;cases h2;exact rfl
theorem IsAll.of_ints:∀ {ns:List Int} {vs:List V},IsAll K H (ns.map .int) vs->vs=ns.map V.int
 | [],_,h=>h
 | n::ns,_,⟨v,r,q1,q2,q3⟩=>by
  have e:v=.int n:=q2
  rw[q1,e,IsAll.of_ints q3];rfl
end
section
variable {X:Cx} {pins:List (Addr × Obj)} {σ:L2.St} {H:Hp} {s:Shared}
mutual
theorem reads_of (I:Inv X pins σ H s):∀ (d:PyData) {v:V} {u:Value},Is X.K H d v->RelV v u->∃ as,Reads s.heap u d as
 | .none,_,_,h,r=>by
  have e:_=V.non:=h
  subst e;cases r;exact⟨_,.none⟩
 | .bool b,_,_,h,r=>by
  have e:_=V.bl b:=h
  subst e;cases r;exact⟨_,.bool b⟩
 | .int i,_,_,h,r=>by
  have e:_=V.int i:=h
  subst e;obtain⟨t,rfl⟩:=r;exact⟨_,.int i t⟩
 | .str x,_,_,h,r=>by
  have e:_=V.str x:=h
  subst e;obtain⟨t,rfl⟩:=r;exact⟨_,.str x t⟩
 | .tuple ds,_,_,h,r=>by
  obtain⟨p,vs,rfl,q2,q3⟩:=(show ∃ p vs,_=V.ref p∧H p=some (.tup vs)∧IsAll X.K H ds vs from h)
  cases r
  obtain⟨its,rv,⟨o,e1,e2,n,e3⟩,_⟩:=I.tuple (SqT.of q2)
  obtain⟨as,ra⟩:=readsAll_of I ds q3 rv
  exact⟨_,.tuple e1 e2 e3 (by simpa using ra)⟩
 | .list ds,_,_,h,r=>by
  obtain⟨p,vs,rfl,q2,q3⟩:=(show ∃ p vs,_=V.ref p∧H p=some (.lst vs)∧IsAll X.K H ds vs from h)
  cases r
  obtain⟨its,rv,⟨o,n,e1,e2,_,e3⟩,_⟩:=I.list (SqL.of q2)
  obtain⟨as,ra⟩:=readsAll_of I ds q3 rv
  exact⟨_,.list e1 e2 e3 (by simpa using ra)⟩
 | .dict kvs,_,_,h,r=>by
  obtain⟨e0,p,rfl,q2⟩:=(show kvs=[]∧∃ p,_=V.ref p∧H p=some (.dK []) from h)
  subst e0
  cases r
  obtain⟨_,_,vs,kv,o,es,ep,g1,g2,g3,_,g4,_⟩:=(show ObjOk X.prog X.w H s.heap p (.dK []) from I.hok p _ q2)
  cases kv
  have e1:es.toList=[]:=by cases h:es.toList with
   | nil=>rfl
   | cons x r=>rw[h] at g4;cases g4
  exact⟨_,.dict g1 g2.1 g3 (by rw[e1];exact .nil) (by rw[e1];exact .nil)⟩
theorem readsAll_of (I:Inv X pins σ H s):∀ (ds:List PyData) {vs:List V} {us:List Value},IsAll X.K H ds vs->Vals vs us->∃ as,ReadsAll s.heap us ds as
 | [],_,_,h,r=>by
  have e:_=[]:=h
  subst e;cases r;exact⟨_,.nil⟩
 | d::ds,_,_,h,r=>by
  obtain⟨v,vr,rfl,q2,q3⟩:=(show ∃ v r,_=v::r∧Is X.K H d v∧IsAll X.K H ds r from h)
  cases r with
  | cons r1 r2 =>
   obtain⟨as,a1⟩:=reads_of I d q2 r1
   obtain⟨bs,a2⟩:=readsAll_of I ds q3 r2
   exact⟨_,.cons a1 a2⟩
end
/-- == and != of data -/
theorem op_eqD:OpR X (compareOp .Eq) (fun x y H Q=>∃ da db,Is X.K H da x∧Is X.K H db y∧da.canLay0=true∧db.canLay0=true∧X.A.units + min da.depth db.depth < cLine∧Q (.bl (PyData.eqv da db)) H):=by
 intro pins s σ H x y v u Q I rx ry h
 obtain⟨da,db,h1,h2,c1,c2,hu,q⟩:=h
 obtain⟨as,ra⟩:=reads_of I da h1 rx
 obtain⟨bs,rb⟩:=reads_of I db h2 ry
 exact SeqAt.compareEq_reads ra rb c1 c2 hu (fin_bl I q rfl)
theorem op_neD:OpR X (compareOp .NotEq) (fun x y H Q=>∃ da db,Is X.K H da x∧Is X.K H db y∧da.canLay0=true∧db.canLay0=true∧X.A.units + min da.depth db.depth < cLine∧Q (.bl (!PyData.eqv da db)) H):=by
 intro pins s σ H x y v u Q I rx ry h
 obtain⟨da,db,h1,h2,c1,c2,hu,q⟩:=h
 obtain⟨as,ra⟩:=reads_of I da h1 rx
 obtain⟨bs,rb⟩:=reads_of I db h2 ry
 exact SeqAt.compareNe_reads ra rb c1 c2 hu (fin_bl I q rfl)
theorem getD_rel {ys:List V} {its:List Value} (r:Vals ys its) {i:Nat} (hi:i < ys.length):RelV (ys.getD i .non) (its.getD i .none):=by
 have hl:=r.length
 obtain⟨u,hu,ru⟩:=r.get (i:=i) (x:=ys[i]) (List.getElem?_eq_getElem hi)
 have e1:ys.getD i .non=ys[i]:=by simp [List.getD,hi]
 have e2:its.getD i .none=u:=by simp [List.getD,hu]
 rw[e1,e2];exact ru
theorem vals_out {ys:List V} {its:List Value} (r:Vals ys its):∀ (l:List Nat),(∀ i ∈ l,i < ys.length)->Vals (l.map fun i=>ys.getD i .non) (l.map fun i=>its.getD i Value.none)
 | [],_=>.nil
 | i::l,h=>.cons (getD_rel r (h i List.mem_cons_self)) (vals_out r l fun j hj=>h j (List.mem_cons_of_mem _ hj))
theorem gd_mem {n:Nat} {p:Array Nat} (g:Srt.Gd n p):∀ i ∈ p.toList,i < n:=fun i hi=>by
 have:=g.mem_iff.mp (Array.mem_toList_iff.mp hi)
 simpa using this
theorem gd_perm {α:Type} {n:Nat} {p:Array Nat} (g:Srt.Gd n p) (f:Nat->α):(p.toList.map f).Perm ((List.range n).map f):=by
 have h:=Array.perm_iff_toList_perm.mp g
 exact (by simpa using h:p.toList.Perm (List.range n)).map f
theorem up_pair {n:Nat} {p:Array Nat} {r:Nat->Int} {R:Nat->Nat->Prop} (g:Srt.Gd n p) (u:Srt.Up r p n) (h:∀ i j,i < n->j < n->r i≤r j->R i j):p.toList.Pairwise R:=by
 rw[List.pairwise_iff_getElem]
 intro i j hi hj hij
 have sz:=g.sz
 have hi':i < p.size:=by simpa using hi
 have hj':j < p.size:=by simpa using hj
 have q:=u i j (Nat.le_of_lt hij) (by omega)
 have e:∀ k (hk:k < p.size),p.getD k 0=p[k]:=fun k hk=>by simp [Array.getD,hk]
 unfold Srt.ky at q
 rw[e i hi',e j hj'] at q
 have m:∀ k (hk:k < p.size),p[k] < n:=fun k hk=>gd_mem g _ (by simp)
 have:=h p[i] p[j] (m i hi') (m j hj') q
 simpa using this
theorem range_getD {α:Type} (l:List α) (d:α):(List.range l.length).map (fun i=>l.getD i d)=l:=by
 refine List.ext_getElem (by simp) fun i h1 h2=>?_
 simp [List.getD,h2]
theorem call_sortedI:CallR X (.builtin "sorted") (fun xs H Q=>∃ p ns,xs=[.ref p]∧SqL X.K H p (ns.map V.int)∧ns.length < 64∧∀ ms:List Int,ms.Perm ns->ms.Pairwise (·≤·)->∀ l,H l=none->Q (.ref l) (upd H l (.lst (ms.map V.int)))):=by
 intro pins s σ H xs us Q I r h
 obtain⟨p,ns,rfl,hq,h64,q⟩:=h
 obtain⟨u,rfl,rx⟩:=vals1 r
 cases rx
 obtain⟨its,rv,pl,hz⟩:=I.list hq
 have hl:=rv.length
 rw[List.length_map] at hl
 have hI:IntsAre its ns:=intsAre_of rv
 have line:(64:Nat)≤sizeLine:=by rw[sizeLine_eq];decide
 refine Srt.sorted_by (r:=fun i=>ns.getD i 0) (κ:=oneType') pl.isList (by omega) (fun h2 A' s' Q' _ q'=>Srt.int_kind hI h2 q') (fun A' s' i j C _ hi hj q'=>Srt.int_ask hI hi hj q') fun pp h' c g u kp e=>?_
 have g':Srt.Gd ns.length pp:=by rw[hl];exact g
 have u':Srt.Up (fun i=>ns.getD i 0) pp ns.length:=by rw[hl];exact u
 have pm:(pp.toList.map fun i=>ns.getD i 0).Perm ns:=by
  have:=gd_perm g' fun i=>ns.getD i 0
  rw[range_getD] at this
  exact this
 have pw:(pp.toList.map fun i=>ns.getD i 0).Pairwise (·≤·):=by
  rw[List.pairwise_map]
  exact up_pair g' u' fun i j _ _ z=>z
 have fr:H (s.heap.objs.size + 1)=none:=I.hok.fresh (Nat.le_succ _)
 have ev:((pp.toList.map fun i=>ns.getD i 0).map V.int)=pp.toList.map fun i=>(ns.map V.int).getD i .non:=by
  rw[List.map_map]
  refine List.map_congr_left fun i hi=>?_
  have:=gd_mem g' i hi
  simp [List.getD,this]
 refine⟨.ref (s.heap.objs.size + 1),_,I.laid (a:=s.heap.objs.size + 1) (o:=.lst ((pp.toList.map fun i=>ns.getD i 0).map V.int)) (t':=s.toks) kp (Nat.le_succ _) ⟨?_,Srt.outOf its pp,c,?_,e⟩,rfl,q _ pm pw _ fr⟩
 ·have:=pm.length_eq
  rw[List.length_map,this];omega
 ·rw[ev]
  exact vals_out rv pp.toList fun i hi=>by rw[List.length_map];exact gd_mem g' i hi
theorem call_sortedT:CallR X (.builtin "sorted") (fun xs H Q=>∃ p ys ks,xs=[.ref p]∧SqL X.K H p ys∧ys.length < 64∧Paired (fun (y:V) (k:List Int)=>∃ a,y=.ref a∧SqT X.K H a (k.map V.int)) ys ks∧(∀ k ∈ ks,k≠[]) ∧
  ∀ qs:List (V × List Int),qs.Perm (ys.zip ks)->qs.Pairwise (fun a b=>Srt.lexI b.2 a.2=false)->∀ l,H l=none->Q (.ref l) (upd H l (.lst (qs.map (·.1))))):=by
 intro pins s σ H xs us Q I r h
 obtain⟨p,ys,ks,rfl,hq,h64,hp,hne,q⟩:=h
 obtain⟨u,rfl,rx⟩:=vals1 r
 cases rx
 obtain⟨its,rv,pl,hz⟩:=I.list hq
 have hl:=rv.length
 have hlk:ys.length=ks.length:=Paired.length hp
 have line:(64:Nat)≤sizeLine:=by rw[sizeLine_eq];decide
 have hT:∀ {ys:List V} {ks:List (List Int)} {its:List Value},Paired (fun (y:V) (k:List Int)=>∃ a,y=.ref a∧SqT X.K H a (k.map V.int)) ys ks->Vals ys its->Paired (Srt.TupI s.heap) its ks:=by
  intro ys ks its hp
  induction hp generalizing its with
  | nil=>intro rv;cases rv;exact .nil
  | cons r t ih =>
   intro rv
   cases rv with
   | cons r1 r2 =>
    refine .cons ?_ (ih r2)
    obtain⟨a,rfl,qa⟩:=r
    cases r1
    obtain⟨its',rv',⟨o,e1,e2,n,e3⟩,_⟩:=I.tuple qa
    exact⟨a,o,its'.toArray,n,rfl,e1,e2,e3,by simpa using intsAre_of rv'⟩
 have tp:=hT hp rv
 have mono:∀ {h':Heap},(∀ b o,s.heap.get? b=some o->h'.get? b=some o)->Paired (Srt.TupI h') its ks:=fun k=>Paired.mapP tp fun v k' z=>z.to k
 refine Srt.sorted_by (r:=Srt.rank its.length fun i j=>Srt.lexI (ks.getD i []) (ks.getD j [])) (κ:=tuples' true) pl.isList (by omega) (fun h2 A' s' Q' k q'=>Srt.tup_kind (mono k) hne h2 q')
  (fun A' s' i j C k hi hj q'=>Srt.tup_ask (mono k) hi hj (by rw[Srt.rank_lt (lt:=fun i j=>Srt.lexI (ks.getD i []) (ks.getD j [])) (fun i=>Srt.lexI_irr _) (fun _ _ _ _ _ _=>Srt.lexI_trans _ _ _) (fun _ _ _ _ _ _=>Srt.lexI_neg _ _ _) hi hj] at q';exact q')) fun pp h' c g u kp e=>?_
 have fr:H (s.heap.objs.size + 1)=none:=I.hok.fresh (Nat.le_succ _)
 have pm:(pp.toList.map fun i=>(ys.getD i .non,ks.getD i [])).Perm (ys.zip ks):=by
  have h1:=gd_perm g fun i=>(ys.getD i V.non,ks.getD i [])
  have e1:(List.range its.length).map (fun i=>(ys.getD i V.non,ks.getD i []))=ys.zip ks:=by
   refine List.ext_getElem (by simp;omega) fun i h1 h2=>?_
   have hi:i < its.length:=by simpa using h1
   have a1:i < ys.length:=by omega
   have a2:i < ks.length:=by omega
   simp [List.getD,a1,a2]
  rw[e1] at h1
  exact h1
 have pw:(pp.toList.map fun i=>(ys.getD i V.non,ks.getD i [])).Pairwise (fun a b=>Srt.lexI b.2 a.2=false):=by
  rw[List.pairwise_map]
  refine up_pair g u fun i j hi hj z=>?_
  have w:=Srt.rank_lt (n:=its.length) (lt:=fun i j=>Srt.lexI (ks.getD i []) (ks.getD j [])) (fun i=>Srt.lexI_irr _) (fun _ _ _ _ _ _=>Srt.lexI_trans _ _ _) (fun _ _ _ _ _ _=>Srt.lexI_neg _ _ _) hj hi
  rw[decide_eq_false (by omega)] at w
  exact w.symm
 have ev:(pp.toList.map fun i=>(ys.getD i V.non,ks.getD i [])).map (·.1)=pp.toList.map fun i=>ys.getD i V.non:=by
  rw[List.map_map];rfl
 refine⟨.ref (s.heap.objs.size + 1),_,I.laid (a:=s.heap.objs.size + 1) (o:=.lst ((pp.toList.map fun i=>(ys.getD i V.non,ks.getD i [])).map (·.1))) (t':=s.toks) kp (Nat.le_succ _) ⟨?_,Srt.outOf its pp,c,?_,e⟩,rfl,q _ pm pw _ fr⟩
 ·have:=pm.length_eq
  rw[List.length_map,this,List.length_zip];omega
 ·rw[ev]
  exact vals_out rv pp.toList fun i hi=>by have:=gd_mem g i hi;omega
end
end L3
namespace L3
open PySem PySem.Spec PyProof.Rows L2
def Ok (P:Program) (w:World) (K:PySem.W.Frag) (mg:Str->Option Value) (base:Heap) (k:Nat) (x:Str) (ps:List Str) (sp:Sp):Prop :=
 ∃ (f:Addr) (fd:FuncData),FnOk P w K mg base CX0 k f fd ps sp∧Binds K fd ps []∧PySem.W.keepIn K (.ref f)=true∧mg x=some (.ref f)
def DefOk (K:PySem.W.Frag) (mg:Str->Option Value) (x:Str) (st:Stmt) (ps:List Str):Prop :=
 ∃ (f:Addr) (fd:FuncData),Fun K x x st f fd∧Binds K fd ps []∧mg x=some (.ref f)
section
variable {P:Program} {w:World} {K:PySem.W.Frag} {mg:Str->Option Value} {base:Heap} {x:Str} {ps N:List Str} {sp sp':Sp} {k:Nat} {st:Stmt}
theorem Ok.mono {j:Nat} (O:Ok P w K mg base j x ps sp) (h:j≤k):Ok P w K mg base k x ps sp:=let ⟨f,fd,F,r⟩:=O;⟨f,fd,F.mono h,r⟩
theorem Ok.imp (O:Ok P w K mg base k x ps sp) (h:∀ vs H Q E,sp' vs H Q E->sp vs H Q E):Ok P w K mg base k x ps sp':=let ⟨f,fd,F,r⟩:=O;⟨f,fd,F.imp h,r⟩
theorem mk_ok (D:DefOk K mg x st ps) (S:FnScope N ps (defScope st)) (len:∀ vs H Q E,sp vs H Q E->vs.length=ps.length)
  (hbody:∀ (f:Addr) (cdv:Value) (A:Around) (outer:List Env) (s:Shared) (H:Hp) (vs:List V) (Q:VK) (E:XK),Room k (A.deeper (envOfC x (defScope st) s.heap.objs.size f cdv))->sp vs H Q E ->
   ∃ t,PSs (cxOf CX0 P w K mg base N x (defScope st) f cdv A outer s H E).nox (defBody st) t∧t { nx:=fun _ H'=>Q .non H',rt:=Q } (start N vs) H):Ok P w K mg base (k + 1) x ps sp:=by
 obtain⟨f,fd,F,b,m⟩:=D
 exact⟨f,fd,F.ok S len (fun cdv A outer s H vs Q E hr h=>hbody f cdv A outer s H vs Q E hr h),b,F.kp,m⟩
theorem pe_callD {X:Cx} {p pos:Pos} {e:Expr} {es:List Expr} {t:TA} (O:Ok X.prog X.w X.K X.mg X.base k x ps sp) (hr:Room k X.A) (hg:Gl X x) (ha:PA X (e::es) t)
  (hdb:(x == ("__debug__":Str))=false:=by decide) (he:starEach (e::es) X.env=(false,eval e X.env)::starEach es X.env:=by rfl) (hpl:(backTo pos (starEach es X.env)).any (·.1)=false:=by rfl) :
  PE X (.Call (.Name x p) (e::es) [] pos) (tCall sp [] E0 t):=by
 obtain⟨f,fd,F,b,kp,m⟩:=O
 exact pe_call F hr hg m kp b .nil pass0 ha hdb he hpl
end
/-- the built-ins' names are not taken -/
structure Bi (mg:Str->Option Value):Prop where
 z_len:mg "len"=none
 z_range:mg "range"=none
 z_zip:mg "zip"=none
 z_all:mg "all"=none
 z_sorted:mg "sorted"=none
 z_isinstance:mg "isinstance"=none
 z_min:mg "min"=none
 z_max:mg "max"=none
 z_tuple:mg "tuple"=none
 z_list:mg "list"=none
 z_int:mg "int"=none
 z_bool:mg "bool"=none
 z_str:mg "str"=none
 z_enumerate:mg "enumerate"=none
 z_sum:mg "sum"=none
 z_abs:mg "abs"=none
 z_set:mg "set"=none
 z_reversed:mg "reversed"=none
 z_any:mg "any"=none
 z_repr:mg "repr"=none
 z_dict:mg "dict"=none
def But (p:Addr) (H H':Hp):Prop:=∀ b o,b≠p->H b=some o->H' b=some o
section
variable {K:PySem.W.Frag} {H H1 H2:Hp} {p a:Addr} {o:HO} {xs ys:List V}
theorem But.refl:But p H H:=fun _ _ _ h=>h
theorem But.trans (a:But p H H1) (b:But p H1 H2):But p H H2:=fun c o n h=>b c o n (a c o n h)
theorem But.upd:But p H (upd H p o):=fun b u n h=>by rw[upd_ne n];exact h
theorem Same.but (h:Same H H1):But p H H1:=fun b o _ q=>h b o q
theorem But.new (h:H a=none):But p H (L2.upd H a o):=fun b u _ q=>by rw[upd_ne (ne_of_none q h)];exact q
theorem same_new (h:H a=none):Same H (upd H a o):=fun b u q=>by rw[upd_ne (ne_of_none q h)];exact q
end
mutual
def tupD:PyData->Bool
 | .none | .bool _ | .int _ | .str _=>true
 | .tuple ds=>tupAll ds
 | .list _ | .dict _=>false
def tupAll:List PyData->Bool
 | []=>true
 | d::ds=>tupD d && tupAll ds
end
mutual
theorem Is.but {K:PySem.W.Frag} {H H':Hp} {p:Addr} {xs:List V} (e:But p H H') (hp:H p=some (.lst xs)):∀ (d:PyData) {v:V},tupD d=true->Is K H d v->Is K H' d v
 | .none,_,_,h=>h
 | .bool _,_,_,h=>h
 | .int _,_,_,h=>h
 | .str _,_,_,h=>h
 | .tuple ds,_,t,h=>let ⟨q,vs,q1,q2,q3⟩:=h;⟨q,vs,q1,e _ _ (fun z=>by subst z;rw[hp] at q2;cases q2) q2,IsAll.but e hp ds t q3⟩
 | .list ds,_,t,h=>by cases t
 | .dict _,_,t,h=>by cases t
theorem IsAll.but {K:PySem.W.Frag} {H H':Hp} {p:Addr} {xs:List V} (e:But p H H') (hp:H p=some (.lst xs)):∀ (ds:List PyData) {vs:List V},tupAll ds=true->IsAll K H ds vs->IsAll K H' ds vs
 | [],_,_,h=>h
 | d::ds,_,t,h=>by
  have t':(tupD d && tupAll ds)=true:=t
  rw[Bool.and_eq_true] at t'
  obtain⟨v,r,q1,q2,q3⟩:=h
  exact⟨v,r,q1,Is.but e hp d t'.1 q2,IsAll.but e hp ds t'.2 q3⟩
end
/-- a pot: its two numbers -/
def Pot (H:Hp) (p:Addr):Prop:=∃ a b:Int,H p=some (.lst [.int a,.int b])∧0≤a∧0≤b∧b < 2147483647
theorem Pot.lst {H:Hp} {p:Addr} (h:Pot H p):∃ xs,H p=some (.lst xs):=let ⟨a,b,e,_⟩:=h;⟨_,e⟩
def spPot (K:PySem.W.Frag):Sp:=fun vs H Q _=>∃ a k,∃ ns:List Int,vs=[.ref a,.int k]∧SqL K H a (ns.map V.int)∧0≤k∧k≤100∧∀ l H',Same H H'->H l=none->Pot H' l->Q (.ref l) H'
def spTake:Sp:=fun vs H Q _=>∃ p m,vs=[.ref p,.int m]∧Pot H p∧0 < m∧m < 1073741824∧∀ r H',0≤r->r < m->But p H H'->Pot H' p->Q (.int r) H'
def spLength:Sp:=fun vs H Q _=>∃ p y,vs=[.ref p,.int y]∧Pot H p∧0≤y∧y < 5∧∀ r H',1≤r->r≤10 ^ 18->But p H H'->Pot H' p->Q (.int r) H'
def spTied:Sp:=fun vs H Q _=>∃ p n y a b,vs=[.ref p,.int n,.int y,.int a,.int b]∧Pot H p∧∀ k H',But p H H'->Pot H' p->Q (.bl k) H'
def spOrder:Sp:=fun vs H Q _=>∃ p m,vs=[.ref p,.int m]∧Pot H p∧0≤m∧m≤1000∧∀ l H' (ms:List Int),But p H H'->Pot H' p->H l=none->l≠p->H' l=some (.lst (ms.map V.int))->ms.Perm ((List.range m.toNat).map fun i:Nat=>(i:Int))->Q (.ref l) H'
abbrev Tie:=Int × Int × Int
def tieI (t:Tie):List Int:=[t.1,t.2.1,t.2.2]
def tieD (t:Tie):PyData:=.tuple ((tieI t).map .int)
def webD (n:Int) (ties:List Tie):PyData:=.tuple [.int n,.tuple (ties.map tieD)]
/-- less by its ends -/
def endLt (s t:Tie):Prop:=s.1 < t.1∨(s.1=t.1∧s.2.1 < t.2.1)
structure WebOk (n:Int) (ties:List Tie):Prop where
 n1:1≤n
 n24:n≤24
 rise:ties.Pairwise endLt
 few:ties.length≤60
 tie:∀ t ∈ ties,0≤t.1∧t.1 < t.2.1∧t.2.1 < n∧1≤t.2.2∧t.2.2≤10 ^ 18
def spWeb (K:PySem.W.Frag):Sp:=fun vs H Q _=>∃ p m,vs=[.ref p,.int m]∧Pot H p∧1≤m∧m≤24∧∀ v H' n ties,But p H H'->Pot H' p->WebOk n ties->n≤m->Is K H' (webD n ties) v->Q v H'
end L3
namespace L3
structure Grown (n:Nat) (ms:List Int) (b a:Nat) (ties:List Tie):Prop where
 few:ties.length≤60
 ok:∀ t ∈ ties,0≤t.1∧t.1 < t.2.1∧t.2.1 < (n:Int)∧1≤t.2.2∧t.2.2≤10 ^ 18
 of:∀ t ∈ ties,∃ a' b':Nat,a' < b'∧b' < n∧(b' < b∨(b'=b∧a' < a))∧((t.1=ms.getD a' 0∧t.2.1=ms.getD b' 0)∨(t.1=ms.getD b' 0∧t.2.1=ms.getD a' 0))
 nd:ties.Pairwise fun s t=>¬ (s.1=t.1∧s.2.1=t.2.1)
theorem Grown.start {n:Nat} {ms:List Int}:Grown n ms 0 0 []:=⟨Nat.zero_le _,(fun t h=>by cases h),(fun t h=>by cases h),List.Pairwise.nil⟩
theorem Grown.down {n:Nat} {ms:List Int} {b:Nat} {ties:List Tie} (g:Grown n ms b b ties):Grown n ms (b + 1) 0 ties :=
 ⟨g.few,g.ok,fun t h=>by
  obtain⟨a',b',h1,h2,h3,h4⟩:=g.of t h
  exact⟨a',b',h1,h2,.inl (by omega),h4⟩,g.nd⟩
theorem Grown.skip {n:Nat} {ms:List Int} {b a:Nat} {ties:List Tie} (g:Grown n ms b a ties):Grown n ms b (a + 1) ties :=
 ⟨g.few,g.ok,fun t h=>by
  obtain⟨a',b',h1,h2,h3,h4⟩:=g.of t h
  exact⟨a',b',h1,h2,by omega,h4⟩,g.nd⟩
structure Perm0 (n:Nat) (ms:List Int):Prop where
 len:ms.length=n
 lo:∀ i,i < n->0≤ms.getD i 0∧ms.getD i 0 < (n:Int)
 inj:∀ i j,i < n->j < n->ms.getD i 0=ms.getD j 0->i=j
theorem Perm0.of {n:Nat} {ms:List Int} (h:ms.Perm ((List.range n).map fun i:Nat=>(i:Int))):Perm0 n ms:=by
 have hl:ms.length=n:=by simpa using h.length_eq
 have nd:ms.Nodup:=(h.nodup_iff).mpr (by
  rw[List.Nodup,List.pairwise_map]
  exact (List.nodup_range (n:=n)).imp fun h z=>h (by omega))
 refine⟨hl,fun i hi=>?_,fun i j hi hj e=>?_⟩
 ·have e:ms.getD i 0=ms[i]:=by simp [List.getD,show i < ms.length by omega]
  have m:ms[i]'(by omega) ∈ (List.range n).map fun i:Nat=>(i:Int):=h.mem_iff.mp (List.getElem_mem _)
  rw[e]
  obtain⟨k,hk,ek⟩:=List.mem_map.mp m
  have:=List.mem_range.mp hk
  omega
 ·have e1:ms.getD i 0=ms[i]:=by simp [List.getD,show i < ms.length by omega]
  have e2:ms.getD j 0=ms[j]:=by simp [List.getD,show j < ms.length by omega]
  rw[e1,e2] at e
  exact (List.getElem_inj nd).mp e
theorem Grown.add {n:Nat} {ms:List Int} {b a:Nat} {ties:List Tie} {x y l:Int} (g:Grown n ms b a ties) (pm:Perm0 n ms) (ha:a < b) (hb:b < n) (hf:ties.length < 60) (hl:1≤l) (hl2:l≤10 ^ 18)
  (hxy:(x=ms.getD a 0∧y=ms.getD b 0)∨(x=ms.getD b 0∧y=ms.getD a 0)) (hle:x≤y):Grown n ms b (a + 1) (ties++[(x,y,l)]):=by
 have han:=Nat.lt_trans ha hb
 have la:=pm.lo a han
 have lb:=pm.lo b hb
 have ne:ms.getD a 0≠ms.getD b 0:=fun e=>Nat.ne_of_lt ha (pm.inj a b han hb e)
 refine⟨by rw[List.length_append,List.length_singleton];exact hf,fun t ht=>?_,fun t ht=>?_,?_⟩
 ·rcases List.mem_append.mp ht with h | h
  ·exact g.ok t h
  ·have e:t=(x,y,l):=List.mem_singleton.mp h
   subst e
   refine⟨?_,?_,?_,hl,hl2⟩
   ·show 0≤x
    rcases hxy with ⟨q1,q2⟩ | ⟨q1,q2⟩
    ·rw[q1];exact la.1
    ·rw[q1];exact lb.1
   ·show x < y
    refine Int.lt_iff_le_and_ne.mpr ⟨hle,fun z=>?_⟩
    rcases hxy with ⟨q1,q2⟩ | ⟨q1,q2⟩
    ·exact ne (q1.symm.trans (z.trans q2))
    ·exact ne (q2.symm.trans (z.symm.trans q1))
   ·show y < (n:Int)
    rcases hxy with ⟨q1,q2⟩ | ⟨q1,q2⟩
    ·rw[q2];exact lb.2
    ·rw[q2];exact la.2
 ·rcases List.mem_append.mp ht with h | h
  ·obtain⟨a',b',h1,h2,h3,h4⟩:=g.of t h
   exact⟨a',b',h1,h2,h3.imp id fun z=>⟨z.1,Nat.lt_succ_of_lt z.2⟩,h4⟩
  ·have e:t=(x,y,l):=List.mem_singleton.mp h
   subst e
   exact⟨a,b,ha,hb,.inr ⟨rfl,Nat.lt_succ_self _⟩,hxy⟩
 ·rw[List.pairwise_append]
  refine⟨g.nd,List.pairwise_singleton _ _,fun t ht u hu=>?_⟩
  have e:u=(x,y,l):=List.mem_singleton.mp hu
  subst e
  rintro ⟨e1,e2⟩
  obtain⟨a',b',h1,h2,h3,h4⟩:=g.of t ht
  have e1':t.1=x:=e1
  have e2':t.2.1=y:=e2
  have h1n:=Nat.lt_trans h1 h2
  have fin:a'=a->b'=b->False:=fun ea eb=>h3.elim (fun z=>Nat.ne_of_lt z eb) fun z=>Nat.ne_of_lt z.2 ea
  have fin2:a'=b->b'=a->False:=fun ea eb=>Nat.lt_asymm ha (by rw[← ea,← eb];exact h1)
  rcases h4 with ⟨p1,p2⟩ | ⟨p1,p2⟩ <;> rcases hxy with ⟨q1,q2⟩ | ⟨q1,q2⟩
  ·exact fin (pm.inj a' a h1n han (p1.symm.trans (e1'.trans q1))) (pm.inj b' b h2 hb (p2.symm.trans (e2'.trans q2)))
  ·exact fin2 (pm.inj a' b h1n hb (p1.symm.trans (e1'.trans q1))) (pm.inj b' a h2 han (p2.symm.trans (e2'.trans q2)))
  ·exact fin2 (pm.inj a' b h1n hb (p2.symm.trans (e2'.trans q2))) (pm.inj b' a h2 han (p1.symm.trans (e1'.trans q1)))
  ·exact fin (pm.inj a' a h1n han (p2.symm.trans (e2'.trans q2))) (pm.inj b' b h2 hb (p1.symm.trans (e1'.trans q1)))
theorem rise_of {ts:List Tie} (h:ts.Pairwise fun a b=>Srt.lexI (tieI b) (tieI a)=false) (nd:ts.Pairwise fun s t=>¬ (s.1=t.1∧s.2.1=t.2.1)):ts.Pairwise endLt:=by
 refine (h.and nd).imp fun {a b} hab=>?_
 obtain⟨h1,h2⟩:=hab
 obtain⟨a1,a2,a3⟩:=a
 obtain⟨b1,b2,b3⟩:=b
 simp only [tieI,Srt.lexI] at h1
 show a1 < b1∨(a1=b1∧a2 < b2)
 have h2':¬ (a1=b1∧a2=b2):=h2
 by_cases e1:b1=a1
 ·rw[if_pos e1] at h1
  by_cases e2:b2=a2
  ·exact absurd ⟨e1.symm,e2.symm⟩ h2'
  ·rw[if_neg e2] at h1
   have:=of_decide_eq_false h1
   exact .inr ⟨e1.symm,by omega⟩
 ·rw[if_neg e1] at h1
  have:=of_decide_eq_false h1
  exact .inl (by omega)
end L3
namespace L3
open PySem PySem.Spec PyProof.Rows L2
section
variable {X:Cx} {pos:Pos}
theorem op_mulB:OpR X (binaryOp .Mult) (rI (fun i j=>IntMulOk i j) fun i j=>.int (i * j)):=opI fun _ _ _ _ _ _ _ hc q=>mul_int q hc
theorem mulB:IntMulOk ((10:Int) ^ (60:Int).toNat) ((10:Int) ^ (60:Int).toNat):=IntMulOk.of_bits (by decide +kernel) (by decide +kernel)
theorem mulB2:IntMulOk ((10:Int) ^ (60:Int).toNat * (10:Int) ^ (60:Int).toNat) ((10:Int) ^ (60:Int).toNat):=IntMulOk.of_bits (by decide +kernel) (by decide +kernel)
theorem posB:(0:Int) < (10:Int) ^ (60:Int).toNat * (10:Int) ^ (60:Int).toNat * (10:Int) ^ (60:Int).toNat:=by decide +kernel
/-- range(n) as a value -/
theorem call_range:CallR X (.type "range") (fun xs H Q=>∃ j:Int,xs=[.int j]∧∀ p,H p=none->Q (.ref p) (upd H p (.rng 0 j))):=by
 intro pins s σ H xs us Q I r h
 obtain⟨j,rfl,q⟩:=h
 obtain⟨u,rfl,t,rfl⟩:=vals1 r
 refine call_range_1 ⟨.ref s.heap.objs.size,_,I.laid (a:=s.heap.objs.size) (o:=.rng 0 j) (fun b o e=>Heap.get?_push_of_some _ e) (Nat.le_refl _) ⟨_,_,_,Heap.get?_push_size _ rfl⟩,rfl,q _ I.fresh⟩
/-- list(range(n)) -/
theorem call_list_rng (hh:X.calm=true):CallR X (.type "list") (fun xs H Q=>∃ (p:Addr) (j:Int),xs=[.ref p]∧H p=some (.rng 0 j)∧0≤j∧j≤1000∧∀ l,H l=none->Q (.ref l) (upd H l (.lst ((List.range j.toNat).map fun i:Nat=>V.int (i:Int))))):=by
 intro pins s σ H xs us Q I r h
 obtain⟨p,j,rfl,hp,hj0,hj,q⟩:=h
 obtain⟨u,rfl,rx⟩:=vals1 r
 cases rx
 obtain⟨t,u,v,e⟩:=(show ObjOk X.prog X.w H s.heap p (.rng 0 j) from I.hok p _ hp)
 refine call_list_range (n:=j.toNat) (I.ok.hd hh) (show IsRange s.heap p 0 j 1 t u v from e) (small_one (by omega) (by omega) (by omega) (by omega)) (by rw[rangeSize_one];split <;> omega) (by omega) fun h' tk acc c hk hS hacc=>?_
 refine⟨.ref s.heap.objs.size,_,I.laid (a:=s.heap.objs.size) (o:=.lst ((List.range j.toNat).map fun i:Nat=>V.int (i:Int))) (t':=tk) hk (Nat.le_refl _) ⟨?_,acc.toList,c,?_,by simpa using hS⟩,rfl,q _ I.fresh⟩
 ·rw[List.length_map,List.length_range,sizeLine_eq];omega
 ·have go:∀ (n:Nat) (l:List Value),l.length=n->(∀ (k:Nat) (v:Value),l[k]?=some v->∃ t,v=Value.int (0 + (k:Int) * 1) t)->Vals ((List.range n).map fun i:Nat=>V.int (i:Int)) l:=by
   intro n l hl hv
   have gen:∀ (l:List Value) (o:Nat),(∀ (k:Nat) (v:Value),l[k]?=some v->∃ t,v=Value.int ((o + k:Nat):Int) t)->Vals ((List.range' o l.length).map fun i:Nat=>V.int (i:Int)) l:=by
    intro l
    induction l with
    | nil=>intro o _;exact .nil
    | cons x r ih =>
     intro o h
     rw[List.length_cons,List.range'_succ,List.map_cons]
     obtain⟨t,ht⟩:=h 0 x rfl
     refine .cons ⟨t,by simpa using ht⟩ (ih (o + 1) fun k v hk=>?_)
     obtain⟨t,ht⟩:=h (k + 1) v (by simpa using hk)
     exact⟨t,by rw[ht];congr 1;omega⟩
   have:=gen l 0 fun k v hk=>by
    obtain⟨t,ht⟩:=hv k v hk
    exact⟨t,by rw[ht];congr 1;omega⟩
   rw[hl] at this
   rw[List.range_eq_range']
   exact this
  refine go _ _ (by simpa using hacc.1) fun k v hk=>hacc.2 k v (by simpa using hk)
end
theorem erase_perm {α:Type}:∀ (l:List α) (k:Nat) (h:k < l.length),(l[k]::l.eraseIdx k).Perm l
 | [],k,h=>absurd h (Nat.not_lt_zero _)
 | a::l,0,_=>List.Perm.refl _
 | a::l,k + 1,h=>by
  have h':k < l.length:=by simpa using h
  show (l[k]::a::l.eraseIdx k).Perm (a::l)
  exact (List.Perm.swap a l[k] _).trans ((erase_perm l k h').cons a)
theorem map_erase {α β:Type} (f:α->β):∀ (l:List α) (k:Nat),(l.eraseIdx k).map f=(l.map f).eraseIdx k
 | [],_=>rfl
 | _::_,0=>rfl
 | a::l,k + 1=>by
  show f a::(l.eraseIdx k).map f=f a::(l.map f).eraseIdx k
  rw[map_erase f l k]
end L3
namespace L3
open PySem PySem.Spec PyProof.Rows L2
/-- a list's values are tuples of the ties -/
def TieL (H:Hp) (ys:List V) (ts:List Tie):Prop:=Paired (fun (y:V) (t:Tie)=>∃ a,y=.ref a∧H a=some (.tup ((tieI t).map V.int))) ys ts
theorem TieL.keep {H H':Hp} {ys:List V} {ts:List Tie} (h:TieL H ys ts) (k:∀ a xs,H a=some (.tup xs)->H' a=some (.tup xs)):TieL H' ys ts :=
 Paired.mapP h fun y t ⟨a,e1,e2⟩=>⟨a,e1,k _ _ e2⟩
theorem TieL.snoc {H:Hp} {ys:List V} {ts:List Tie} {a:Addr} {t:Tie} (h:TieL H ys ts) (e:H a=some (.tup ((tieI t).map V.int))):TieL H (ys++[.ref a]) (ts++[t]):=Paired.snoc h ⟨a,rfl,e⟩
theorem paired_map {α β γ:Type} {F:β->γ->Prop} (f:α->β) (g:α->γ):∀ {l:List α},(∀ x ∈ l,F (f x) (g x))->Paired F (l.map f) (l.map g)
 | [],_=>.nil
 | x::l,h=>.cons (h x List.mem_cons_self) (paired_map f g fun y hy=>h y (List.mem_cons_of_mem _ hy))
theorem paired_zip {α β γ:Type} {F:α->β->Prop} {f:β->γ}:∀ {l:List α} {r:List β},Paired F l r->∀ q ∈ l.zip (r.map f),∃ b,q.2=f b∧F q.1 b
 | _,_,.nil,q,h=>by cases h
 | _,_,.cons (a:=a) (b:=b) x t,q,h=>by
  rw[List.map_cons,List.zip_cons_cons] at h
  rcases List.mem_cons.mp h with e | h
  ·subst e;exact⟨b,rfl,x⟩
  ·exact paired_zip t q h
theorem paired_keys {F:V->Tie->Prop} {G:V->List Int->Prop} (h:∀ y t,F y t->G y (tieI t)):∀ {ys:List V} {ts:List Tie},Paired F ys ts->Paired G ys (ts.map tieI)
 | _,_,.nil=>.nil
 | _,_,.cons x t=>.cons (h _ _ x) (paired_keys h t)
def tieOf:List Int->Tie
 | [a,b,c]=>(a,b,c)
 | _=>(0,0,0)
theorem tieOf_I (t:Tie):tieOf (tieI t)=t:=rfl
theorem tie_out {H:Hp} {ys:List V} {ts:List Tie} (h:TieL H ys ts) {qs:List (V × List Int)} (p:qs.Perm (ys.zip (ts.map tieI))) (w:qs.Pairwise fun a b=>Srt.lexI b.2 a.2=false) :
  ∃ ts':List Tie,ts'.Perm ts∧TieL H (qs.map (·.1)) ts'∧ts'.Pairwise fun a b=>Srt.lexI (tieI b) (tieI a)=false:=by
 have mem:∀ q ∈ qs,∃ t,q.2=tieI t∧∃ a,q.1=.ref a∧H a=some (.tup ((tieI t).map V.int)):=fun q hq=>paired_zip h q (p.mem_iff.mp hq)
 have back:∀ q ∈ qs,tieI (tieOf q.2)=q.2:=fun q hq=>by
  obtain⟨t,e,_⟩:=mem q hq
  rw[e];rfl
 refine⟨qs.map fun q=>tieOf q.2,?_,paired_map _ _ fun q hq=>?_,?_⟩
 ·have e1:(qs.map fun q=>tieOf q.2).Perm ((ys.zip (ts.map tieI)).map fun q=>tieOf q.2):=p.map _
  have e2:(ys.zip (ts.map tieI)).map (fun q=>tieOf q.2)=ts:=by
   have l:ys.length=(ts.map tieI).length:=by rw[List.length_map];exact Paired.length h
   have:(ys.zip (ts.map tieI)).map (fun q=>tieOf q.2)=((ys.zip (ts.map tieI)).map (·.2)).map tieOf:=by rw[List.map_map];rfl
   rw[this,List.map_snd_zip (Nat.le_of_eq l.symm),List.map_map]
   exact (List.map_congr_left fun t _=>tieOf_I t).trans (List.map_id _)
  rw[e2] at e1
  exact e1
 ·obtain⟨t,e,a,ea,eh⟩:=mem q hq
  refine⟨a,ea,?_⟩
  rw[back q hq,e];exact eh
 ·rw[List.pairwise_map]
  refine w.imp_of_mem fun {a b} ha hb z=>?_
  rw[back a ha,back b hb];exact z
theorem TieL.is {K:PySem.W.Frag} {H:Hp}:∀ {ys:List V} {ts:List Tie},TieL H ys ts->IsAll K H (ts.map tieD) ys
 | _,_,.nil=>rfl
 | _,_,.cons (a:=y) (b:=t) ⟨a,e1,e2⟩ r=>⟨_,_,rfl,⟨a,_,e1,e2,IsAll.ints _⟩,TieL.is r⟩
theorem two_sorted {x y:Int} {ms:List Int} (p:ms.Perm [x,y]) (w:ms.Pairwise (·≤·)):∃ a b,ms=[a,b]∧a≤b∧((a=x∧b=y)∨(a=y∧b=x)):=by
 have hl:=p.length_eq
 match ms,hl,p,w with
 | [a,b],_,p,w =>
  refine⟨a,b,rfl,by simpa using w,?_⟩
  have ha:a ∈ [x,y]:=p.mem_iff.mp (by simp)
  rcases List.mem_cons.mp ha with e | e
  ·subst e
   have:=(List.perm_cons a).mp p
   have e2:b=y:=by simpa using List.perm_singleton.mp this
   exact .inl ⟨rfl,e2⟩
  ·have e':a=y:=by simpa using e
   subst e'
   have p2:[a,b].Perm [a,x]:=p.trans (List.Perm.swap a x [])
   have:=(List.perm_cons a).mp p2
   have e2:b=x:=by simpa using List.perm_singleton.mp this
   exact .inr ⟨rfl,e2⟩
end L3
namespace L3
open PySem PySem.Spec PyProof.Rows L2
def TupKeep (H H':Hp):Prop:=∀ a xs,H a=some (.tup xs)->H' a=some (.tup xs)
section
variable {J:It} {g:TG} {te:TE} {own:List Str} {js:List Nat} {σ:L2.St} {H1:Hp} {Q:VK}
/-- no test, nothing that stands is changed: item i is worth R i -/
theorem comp_map (n:Nat) (Sg:L2.St->Prop) (R:Nat->V->Hp->Prop) (hn:n≤1000) (h0:Sg (start3 own js σ)) (mono:∀ i v H H',TupKeep H H'->R i v H->R i v H')
  (go:∀ i H',i < n->Same H1 H'->J.go i H') (stop:∀ H',Same H1 H'->J.stop n H')
  (step:∀ i x σ' H' H2,i < n->Same H1 H'->J.yld i H' x H2->Sg σ'->∀ C:L2.St->V->Hp->Prop,(∀ σ3 v H5,Sg σ3->Same H' H5->R i v H5->C σ3 v H5)->g x σ' H2 fun σ3 H3=>te σ3 H3 fun v H5=>C σ3 v H5)
  (fin:∀ D ys H',H1 D=none->Same H1 H'->H' D=some (.lst ys)->ys.length=n->(∀ i v,ys[i]?=some v->R i v H')->Q (.ref D) H'):CompGo own js g tTrue te σ Q J H1:=by
 intro D hD
 refine⟨fun i m ys σ' H'=>m=n - i∧i≤n∧Sg σ'∧Same H1 H'∧ys.length=i∧∀ j v,ys[j]?=some v->R j v H',⟨n,rfl,Nat.zero_le _,h0,same_new hD,rfl,fun j v e=>by simp at e⟩,?_⟩
 rintro i m ys σ' H' ⟨rfl,hi,sg,sm,hl,hr⟩ hd
 by_cases hlt:i < n
 ·refine .inr ⟨go i H' hlt sm,fun x H2 hy=>?_⟩
  refine step i x σ' H' H2 hlt sm hy sg (fun σ3 v H5=>H5 D=some (.lst ys)∧ys.length < sizeLine∧∃ m',m' < n - i∧(m'=n - (i + 1)∧i + 1≤n∧Sg σ3∧Same H1 (upd H5 D (.lst (ys++[v])))∧(ys++[v]).length=i + 1∧∀ j u,(ys++[v])[j]?=some u->R j u (upd H5 D (.lst (ys++[v]))))) fun σ3 v H5 sg3 s5 r5=>?_
  have hd5:=s5 _ _ hd
  refine⟨hd5,Nat.lt_of_le_of_lt (by omega:ys.length≤1000) (by decide),n - (i + 1),by omega,rfl,hlt,sg3,fun b o e=>?_,by rw[List.length_append,List.length_singleton,hl],fun j u e=>?_⟩
  ·rw[upd_ne (ne_of_none e hD)];exact s5 _ _ (sm _ _ e)
  ·have tk5:TupKeep H5 (upd H5 D (.lst (ys++[v]))):=fun a xs e=>by rw[upd_ne (fun z=>by rw[z,hd5] at e;cases e)];exact e
   by_cases hj:j < ys.length
   ·rw[List.getElem?_append_left hj] at e
    exact mono _ _ _ _ tk5 (mono _ _ _ _ (fun a xs z=>s5 _ _ z) (hr j u e))
   ·rw[List.getElem?_append_right (by omega)] at e
    have ej:j=ys.length:=by
     have:=(List.getElem?_eq_some_iff.mp e).1
     simp at this;omega
    subst ej
    have eu:v=u:=by simpa using e
    subst eu
    rw[hl]
    exact mono _ _ _ _ tk5 r5
 ·have e:i=n:=by omega
  subst e
  exact .inl ⟨stop H' sm,fin D ys H' hD sm hd hl hr⟩
theorem comp_tup {K:PySem.W.Frag} {a:Addr} {xs:List V} (hx:H1 a=some (.tup xs)) (Sg:L2.St->Prop) (R:Nat->V->Hp->Prop) (hn:xs.length≤1000) (h0:Sg (start3 own js σ)) (mono:∀ i v H H',TupKeep H H'->R i v H->R i v H')
  (step:∀ i x σ' H',xs[i]?=some x->Same H1 H'->Sg σ'->∀ C:L2.St->V->Hp->Prop,(∀ σ3 v H5,Sg σ3->Same H' H5->R i v H5->C σ3 v H5)->g x σ' H' fun σ3 H3=>te σ3 H3 fun v H5=>C σ3 v H5)
  (fin:∀ D ys H',H1 D=none->Same H1 H'->H' D=some (.lst ys)->ys.length=xs.length->(∀ i v,ys[i]?=some v->R i v H')->Q (.ref D) H'):CompGo own js g tTrue te σ Q (Itt K a) H1:=by
 refine comp_map xs.length Sg R hn h0 mono (fun i H' hi s=>⟨xs,xs[i],SqT.of (s _ _ hx),by simp [hi]⟩) (fun H' s=>⟨xs,SqT.of (s _ _ hx),Nat.le_refl _⟩) (fun i x σ' H' H2 hi s hy sg C hC=>?_) fin
 obtain⟨rfl,hy⟩:=hy
 exact step i x σ' _ (hy xs (SqT.of (s _ _ hx))) s sg C hC
theorem comp_lst {K:PySem.W.Frag} {a:Addr} {xs:List V} (hx:H1 a=some (.lst xs)) (Sg:L2.St->Prop) (R:Nat->V->Hp->Prop) (hn:xs.length≤1000) (h0:Sg (start3 own js σ)) (mono:∀ i v H H',TupKeep H H'->R i v H->R i v H')
  (step:∀ i x σ' H',xs[i]?=some x->Same H1 H'->Sg σ'->∀ C:L2.St->V->Hp->Prop,(∀ σ3 v H5,Sg σ3->Same H' H5->R i v H5->C σ3 v H5)->g x σ' H' fun σ3 H3=>te σ3 H3 fun v H5=>C σ3 v H5)
  (fin:∀ D ys H',H1 D=none->Same H1 H'->H' D=some (.lst ys)->ys.length=xs.length->(∀ i v,ys[i]?=some v->R i v H')->Q (.ref D) H'):CompGo own js g tTrue te σ Q (Itl K a) H1:=by
 refine comp_map xs.length Sg R hn h0 mono (fun i H' hi s=>⟨xs,xs[i],SqL.of (s _ _ hx),by simp [hi]⟩) (fun H' s=>⟨xs,SqL.of (s _ _ hx),Nat.le_refl _⟩) (fun i x σ' H' H2 hi s hy sg C hC=>?_) fin
 obtain⟨rfl,hy⟩:=hy
 exact step i x σ' _ (hy xs (SqL.of (s _ _ hx))) s sg C hC
theorem SqX.of {t:Bool} {K:PySem.W.Frag} {H:Hp} {a:Addr} {xs:List V} (h:H a=some (if t=true then .tup xs else .lst xs)):SqX t K H a xs:=by
 cases t with
 | true=>exact SqT.of h
 | false=>exact SqL.of h
theorem comp_zip {t1 t2:Bool} {K:PySem.W.Frag} {a b:Addr} {xs zs:List V} (hx:H1 a=some (if t1=true then .tup xs else .lst xs)) (hz:H1 b=some (if t2=true then .tup zs else .lst zs)) (Sg:L2.St->Prop) (R:Nat->V->Hp->Prop) (hn:xs.length≤1000)
  (h0:Sg (start3 own js σ)) (mono:∀ i v H H',TupKeep H H'->R i v H->R i v H')
  (step:∀ i x z T σ' H',xs[i]?=some x->zs[i]?=some z->Same H1 H'->H' T=none->Sg σ'->∀ C:L2.St->V->Hp->Prop,(∀ σ3 v H5,Sg σ3->Same H' H5->R i v H5->C σ3 v H5)->g (.ref T) σ' (upd H' T (.tup [x,z])) fun σ3 H3=>te σ3 H3 fun v H5=>C σ3 v H5)
  (fin:∀ D ys H',H1 D=none->Same H1 H'->H' D=some (.lst ys)->ys.length=min xs.length zs.length->(∀ i v,ys[i]?=some v->R i v H')->Q (.ref D) H'):CompGo own js g tTrue te σ Q (Itz t1 t2 K a b) H1:=by
 have s1:∀ H',Same H1 H'->SqX t1 K H' a xs:=fun H' s=>SqX.of (s _ _ hx)
 have s2:∀ H',Same H1 H'->SqX t2 K H' b zs:=fun H' s=>SqX.of (s _ _ hz)
 refine comp_map (min xs.length zs.length) Sg R (by omega) h0 mono (fun i H' hi s=>⟨xs,zs,xs[i]'(by omega),zs[i]'(by omega),s1 H' s,s2 H' s,by simp [show i < xs.length by omega],by simp [show i < zs.length by omega]⟩)
  (fun H' s=>⟨xs,zs,s1 H' s,s2 H' s,by omega⟩) (fun i x σ' H' H2 hi s hy sg C hC=>?_) fin
 obtain⟨T,x1,z1,hT,rfl,rfl,e1,e2⟩:=hy
 exact step i x1 z1 T σ' H' (e1 _ (s1 H' s)) (e2 _ (s2 H' s)) s hT sg C hC
end
def wholeB:PyData->Bool
 | .int _=>true
 | _=>false
def tieB (n:Int):PyData->Bool
 | .tuple [.int a,.int b,.int l]=>decide (0≤a) && decide (a < b) && decide (b < n) && decide (1≤l) && decide (l≤10 ^ 18)
 | _=>false
/-- how many things a tuple or a list has, at most -/
def few:PyData->Prop
 | .tuple ds=>ds.length≤1000
 | .list ds=>ds.length≤1000
 | _=>True
end L3
namespace L3
open PySem PySem.Spec PyProof.Rows L2
section
variable {g:TG} {te:TE} {own:List Str} {js:List Nat} {σ:L2.St} {H1:Hp} {Q:VK}
end
def e2 (e:Int × Int):List Int:=[e.1,e.2]
def risingB (es:List (Int × Int)):Bool:=((List.range (min es.length (es.drop 1).length)).map fun i=>HT.lexLt (e2 (es.getD i (0,0))) (e2 ((es.drop 1).getD i (0,0)))).all id
def TwoL (H:Hp) (ys:List V) (es:List (Int × Int)):Prop:=Paired (fun (y:V) (e:Int × Int)=>∃ a,y=.ref a∧H a=some (.tup [.int e.1,.int e.2])) ys es
theorem TwoL.get {H:Hp}:∀ {ys:List V} {es:List (Int × Int)} {i:Nat} {y:V},TwoL H ys es->ys[i]?=some y->∃ a,y=.ref a∧H a=some (.tup ((e2 (es.getD i (0,0))).map V.int))
 | _,_,_,_,.nil,h=>by simp at h
 | _,_,0,y,.cons (a:=y0) r t,h=>by
  have e:y0=y:=by simpa using h
  subst e
  exact r
 | _,_,i + 1,_,.cons r t,h=>TwoL.get (i:=i) t (by simpa using h)
section
variable {g:TG} {te:TE} {own:List Str} {js:List Nat} {σ:L2.St} {H1:Hp} {Q:VK}
end
theorem TieL.get {H:Hp} {ys:List V} {us:List Tie} {i:Nat} {x:V} (h:TieL H ys us) (e:ys[i]?=some x):∃ a,x=.ref a∧H a=some (.tup ((tieI (us.getD i (0,0,0))).map V.int)):=by
 induction h generalizing i with
 | nil=>simp at e
 | @cons y0 _ _ _ r t ih =>
  cases i with
  | zero =>
   have e':y0=x:=by simpa using e
   rw[← e'];exact r
  | succ i=>exact ih (i:=i) (by simpa using e)
section
variable {X:Cx} {own fr:List Str} {scope:Scope} {fp:List Addr} {pins:List (Addr × Obj)} {s3:Shared} {H3:Hp} {pos:Pos}
theorem pg_tupC {es:List Expr} {k:Nat} {t:TGs} {n:Nat} (hc:X.calm=true) (h:PGs (cxComp X own fr scope fp pins s3 H3) es t)
  (hn:(assignEach es (cxComp X own fr scope fp pins s3 H3).env).length=n:=by rfl) (hst:(assignEach es (cxComp X own fr scope fp pins s3 H3).env).findIdx? (·.1)=none:=by rfl):PG (cxComp X own fr scope fp pins s3 H3) (.Tuple es k pos) (gTup X.K n t) :=
 pg_tup (X:=cxComp X own fr scope fp pins s3 H3) hc h hn hst
theorem ix_tupC:IxR (cxComp X own fr scope fp pins s3 H3) (rIxT X.K):=ix_tup (X:=cxComp X own fr scope fp pins s3 H3)
theorem op_in_seqC:OpR (cxComp X own fr scope fp pins s3 H3) (compareOp .In) (rIn X.K false):=op_in_seq (X:=cxComp X own fr scope fp pins s3 H3)
end
end L3
namespace L3
open PySem PySem.Spec PyProof.Rows L2
def KeepOk (m:Nat) (ks:List Nat):Prop:=ks.Pairwise (· < ·)∧∀ k ∈ ks,k < m
def keepI (ks:List Nat):List Int:=ks.map fun k:Nat=>(k:Int)
def keepD (ks:List Nat):PyData:=.tuple ((keepI ks).map .int)
theorem web_parts {K:PySem.W.Frag} {H:Hp} {n:Int} {ts:List Tie} {v:V} (h:Is K H (webD n ts) v):∃ (p g:Addr) (ws:List V),v=.ref p∧H p=some (.tup [.int n,.ref g])∧H g=some (.tup ws)∧IsAll K H (ts.map tieD) ws∧ws.length=ts.length:=by
 obtain⟨p,vs,rfl,hp,v1,r1,rfl,e1,v2,r2,rfl,⟨g,ws,rfl,hg,hall⟩,e3⟩:=h
 have e1':v1=.int n:=e1
 have e3':r2=[]:=e3
 subst e1' e3'
 exact⟨p,g,ws,rfl,hp,hg,hall,by have:=hall.length;rw[List.length_map] at this;exact this⟩
end L3
namespace Z3
open PySem
section
variable {prog:Program} {w:World} {A:Around} {E:Value->Shared->Prop} {s:Shared}
theorem enum_new (t:Bool) (l:Addr) (xs:Array Value) :
  Meets (Builtin.«enumerate.__new__» ⟨[.type "enumerate",.ref l],[]⟩) (fun _ R s=>SqAt t s.heap l xs ∧
   R (.ok (.ret (.ref (s.heap.push (itObj t l)).objs.size))) { s with heap:=(s.heap.push (itObj t l)).push { cls:=.type "enumerate",data:=.fields #[.none,.bool false,.ref s.heap.objs.size,rawInt 0,.none,.none] } }) :=
 .of_wp fun prog w A R s h=>by
  obtain⟨hp,g,d,tk,os⟩:=s;obtain⟨hl,h⟩:=h
  have hsub:=sub_enumerate
  have b1:SqAt t (Shared.heap ⟨hp,g,d,tk,os⟩) l xs:=hl
  obtain⟨o,ho⟩:∃ o,hp.get? l=some o:=by
   cases t with
   | true=>obtain⟨o,q,_⟩:=(show hp.IsTuple l xs from hl);exact⟨o,q⟩
   | false=>obtain⟨o,q,_⟩:=(show hp.IsList l xs from hl);exact⟨o,q⟩
  wp_walk using AutoSeq1.wpAny_loadPart' ho
  refine wpAny_stack_any fun st=>?_
  refine wpAny_pure ?_
  split
  ·rename_i c _ _ _ _ _
   rcases (c == Value.type "enumerate") with _ | _
   ·wp_walk using AutoSeq1.wpAny_loadPart' ho,iter_at b1
    exact⟨_,rfl,h⟩
   ·wp_walk using AutoSeq1.wpAny_loadPart' ho,iter_at b1
    exact⟨_,rfl,h⟩
  ·wp_walk using AutoSeq1.wpAny_loadPart' ho,iter_at b1
   exact⟨_,rfl,h⟩
theorem call_enum {t:Bool} {l:Addr} {xs:Array Value} {Q:Value->Shared->Prop} (hl:SqAt t s.heap l xs)
  (h:∀ h',IsEnum h' (s.heap.objs.size + 1) s.heap.objs.size ((0:Nat):Int) .none->ItAt t h' s.heap.objs.size l 0->h'.objs.size=s.heap.objs.size + 2->(∀ b o,s.heap.get? b=some o->h'.get? b=some o)->Q (.ref (s.heap.objs.size + 1)) { s with heap:=h' }) :
  wpAny (model prog w) A (call (.type "enumerate") [.ref l]) Q E s:=by
 refine callType_new F.called_enumerate (by decide) (F.typeCall_enumerate_1 _) (F.newCall_enumerate_1 _) (fun obj=>F.args_object_init_2 obj _) F.entry_enumerate_new (enum_new t l xs) ⟨hl,?_⟩
 have z1:(s.heap.push (itObj t l)).objs.size=s.heap.objs.size + 1:=Heap.size_push ..
 have g1:ItAt t ((s.heap.push (itObj t l)).push { cls:=.type "enumerate",data:=.fields #[.none,.bool false,.ref s.heap.objs.size,rawInt 0,.none,.none] }) s.heap.objs.size l 0:=(ItAt.new (t:=t) (h:=s.heap) (l:=l)).to fun o e=>Heap.get?_push_of_some _ e
 have g2:((s.heap.push (itObj t l)).push { cls:=.type "enumerate",data:=.fields #[.none,.bool false,.ref s.heap.objs.size,rawInt 0,.none,.none] }).get? (s.heap.push (itObj t l)).objs.size=some _:=Heap.get?_push_size _ rfl
 show _∧_
 rw[z1] at g2 ⊢
 exact⟨⟨_,g2,rfl⟩,h _ g2 g1 (by rw[Heap.size_push,z1]) fun b o q=>Heap.get?_push_of_some _ (Heap.get?_push_of_some _ q)⟩
theorem enum_more {t:Bool} {e it l:Addr} {i:Nat} {xs:Array Value} {x old:Value} {Q:Value->Shared->Prop} (he:IsEnum s.heap e it i old) (hi:ItAt t s.heap it l i) (hl:SqAt t s.heap l xs) (hx:xs[i]?=some x) (ne:e≠it)
  (hQ:∀ h',IsEnumOut h' e it ((i:Int) + 1) x s.heap.objs.size->ItAt t h' it l (i + 1)->h'.get? s.heap.objs.size=some { cls:=.type "tuple",data:=.seq #[.int i s.toks,x] }->h'.objs.size=s.heap.objs.size + 1 ->
   (∀ b o,b≠e->b≠it->s.heap.get? b=some o->h'.get? b=some o)->Q (.ref s.heap.objs.size) { s with heap:=h',toks:=s.toks + 1 }) :
  wpAny (model prog w) A (Builtin.«enumerate.__next__» ⟨[.ref e],[]⟩) (fun fin s'=>∃ v,fin=.done (.ret v)∧Q v s') E s:=by
 obtain⟨hp,g,d,tk,os⟩:=s
 show wpAny _ _ (field (.ref e) 2 >>= _) _ _ _
 refine wpAny_bind (wpAny_field he rfl (x:=.ref it) rfl (wpAny_bind (draw_at hi hl hx fun k1 i1 s1=>?_)))
 replace s1:Heap.SameBut it hp k1:=s1
 have q1:IsEnum k1 e it i old:=(s1.2 e ne).trans he
 show wpAny _ _ (field (.ref e) 3 >>= _) _ _ ⟨k1,g,d,tk,os⟩
 refine wpAny_bind (wpAny_field q1 rfl (x:=rawInt i) rfl ?_)
 show wpAny _ _ (field (.ref e) 4 >>= _) _ _ ⟨k1,g,d,tk,os⟩
 refine wpAny_bind (wpAny_field q1 rfl (x:=.none) rfl ?_)
 show wpAny _ _ (mkInt i >>= _) _ _ ⟨k1,g,d,tk,os⟩
 refine wpAny_bind (wpAny_mkInt ?_)
 show wpAny _ _ (setField (.ref e) 3 (rawInt ((i:Int) + 1)) >>= _) _ _ ⟨k1,g,d,tk + 1,os⟩
 refine wpAny_bind (wpAny_setField_rec q1 (by simp) fun k2 q2 s2=>?_)
 replace s2:Heap.SameBut e k1 k2:=s2
 replace q2:IsEnum k2 e it ((i:Int) + 1) old:=q2
 show wpAny _ _ (setField (.ref e) 4 .none >>= _) _ _ ⟨k2,g,d,tk + 1,os⟩
 refine wpAny_bind (wpAny_setField_rec q2 (by simp) fun k3 q3 s3=>?_)
 replace s3:Heap.SameBut e k2 k3:=s3
 replace q3:IsEnum k3 e it ((i:Int) + 1) old:=q3
 show wpAny _ _ (newTuple [.int i tk,x] >>= _) _ _ ⟨k3,g,d,tk + 1,os⟩
 refine wpAny_bind (wpAny_newTuple ?_)
 have q4:IsEnum (k3.push { cls:=.type "tuple",data:=.seq #[.int i tk,x] }) e it ((i:Int) + 1) old:=Heap.get?_push_of_some _ q3
 generalize hk4:k3.push { cls:=.type "tuple",data:=.seq #[.int i tk,x] }=k4 at q4
 have sz:k3.objs.size=hp.objs.size:=by rw[s3.1,s2.1,s1.1]
 have lt:e < hp.objs.size:=Heap.lt_size he
 have t4:k4.get? hp.objs.size=some { cls:=.type "tuple",data:=.seq #[.int i tk,x] }:=by rw[← hk4,← sz];exact Heap.get?_push_size _ rfl
 have z4:k4.objs.size=hp.objs.size + 1:=by rw[← hk4,Heap.size_push,sz]
 have up4:∀ b o,b≠e->b≠it->hp.get? b=some o->k4.get? b=some o:=fun b o n1 n2 q=>by
  rw[← hk4];exact Heap.get?_push_of_some _ (s3.extBut b o n1 (s2.extBut b o n1 (s1.extBut b o n2 q)))
 have i4:ItAt t k4 it l (i + 1):=i1.to fun o q=>by
  rw[← hk4];exact Heap.get?_push_of_some _ (s3.extBut _ _ ne.symm (s2.extBut _ _ ne.symm q))
 show wpAny _ _ (Builtin.SmallTypes.ownedTupleIsFree (.ref e) >>= _) _ _ ⟨k4,g,d,tk + 1,os⟩
 rw[sz]
 clear hk4 q3 s3 q2 s2 q1 s1 i1 sz k3 k2 k1
 refine wpAny_bind ?_
 unfold Builtin.SmallTypes.ownedTupleIsFree
 refine wpAny_bind (wpAny_field q4 rfl (x:=.none) rfl (wpAny_pure ?_))
 simp only [if_true]
 refine wpAny_bind (wpAny_rule (wpAny_bind (wpAny_field q4 rfl (x:=old) rfl (wpAny_bind (wpAny_setField_rec q4 (by simp) fun k5 q5 s5=>?_)))))
 replace s5:Heap.SameBut e k4 k5:=s5
 replace q5:IsEnum k5 e it ((i:Int) + 1) x:=q5
 show wpAny _ _ (Builtin.SmallTypes.ownedTupleHandOut (.ref e) (.ref hp.objs.size) >>= _) _ _ ⟨k5,g,d,tk + 1,os⟩
 refine wpAny_bind ?_
 unfold Builtin.SmallTypes.ownedTupleHandOut
 refine wpAny_bind (wpAny_setField_rec q5 (by simp) fun k6 q6 s6=>?_)
 replace s6:Heap.SameBut e k5 k6:=s6
 replace q6:IsEnumOut k6 e it ((i:Int) + 1) x hp.objs.size:=q6
 refine wpAny_setField_rec q6 (by simp) fun k7 q7 s7=>?_
 replace s7:Heap.SameBut e k6 k7:=s7
 replace q7:IsEnumOut k7 e it ((i:Int) + 1) x hp.objs.size:=q7
 have up:∀ b o,b≠e->k4.get? b=some o->k7.get? b=some o:=fun b o n q=>s7.extBut b o n (s6.extBut b o n (s5.extBut b o n q))
 exact wpAny_bind (wpAny_letGo (wpAny_pure ⟨_,rfl,hQ k7 q7 (i4.to fun o q=>up _ o ne.symm q) (up _ _ (Nat.ne_of_gt lt) t4) (by rw[s7.1,s6.1,s5.1,z4]) fun b o n1 n2 q=>up b o n1 (up4 b o n1 n2 q)⟩))
theorem enum_next_more {t:Bool} {e it l:Addr} {i:Nat} {xs:Array Value} {x old:Value} {Q:Option Value->Shared->Prop} (he:IsEnum s.heap e it i old) (hi:ItAt t s.heap it l i) (hl:SqAt t s.heap l xs) (hx:xs[i]?=some x) (ne:e≠it)
  (hQ:∀ h',IsEnumOut h' e it ((i:Int) + 1) x s.heap.objs.size->ItAt t h' it l (i + 1)->h'.get? s.heap.objs.size=some { cls:=.type "tuple",data:=.seq #[.int i s.toks,x] }->h'.objs.size=s.heap.objs.size + 1 ->
   (∀ b o,b≠e->b≠it->s.heap.get? b=some o->h'.get? b=some o)->Q (some (.ref s.heap.objs.size)) { s with heap:=h',toks:=s.toks + 1 }) :
  wpAny (model prog w) A (pyNext (.ref e)) Q E s:=by
 have ty:s.TypeIs (.ref e) "enumerate":=⟨_,he,rfl⟩
 unfold pyNext
 exact wpAny_bind (wpAny_attempt (wpAny_callSpecial?_slot (name := Str.ofString "__next__") ty F.slot_enumerate_next (wpAny_call_entry F.slot_enumerate_next ty F.entry_enumerate_next
     (enum_more he hi hl hx ne fun h' a b c d k=>wpAny_pure (hQ h' a b c d k)) (F.args_enumerate_next_1 _))))
theorem enum_next_stop {t:Bool} {e it l:Addr} {i:Nat} {xs:Array Value} {old:Value} {Q:Option Value->Shared->Prop} (hh:A.handled=none) (he:IsEnum s.heap e it i old) (hi:ItAt t s.heap it l i) (hl:SqAt t s.heap l xs) (hx:xs[i]?=none)
  (hQ:∀ h',Heap.ExtBut it s.heap h'->Q none { s with heap:=h' }):wpAny (model prog w) A (pyNext (.ref e)) Q E s:=by
 have ty:s.TypeIs (.ref e) "enumerate":=⟨_,he,rfl⟩
 unfold pyNext
 refine wpAny_bind (wpAny_attempt (wpAny_callSpecial?_slot (name:=Str.ofString "__next__") ty F.slot_enumerate_next (wpAny_call_entry F.slot_enumerate_next ty F.entry_enumerate_next ?_ (F.args_enumerate_next_1 _))))
 show wpAny _ _ (field (.ref e) 2 >>= _) _ _ _
 refine wpAny_bind (wpAny_field he rfl (x:=.ref it) rfl (wpAny_bind (stop_at hh hi hl hx fun h' x k ⟨o,p1,p2⟩=>?_)))
 exact wpAny_bind (wpAny_isInstance (T:="StopIteration") (b:=true) ⟨o,p1,p2⟩ isSubtype_stop (wpAny_pure (hQ _ k)))
end
end Z3
namespace L3
open PySem PySem.Spec PyProof.Rows L2
def Itn (t:Bool) (K:PySem.W.Frag) (l:Addr):It :=
 ⟨fun i H=>∃ xs x,SqX t K H l xs∧xs[i]?=some x,
  fun i H v H'=>∃ T x,H T=none∧v=.ref T∧H'=upd H T (.tup [.int (i:Nat),x])∧(∀ xs,SqX t K H l xs->xs[i]?=some x),
  fun i H=>∃ xs,SqX t K H l xs∧xs.length≤i⟩
theorem turn_enum {P:Program} {w:World} {K:PySem.W.Frag} {elts:List Expr} {kk:Nat} {pos:Pos} {t:Bool} {e it l:Addr} (n1:e≠it) (n2:l≠e) (n3:l≠it) :
  Turn P w K (.Tuple elts kk pos) (Itn t K l) [e,it] e (fun i h=>(∃ old,IsEnum h e it (i:Int) old)∧Z3.ItAt t h it l i) where
 mem:=by simp
 obj:=fun i h st b hb=>by
  obtain⟨⟨old,q1⟩,q2⟩:=st
  obtain⟨o2,m2,e2,_,d2⟩:=q2.obj
  simp only [List.mem_cons,List.not_mem_nil,or_false] at hb
  rcases hb with rfl | rfl
  ·exact⟨_,q1,fun v q=>by cases q⟩
  ·exact⟨_,e2,fun v q=>by rw[d2] at q;cases q⟩
 keep:=fun i h h' st k=>by
  obtain⟨⟨old,q1⟩,q2⟩:=st
  exact⟨⟨old,k e (by simp) _ q1⟩,q2.to fun o z=>k it (by simp) o z⟩
 item:=by
  intro X hP hw hK hc i pins s σ H E I hf st hg
  subst hP hw hK
  obtain⟨xs,x,q1,hx⟩:=hg
  obtain⟨⟨old,en⟩,ia⟩:=st
  obtain⟨its1,r1,p1,z1⟩:=seqX I q1
  obtain⟨u1,hu1,ru1⟩:=r1.get hx
  refine Z3.enum_next_more en ia p1 (x:=u1) (by simpa using hu1) n1 fun h' eo ia' tp sz kp=>?_
  have I1 : Inv X pins σ (upd H s.heap.objs.size (.tup [.int (i : Nat), x])) { s with heap := h', toks := s.toks + 1 } := turnsTup (ch := [e, it]) (its := [.int i s.toks, u1]) I hf (fun b o hb z => by
      simp only [List.mem_cons,List.not_mem_nil,or_false,not_or] at hb
      exact kp b o hb.1 hb.2 z) (Nat.le_refl _) (by show 2≤sizeLine;rw[sizeLine_eq];decide) (.cons ⟨_,rfl⟩ (.cons ru1 .nil)) ⟨_,tp,rfl,⟨_,rfl⟩,rfl⟩
  have fr:H s.heap.objs.size=none:=I.fresh
  have elt:e < s.heap.objs.size:=Heap.lt_size en
  have ilt:it < s.heap.objs.size:=by obtain⟨o2,m2,e2,_⟩:=ia.obj;exact Heap.lt_size e2
  have zne:∀ b ∈ [e,it],b≠s.heap.objs.size:=fun b hb=>by
   simp only [List.mem_cons,List.not_mem_nil,or_false] at hb
   rcases hb with rfl | rfl
   ·exact Nat.ne_of_lt elt
   ·exact Nat.ne_of_lt ilt
  refine⟨_,rfl,wpAny_letOwnedTupleGo_enum eo fun h2 en2 sb=>?_⟩
  obtain⟨f0,f1,f2,f3,f4,f5⟩:=hf e (by simp)
  have I2:Inv X pins σ (upd H s.heap.objs.size (.tup [.int (i:Nat),x])) { s with heap:=h2,toks:=s.toks + 1 }:=Inv.turned (s:={ s with heap:=h',toks:=s.toks + 1 }) (it:=e) (t':=s.toks + 1) I1 (fun b o hb z=>sb.extBut b o hb z) (by rw[upd_ne (zne e (by simp))];exact f0) f1 f3 f4 f5
  refine⟨.ref s.heap.objs.size,_,I2,rfl,⟨_,x,fr,rfl,rfl,fun zs hz=>by rw[seqX_inj I hz q1];exact hx⟩,?_,fun b hb=>by rw[upd_ne (zne b hb)];exact (hf b hb).1⟩
  exact⟨⟨_,by simpa using en2⟩,ia'.to fun o z=>sb.extBut _ _ n1.symm z⟩
 done:=by
  intro X hP hw hK hc i pins s σ H E I hf st hg
  subst hP hw hK
  obtain⟨xs,q1,hx⟩:=hg
  obtain⟨⟨old,en⟩,ia⟩:=st
  obtain⟨its1,r1,p1,z1⟩:=seqX I q1
  have l1:=r1.length
  refine Z3.enum_next_stop (I.ok.hd hc) en ia p1 (by simp;omega) fun h' kp=>⟨rfl,?_⟩
  exact turns (ch:=[e,it]) (t':=s.toks) I hf fun b o hb z=>by
   simp only [List.mem_cons,List.not_mem_nil,or_false,not_or] at hb
   exact kp b o hb.2 z
 self:=fun _ _ _ _ _ st h=>by
  obtain⟨⟨old,en⟩,_⟩:=st
  exact wpAny_pyIter_enum en h
def iEnum (t:Bool) (K:PySem.W.Frag) (ta:TA):TI:=fun σ H R=>ta σ H fun vs H1=>∃ l,vs=[.ref l]∧(∃ xs,SqX t K H1 l xs)∧R (Itn t K l) H1
theorem pi_enum {X:Cx} {elts:List Expr} {kk:Nat} {pos':Pos} (t:Bool) {a:Expr} {ta:TA} {p pos:Pos} (hg:Gl X "enumerate") (hm:X.mg "enumerate"=none) (ha:PA X [a] ta)
  (hs:starEach [a] X.env=[(false,eval a X.env)]:=by rfl) (hs2:starEach [] X.env=[]:=by rfl) :
  PI X (.Tuple elts kk pos') (.Call (.Name "enumerate" p) [a] [] pos) (iEnum t X.K ta):=by
 intro pins s σ H R I h
 refine Call_ (ld_blt I hg hm boot_enumerate (PyProof.Rows.callWith_type1 (thn (ha pos pins s σ H _ I h) fun us s1 ⟨vs,H1,I1,r1,q1⟩=>?_) (by rw[hs,hs2]) (by rw[hs2];rfl)))
 obtain⟨l,e,⟨xs,qx⟩,q⟩:=q1
 subst e
 obtain⟨u,rfl,rx⟩:=vals1 r1
 cases rx
 obtain⟨its1,r1,p1,z1⟩:=seqX I1 qx
 have lt:l < s1.heap.objs.size:=by
  cases t with
  | true=>obtain⟨o,e,_⟩:=(show s1.heap.IsTuple l _ from p1);exact Heap.lt_size e
  | false=>obtain⟨o,e,_⟩:=(show s1.heap.IsList l _ from p1);exact Heap.lt_size e
 refine Z3.call_enum p1 fun h' en ia sz kp=>wpAny_pyIter_enum en ?_
 have I2:Inv X pins σ H1 { s1 with heap:=h',toks:=s1.toks }:=I1.kept (t':=s1.toks) kp
 refine⟨s1.heap.objs.size + 1,[s1.heap.objs.size + 1,s1.heap.objs.size],_,_,H1,rfl,I2,turn_enum (Nat.succ_ne_self _) (Nat.ne_of_lt (Nat.lt_succ_of_lt lt)) (Nat.ne_of_lt lt),⟨⟨_,en⟩,ia⟩,fun b hb=>?_,q⟩
 have hb':s1.heap.objs.size≤b:=by
  simp only [List.mem_cons,List.not_mem_nil,or_false] at hb
  rcases hb with rfl | rfl
  ·exact Nat.le_succ _
  ·exact Nat.le_refl _
 exact I1.fpOk hb' (I1.hok.fresh hb')
end L3
namespace HT
open PySem PyProof.Rows
section
variable {prog:Program} {w:World} {A:Around} {E:Value->Shared->Prop} {s:Shared}
theorem whole_exact {t:Addr} {items:Array Value} {Q:Bool->Shared->Prop} (ht:IsTup s.heap t items) (h:Q true s):wpAny (model prog w) A (Builtin.Tuple.tupleIsExact (.ref t)) Q E s:=by
 unfold Builtin.Tuple.tupleIsExact
 exact wpAny_bind (wpAny_typeOf ht.typeIs (wpAny_pure h))
/-- t[lo:hi] that is all of t: t itself -/
theorem getItem_tuple_whole {t sl:Addr} {items:Array Value} {vl vu:Value} {lo hi:Option Int} {Q:Value->Shared->Prop} (ht:IsTup s.heap t items) (hs:s.heap.IsSliceOf sl vl vu .none) (pl:IsPart vl lo) (pu:IsPart vu hi)
  (hw:sIx items.size 0 lo=0∧sIx items.size items.size hi=items.size) (h:Q (.ref t) s):wpAny (model prog w) A (getItem (.ref t) (.ref sl)) Q E s:=by
 obtain⟨os,hos,hcs,hds⟩:=id hs
 have ty:s.TypeIs (.ref sl) "slice":=⟨os,hos,hcs⟩
 unfold getItem
 try with_reducible refine wpAny_holding ?_
 first | refine wpAny_bind (wpAny_pure ?_) | skip
 refine wpAny_bind (wpAny_sequenceKey ht.typeIs (by decide) (wpAny_bind (wpAny_callSpecial?_slot (name:=Str.ofString "__getitem__") ht.typeIs PyProof.Rows.slot_tuple_getitem
  (wpAny_call_entry PyProof.Rows.slot_tuple_getitem ht.typeIs entry_tuple_getitem ?_ (args_tuple_getitem _ _)))))
 show wpAny _ _ (Builtin.Tuple.tupleItemsOf (.ref t) >>= _) _ _ s
 refine wpAny_bind (tupleItemsOf_ ht (wpAny_bind (wpAny_typeOf ty ?_)))
 rw[if_pos (by decide)]
 refine wpAny_bind (sliceApplied_gen hs pl pu ?_)
 have yes:(((sIx items.size 0 lo:Nat):Int) == 0 && (1:Int) == 1 && (sIx items.size items.size hi - sIx items.size 0 lo) == items.size)=true:=by
  rw[hw.1,hw.2];simp
 show wpAny _ _ (if (((sIx items.size 0 lo:Nat):Int) == 0 && (1:Int) == 1 && (sIx items.size items.size hi - sIx items.size 0 lo) == items.size)=true then _ else _) _ _ s
 rw[if_pos yes]
 refine wpAny_bind (whole_exact ht ?_)
 rw[if_pos rfl]
 exact wpAny_bind (wpAny_rule (wpAny_bind (wpAny_pure (wpAny_pure ⟨_,rfl,wpAny_pure h⟩))))
/-- t[::-1] -/
theorem pick_back (xs:List Value):((List.range xs.length).filterMap fun (m:Nat)=>xs.toArray[((xs.length:Int) - 1 + (m:Int) * (-1)).toNat]?)=xs.reverse:=by
 refine List.ext_getElem? fun i=>?_
 have key:∀ (n:Nat),n≤xs.length->((List.range n).filterMap fun (m:Nat)=>xs.toArray[((xs.length:Int) - 1 + (m:Int) * (-1)).toNat]?)=xs.reverse.take n:=by
  intro n
  induction n with
  | zero=>intro _;simp
  | succ n ih =>
   intro hn
   rw[List.range_succ,List.filterMap_append,ih (by omega),List.take_add_one]
   congr 1
   have e:((xs.length:Int) - 1 + (n:Int) * (-1)).toNat=xs.length - 1 - n:=by omega
   have e2:xs.reverse[n]?=xs[xs.length - 1 - n]?:=List.getElem?_reverse (by omega)
   have h1:xs.length - 1 - n < xs.length:=by omega
   rw[List.filterMap_cons,e,e2]
   simp [h1]
 rw[key _ (Nat.le_refl _),List.take_of_length_le (by simp)]
end
end HT
namespace L3
open PySem PySem.Spec PyProof.Rows L2
section
variable {X:Cx} {pins:List (Addr × Obj)} {σ:L2.St} {H:Hp} {s:Shared} {e:Expr} {te:TE} {pos p2:Pos}
theorem cutV_all {xs:List V} {lo hi:Option Int} (h:HT.sIx xs.length 0 lo=0∧HT.sIx xs.length xs.length hi=xs.length):cutV xs lo hi=xs:=by
 unfold cutV
 rw[h.1,h.2]
 simp
/-- t[lo:hi], part or whole -/
def rSlA:V->Option Int->Option Int->Hp->VK->Prop:=fun x lo hi H Q=>∃ a xs,x=.ref a∧H a=some (.tup xs)∧∀ p H',Same H H'->H' p=some (.tup (cutV xs lo hi))->Q (.ref p) H'
theorem sl_tupA:SlR X rSlA:=by
 intro pins s σ H x v vl vu lo hi sl Q I rx hs pl pu h
 obtain⟨a,xs,rfl,hx,q⟩:=h
 by_cases c:HT.sIx xs.length 0 lo=0∧HT.sIx xs.length xs.length hi=xs.length
 ·cases rx
  obtain⟨its,r,ht,hz⟩:=I.tuple (SqT.of hx)
  have hlen:its.toArray.size=xs.length:=by rw[List.size_toArray];exact r.length.symm
  refine⟨"tuple",_,PyProof.Rows.slot_tuple_getitem.lookup,ht.typeIs,HT.getItem_tuple_whole ht hs pl pu (by rw[hlen];exact c) ⟨.ref a,H,I,rfl,q _ _ (Same.refl H) (by rw[cutV_all c];exact hx)⟩⟩
 ·exact sl_tup (X:=X) pins s σ H (.ref a) v vl vu lo hi sl Q I rx hs pl pu ⟨a,xs,rfl,SqT.of hx,c,fun p hp=>q p _ (same_new hp) upd_same⟩
end
end L3
namespace L3
open PySem PySem.Spec PyProof.Rows L2
def numB (m:Nat):PyData->Bool
 | .int i=>decide (0≤i) && decide (i < (m:Int))
 | _=>false
def intOf:PyData->Int
 | .int i=>i
 | _=>0
def risI (ns:List Int):Bool:=((List.range (min ns.length (ns.drop 1).length)).map fun i=>decide (ns.getD i 0 < (ns.drop 1).getD i 0)).all id
def keepB (m:Nat):PyData->Bool
 | .tuple ds=>ds.all (numB m) && risI (ds.map intOf)
 | _=>false
theorem ints_of {ds:List PyData} (h:∀ d ∈ ds,∃ i,d=.int i):ds=(ds.map intOf).map .int:=by
 rw[List.map_map]
 conv=>lhs;rw[← List.map_id ds]
 refine List.map_congr_left fun d hd=>?_
 obtain⟨i,rfl⟩:=h d hd
 rfl
structure Pre (m:Nat) (ds:List PyData) (i:Nat) (a:Int):Prop where
 num:∀ d ∈ ds.take i,numB m d=true
 up:((ds.take i).map intOf).Pairwise (· < ·)
 top:∀ x ∈ (ds.take i).map intOf,x≤a
 at_:a=-1∨a ∈ (ds.take i).map intOf
theorem take_next {α:Type} {ds:List α} {i:Nat} {d:α} (e:ds[i]?=some d):ds.take (i + 1)=ds.take i++[d]:=by
 rw[List.take_add_one,e];rfl
def flatD:V->Bool
 | .non | .bl _ | .int _ | .str _=>true
 | _=>false
theorem Pot.same {H H':Hp} {p:Addr} (h:Pot H p) (s:Same H H'):Pot H' p:=let ⟨a,b,e,z⟩:=h;⟨a,b,s _ _ e,z⟩
theorem tup_ties:∀ ts:List Tie,tupAll (ts.map tieD)=true
 | []=>rfl
 | t::r=>by show (tupD (tieD t) && tupAll (r.map tieD))=true;rw[tup_ties r];rfl
theorem tup_web (n:Int) (ts:List Tie):tupD (webD n ts)=true:=by
 show (true && (tupAll (ts.map tieD) && true))=true
 rw[tup_ties ts];rfl
end L3
namespace L3
end L3
namespace L3
open PySem PySem.Spec PyProof.Rows L2
theorem lX {X:Cx} {b:List Stmt} {D:Ends} {σ:L2.St} {H:Hp} (h:let Y:=X;∃ t,PSs Y b t∧t D σ H):∃ t,PSs X b t∧t D σ H:=h
theorem lI {c:TT} {a b:TS} {D:Ends} {σ:L2.St} {H:Hp} (h:let A:=a;let B:=b;let E:=D;let S:=σ;tIfS c A B E S H):tIfS c a b D σ H:=h
end L3
namespace HT
open PySem PyProof.Rows
section
open PySem.SeqAt
open PySem.AutoSeq1 (wpAny_loadPart')
open PySem.MeetsSeq PySem.MeetsSeq2 PySem.MeetsSeq3
end
section
variable {prog:Program} {w:World} {A:Around} {E:Value->Shared->Prop} {s:Shared}
end
end HT
namespace L3
open PySem PySem.Spec PyProof.Rows L2
section
variable {X:Cx}
end
end L3
namespace L3
open PySem PySem.Spec PyProof.Rows L2
/-- tuples and lists of at most a thousand things, so deep -/
def wide:Nat->PyData->Prop
 | 0,_=>True
 | k + 1,.tuple ds=>ds.length≤1000∧∀ d ∈ ds,wide k d
 | k + 1,.list ds=>ds.length≤1000∧∀ d ∈ ds,wide k d
 | _ + 1,_=>True
def endsD:PyData->Int × Int
 | .tuple [.int a,.int b,.int _]=>(a,b)
 | _=>(0,0)
def tiesB (n:Int):PyData->Bool
 | .tuple ds=>decide (ds.length≤60) && ds.all (tieB n) && risingB (ds.map endsD)
 | _=>false
/-- good values: flat, or tuples and lists of such, or {} -/
def Gd (H:Hp):Nat->V->Prop
 | 0,v=>flatD v=true
 | k + 1,v=>flatD v=true∨(∃ p vs,v=.ref p∧(H p=some (.tup vs)∨H p=some (.lst vs))∧vs.length≤1000∧∀ u ∈ vs,Gd H k u)∨(∃ p,v=.ref p∧H p=some (.dK []))
def lt2 (e f:Int × Int):Prop:=e.1 < f.1∨(e.1=f.1∧e.2 < f.2)
theorem lexLt_e2 (e f:Int × Int):HT.lexLt (e2 e) (e2 f)=true↔lt2 e f:=by
 show (if e.1=f.1 then (if e.2=f.2 then false else decide (e.2 < f.2)) else decide (e.1 < f.1))=true↔_
 unfold lt2
 by_cases h:e.1=f.1
 ·rw[if_pos h]
  by_cases h2:e.2=f.2
  ·rw[if_pos h2];simp;omega
  ·rw[if_neg h2,decide_eq_true_eq];omega
 ·rw[if_neg h,decide_eq_true_eq];omega
structure PreT (n:Int) (ds:List PyData) (i:Nat) (a:Int × Int):Prop where
 tie:∀ d ∈ ds.take i,tieB n d=true
 up:((ds.take i).map endsD).Pairwise lt2
 top:∀ x ∈ (ds.take i).map endsD,x=a∨lt2 x a
 at_:a=(-1,-1)∨a ∈ (ds.take i).map endsD
end L3
namespace L3
open PySem PySem.Spec PyProof.Rows L2
section
variable {X:Cx} {es:List Expr} {t:TA} {pos:Pos}
def tTupG (t:TA):TE:=fun σ H Q=>t σ H fun xs H1=>xs.length≤1000∧∀ p H',Same H1 H'->H1 p=none->H' p=some (.tup xs)->Q (.ref p) H'
def tLstG (t:TA):TE:=fun σ H Q=>t σ H fun xs H1=>xs.length≤1000∧∀ p H',Same H1 H'->H1 p=none->H' p=some (.lst xs)->Q (.ref p) H'
theorem pe_tupG {x1} (h:PA X es t):PE X (.Tuple es x1 pos) (tTupG t):=by
 intro pins s σ H Q I hq
 refine wpAny_Tuple_spliced (thn (h pos pins s σ H _ I hq) fun us s1 ⟨xs,J,I1,r,z,q⟩=>?_)
 have z':xs.length≤sizeLine:=Nat.le_trans z (by decide)
 have fr:J s1.heap.objs.size=none:=I1.hok.fresh (Nat.le_refl _)
 refine⟨by rw[← r.length];exact z',.ref s1.heap.objs.size,upd J s1.heap.objs.size (.tup xs),I1.laid (t':=s1.toks) (fun b u e=>Heap.get?_push_of_some _ e) (Nat.le_refl _) ⟨z',us,r,⟨_,Heap.get?_push_size _ rfl,rfl,⟨_,rfl⟩,rfl⟩⟩,rfl,q _ _ (same_new fr) fr upd_same⟩
theorem pe_lstG (h:PA X es t):PE X (.List es pos) (tLstG t):=by
 intro pins s σ H Q I hq
 refine wpAny_List_spliced (thn (h pos pins s σ H _ I hq) fun us s1 ⟨xs,J,I1,r,z,q⟩=>?_)
 have z':xs.length≤sizeLine:=Nat.le_trans z (by decide)
 have fr:J s1.heap.objs.size=none:=I1.hok.fresh (Nat.le_refl _)
 refine⟨by rw[← r.length];exact z',.ref s1.heap.objs.size,upd J s1.heap.objs.size (.lst xs),I1.laid (t':=s1.toks) (fun b u e=>Heap.get?_push_of_some _ e) (Nat.le_refl _) ⟨z',us,0,r,Heap.get?_push_size _ rfl⟩,rfl,q _ _ (same_new fr) fr upd_same⟩
/-- l.extend(m), l.append(x) -/
def rExtendG:V->List V->Hp->VK->Prop:=fun x vs H Q=>∃ l b xs zs,x=.ref l∧vs=[.ref b]∧H l=some (.lst xs)∧H b=some (.lst zs)∧xs.length + zs.length≤1000∧∀ H',But l H H'->H' l=some (.lst (xs++zs))->Q .non H'
theorem mt_extendG:MtM X "list.extend" rExtendG:=by
 intro pins s σ H x vs v us Q I rx rv h
 obtain⟨l,b,xs,zs,rfl,rfl,hH,hB,hz,q⟩:=h
 exact mt_extend (X:=X) pins s σ H _ _ v us Q I rx rv ⟨l,b,xs,zs,rfl,rfl,hH,hB,Nat.le_trans hz (by decide),q _ But.upd upd_same⟩
def rAppendG:V->List V->Hp->VK->Prop:=fun x vs H Q=>∃ l xs y,x=.ref l∧vs=[y]∧H l=some (.lst xs)∧xs.length < 1000∧∀ H',But l H H'->H' l=some (.lst (xs++[y]))->Q .non H'
theorem mt_appendG:MtM X "list.append" rAppendG:=by
 intro pins s σ H x vs v us Q I rx rv h
 obtain⟨l,xs,y,rfl,rfl,hH,hz,q⟩:=h
 exact mt_append (X:=X) pins s σ H _ _ v us Q I rx rv ⟨l,xs,y,rfl,rfl,hH,Nat.lt_of_lt_of_le hz (by decide),q _ But.upd upd_same⟩
end
def Sm (H:Hp) (t:Addr):Prop:=∃ vs:List V,(H t=some (.tup vs)∨H t=some (.lst vs))∧vs.length≤1000∧vs.all flatD=true
def GdF (H:Hp) (xs:List V):Prop:=∀ u ∈ xs,∃ t,u=.ref t∧Sm H t
def GdL (l:Addr) (H:Hp) (xs:List V):Prop:=∀ u ∈ xs,∃ t,u=.ref t∧t≠l∧Sm H t
theorem cat_lst {prog:Program} {w:World} {A:Around} {E:Value->Shared->Prop} {s:Shared} {l b:Addr} {vs ws:List Value} {Q:Value->Shared->Prop} (hl:s.heap.IsList l vs.toArray) (hb:s.heap.IsList b ws.toArray)
  (h:Q (.ref s.heap.objs.size) { s with heap:=s.heap.push { cls:=.type "list",data:=.seq (vs++ws).toArray } }) (hz:vs.length + ws.length≤sizeLine):wpAny (model prog w) A (binaryOp .Add (.ref l) (.ref b)) Q E s:=by
 obtain⟨⟨c1,d1,t1,s1⟩,g1,h1,n1,e1⟩:=id hl
 obtain⟨⟨c2,d2,t2,s2⟩,g2,h2,n2,e2⟩:=id hb
 simp only at h1 e1 h2 e2
 subst h1 e1 h2 e2
 have e:vs.toArray++ws.toArray=(vs++ws).toArray:=by simp
 refine concat_meets ⟨_,g1,rfl⟩ ⟨_,g2,rfl⟩ noFill_list_add seq_list_add PySem.F.slot_list_add PySem.F.entry_list_add (PySem.F.args_list_add_2 _ _) (list_addW l b vs.toArray ws.toArray n1 n2 d1 d2 s1 s2 (by rw[List.size_toArray,List.size_toArray];exact hz)) ⟨g1,g2,?_⟩
 rw[e]
 exact h
/-- l + m -/
def rCatL:R2:=fun x y H Q=>∃ a b xs ys,x=.ref a∧y=.ref b∧H a=some (.lst xs)∧H b=some (.lst ys)∧xs.length + ys.length≤1000∧∀ p H',Same H H'->H p=none->H' p=some (.lst (xs++ys))->Q (.ref p) H'
theorem op_catL {X:Cx}:OpR X (binaryOp .Add) rCatL:=by
 intro pins s σ H x y v u Q I rx ry h
 obtain⟨a,b,xs,ys,rfl,rfl,ha,hb,hz,q⟩:=h
 cases rx
 cases ry
 obtain⟨its,r1,p1,_⟩:=I.list (SqL.of ha)
 obtain⟨jts,r2,p2,_⟩:=I.list (SqL.of hb)
 have hz':xs.length + ys.length≤sizeLine:=Nat.le_trans hz (by decide)
 have fr:H s.heap.objs.size=none:=I.hok.fresh (Nat.le_refl _)
 refine cat_lst p1.isList p2.isList ⟨.ref s.heap.objs.size,_,I.laid (t':=s.toks) (o:=.lst (xs++ys)) (fun b ob q=>Heap.get?_push_of_some _ q) (Nat.le_refl _) ⟨by rw[List.length_append];exact hz',_,0,r1.append r2,Heap.get?_push_size _ rfl⟩,rfl,q _ _ (same_new fr) fr upd_same⟩ (by rw[← r1.length,← r2.length];exact hz')
section
variable {g:TG} {te:TE} {own:List Str} {js:List Nat} {σ:L2.St} {H1:Hp} {Q:VK}
end
theorem call_tupleG {X:Cx}:CallR X (.type "tuple") (fun xs H Q=>∃ p ys,xs=[.ref p]∧H p=some (.lst ys)∧∀ l H',Same H H'->H l=none->H' l=some (.tup ys)->Q (.ref l) H'):=by
 intro pins s σ H xs us Q I r h
 obtain⟨p,ys,rfl,hp,q⟩:=h
 exact call_tuple_of (X:=X) pins s σ H _ us Q I r ⟨p,ys,rfl,.inl ⟨SqL.of hp,fun l hl=>q l _ (same_new hl) hl upd_same⟩⟩
/-- rows of three whole numbers, sorted: the same rows -/
def Row3 (H:Hp) (v:V):Prop:=∃ (t:Addr) (x y z:Int),v=.ref t∧H t=some (.tup [.int x,.int y,.int z])
section
variable {X:Cx}
end
end L3
namespace Ts
open PySem PySem.W PyProof.Rows
def gallop':Bool->Keyed->Array Keyed->Nat->Nat->Nat->StateT SortSt Sem (Option Nat):=sortPriv% PySem.Builtin.gallop
theorem gallop'_eq (left:Bool) (key:Keyed) (arr:Array Keyed) (base n hint:Nat):gallop' left key arr base n hint=(do
 let beyond (i:Nat):StateT SortSt Sem (Option Bool):=do
  let x ← elem' arr (base + i)
  if left then lt' x key else return (← lt' key x).map (!·)
 let mut lastofs:=0
 let mut ofs:=1
 let mut lo:=0
 let mut hi:=0
 let some right ← beyond hint | return none
 if right then
  let maxofs:=n - hint
  for _ in [0:n] do
   if ofs ≥ maxofs then break
   let some more ← beyond (hint + ofs) | return none
   if !more then break
   lastofs:=ofs
   ofs:=2 * ofs + 1
  lo:=hint + lastofs + 1
  hi:=hint + min ofs maxofs
 else
  let maxofs:=hint + 1
  for _ in [0:n] do
   if ofs ≥ maxofs then break
   let some found ← beyond (hint - ofs) | return none
   if found then break
   lastofs:=ofs
   ofs:=2 * ofs + 1
  lo:=hint + 1 - min ofs maxofs
  hi:=hint - lastofs
 for _ in [0:n] do
  if lo ≥ hi then break
  let m:=lo + (hi - lo) / 2
  let some more ← beyond m | return none
  if more then lo:=m + 1 else hi:=m
 return some hi):=rfl
section
variable {prog:Program} {w:World} {A:Around} {E:Value->Shared->Prop} {s:Shared} {κ:SortKind} {it:Array Keyed} {N:Nat} {r:Nat->Int}
theorem lt_w {i j:Nat} {Q:Option Bool->SortSt->Prop} {st:SortSt} (h:Srt.Ask N r (kas_cmp prog w A κ it) s) (hk:kindOf st=κ) (hi:i < N) (hj:j < N) (q:Q (some (decide (r i < r j))) st) :
  wpS (model prog w) A E s (lt' (kas_item it i) (kas_item it j)) Q st:=by
 rw[lt'_eq]
 refine wpS_bind (wpS_get ?_)
 rw[hk]
 refine wpS_bind (wpS_lift (wpAny_attempt (wpAny_mono (h i j (fun b s'=>b=decide (r i < r j)∧s'=s) hi hj ⟨rfl,rfl⟩) (fun c s' hc=>?_) fun _ _ hF=>hF.elim)))
 obtain⟨rfl,rfl⟩:=hc
 exact⟨rfl,wpS_pure q⟩
theorem elem_w {q:Array Nat} {i:Nat} {Q:Keyed->SortSt->Prop} {st:SortSt} (hi:i < q.size) (h:Q (kas_item it (q.getD i 0)) st):wpS (model prog w) A E s (elem' (q.map (kas_item it)) i) Q st:=by
 rw[elem'_eq]
 have e:(q.map (kas_item it))[i]?=some (kas_item it (q.getD i 0)):=by
  have e:q.getD i 0=q[i]:=by simp [Array.getD,hi]
  rw[e];simp [hi]
 rw[e]
 exact wpS_pure h
/-- is it beyond the place looked for? -/
def By (left:Bool) (a k:Int):Bool:=if left=true then decide (a < k) else !decide (k < a)
theorem beyond_w {left:Bool} {q:Array Nat} {i k:Nat} {Q:Option Bool->SortSt->Prop} {st:SortSt} (h:Srt.Ask N r (kas_cmp prog w A κ it) s) (hk:kindOf st=κ) (hk':k < N) (hq:∀ m,m < q.size->q.getD m 0 < N) (hi:i < q.size)
  (z:Q (some (By left (r (q.getD i 0)) (r k))) st):wpS (model prog w) A E s (do
   let x ← elem' (q.map (kas_item it)) i
   if left=true then lt' x (kas_item it k) else do
    let d ← lt' (kas_item it k) x
    pure (Option.map (fun x=>!x) d)) Q st:=by
 refine wpS_bind (elem_w hi ?_)
 cases left with
 | true=>rw[if_pos rfl];exact lt_w h hk (hq _ hi) hk' z
 | false=>rw[if_neg (by simp)];exact wpS_bind (lt_w h hk hk' (hq _ hi) (wpS_pure z))
/-- where a key belongs among what rises -/
theorem gallop_w {left:Bool} {q:Array Nat} {k base n hint:Nat} {Q:Option Nat->SortSt->Prop} {st:SortSt} (h:Srt.Ask N r (kas_cmp prog w A κ it) s) (hk:kindOf st=κ) (hk':k < N) (hq:∀ m,m < q.size->q.getD m 0 < N) (hn:base + n≤q.size) (hh:hint < n)
  (up:∀ i j,i≤j->j < n->r (q.getD (base + i) 0)≤r (q.getD (base + j) 0))
  (z:∀ g,g≤n->(∀ i,i < g->By left (r (q.getD (base + i) 0)) (r k)=true)->(∀ i,g≤i->i < n->By left (r (q.getD (base + i) 0)) (r k)=false)->Q (some g) st) :
  wpS (model prog w) A E s (gallop' left (kas_item it k) (q.map (kas_item it)) base n hint) Q st:=by
 obtain⟨B,hB⟩:∃ B:Nat->Bool,B=fun i=>By left (r (q.getD (base + i) 0)) (r k):=⟨_,rfl⟩
 have anti:∀ i j,i≤j->j < n->B j=true->B i=true:=fun i j hij hj e=>by
  have eB:∀ i,B i=By left (r (q.getD (base + i) 0)) (r k):=fun i=>by rw[hB]
  rw[eB] at e ⊢
  have:=up i j hij hj
  revert e this
  generalize r (q.getD (base + i) 0)=a
  generalize r (q.getD (base + j) 0)=b
  unfold By
  cases left <;> simp <;> omega
 have anti':∀ i j,i≤j->j < n->B i=false->B j=false:=fun i j hij hj e=>by
  cases c:B j with
  | false=>rfl
  | true=>rw[anti i j hij hj c] at e;cases e
 have bw : ∀ {i : Nat} {Q : Option Bool → SortSt → Prop}, i < n → Q (some (B i)) st → wpS (model prog w) A E s (do
     let x ← elem' (q.map (kas_item it)) (base + i)
     if left=true then lt' x (kas_item it k) else do
       let d ← lt' (kas_item it k) x
       pure (Option.map (fun x=>!x) d)) Q st:=fun {i Q} hi hq'=>beyond_w h hk hk' hq (by omega) (by rw[hB] at hq';exact hq')
 have z':∀ g,g≤n->(∀ i,i < g->B i=true)->(∀ i,g≤i->i < n->B i=false)->Q (some g) st:=by rw[hB];exact z
 clear hB
  -- the last part: halving
 have half : ∀ (f : Nat → Option (Option Nat) × Nat × Nat → StateT SortSt Sem (ForInStep (Option (Option Nat) × Nat × Nat))), (∀ x l h (R : ForInStep (Option (Option Nat) × Nat × Nat) → SortSt → Prop), l ≥ h → R (.done (none, l, h)) st → wpS (model prog w) A E s (f x (none, l, h)) R st) →
     (∀ x l h (R:ForInStep (Option (Option Nat) × Nat × Nat)->SortSt->Prop),l < h->h≤n->R (.yield (if B (l + (h - l) / 2)=true then (none,l + (h - l) / 2 + 1,h) else (none,l,l + (h - l) / 2))) st->wpS (model prog w) A E s (f x (none,l,h)) R st) ->
     ∀ lo hi,lo≤hi->hi≤n->(∀ i,i < lo->B i=true)->(∀ i,hi≤i->i < n->B i=false)->∀ {R:Option (Option Nat) × Nat × Nat->SortSt->Prop},(∀ g,Q (some g) st->R (none,g,g) st) ->
     wpS (model prog w) A E s (forIn [:n] (none,lo,hi) f) R st:=by
  intro f f1 f2
  intro lo hi h1 h2 h3 h4 R hR
  have done:∀ l h,l≤h->h≤l->h≤n->(∀ i,i < l->B i=true)->(∀ i,h≤i->i < n->B i=false)->R (none,l,h) st:=fun l h a b c d e=>by
   have:l=h:=by omega
   subst this
   exact hR l (z' l c d e)
  refine wpS_forRange (I:=fun x c st'=>st'=st∧∃ l h,c=(none,l,h)∧l≤h∧h≤n∧h - l≤n - x∧(∀ i,i < l->B i=true)∧(∀ i,h≤i->i < n->B i=false)) (fun x c st' _ hx hI=>?_) (fun c st' hI=>?_) ⟨rfl,lo,hi,rfl,h1,h2,by omega,h3,h4⟩
  ·obtain⟨rfl,l,h,rfl,a1,a2,a3,a4,a5⟩:=hI
   by_cases c:l ≥ h
   ·exact f1 _ _ _ _ c (done l h a1 c a2 a4 a5)
   ·refine f2 _ _ _ _ (by omega) a2 ?_
    cases e:B (l + (h - l) / 2) with
    | true =>
     rw[if_pos rfl]
     exact⟨rfl,_,_,rfl,by omega,a2,by omega,fun i hi=>anti i _ (by omega) (by omega) e,a5⟩
    | false =>
     rw[if_neg (by simp)]
     exact⟨rfl,_,_,rfl,by omega,by omega,by omega,a4,fun i i1 i2=>anti' _ i i1 i2 e⟩
  ·obtain⟨rfl,l,h,rfl,a1,a2,a3,a4,a5⟩:=hI
   exact done l h a1 (by omega) a2 a4 a5
 rw[gallop'_eq]
 dsimp only
 refine wpS_bind (bw hh ?_)
 dsimp only
 cases e:B hint with
 | true =>
  rw[if_pos rfl]
  refine wpS_bind (wpS_mono (wpS_forRange (I:=fun x c st'=>st'=st∧∃ l o,c=(none,l,o)∧x + 1≤o∧l < o∧hint + l < n∧B (hint + l)=true) (Q:=fun c st'=>st'=st∧∃ l o,c=(none,l,o)∧l < o∧hint + l < n∧B (hint + l)=true∧(n - hint≤o∨B (hint + o)=false)) (fun x c st' _ hx hI=>?_) (fun c st' hI=>?_) ⟨rfl,0,1,rfl,by omega,by omega,by omega,e⟩) (fun c st' hI=>?_))
  ·obtain⟨rfl,l,o,rfl,a1,a2,a3,a4⟩:=hI
   dsimp only
   by_cases c:o ≥ n - hint
   ·rw[if_pos c]
    exact wpS_pure ⟨rfl,l,o,rfl,a2,a3,a4,.inl c⟩
   ·rw[if_neg c]
    refine wpS_bind (bw (by omega) ?_)
    dsimp only
    cases e2:B (hint + o) with
    | true =>
     rw[if_neg (by simp)]
     exact wpS_pure ⟨rfl,o,2 * o + 1,rfl,by omega,by omega,by omega,e2⟩
    | false =>
     rw[if_pos (by simp)]
     exact wpS_pure ⟨rfl,l,o,rfl,a2,a3,a4,.inr e2⟩
  ·obtain⟨rfl,l,o,rfl,a1,a2,a3,a4⟩:=hI
   exact⟨rfl,l,o,rfl,a2,a3,a4,.inl (by omega)⟩
  ·obtain⟨rfl,l,o,rfl,a2,a3,a4,a5⟩:=hI
   dsimp only
   have m1:min o (n - hint)≤n - hint:=Nat.min_le_right _ _
   have m2:min o (n - hint)≤o:=Nat.min_le_left _ _
   have m3:min o (n - hint)=o∨min o (n - hint)=n - hint:=by omega
   refine wpS_bind (half _ (fun x l h R c hR=>by
    try dsimp only
    rw[if_pos c]
    exact wpS_pure hR) (fun x l h R c hn' hR=>by
    try dsimp only
    rw[if_neg (by omega)]
    refine wpS_bind (bw (by omega) ?_)
    dsimp only
    cases e:B (l + (h - l) / 2) with
    | true=>rw[e,if_pos rfl] at hR;rw[if_pos rfl];exact wpS_pure hR
    | false=>rw[e,if_neg (by simp)] at hR;rw[if_neg (by simp)];exact wpS_pure hR) (hint + l + 1) (hint + min o (n - hint)) (by omega) (by omega) (fun i hi=>anti i _ (by omega) a3 a4) (fun i i1 i2=>?_) (fun g hg=>?_))
   ·rcases a5 with a5 | a5
    ·omega
    ·exact anti' (hint + o) i (by omega) i2 a5
   ·exact wpS_pure hg
 | false =>
  rw[if_neg (by simp)]
  refine wpS_bind (wpS_mono (wpS_forRange (I:=fun x c st'=>st'=st∧∃ l o,c=(none,l,o)∧x + 1≤o∧l < o∧l≤hint∧B (hint - l)=false) (Q:=fun c st'=>st'=st∧∃ l o,c=(none,l,o)∧l < o∧l≤hint∧B (hint - l)=false∧(hint + 1≤o∨B (hint - o)=true)) (fun x c st' _ hx hI=>?_) (fun c st' hI=>?_) ⟨rfl,0,1,rfl,by omega,by omega,by omega,e⟩) (fun c st' hI=>?_))
  ·obtain⟨rfl,l,o,rfl,a1,a2,a3,a4⟩:=hI
   dsimp only
   by_cases c:o ≥ hint + 1
   ·rw[if_pos c]
    exact wpS_pure ⟨rfl,l,o,rfl,a2,a3,a4,.inl c⟩
   ·rw[if_neg c]
    refine wpS_bind (bw (by omega) ?_)
    dsimp only
    cases e2:B (hint - o) with
    | true =>
     rw[if_pos rfl]
     exact wpS_pure ⟨rfl,l,o,rfl,a2,a3,a4,.inr e2⟩
    | false =>
     rw[if_neg (by simp)]
     exact wpS_pure ⟨rfl,o,2 * o + 1,rfl,by omega,by omega,by omega,e2⟩
  ·obtain⟨rfl,l,o,rfl,a1,a2,a3,a4⟩:=hI
   exact⟨rfl,l,o,rfl,a2,a3,a4,.inl (by omega)⟩
  ·obtain⟨rfl,l,o,rfl,a2,a3,a4,a5⟩:=hI
   dsimp only
   have m3:min o (hint + 1)=o∨min o (hint + 1)=hint + 1:=by omega
   refine wpS_bind (half _ (fun x l h R c hR=>by
    try dsimp only
    rw[if_pos c]
    exact wpS_pure hR) (fun x l h R c hn' hR=>by
    try dsimp only
    rw[if_neg (by omega)]
    refine wpS_bind (bw (by omega) ?_)
    dsimp only
    cases e:B (l + (h - l) / 2) with
    | true=>rw[e,if_pos rfl] at hR;rw[if_pos rfl];exact wpS_pure hR
    | false=>rw[e,if_neg (by simp)] at hR;rw[if_neg (by simp)];exact wpS_pure hR) (hint + 1 - min o (hint + 1)) (hint - l) (by omega) (by omega) (fun i hi=>?_) (fun i i1 i2=>anti' (hint - l) i (by omega) i2 a4) (fun g hg=>?_))
   ·rcases a5 with a5 | a5
    ·omega
    ·exact anti i (hint - o) (by omega) (by omega) a5
   ·exact wpS_pure hg
end
end Ts
namespace Ts
open PySem PySem.W PyProof.Rows
def mergeLo':Array Keyed->Array Keyed->StateT SortSt Sem (Array Keyed):=sortPriv% PySem.Builtin.mergeLo
def setMg (g:Nat):StateT SortSt Sem Unit:=modify fun s=>SortSt.mk' (kindOf s) (arrOf s) (pendingOf s) g (failedOf s)
abbrev KA:=Array Keyed
abbrev GS:=Option KA × KA × Nat × Nat × Nat × Nat × Nat
abbrev PS:=Option KA × KA × Nat × Nat × Nat × Nat
abbrev OS:=Option KA × KA × Nat × Nat × Nat
abbrev SM:=StateT SortSt Sem
def dn (a b out:KA) (ia ib:Nat):KA:=out++a.extract ia a.size++b.extract ib b.size
def lA (a b out:KA) (ia ib:Nat):KA:=out++b.extract ib b.size++a.extract ia a.size
def j3 (a b:KA) (mg ac bc ia:Nat) (out:KA) (ib:Nat):SM (ForInStep GS):=do
 let x ← elem' a ia
 if (ia + 1 + 1 == a.size)=true then pure (.done (some (lA a b (out.push x) (ia + 1) ib),out.push x,ia + 1,ib,mg,ac,bc))
 else if (decide (ac < 7) && decide (bc < 7))=true then pure (.done (none,out.push x,ia + 1,ib,mg,ac,bc))
 else pure (.yield (none,out.push x,ia + 1,ib,mg,ac,bc))
def j2 (a b:KA) (mg ac bc ib:Nat) (out:KA) (ia:Nat):SM (ForInStep GS):=do
 let x ← elem' b ib
 if (ib + 1 == b.size)=true then pure (.done (some (dn a b (out.push x) ia (ib + 1)),out.push x,ia,ib + 1,mg,ac,bc))
 else do
  let y ← elem' a ia
  let z ← gallop' true y b (ib + 1) (b.size - (ib + 1)) 0
  match z with
  | some k => if k > 0 then (if (ib + 1 + k == b.size) = true then pure (.done (some (dn a b (out.push x ++ b.extract (ib + 1) (ib + 1 + k)) ia (ib + 1 + k)), out.push x ++ b.extract (ib + 1) (ib + 1 + k), ia, ib + 1 + k, mg, ac, k))
      else j3 a b mg ac k ia (out.push x++b.extract (ib + 1) (ib + 1 + k)) (ib + 1 + k)) else j3 a b mg ac k ia (out.push x) (ib + 1)
  | _=>pure (.done (some (dn a b (out.push x) ia (ib + 1)),out.push x,ia,ib + 1,mg,ac,bc))
def j1 (a b:KA) (out:KA) (ia ib ac bc mg:Nat):SM (ForInStep GS):=do
 setMg mg
 let x ← elem' b ib
 let z ← gallop' false x a ia (a.size - ia) 0
 match z with
 | some k => if k > 0 then (if (ia + k + 1 == a.size) = true then pure (.done (some (lA a b (out ++ a.extract ia (ia + k)) (ia + k) ib), out ++ a.extract ia (ia + k), ia + k, ib, mg, k, bc))
     else if (ia + k == a.size)=true then pure (.done (some (dn a b (out++a.extract ia (ia + k)) (ia + k) ib),out++a.extract ia (ia + k),ia + k,ib,mg,k,bc))
     else j2 a b mg k bc ib (out++a.extract ia (ia + k)) (ia + k)) else j2 a b mg k bc ib out ia
 | _=>pure (.done (some (dn a b out ia ib),out,ia,ib,mg,ac,bc))
def gStep (a b:KA) (_:Nat) (s:GS):SM (ForInStep GS) :=
 if s.2.2.2.2.1 > 1 then j1 a b s.2.1 s.2.2.1 s.2.2.2.1 s.2.2.2.2.2.1 s.2.2.2.2.2.2 (s.2.2.2.2.1 - 1) else j1 a b s.2.1 s.2.2.1 s.2.2.2.1 s.2.2.2.2.2.1 s.2.2.2.2.2.2 s.2.2.2.2.1
def pB (a b:KA) (mg:Nat) (s:PS):SM (ForInStep PS):=do
 let x ← elem' b s.2.2.2.1
 if (s.2.2.2.1 + 1 == b.size)=true then pure (.done (some (dn a b (s.2.1.push x) s.2.2.1 (s.2.2.2.1 + 1)),s.2.1.push x,s.2.2.1,s.2.2.2.1 + 1,0,s.2.2.2.2.2 + 1))
 else if s.2.2.2.2.2 + 1 ≥ mg then pure (.done (none,s.2.1.push x,s.2.2.1,s.2.2.2.1 + 1,0,s.2.2.2.2.2 + 1)) else pure (.yield (none,s.2.1.push x,s.2.2.1,s.2.2.2.1 + 1,0,s.2.2.2.2.2 + 1))
def pA (a b:KA) (mg:Nat) (s:PS):SM (ForInStep PS):=do
 let y ← elem' a s.2.2.1
 if (s.2.2.1 + 1 + 1 == a.size)=true then pure (.done (some (lA a b (s.2.1.push y) (s.2.2.1 + 1) s.2.2.2.1),s.2.1.push y,s.2.2.1 + 1,s.2.2.2.1,s.2.2.2.2.1 + 1,0))
 else if s.2.2.2.2.1 + 1 ≥ mg then pure (.done (none,s.2.1.push y,s.2.2.1 + 1,s.2.2.2.1,s.2.2.2.2.1 + 1,0)) else pure (.yield (none,s.2.1.push y,s.2.2.1 + 1,s.2.2.2.1,s.2.2.2.2.1 + 1,0))
def pStep (a b:KA) (mg:Nat) (_:Nat) (s:PS):SM (ForInStep PS):=do
 let x ← elem' b s.2.2.2.1
 let y ← elem' a s.2.2.1
 let z ← lt' x y
 match z with
 | some c=>if c=true then pB a b mg s else pA a b mg s
 | _=>pure (.done (some (dn a b s.2.1 s.2.2.1 s.2.2.2.1),s.2.1,s.2.2.1,s.2.2.2.1,s.2.2.2.2.1,s.2.2.2.2.2))
def oStep (a b:KA) (_:Nat) (s:OS):SM (ForInStep OS):=do
 let u ← forIn [0:a.size + b.size] ((none,s.2.1,s.2.2.1,s.2.2.2.1,0,0):PS) (pStep a b s.2.2.2.2)
 match u.1 with
 | some r=>pure (.done (some r,u.2.1,u.2.2.1,u.2.2.2.1,s.2.2.2.2))
 | none=>do
  liftM (rule "list.sort.gallop")
  let v ← forIn [0:a.size + b.size] ((none,u.2.1,u.2.2.1,u.2.2.2.1,s.2.2.2.2 + 1,u.2.2.2.2.1,u.2.2.2.2.2):GS) (gStep a b)
  match v.1 with
  | some r=>pure (.done (some r,v.2.1,v.2.2.1,v.2.2.2.1,v.2.2.2.2.1))
  | none=>do
   setMg (v.2.2.2.2.1 + 1)
   pure (.yield (none,v.2.1,v.2.2.1,v.2.2.2.1,v.2.2.2.2.1 + 1))
theorem mergeLo'_do (a b:Array Keyed):mergeLo' a b=(do
 rule "list.sort.merge-lo"
 let total:=a.size + b.size
 let done (out:Array Keyed) (ia ib:Nat):=out++a.extract ia a.size++b.extract ib b.size
 let lastOfA (out:Array Keyed) (ia ib:Nat):=out++b.extract ib b.size++a.extract ia a.size
 let mut out:Array Keyed:=#[← elem' b 0]
 let mut ia:=0
 let mut ib:=1
 if ib == b.size then return done out ia ib
 if ia + 1 == a.size then return lastOfA out ia ib
 let mut minGallop:=gallopOf (← get)
 for _ in [0:total] do
  let mut acount:=0
  let mut bcount:=0
  for _ in [0:total] do
   let some bWins ← lt' (← elem' b ib) (← elem' a ia) | return done out ia ib
   if bWins then
    out:=out.push (← elem' b ib);ib:=ib + 1;bcount:=bcount + 1;acount:=0
    if ib == b.size then return done out ia ib
    if bcount ≥ minGallop then break
   else
    out:=out.push (← elem' a ia);ia:=ia + 1;acount:=acount + 1;bcount:=0
    if ia + 1 == a.size then return lastOfA out ia ib
    if acount ≥ minGallop then break
  rule "list.sort.gallop"
  minGallop:=minGallop + 1
  for _ in [0:total] do
   if minGallop > 1 then minGallop:=minGallop - 1
   setMg minGallop
   let some k ← gallop' false (← elem' b ib) a ia (a.size - ia) 0 | return done out ia ib
   acount:=k
   if k > 0 then
    out:=out++a.extract ia (ia + k);ia:=ia + k
    if ia + 1 == a.size then return lastOfA out ia ib
    if ia == a.size then return done out ia ib
   out:=out.push (← elem' b ib);ib:=ib + 1
   if ib == b.size then return done out ia ib
   let some k ← gallop' true (← elem' a ia) b ib (b.size - ib) 0 | return done out ia ib
   bcount:=k
   if k > 0 then
    out:=out++b.extract ib (ib + k);ib:=ib + k
    if ib == b.size then return done out ia ib
   out:=out.push (← elem' a ia);ia:=ia + 1
   if ia + 1 == a.size then return lastOfA out ia ib
   if acount < 7 && bcount < 7 then break
  minGallop:=minGallop + 1
  setMg minGallop
 unsupported "internal:list.sort.merge-bound"):=rfl
theorem mergeLo'_eq (a b:KA):mergeLo' a b=(do
 liftM (rule "list.sort.merge-lo")
 let x ← elem' b 0
 if (1 == b.size)=true then pure (dn a b #[x] 0 1)
 else if (0 + 1 == a.size)=true then pure (lA a b #[x] 0 1)
 else do
  let g ← get
  let v ← forIn [0:a.size + b.size] ((none,#[x],0,1,gallopOf g):OS) (oStep a b)
  match v.1 with
  | some r=>pure r
  | none=>liftM (unsupported "internal:list.sort.merge-bound":Sem KA)):=by
 rw[mergeLo'_do]
 dsimp only
 congr 1;funext _;congr 1;funext x
 unfold dn lA
 congr 1;congr 1;congr 1;funext g
 congr 1
 ·congr 1
  funext _ s
  unfold oStep
  congr 1
  funext u
  obtain⟨o,u⟩:=u
  cases o with
  | some r=>rfl
  | none =>
   show (liftM (rule "list.sort.gallop") >>= _)=(liftM (rule "list.sort.gallop") >>= _)
   congr 1;funext _
   show (forIn _ _ _ >>= _)=(forIn _ _ _ >>= _)
   congr 1
   funext v
   obtain⟨o,v⟩:=v
   cases o <;> rfl
 ·funext v
  obtain⟨o,v⟩:=v
  cases o <;> rfl
end Ts
namespace Ts
open PySem PySem.W PyProof.Rows
def arr (it:KA) (l:List Nat):KA:=l.toArray.map (kas_item it)
section
variable {it:KA} {l m:List Nat} {i j x:Nat}
theorem arr_size:(arr it l).size=l.length:=by unfold arr;simp
theorem arr_push:(arr it l).push (kas_item it x)=arr it (l++[x]):=by unfold arr;simp
theorem arr_one:#[kas_item it x]=arr it [x]:=by unfold arr;simp
theorem arr_app:arr it l++arr it m=arr it (l++m):=by unfold arr;simp
theorem arr_ext:(arr it l).extract i j=arr it ((l.drop i).take (j - i)):=by
 unfold arr
 rw[← Array.map_extract]
 congr 1
 simp [List.extract_eq_take_drop]
theorem arr_get:l.toArray.getD i 0=l.getD i 0:=by simp
theorem drop_one (h:i < l.length):l.drop i=l.getD i 0::l.drop (i + 1):=by
 rw[List.drop_eq_getElem_cons h,List.getD_eq_getElem?_getD,List.getElem?_eq_getElem h];rfl
end
abbrev Sd (r:Nat->Int) (l:List Nat):Prop:=l.Pairwise fun x y=>r x≤r y
structure Mg (r:Nat->Int) (la lb L:List Nat) (ia ib:Nat):Prop where
 ha:ia≤la.length
 hb:ib≤lb.length
 perm:L.Perm (la.take ia++lb.take ib)
 sd:Sd r L
 la:∀ x ∈ L,∀ y ∈ la.drop ia,r x≤r y
 lb:∀ x ∈ L,∀ y ∈ lb.drop ib,r x≤r y
def Gm (r:Nat->Int) (la lb X:List Nat):Prop:=X.Perm (la++lb)∧Sd r X
section
variable {r:Nat->Int} {la lb L:List Nat} {ia ib k:Nat}
theorem Sd.head (s:Sd r la) (h:ia < la.length):∀ y ∈ la.drop ia,r (la.getD ia 0)≤r y:=fun y hy=>by
 have s':Sd r (la.drop ia):=List.Pairwise.sublist (List.drop_sublist _ _) s
 rw[drop_one h] at hy s'
 rcases List.mem_cons.mp hy with rfl | hy
 ·exact Int.le_refl _
 ·exact (List.pairwise_cons.mp s').1 y hy
theorem Mg.symm (m:Mg r la lb L ia ib):Mg r lb la L ib ia:=⟨m.hb,m.ha,m.perm.trans List.perm_append_comm,m.sd,m.lb,m.la⟩
theorem Gm.symm {X:List Nat} (g:Gm r lb la X):Gm r la lb X:=⟨g.1.trans List.perm_append_comm,g.2⟩
theorem Mg.appB (m:Mg r la lb L ia ib) (sb:Sd r lb) (hk:ib + k≤lb.length) (h:∀ x ∈ (lb.drop ib).take k,∀ y ∈ la.drop ia,r x≤r y):Mg r la lb (L++(lb.drop ib).take k) ia (ib + k):=by
 have sb':Sd r (lb.drop ib):=List.Pairwise.sublist (List.drop_sublist _ _) sb
 have dd:lb.drop (ib + k)=(lb.drop ib).drop k:=by rw[List.drop_drop]
 refine⟨m.ha,hk,?_,List.pairwise_append.mpr ⟨m.sd,List.Pairwise.sublist (List.take_sublist _ _) sb',fun x hx y hy=>m.lb x hx y (List.mem_of_mem_take hy)⟩,fun x hx y hy=>?_,fun x hx y hy=>?_⟩
 ·rw[List.take_add,← List.append_assoc]
  exact List.Perm.append_right _ m.perm
 ·rcases List.mem_append.mp hx with hx | hx
  ·exact m.la x hx y hy
  ·exact h x hx y hy
 ·rw[dd] at hy
  rcases List.mem_append.mp hx with hx | hx
  ·exact m.lb x hx y (List.mem_of_mem_drop hy)
  ·rw[← List.take_append_drop k (lb.drop ib)] at sb'
   exact (List.pairwise_append.mp sb').2.2 x hx y hy
theorem Mg.pushB (m:Mg r la lb L ia ib) (sb:Sd r lb) (hk:ib < lb.length) (h:∀ y ∈ la.drop ia,r (lb.getD ib 0)≤r y):Mg r la lb (L++[lb.getD ib 0]) ia (ib + 1):=by
 have e:(lb.drop ib).take 1=[lb.getD ib 0]:=by rw[drop_one hk];rfl
 have:=m.appB sb (k:=1) hk (by rw[e];intro x hx;rw[List.mem_singleton.mp hx];exact h)
 rw[e] at this;exact this
theorem Mg.pushA (m:Mg r la lb L ia ib) (sa:Sd r la) (hk:ia < la.length) (h:∀ y ∈ lb.drop ib,r (la.getD ia 0)≤r y):Mg r la lb (L++[la.getD ia 0]) (ia + 1) ib:=(m.symm.pushB sa hk h).symm
theorem Mg.appA (m:Mg r la lb L ia ib) (sa:Sd r la) (hk:ia + k≤la.length) (h:∀ x ∈ (la.drop ia).take k,∀ y ∈ lb.drop ib,r x≤r y):Mg r la lb (L++(la.drop ia).take k) (ia + k) ib:=(m.symm.appB sa hk h).symm
theorem Mg.last (m:Mg r la lb L ia ib) (sa:Sd r la) (sb:Sd r lb) (h:∀ x ∈ lb.drop ib,∀ y ∈ la.drop ia,r x≤r y):Gm r la lb (L++lb.drop ib++la.drop ia):=by
 refine⟨?_,?_⟩
 ·have e:=m.perm
  rw[List.perm_iff_count] at e ⊢
  intro x
  have e:=e x
  have e1:=congrArg (List.count x) (List.take_append_drop ia la)
  have e2:=congrArg (List.count x) (List.take_append_drop ib lb)
  simp only [List.count_append] at e e1 e2 ⊢
  omega
 ·refine List.pairwise_append.mpr ⟨List.pairwise_append.mpr ⟨m.sd,List.Pairwise.sublist (List.drop_sublist _ _) sb,m.lb⟩,List.Pairwise.sublist (List.drop_sublist _ _) sa,fun x hx y hy=>?_⟩
  rcases List.mem_append.mp hx with hx | hx
  ·exact m.la x hx y hy
  ·exact h x hx y hy
theorem Mg.done (m:Mg r la lb L ia ib) (sa:Sd r la) (sb:Sd r lb) (h:ia=la.length∨ib=lb.length):Gm r la lb (L++la.drop ia++lb.drop ib):=by
 refine (m.symm.last sb sa fun x hx y hy=>?_).symm
 rcases h with h | h
 ·rw[h,List.drop_length] at hx;cases hx
 ·rw[h,List.drop_length] at hy;cases hy
theorem Mg.start (sb:Sd r lb) (hb:0 < lb.length) (h:∀ y ∈ la,r (lb.getD 0 0)≤r y):Mg r la lb [lb.getD 0 0] 0 1:=by
 have m:Mg r la lb [] 0 0:=⟨Nat.zero_le _,Nat.zero_le _,List.Perm.refl _,.nil,by simp,by simp⟩
 exact m.pushB sb hb h
theorem dn_arr {it:KA}:dn (arr it la) (arr it lb) (arr it L) ia ib=arr it (L++la.drop ia++lb.drop ib):=by
 unfold dn
 rw[arr_ext,arr_ext,arr_app,arr_app,arr_size,arr_size,List.take_of_length_le (by simp),List.take_of_length_le (by simp)]
theorem lA_arr {it:KA}:lA (arr it la) (arr it lb) (arr it L) ia ib=arr it (L++lb.drop ib++la.drop ia):=by
 unfold lA
 rw[arr_ext,arr_ext,arr_app,arr_app,arr_size,arr_size,List.take_of_length_le (by simp),List.take_of_length_le (by simp)]
end
end Ts
namespace Ts
open PySem PySem.W PyProof.Rows
section
variable {prog:Program} {w:World} {A:Around} {E:Value->Shared->Prop} {s:Shared} {κ:SortKind} {it:Array Keyed} {N:Nat} {r:Nat->Int} {la lb:List Nat} {P0:KA} {pd:Array (Nat × Nat × Nat)}
/-- what a merge rests on -/
structure Two (N:Nat) (r:Nat->Int) (la lb:List Nat):Prop where
 a1:0 < la.length
 b1:0 < lb.length
 na:∀ x ∈ la,x < N
 nb:∀ x ∈ lb,x < N
 sa:Sd r la
 sb:Sd r lb
 first:r (lb.getD 0 0)≤r (la.getD 0 0)
 last:∀ x ∈ lb,r x≤r (la.getD (la.length - 1) 0)
abbrev SS (κ:SortKind) (P0:KA) (pd:Array (Nat × Nat × Nat)) (g:Nat):SortSt:=SortSt.mk' κ P0 pd g none
theorem setMg_w {g g':Nat} {Q:Unit->SortSt->Prop} (h:Q () (SS κ P0 pd g')):wpS (model prog w) A E s (setMg g') Q (SS κ P0 pd g):=wpS_modify h
theorem getD_mem {l:List Nat} {i:Nat} (h:i < l.length):l.getD i 0 ∈ l:=by
 rw[List.getD_eq_getElem?_getD,List.getElem?_eq_getElem h];exact List.getElem_mem h
theorem Two.pa (t:Two N r la lb) {i:Nat} (h:i < la.length):la.getD i 0 < N:=t.na _ (getD_mem h)
theorem Two.pb (t:Two N r la lb) {i:Nat} (h:i < lb.length):lb.getD i 0 < N:=t.nb _ (getD_mem h)
theorem el_w {l:List Nat} {i:Nat} {Q:Keyed->SortSt->Prop} {st:SortSt} (hi:i < l.length) (h:Q (kas_item it (l.getD i 0)) st):wpS (model prog w) A E s (elem' (arr it l) i) Q st :=
 elem_w (q:=l.toArray) (by simpa using hi) (by rw[arr_get];exact h)
theorem sd_up {l:List Nat} (sl:Sd r l) {i j:Nat} (hij:i≤j) (hj:j < l.length):r (l.getD i 0)≤r (l.getD j 0):=by
 by_cases e:i=j
 ·rw[e];exact Int.le_refl _
 ·have hi:i < l.length:=by omega
  rw[List.getD_eq_getElem?_getD,List.getD_eq_getElem?_getD,List.getElem?_eq_getElem hi,List.getElem?_eq_getElem hj]
  exact List.pairwise_iff_getElem.mp sl i j hi hj (by omega)
theorem take_mem {l:List Nat} {i k x:Nat} (h:x ∈ (l.drop i).take k) (hk:i + k≤l.length):∃ j,j < k∧x=l.getD (i + j) 0:=by
 obtain⟨j,hj,e⟩:=List.mem_iff_getElem.mp h
 have hj':j < k:=by rw[List.length_take,List.length_drop] at hj;omega
 refine⟨j,hj',?_⟩
 rw[← e,List.getElem_take,List.getElem_drop,List.getD_eq_getElem?_getD,List.getElem?_eq_getElem (by omega)];rfl
theorem drop_mem {l:List Nat} {i x:Nat} (h:x ∈ l.drop i):∃ j,i≤j∧j < l.length∧x=l.getD j 0:=by
 obtain⟨j,hj,e⟩:=List.mem_iff_getElem.mp h
 rw[List.length_drop] at hj
 refine⟨i + j,by omega,by omega,?_⟩
 rw[← e,List.getElem_drop,List.getD_eq_getElem?_getD,List.getElem?_eq_getElem (by omega)];rfl
/-- gallop in a row, from the right of what is as great: how many are at most the key -/
theorem gal_w {left:Bool} {l:List Nat} {k base n hint:Nat} {Q:Option Nat->SortSt->Prop} {st:SortSt} (h:Srt.Ask N r (kas_cmp prog w A κ it) s) (hk:kindOf st=κ) (hk':k < N) (hl:∀ x ∈ l,x < N) (sl:Sd r l) (hn:base + n≤l.length) (hh:hint < n)
  (z:∀ g,g≤n->(∀ i,i < g->By left (r (l.getD (base + i) 0)) (r k)=true)->(∀ i,g≤i->i < n->By left (r (l.getD (base + i) 0)) (r k)=false)->Q (some g) st) :
  wpS (model prog w) A E s (gallop' left (kas_item it k) (arr it l) base n hint) Q st :=
 gallop_w (q:=l.toArray) h hk hk' (fun m hm=>by rw[arr_get];exact hl _ (getD_mem (by simpa using hm))) (by simpa using hn) hh (fun i j hij hj=>by rw[arr_get,arr_get];exact sd_up sl (by omega) (by omega))
  fun g a b c=>z g a (fun i hi=>by have:=b i hi;rwa [arr_get] at this) (fun i i1 i2=>by have:=c i i1 i2;rwa [arr_get] at this)
/-- an end told: the rows put together -/
def Rs (r:Nat->Int) (it:KA) (κ:SortKind) (P0:KA) (pd:Array (Nat × Nat × Nat)) (la lb:List Nat) (o:KA) (st:SortSt):Prop:=∃ X g,Gm r la lb X∧o=arr it X∧st=SS κ P0 pd g
/-- on the way -/
structure Wy (r:Nat->Int) (la lb:List Nat) (L:List Nat) (ia ib:Nat):Prop where
 m:Mg r la lb L ia ib
 ia:ia + 1 < la.length
 ib:ib < lb.length
variable (t:Two N r la lb)
include t
theorem Two.done {L:List Nat} {ia ib g:Nat} (m:Mg r la lb L ia ib) (h:ia=la.length∨ib=lb.length):Rs r it κ P0 pd la lb (dn (arr it la) (arr it lb) (arr it L) ia ib) (SS κ P0 pd g) :=
 ⟨_,g,m.done t.sa t.sb h,dn_arr,rfl⟩
theorem Two.lst {L:List Nat} {ia ib g:Nat} (m:Mg r la lb L ia ib) (h:ia + 1=la.length):Rs r it κ P0 pd la lb (lA (arr it la) (arr it lb) (arr it L) ia ib) (SS κ P0 pd g) :=
 ⟨_,g,m.last t.sa t.sb (fun x hx y hy=>by
  rw[drop_one (by omega),List.drop_of_length_le (by omega),List.mem_singleton] at hy
  rw[hy,show ia=la.length - 1 by omega]
  exact t.last x (List.mem_of_mem_drop hx)),lA_arr,rfl⟩
theorem j3_w {L:List Nat} {mg ac bc ia ib g:Nat} {R:ForInStep GS->SortSt->Prop} (y:Wy r la lb L ia ib) (hx:∀ y ∈ lb.drop ib,r (la.getD ia 0)≤r y)
  (d:∀ o u st',Rs r it κ P0 pd la lb o st'->R (.done (some o,u)) st') (e:∀ L' ia' ib' mg' ac' bc' g,Wy r la lb L' ia' ib'->ia + ib + 1≤ia' + ib'->R (.done (none,arr it L',ia',ib',mg',ac',bc')) (SS κ P0 pd g)∧R (.yield (none,arr it L',ia',ib',mg',ac',bc')) (SS κ P0 pd g)) :
  wpS (model prog w) A E s (j3 (arr it la) (arr it lb) mg ac bc ia (arr it L) ib) R (SS κ P0 pd g):=by
 have hia:=y.ia
 unfold j3
 refine wpS_bind (el_w (by omega) ?_)
 have m':=y.m.pushA t.sa (by omega) hx
 rw[arr_push,arr_size]
 by_cases c:ia + 1 + 1=la.length
 ·rw[if_pos (by simpa using c)]
  exact wpS_pure (d _ _ _ (t.lst m' c))
 ·rw[if_neg (by simpa using c)]
  have z:=e _ _ _ mg ac bc g (⟨m',by omega,y.ib⟩:Wy r la lb _ (ia + 1) ib) (by omega)
  split
  ·exact wpS_pure z.1
  ·exact wpS_pure z.2
theorem j2_w (h:Srt.Ask N r (kas_cmp prog w A κ it) s) {L:List Nat} {mg ac bc ia ib g:Nat} {R:ForInStep GS->SortSt->Prop} (y:Wy r la lb L ia ib) (hx:∀ y ∈ la.drop ia,r (lb.getD ib 0)≤r y)
  (d:∀ o u st',Rs r it κ P0 pd la lb o st'->R (.done (some o,u)) st') (e:∀ L' ia' ib' mg' ac' bc' g,Wy r la lb L' ia' ib'->ia + ib + 1≤ia' + ib'->R (.done (none,arr it L',ia',ib',mg',ac',bc')) (SS κ P0 pd g)∧R (.yield (none,arr it L',ia',ib',mg',ac',bc')) (SS κ P0 pd g)) :
  wpS (model prog w) A E s (j2 (arr it la) (arr it lb) mg ac bc ib (arr it L) ia) R (SS κ P0 pd g):=by
 have hia:=y.ia
 have hib:=y.ib
 unfold j2
 refine wpS_bind (el_w hib ?_)
 have m':=y.m.pushB t.sb hib hx
 rw[arr_push,arr_size]
 by_cases c:ib + 1=lb.length
 ·rw[if_pos (by simpa using c)]
  exact wpS_pure (d _ _ _ (t.done m' (.inr c)))
 ·rw[if_neg (by simpa using c)]
  refine wpS_bind (el_w (by omega) ?_)
  refine wpS_bind (gal_w h rfl (t.pa (by omega)) t.nb t.sb (by omega) (by omega) fun k k1 k2 k3=>?_)
  dsimp only
  have le:∀ y ∈ lb.drop (ib + 1 + k),r (la.getD ia 0)≤r y:=fun y hy=>by
   obtain⟨j,j1,j2,rfl⟩:=drop_mem hy
   have:=k3 (j - (ib + 1)) (by omega) (by omega)
   rw[show ib + 1 + (j - (ib + 1))=j by omega] at this
   unfold By at this
   simp at this
   rw[← List.getD_eq_getElem?_getD,← List.getD_eq_getElem?_getD] at this
   exact this
  by_cases ck:k > 0
  ·rw[if_pos ck,arr_ext,arr_app,show ib + 1 + k - (ib + 1)=k by omega]
   have m2:=m'.appB t.sb (k:=k) (by omega) fun x hx y hy=>by
    obtain⟨j,j1,rfl⟩:=take_mem hx (by omega)
    have a:=k2 j j1
    unfold By at a
    simp at a
    rw[← List.getD_eq_getElem?_getD,← List.getD_eq_getElem?_getD] at a
    exact Int.le_trans (Int.le_of_lt a) (t.sa.head (by omega) y hy)
   by_cases c2:ib + 1 + k=lb.length
   ·rw[if_pos (by simpa using c2)]
    exact wpS_pure (d _ _ _ (t.done m2 (.inr c2)))
   ·rw[if_neg (by simpa using c2)]
    exact j3_w t ⟨m2,hia,by omega⟩ le d fun L' ia' ib' mg' ac' bc' g y' hy'=>e L' ia' ib' mg' ac' bc' g y' (by omega)
  ·rw[if_neg ck]
   have k0:k=0:=by omega
   subst k0
   exact j3_w t ⟨m',hia,by omega⟩ le d fun L' ia' ib' mg' ac' bc' g y' hy'=>e L' ia' ib' mg' ac' bc' g y' (by omega)
theorem j1_w (h:Srt.Ask N r (kas_cmp prog w A κ it) s) {L:List Nat} {mg ac bc ia ib g:Nat} {R:ForInStep GS->SortSt->Prop} (y:Wy r la lb L ia ib)
  (d:∀ o u st',Rs r it κ P0 pd la lb o st'->R (.done (some o,u)) st') (e:∀ L' ia' ib' mg' ac' bc' g,Wy r la lb L' ia' ib'->ia + ib + 1≤ia' + ib'->R (.done (none,arr it L',ia',ib',mg',ac',bc')) (SS κ P0 pd g)∧R (.yield (none,arr it L',ia',ib',mg',ac',bc')) (SS κ P0 pd g)) :
  wpS (model prog w) A E s (j1 (arr it la) (arr it lb) (arr it L) ia ib ac bc mg) R (SS κ P0 pd g):=by
 have hia:=y.ia
 have hib:=y.ib
 unfold j1
 refine wpS_bind (setMg_w (wpS_bind (el_w hib ?_)))
 rw[arr_size]
 refine wpS_bind (gal_w h rfl (t.pb hib) t.na t.sa (by omega) (by omega) fun k k1 k2 k3=>?_)
 dsimp only
 have le:∀ y ∈ la.drop (ia + k),r (lb.getD ib 0)≤r y:=fun y hy=>by
  obtain⟨j,j1,j2,rfl⟩:=drop_mem hy
  have:=k3 (j - ia) (by omega) (by omega)
  rw[show ia + (j - ia)=j by omega] at this
  unfold By at this
  simp at this
  rw[← List.getD_eq_getElem?_getD,← List.getD_eq_getElem?_getD] at this
  exact Int.le_of_lt this
 by_cases ck:k > 0
 ·rw[if_pos ck,arr_ext,arr_app,show ia + k - ia=k by omega]
  have m2:=y.m.appA t.sa (k:=k) (by omega) fun x hx y hy=>by
   obtain⟨j,j1,rfl⟩:=take_mem hx (by omega)
   have a:=k2 j j1
   unfold By at a
   simp at a
   rw[← List.getD_eq_getElem?_getD,← List.getD_eq_getElem?_getD] at a
   exact Int.le_trans a (t.sb.head hib y hy)
  by_cases c1:ia + k + 1=la.length
  ·rw[if_pos (by simpa using c1)]
   exact wpS_pure (d _ _ _ (t.lst m2 c1))
  ·rw[if_neg (by simpa using c1)]
   by_cases c2:ia + k=la.length
   ·rw[if_pos (by simpa using c2)]
    exact wpS_pure (d _ _ _ (t.done m2 (.inl c2)))
   ·rw[if_neg (by simpa using c2)]
    exact j2_w t h ⟨m2,by omega,hib⟩ le d fun L' ia' ib' mg' ac' bc' g y' hy'=>e L' ia' ib' mg' ac' bc' g y' (by omega)
 ·rw[if_neg ck]
  have k0:k=0:=by omega
  subst k0
  exact j2_w t h y le d e
theorem gStep_w (h:Srt.Ask N r (kas_cmp prog w A κ it) s) {L:List Nat} {x mg ac bc ia ib g:Nat} {R:ForInStep GS->SortSt->Prop} (y:Wy r la lb L ia ib)
  (d:∀ o u st',Rs r it κ P0 pd la lb o st'->R (.done (some o,u)) st') (e:∀ L' ia' ib' mg' ac' bc' g,Wy r la lb L' ia' ib'->ia + ib + 1≤ia' + ib'->R (.done (none,arr it L',ia',ib',mg',ac',bc')) (SS κ P0 pd g)∧R (.yield (none,arr it L',ia',ib',mg',ac',bc')) (SS κ P0 pd g)) :
  wpS (model prog w) A E s (gStep (arr it la) (arr it lb) x (none,arr it L,ia,ib,mg,ac,bc)) R (SS κ P0 pd g):=by
 unfold gStep
 dsimp only
 split <;> exact j1_w t h y d e
theorem pStep_w (h:Srt.Ask N r (kas_cmp prog w A κ it) s) {L:List Nat} {x mg ac bc ia ib g:Nat} {R:ForInStep PS->SortSt->Prop} (y:Wy r la lb L ia ib)
  (d:∀ o u st',Rs r it κ P0 pd la lb o st'->R (.done (some o,u)) st') (e:∀ L' ia' ib' ac' bc' g,Wy r la lb L' ia' ib'->ia + ib + 1≤ia' + ib'->R (.done (none,arr it L',ia',ib',ac',bc')) (SS κ P0 pd g)∧R (.yield (none,arr it L',ia',ib',ac',bc')) (SS κ P0 pd g)) :
  wpS (model prog w) A E s (pStep (arr it la) (arr it lb) mg x (none,arr it L,ia,ib,ac,bc)) R (SS κ P0 pd g):=by
 have hia:=y.ia
 have hib:=y.ib
 unfold pStep
 dsimp only
 refine wpS_bind (el_w hib (wpS_bind (el_w (by omega) (wpS_bind (lt_w h rfl (t.pb hib) (t.pa (by omega)) ?_)))))
 dsimp only
 by_cases c:r (lb.getD ib 0) < r (la.getD ia 0)
 ·rw[decide_eq_true c,if_pos rfl]
  unfold pB
  dsimp only
  refine wpS_bind (el_w hib ?_)
  have m':=y.m.pushB t.sb hib fun y hy=>Int.le_trans (Int.le_of_lt c) (t.sa.head (by omega) y hy)
  rw[arr_push,arr_size]
  by_cases c2:ib + 1=lb.length
  ·rw[if_pos (by simpa using c2)]
   exact wpS_pure (d _ _ _ (t.done m' (.inr c2)))
  ·rw[if_neg (by simpa using c2)]
   have z:=e _ _ _ 0 (bc + 1) g (⟨m',hia,by omega⟩:Wy r la lb _ ia (ib + 1)) (by omega)
   split
   ·exact wpS_pure z.1
   ·exact wpS_pure z.2
 ·rw[decide_eq_false c,if_neg (by simp)]
  unfold pA
  dsimp only
  refine wpS_bind (el_w (by omega) ?_)
  have m':=y.m.pushA t.sa (by omega) fun y hy=>Int.le_trans (Int.not_lt.mp c) (t.sb.head hib y hy)
  rw[arr_push,arr_size]
  by_cases c2:ia + 1 + 1=la.length
  ·rw[if_pos (by simpa using c2)]
   exact wpS_pure (d _ _ _ (t.lst m' c2))
  ·rw[if_neg (by simpa using c2)]
   have z:=e _ _ _ (ac + 1) 0 g (⟨m',by omega,hib⟩:Wy r la lb _ (ia + 1) ib) (by omega)
   split
   ·exact wpS_pure z.1
   ·exact wpS_pure z.2
theorem oStep_w (h:Srt.Ask N r (kas_cmp prog w A κ it) s) {L:List Nat} {x mg ia ib g:Nat} {R:ForInStep OS->SortSt->Prop} (y:Wy r la lb L ia ib)
  (d:∀ o u st',Rs r it κ P0 pd la lb o st'->R (.done (some o,u)) st') (e:∀ L' ia' ib' mg' g,Wy r la lb L' ia' ib'->ia + ib + 1≤ia' + ib'->R (.yield (none,arr it L',ia',ib',mg')) (SS κ P0 pd g)) :
  wpS (model prog w) A E s (oStep (arr it la) (arr it lb) x (none,arr it L,ia,ib,mg)) R (SS κ P0 pd g):=by
 unfold oStep
 dsimp only
 rw[arr_size,arr_size]
 refine wpS_bind (wpS_mono (wpS_forRange (I:=fun x c st'=>∃ L' ia' ib' ac' bc' g',c=(none,arr it L',ia',ib',ac',bc')∧st'=SS κ P0 pd g'∧Wy r la lb L' ia' ib'∧ia + ib + x≤ia' + ib')
  (Q:=fun c st'=>(∃ o u,c=(some o,u)∧Rs r it κ P0 pd la lb o st')∨∃ L' ia' ib' ac' bc' g',c=(none,arr it L',ia',ib',ac',bc')∧st'=SS κ P0 pd g'∧Wy r la lb L' ia' ib'∧ia + ib + 1≤ia' + ib') (fun x c st' _ _ hI=>?_) (fun c st' hI=>?_) ⟨L,ia,ib,0,0,g,rfl,rfl,y,Nat.le_refl _⟩) (fun c st' hI=>?_))
 ·obtain⟨L',ia',ib',ac',bc',g',rfl,rfl,y',p'⟩:=hI
  exact pStep_w t h y' (fun o u st' hr=>.inl ⟨o,u,rfl,hr⟩) fun L2 ia2 ib2 ac2 bc2 g2 y2 p2=>⟨.inr ⟨L2,ia2,ib2,ac2,bc2,g2,rfl,rfl,y2,by omega⟩,⟨L2,ia2,ib2,ac2,bc2,g2,rfl,rfl,y2,by omega⟩⟩
 ·obtain⟨L',ia',ib',ac',bc',g',rfl,rfl,y',p'⟩:=hI
  have h1:=y'.ia
  have h2:=y'.ib
  omega
 rcases hI with ⟨o,u,rfl,hr⟩ | ⟨L',ia',ib',ac',bc',g',rfl,rfl,y',p'⟩
 ·exact wpS_pure (d _ _ _ hr)
 dsimp only
 refine wpS_bind (wpS_lift (wpAny_rule ⟨rfl,?_⟩))
 refine wpS_bind (wpS_mono (wpS_forRange (I:=fun x c st'=>∃ L2 ia2 ib2 mg2 ac2 bc2 g2,c=(none,arr it L2,ia2,ib2,mg2,ac2,bc2)∧st'=SS κ P0 pd g2∧Wy r la lb L2 ia2 ib2∧ia' + ib' + x≤ia2 + ib2)
  (Q:=fun c st'=>(∃ o u,c=(some o,u)∧Rs r it κ P0 pd la lb o st')∨∃ L2 ia2 ib2 mg2 ac2 bc2 g2,c=(none,arr it L2,ia2,ib2,mg2,ac2,bc2)∧st'=SS κ P0 pd g2∧Wy r la lb L2 ia2 ib2∧ia' + ib'≤ia2 + ib2) (fun x c st' _ _ hI=>?_) (fun c st' hI=>?_) ⟨L',ia',ib',mg + 1,ac',bc',g',rfl,rfl,y',Nat.le_refl _⟩) (fun c st' hI=>?_))
 ·obtain⟨L2,ia2,ib2,mg2,ac2,bc2,g2,rfl,rfl,y2,p2⟩:=hI
  exact gStep_w t h y2 (fun o u st' hr=>.inl ⟨o,u,rfl,hr⟩) fun L3 ia3 ib3 mg3 ac3 bc3 g3 y3 p3=>⟨.inr ⟨L3,ia3,ib3,mg3,ac3,bc3,g3,rfl,rfl,y3,by omega⟩,⟨L3,ia3,ib3,mg3,ac3,bc3,g3,rfl,rfl,y3,by omega⟩⟩
 ·obtain⟨L2,ia2,ib2,mg2,ac2,bc2,g2,rfl,rfl,y2,p2⟩:=hI
  have h1:=y2.ia
  have h2:=y2.ib
  omega
 rcases hI with ⟨o,u,rfl,hr⟩ | ⟨L2,ia2,ib2,mg2,ac2,bc2,g2,rfl,rfl,y2,p2⟩
 ·exact wpS_pure (d _ _ _ hr)
 dsimp only
 exact wpS_bind (setMg_w (wpS_pure (e _ _ _ _ _ y2 (by omega))))
theorem mergeLo_w (h:Srt.Ask N r (kas_cmp prog w A κ it) s) {g:Nat} {Q:KA->SortSt->Prop} (z:∀ X g,Gm r la lb X->Q (arr it X) (SS κ P0 pd g)):wpS (model prog w) A E s (mergeLo' (arr it la) (arr it lb)) Q (SS κ P0 pd g):=by
 have a1:=t.a1
 have b1:=t.b1
 have zz:∀ {o st'},Rs r it κ P0 pd la lb o st'->Q o st':=fun {o st'} ⟨X,g,gm,e1,e2⟩=>by rw[e1,e2];exact z X g gm
 rw[mergeLo'_eq]
 refine wpS_bind (wpS_lift (wpAny_rule ⟨rfl,?_⟩))
 refine wpS_bind (el_w b1 ?_)
 have m:=Mg.start (la:=la) t.sb b1 fun y hy=>Int.le_trans t.first (t.sa.head (ia:=0) a1 y hy)
 rw[arr_one,arr_size,arr_size]
 by_cases c1:1=lb.length
 ·rw[if_pos (by simpa using c1)]
  exact wpS_pure (zz (t.done m (.inr c1)))
 rw[if_neg (by simpa using c1)]
 by_cases c2:0 + 1=la.length
 ·rw[if_pos (by simpa using c2)]
  exact wpS_pure (zz (t.lst m c2))
 rw[if_neg (by simpa using c2)]
 refine wpS_bind (wpS_get ?_)
 refine wpS_bind (wpS_mono (wpS_forRange (I:=fun x c st'=>∃ L' ia' ib' mg' g',c=(none,arr it L',ia',ib',mg')∧st'=SS κ P0 pd g'∧Wy r la lb L' ia' ib'∧x≤ia' + ib')
  (Q:=fun c st'=>∃ o u,c=(some o,u)∧Rs r it κ P0 pd la lb o st') (fun x c st' _ _ hI=>?_) (fun c st' hI=>?_) ⟨_,0,1,_,g,rfl,rfl,⟨m,by omega,by omega⟩,by omega⟩) (fun c st' hI=>?_))
 ·obtain⟨L',ia',ib',mg',g',rfl,rfl,y',p'⟩:=hI
  exact oStep_w t h y' (fun o u st' hr=>⟨o,u,rfl,hr⟩) fun L2 ia2 ib2 mg2 g2 y2 p2=>⟨L2,ia2,ib2,mg2,g2,rfl,rfl,y2,by omega⟩
 ·obtain⟨L',ia',ib',mg',g',rfl,rfl,y',p'⟩:=hI
  have h1:=y'.ia
  have h2:=y'.ib
  omega
 ·obtain⟨o,u,rfl,hr⟩:=hI
  exact wpS_pure (zz hr)
end
end Ts
namespace Ts
open PySem PySem.W PyProof.Rows
def mergeHi':Array Keyed->Array Keyed->StateT SortSt Sem (Array Keyed):=sortPriv% PySem.Builtin.mergeHi
theorem mergeHi'_do (a b:Array Keyed):mergeHi' a b=(do
 rule "list.sort.merge-hi"
 let total:=a.size + b.size
 let done (out:Array Keyed) (na nb:Nat):=a.extract 0 na++b.extract 0 nb++out.reverse
 let firstOfB (out:Array Keyed) (na nb:Nat):=b.extract 0 nb++a.extract 0 na++out.reverse
 let mut na:=a.size - 1
 let mut nb:=b.size
 let mut out:Array Keyed:=#[← elem' a na]
 if na == 0 then return done out na nb
 if nb == 1 then return firstOfB out na nb
 let mut minGallop:=gallopOf (← get)
 for _ in [0:total] do
  let mut acount:=0
  let mut bcount:=0
  for _ in [0:total] do
   let some aWins ← lt' (← elem' b (nb - 1)) (← elem' a (na - 1)) | return done out na nb
   if aWins then
    na:=na - 1;out:=out.push (← elem' a na);acount:=acount + 1;bcount:=0
    if na == 0 then return done out na nb
    if acount ≥ minGallop then break
   else
    nb:=nb - 1;out:=out.push (← elem' b nb);bcount:=bcount + 1;acount:=0
    if nb == 1 then return firstOfB out na nb
    if bcount ≥ minGallop then break
  rule "list.sort.gallop"
  minGallop:=minGallop + 1
  for _ in [0:total] do
   if minGallop > 1 then minGallop:=minGallop - 1
   setMg minGallop
   let some at_ ← gallop' false (← elem' b (nb - 1)) a 0 na (na - 1) | return done out na nb
   let k:=na - at_
   acount:=k
   if k > 0 then
    out:=out++(a.extract at_ na).reverse;na:=at_
    if na == 0 then return done out na nb
   nb:=nb - 1;out:=out.push (← elem' b nb)
   if nb == 1 then return firstOfB out na nb
   let some at_ ← gallop' true (← elem' a (na - 1)) b 0 nb (nb - 1) | return done out na nb
   let k:=nb - at_
   bcount:=k
   if k > 0 then
    out:=out++(b.extract at_ nb).reverse;nb:=at_
    if nb == 1 then return firstOfB out na nb
    if nb == 0 then return done out na nb
   na:=na - 1;out:=out.push (← elem' a na)
   if na == 0 then return done out na nb
   if acount < 7 && bcount < 7 then break
  minGallop:=minGallop + 1
  setMg minGallop
 unsupported "internal:list.sort.merge-bound"):=rfl
def dH (a b out:KA) (na nb:Nat):KA:=a.extract 0 na++b.extract 0 nb++out.reverse
def fB (a b out:KA) (na nb:Nat):KA:=b.extract 0 nb++a.extract 0 na++out.reverse
abbrev HG:=Option KA × Nat × Nat × KA × Nat × Nat × Nat
abbrev HP:=Option KA × Nat × Nat × KA × Nat × Nat
abbrev HO':=Option KA × Nat × Nat × KA × Nat
def h3 (a b:KA) (mg ac bc na:Nat) (out:KA) (nb:Nat):SM (ForInStep HG):=do
 let x ← elem' a (na - 1)
 if (na - 1 == 0)=true then pure (.done (some (dH a b (out.push x) (na - 1) nb),na - 1,nb,out.push x,mg,ac,bc))
 else if (decide (ac < 7) && decide (bc < 7))=true then pure (.done (none,na - 1,nb,out.push x,mg,ac,bc))
 else pure (.yield (none,na - 1,nb,out.push x,mg,ac,bc))
def h2 (a b:KA) (mg ac bc nb:Nat) (out:KA) (na:Nat):SM (ForInStep HG):=do
 let x ← elem' b (nb - 1)
 if (nb - 1 == 1)=true then pure (.done (some (fB a b (out.push x) na (nb - 1)),na,nb - 1,out.push x,mg,ac,bc))
 else do
  let y ← elem' a (na - 1)
  let z ← gallop' true y b 0 (nb - 1) (nb - 1 - 1)
  match z with
  | some k => if nb - 1 - k > 0 then (if (k == 1) = true then pure (.done (some (fB a b (out.push x ++ (b.extract k (nb - 1)).reverse) na k), na, k, out.push x ++ (b.extract k (nb - 1)).reverse, mg, ac, nb - 1 - k))
      else if (k == 0)=true then pure (.done (some (dH a b (out.push x++(b.extract k (nb - 1)).reverse) na k),na,k,out.push x++(b.extract k (nb - 1)).reverse,mg,ac,nb - 1 - k))
      else h3 a b mg ac (nb - 1 - k) na (out.push x++(b.extract k (nb - 1)).reverse) k) else h3 a b mg ac (nb - 1 - k) na (out.push x) (nb - 1)
  | _=>pure (.done (some (dH a b (out.push x) na (nb - 1)),na,nb - 1,out.push x,mg,ac,bc))
def h1 (a b:KA) (na nb:Nat) (out:KA) (ac bc mg:Nat):SM (ForInStep HG):=do
 setMg mg
 let x ← elem' b (nb - 1)
 let z ← gallop' false x a 0 na (na - 1)
 match z with
 | some k => if na - k > 0 then (if (k == 0) = true then pure (.done (some (dH a b (out ++ (a.extract k na).reverse) k nb), k, nb, out ++ (a.extract k na).reverse, mg, na - k, bc))
     else h2 a b mg (na - k) bc nb (out++(a.extract k na).reverse) k) else h2 a b mg (na - k) bc nb out na
 | _=>pure (.done (some (dH a b out na nb),na,nb,out,mg,ac,bc))
def gStepH (a b:KA) (_:Nat) (s:HG):SM (ForInStep HG) :=
 if s.2.2.2.2.1 > 1 then h1 a b s.2.1 s.2.2.1 s.2.2.2.1 s.2.2.2.2.2.1 s.2.2.2.2.2.2 (s.2.2.2.2.1 - 1) else h1 a b s.2.1 s.2.2.1 s.2.2.2.1 s.2.2.2.2.2.1 s.2.2.2.2.2.2 s.2.2.2.2.1
def qA (a b:KA) (mg:Nat) (s:HP):SM (ForInStep HP):=do
 let x ← elem' a (s.2.1 - 1)
 if (s.2.1 - 1 == 0)=true then pure (.done (some (dH a b (s.2.2.2.1.push x) (s.2.1 - 1) s.2.2.1),s.2.1 - 1,s.2.2.1,s.2.2.2.1.push x,s.2.2.2.2.1 + 1,0))
 else if s.2.2.2.2.1 + 1 ≥ mg then pure (.done (none,s.2.1 - 1,s.2.2.1,s.2.2.2.1.push x,s.2.2.2.2.1 + 1,0)) else pure (.yield (none,s.2.1 - 1,s.2.2.1,s.2.2.2.1.push x,s.2.2.2.2.1 + 1,0))
def qB (a b:KA) (mg:Nat) (s:HP):SM (ForInStep HP):=do
 let y ← elem' b (s.2.2.1 - 1)
 if (s.2.2.1 - 1 == 1)=true then pure (.done (some (fB a b (s.2.2.2.1.push y) s.2.1 (s.2.2.1 - 1)),s.2.1,s.2.2.1 - 1,s.2.2.2.1.push y,0,s.2.2.2.2.2 + 1))
 else if s.2.2.2.2.2 + 1 ≥ mg then pure (.done (none,s.2.1,s.2.2.1 - 1,s.2.2.2.1.push y,0,s.2.2.2.2.2 + 1)) else pure (.yield (none,s.2.1,s.2.2.1 - 1,s.2.2.2.1.push y,0,s.2.2.2.2.2 + 1))
def pStepH (a b:KA) (mg:Nat) (_:Nat) (s:HP):SM (ForInStep HP):=do
 let x ← elem' b (s.2.2.1 - 1)
 let y ← elem' a (s.2.1 - 1)
 let z ← lt' x y
 match z with
 | some c=>if c=true then qA a b mg s else qB a b mg s
 | _=>pure (.done (some (dH a b s.2.2.2.1 s.2.1 s.2.2.1),s.2.1,s.2.2.1,s.2.2.2.1,s.2.2.2.2.1,s.2.2.2.2.2))
def oStepH (a b:KA) (_:Nat) (s:HO'):SM (ForInStep HO'):=do
 let u ← forIn [0:a.size + b.size] ((none,s.2.1,s.2.2.1,s.2.2.2.1,0,0):HP) (pStepH a b s.2.2.2.2)
 match u.1 with
 | some r=>pure (.done (some r,u.2.1,u.2.2.1,u.2.2.2.1,s.2.2.2.2))
 | none=>do
  liftM (rule "list.sort.gallop")
  let v ← forIn [0:a.size + b.size] ((none,u.2.1,u.2.2.1,u.2.2.2.1,s.2.2.2.2 + 1,u.2.2.2.2.1,u.2.2.2.2.2):HG) (gStepH a b)
  match v.1 with
  | some r=>pure (.done (some r,v.2.1,v.2.2.1,v.2.2.2.1,v.2.2.2.2.1))
  | none=>do
   setMg (v.2.2.2.2.1 + 1)
   pure (.yield (none,v.2.1,v.2.2.1,v.2.2.2.1,v.2.2.2.2.1 + 1))
theorem mergeHi'_eq (a b:KA):mergeHi' a b=(do
 liftM (rule "list.sort.merge-hi")
 let x ← elem' a (a.size - 1)
 if (a.size - 1 == 0)=true then pure (dH a b #[x] (a.size - 1) b.size)
 else if (b.size == 1)=true then pure (fB a b #[x] (a.size - 1) b.size)
 else do
  let g ← get
  let v ← forIn [0:a.size + b.size] ((none,a.size - 1,b.size,#[x],gallopOf g):HO') (oStepH a b)
  match v.1 with
  | some r=>pure r
  | none=>liftM (unsupported "internal:list.sort.merge-bound":Sem KA)):=by
 rw[mergeHi'_do]
 dsimp only
 congr 1;funext _;congr 1;funext x
 unfold dH fB
 congr 1;congr 1;congr 1;funext g
 congr 1
 ·congr 1
  funext _ s
  unfold oStepH
  congr 1
  funext u
  obtain⟨o,u⟩:=u
  cases o with
  | some r=>rfl
  | none =>
   show (liftM (rule "list.sort.gallop") >>= _)=(liftM (rule "list.sort.gallop") >>= _)
   congr 1;funext _
   show (forIn _ _ _ >>= _)=(forIn _ _ _ >>= _)
   congr 1
   funext v
   obtain⟨o,v⟩:=v
   cases o <;> rfl
 ·funext v
  obtain⟨o,v⟩:=v
  cases o <;> rfl
section
variable {prog:Program} {w:World} {A:Around} {E:Value->Shared->Prop} {s:Shared} {κ:SortKind} {it:Array Keyed} {N:Nat} {r:Nat->Int} {la lb:List Nat} {P0:KA} {pd:Array (Nat × Nat × Nat)}
abbrev ng (r:Nat->Int) (i:Nat):Int:=- r i
theorem arr_rev {it:KA} {l:List Nat}:(arr it l).reverse=arr it l.reverse:=by unfold arr;simp
theorem sd_rev {l:List Nat} (sl:Sd r l):Sd (ng r) l.reverse:=by
 exact List.pairwise_reverse.mpr (List.Pairwise.imp (fun h=>Int.neg_le_neg h) sl)
theorem sd_rev' {l:List Nat} (sl:Sd (ng r) l):Sd r l.reverse:=by
 exact List.pairwise_reverse.mpr (List.Pairwise.imp (fun h=>Int.le_of_neg_le_neg h) sl)
theorem rev_getD {l:List Nat} {i:Nat} (h:i < l.length):l.reverse.getD i 0=l.getD (l.length - 1 - i) 0:=by
 rw[List.getD_eq_getElem?_getD,List.getD_eq_getElem?_getD,List.getElem?_reverse h]
theorem Two.neg (t:Two N r la lb):Two N (ng r) lb.reverse la.reverse where
 a1:=by rw[List.length_reverse];exact t.b1
 b1:=by rw[List.length_reverse];exact t.a1
 na:=fun x hx=>t.nb x (List.mem_reverse.mp hx)
 nb:=fun x hx=>t.na x (List.mem_reverse.mp hx)
 sa:=sd_rev t.sb
 sb:=sd_rev t.sa
 first:=by
  have:=t.a1;have:=t.b1
  rw[rev_getD (by omega),rev_getD (by omega)]
  exact Int.neg_le_neg (t.last _ (getD_mem (by omega)))
 last:=fun x hx=>by
  have:=t.b1;have:=t.a1
  rw[rev_getD (by rw[List.length_reverse];omega),List.length_reverse,show lb.length - 1 - (lb.length - 1)=0 by omega]
  refine Int.neg_le_neg (Int.le_trans t.first ?_)
  exact t.sa.head (ia:=0) (by omega) x (List.mem_reverse.mp hx)
theorem Gm.neg {X:List Nat} (g:Gm (ng r) lb.reverse la.reverse X):Gm r la lb X.reverse :=
 ⟨(List.reverse_perm X).trans (g.1.trans (List.perm_append_comm.trans ((List.reverse_perm la).append (List.reverse_perm lb)))),sd_rev' g.2⟩
theorem drop_rev {l:List Nat} {k:Nat} (h:k≤l.length):(l.reverse.drop (l.length - k)).reverse=l.take k:=by
 rw[List.drop_reverse,List.reverse_reverse,show l.length - (l.length - k)=k by omega]
end
end Ts
namespace Ts
open PySem PySem.W PyProof.Rows
section
variable {prog:Program} {w:World} {A:Around} {E:Value->Shared->Prop} {s:Shared} {κ:SortKind} {it:Array Keyed} {N:Nat} {r:Nat->Int} {la lb:List Nat} {P0:KA} {pd:Array (Nat × Nat × Nat)}
theorem cut_rev {l:List Nat} {k n:Nat} (hk:k≤n) (hn:n≤l.length):((l.drop k).take (n - k)).reverse=(l.reverse.drop (l.length - n)).take (n - k):=by
 have e:l.reverse.drop (l.length - n)=(l.take n).reverse:=by rw[← drop_rev hn,List.reverse_reverse]
 rw[e,List.take_reverse,List.length_take,Nat.min_eq_left hn,show n - (n - k)=k by omega,List.drop_take]
theorem low_mem {l:List Nat} {k x:Nat} (hk:k≤l.length) (h:x ∈ l.reverse.drop (l.length - k)):∃ j,j < k∧x=l.getD j 0:=by
 have e:l.reverse.drop (l.length - k)=(l.take k).reverse:=by rw[← drop_rev hk,List.reverse_reverse]
 rw[e,List.mem_reverse] at h
 have h':x ∈ (l.drop 0).take k:=by rw[List.drop_zero];exact h
 obtain⟨j,j1,j2⟩:=take_mem h' (by omega)
 exact⟨j,j1,by rw[j2,Nat.zero_add]⟩
theorem ext_rev {l:List Nat} {k n:Nat} (hk:k≤n) (hn:n≤l.length):((arr it l).extract k n).reverse=arr it ((l.reverse.drop (l.length - n)).take (n - k)):=by
 rw[arr_ext,arr_rev,cut_rev hk hn]
theorem rev_top {l:List Nat} {n:Nat} (h1:1≤n) (hn:n≤l.length):l.reverse.getD (l.length - n) 0=l.getD (n - 1) 0:=by
 rw[rev_getD (by omega),show l.length - 1 - (l.length - n)=n - 1 by omega]
/-- on the way, from behind -/
structure Wh (r:Nat->Int) (la lb:List Nat) (L:List Nat) (na nb:Nat):Prop where
 m:Mg (ng r) lb.reverse la.reverse L (lb.length - nb) (la.length - na)
 hna:na≤la.length
 hnb:nb≤lb.length
 a0:1≤na
 b0:2≤nb
variable (t:Two N r la lb)
include t
theorem Two.doneH {L:List Nat} {na nb g:Nat} (m:Mg (ng r) lb.reverse la.reverse L (lb.length - nb) (la.length - na)) (hna:na≤la.length) (hnb:nb≤lb.length) (h:na=0∨nb=0):Rs r it κ P0 pd la lb (dH (arr it la) (arr it lb) (arr it L) na nb) (SS κ P0 pd g):=by
 have t':=t.neg
 refine⟨_,g,(m.done t'.sa t'.sb (by rw[List.length_reverse,List.length_reverse];omega)).neg,?_,rfl⟩
 unfold dH
 rw[arr_ext,arr_ext,arr_rev,arr_app,arr_app,List.reverse_append,List.reverse_append,drop_rev hna,drop_rev hnb,List.drop_zero,List.drop_zero,Nat.sub_zero,Nat.sub_zero,List.append_assoc]
theorem Two.lstH {L:List Nat} {na nb g:Nat} (m:Mg (ng r) lb.reverse la.reverse L (lb.length - nb) (la.length - na)) (hna:na≤la.length) (hnb:nb≤lb.length) (h:nb=1):Rs r it κ P0 pd la lb (fB (arr it la) (arr it lb) (arr it L) na nb) (SS κ P0 pd g):=by
 have t':=t.neg
 refine⟨_,g,(m.last t'.sa t'.sb fun x hx y hy=>?_).neg,?_,rfl⟩
 ·rw[drop_one (by rw[List.length_reverse];omega),List.drop_of_length_le (by rw[List.length_reverse];omega),List.mem_singleton] at hy
  rw[hy,show lb.length - nb=lb.reverse.length - 1 by rw[List.length_reverse,h]]
  exact t'.last x (List.mem_of_mem_drop hx)
 ·unfold fB
  rw[arr_ext,arr_ext,arr_rev,arr_app,arr_app,List.reverse_append,List.reverse_append,drop_rev hna,drop_rev hnb,List.drop_zero,List.drop_zero,Nat.sub_zero,Nat.sub_zero,List.append_assoc]
theorem Wh.pushA {L:List Nat} {na nb:Nat} (y:Wh r la lb L na nb) (h:∀ j,j < nb->r (lb.getD j 0)≤r (la.getD (na - 1) 0)):Mg (ng r) lb.reverse la.reverse (L++[la.getD (na - 1) 0]) (lb.length - nb) (la.length - (na - 1)):=by
 have:=y.hna;have:=y.a0
 have m:=y.m.pushB t.neg.sb (by rw[List.length_reverse];omega) fun z hz=>by
  obtain⟨j,j1,rfl⟩:=low_mem y.hnb hz
  rw[rev_top y.a0 y.hna]
  exact Int.neg_le_neg (h j j1)
 rw[rev_top y.a0 y.hna,show la.length - na + 1=la.length - (na - 1) by omega] at m
 exact m
theorem Wh.pushB {L:List Nat} {na nb:Nat} (y:Wh r la lb L na nb) (h:∀ j,j < na->r (la.getD j 0)≤r (lb.getD (nb - 1) 0)):Mg (ng r) lb.reverse la.reverse (L++[lb.getD (nb - 1) 0]) (lb.length - (nb - 1)) (la.length - na):=by
 have:=y.hnb;have:=y.b0
 have m:=y.m.pushA t.neg.sa (by rw[List.length_reverse];omega) fun z hz=>by
  obtain⟨j,j1,rfl⟩:=low_mem y.hna hz
  rw[rev_top (by omega) y.hnb]
  exact Int.neg_le_neg (h j j1)
 rw[rev_top (by omega) y.hnb,show lb.length - nb + 1=lb.length - (nb - 1) by omega] at m
 exact m
theorem appA_h {L:List Nat} {na nb k:Nat} (m:Mg (ng r) lb.reverse la.reverse L (lb.length - nb) (la.length - na)) (hna:na≤la.length) (hnb:nb≤lb.length) (hk:k≤na) (h:∀ i j,k≤i->i < na->j < nb->r (lb.getD j 0)≤r (la.getD i 0)):Mg (ng r) lb.reverse la.reverse (L++(la.reverse.drop (la.length - na)).take (na - k)) (lb.length - nb) (la.length - k):=by
 have m:=m.appB t.neg.sb (k:=na - k) (by rw[List.length_reverse];omega) fun x hx z hz=>by
  obtain⟨j,j1,rfl⟩:=low_mem hnb hz
  rw[← cut_rev hk hna,List.mem_reverse] at hx
  obtain⟨i,i1,rfl⟩:=take_mem hx (by omega)
  exact Int.neg_le_neg (h _ j (by omega) (by omega) j1)
 rw[show la.length - na + (na - k)=la.length - k by omega] at m
 exact m
theorem appB_h {L:List Nat} {na nb k:Nat} (m:Mg (ng r) lb.reverse la.reverse L (lb.length - nb) (la.length - na)) (hna:na≤la.length) (hnb:nb≤lb.length) (hk:k≤nb) (h:∀ i j,k≤i->i < nb->j < na->r (la.getD j 0)≤r (lb.getD i 0)):Mg (ng r) lb.reverse la.reverse (L++(lb.reverse.drop (lb.length - nb)).take (nb - k)) (lb.length - k) (la.length - na):=by
 have m:=m.appA t.neg.sa (k:=nb - k) (by rw[List.length_reverse];omega) fun x hx z hz=>by
  obtain⟨j,j1,rfl⟩:=low_mem hna hz
  rw[← cut_rev hk hnb,List.mem_reverse] at hx
  obtain⟨i,i1,rfl⟩:=take_mem hx (by omega)
  exact Int.neg_le_neg (h _ j (by omega) (by omega) j1)
 rw[show lb.length - nb + (nb - k)=lb.length - k by omega] at m
 exact m
theorem h3_w {L:List Nat} {mg ac bc na nb g:Nat} {R:ForInStep HG->SortSt->Prop} (y:Wh r la lb L na nb) (hx:∀ j,j < nb->r (lb.getD j 0)≤r (la.getD (na - 1) 0))
  (d:∀ o u st',Rs r it κ P0 pd la lb o st'->R (.done (some o,u)) st') (e:∀ L' na' nb' mg' ac' bc' g,Wh r la lb L' na' nb'->na' + nb' + 1≤na + nb->R (.done (none,na',nb',arr it L',mg',ac',bc')) (SS κ P0 pd g)∧R (.yield (none,na',nb',arr it L',mg',ac',bc')) (SS κ P0 pd g)) :
  wpS (model prog w) A E s (h3 (arr it la) (arr it lb) mg ac bc na (arr it L) nb) R (SS κ P0 pd g):=by
 have h0:=y.hna;have h1:=y.a0;have h2:=y.b0
 unfold h3
 refine wpS_bind (el_w (by omega) ?_)
 have m':=y.pushA t hx
 rw[arr_push]
 by_cases c:na - 1=0
 ·rw[if_pos (by simpa using c)]
  exact wpS_pure (d _ _ _ (t.doneH m' (by omega) y.hnb (.inl c)))
 ·rw[if_neg (by simpa using c)]
  have z:=e _ _ _ mg ac bc g (⟨m',by omega,y.hnb,by omega,h2⟩:Wh r la lb _ (na - 1) nb) (by omega)
  split
  ·exact wpS_pure z.1
  ·exact wpS_pure z.2
theorem h2_w (h:Srt.Ask N r (kas_cmp prog w A κ it) s) {L:List Nat} {mg ac bc na nb g:Nat} {R:ForInStep HG->SortSt->Prop} (y:Wh r la lb L na nb) (hx:∀ j,j < na->r (la.getD j 0)≤r (lb.getD (nb - 1) 0))
  (d:∀ o u st',Rs r it κ P0 pd la lb o st'->R (.done (some o,u)) st') (e:∀ L' na' nb' mg' ac' bc' g,Wh r la lb L' na' nb'->na' + nb' + 1≤na + nb->R (.done (none,na',nb',arr it L',mg',ac',bc')) (SS κ P0 pd g)∧R (.yield (none,na',nb',arr it L',mg',ac',bc')) (SS κ P0 pd g)) :
  wpS (model prog w) A E s (h2 (arr it la) (arr it lb) mg ac bc nb (arr it L) na) R (SS κ P0 pd g):=by
 have h0:=y.hna;have h1:=y.a0;have h2:=y.b0;have h4:=y.hnb
 unfold Ts.h2
 refine wpS_bind (el_w (by omega) ?_)
 have m':=y.pushB t hx
 rw[arr_push]
 by_cases c:nb - 1=1
 ·rw[if_pos (by simpa using c)]
  exact wpS_pure (d _ _ _ (t.lstH m' h0 (by omega) c))
 ·rw[if_neg (by simpa using c)]
  refine wpS_bind (el_w (by omega) ?_)
  refine wpS_bind (gal_w h rfl (t.pa (by omega)) t.nb t.sb (by omega) (by omega) fun k k1 k2 k3=>?_)
  dsimp only
  have lo:∀ j,j < k->r (lb.getD j 0)≤r (la.getD (na - 1) 0):=fun j hj=>by
   have a:=k2 j hj
   unfold By at a
   simp at a
   rw[← List.getD_eq_getElem?_getD,← List.getD_eq_getElem?_getD] at a
   exact Int.le_of_lt a
  have hi:∀ i,k≤i->i < nb - 1->r (la.getD (na - 1) 0)≤r (lb.getD i 0):=fun i i1 i2=>by
   have a:=k3 i i1 i2
   unfold By at a
   simp at a
   rw[← List.getD_eq_getElem?_getD,← List.getD_eq_getElem?_getD] at a
   exact a
  by_cases ck:nb - 1 - k > 0
  ·rw[if_pos ck,ext_rev (by omega) (by omega),arr_app]
   have m2:=appB_h t m' h0 (by omega) (k:=k) (by omega) fun i j i1 i2 j1=>Int.le_trans (sd_up t.sa (by omega) (by omega)) (hi i i1 i2)
   by_cases c1:k=1
   ·rw[if_pos (by simpa using c1)]
    exact wpS_pure (d _ _ _ (t.lstH m2 h0 (by omega) c1))
   rw[if_neg (by simpa using c1)]
   by_cases c2:k=0
   ·rw[if_pos (by simpa using c2)]
    exact wpS_pure (d _ _ _ (t.doneH m2 h0 (by omega) (.inr c2)))
   ·rw[if_neg (by simpa using c2)]
    exact h3_w t ⟨m2,h0,by omega,h1,by omega⟩ lo d fun L' na' nb' mg' ac' bc' g y' hy'=>e L' na' nb' mg' ac' bc' g y' (by omega)
  ·rw[if_neg ck]
   have k0:k=nb - 1:=by omega
   subst k0
   exact h3_w t ⟨m',h0,by omega,h1,by omega⟩ lo d fun L' na' nb' mg' ac' bc' g y' hy'=>e L' na' nb' mg' ac' bc' g y' (by omega)
theorem h1_w (h:Srt.Ask N r (kas_cmp prog w A κ it) s) {L:List Nat} {mg ac bc na nb g:Nat} {R:ForInStep HG->SortSt->Prop} (y:Wh r la lb L na nb)
  (d:∀ o u st',Rs r it κ P0 pd la lb o st'->R (.done (some o,u)) st') (e:∀ L' na' nb' mg' ac' bc' g,Wh r la lb L' na' nb'->na' + nb' + 1≤na + nb->R (.done (none,na',nb',arr it L',mg',ac',bc')) (SS κ P0 pd g)∧R (.yield (none,na',nb',arr it L',mg',ac',bc')) (SS κ P0 pd g)) :
  wpS (model prog w) A E s (h1 (arr it la) (arr it lb) na nb (arr it L) ac bc mg) R (SS κ P0 pd g):=by
 have h0:=y.hna;have h1:=y.a0;have h2:=y.b0;have h4:=y.hnb
 unfold Ts.h1
 refine wpS_bind (setMg_w (wpS_bind (el_w (by omega) ?_)))
 refine wpS_bind (gal_w h rfl (t.pb (by omega)) t.na t.sa (by omega) (by omega) fun k k1 k2 k3=>?_)
 dsimp only
 have lo:∀ j,j < k->r (la.getD j 0)≤r (lb.getD (nb - 1) 0):=fun j hj=>by
  have a:=k2 j hj
  unfold By at a
  simp at a
  rw[← List.getD_eq_getElem?_getD,← List.getD_eq_getElem?_getD] at a
  exact a
 have hi:∀ i,k≤i->i < na->r (lb.getD (nb - 1) 0)≤r (la.getD i 0):=fun i i1 i2=>by
  have a:=k3 i i1 i2
  unfold By at a
  simp at a
  rw[← List.getD_eq_getElem?_getD,← List.getD_eq_getElem?_getD] at a
  exact Int.le_of_lt a
 by_cases ck:na - k > 0
 ·rw[if_pos ck,ext_rev (by omega) (by omega),arr_app]
  have m2:=appA_h t y.m h0 h4 (k:=k) (by omega) fun i j i1 i2 j1=>Int.le_trans (sd_up t.sb (by omega) (by omega)) (hi i i1 i2)
  by_cases c1:k=0
  ·rw[if_pos (by simpa using c1)]
   exact wpS_pure (d _ _ _ (t.doneH m2 (by omega) h4 (.inl c1)))
  ·rw[if_neg (by simpa using c1)]
   exact h2_w t h ⟨m2,by omega,h4,by omega,h2⟩ lo d fun L' na' nb' mg' ac' bc' g y' hy'=>e L' na' nb' mg' ac' bc' g y' (by omega)
 ·rw[if_neg ck]
  have k0:k=na:=by omega
  subst k0
  exact h2_w t h y lo d e
theorem gStepH_w (h:Srt.Ask N r (kas_cmp prog w A κ it) s) {L:List Nat} {x mg ac bc na nb g:Nat} {R:ForInStep HG->SortSt->Prop} (y:Wh r la lb L na nb)
  (d:∀ o u st',Rs r it κ P0 pd la lb o st'->R (.done (some o,u)) st') (e:∀ L' na' nb' mg' ac' bc' g,Wh r la lb L' na' nb'->na' + nb' + 1≤na + nb->R (.done (none,na',nb',arr it L',mg',ac',bc')) (SS κ P0 pd g)∧R (.yield (none,na',nb',arr it L',mg',ac',bc')) (SS κ P0 pd g)) :
  wpS (model prog w) A E s (gStepH (arr it la) (arr it lb) x (none,na,nb,arr it L,mg,ac,bc)) R (SS κ P0 pd g):=by
 unfold gStepH
 dsimp only
 split <;> exact h1_w t h y d e
theorem pStepH_w (h:Srt.Ask N r (kas_cmp prog w A κ it) s) {L:List Nat} {x mg ac bc na nb g:Nat} {R:ForInStep HP->SortSt->Prop} (y:Wh r la lb L na nb)
  (d:∀ o u st',Rs r it κ P0 pd la lb o st'->R (.done (some o,u)) st') (e:∀ L' na' nb' ac' bc' g,Wh r la lb L' na' nb'->na' + nb' + 1≤na + nb->R (.done (none,na',nb',arr it L',ac',bc')) (SS κ P0 pd g)∧R (.yield (none,na',nb',arr it L',ac',bc')) (SS κ P0 pd g)) :
  wpS (model prog w) A E s (pStepH (arr it la) (arr it lb) mg x (none,na,nb,arr it L,ac,bc)) R (SS κ P0 pd g):=by
 have h0:=y.hna;have h1:=y.a0;have h2:=y.b0;have h4:=y.hnb
 unfold pStepH
 dsimp only
 refine wpS_bind (el_w (by omega) (wpS_bind (el_w (by omega) (wpS_bind (lt_w h rfl (t.pb (by omega)) (t.pa (by omega)) ?_)))))
 dsimp only
 by_cases c:r (lb.getD (nb - 1) 0) < r (la.getD (na - 1) 0)
 ·rw[decide_eq_true c,if_pos rfl]
  unfold qA
  dsimp only
  refine wpS_bind (el_w (by omega) ?_)
  have m':=y.pushA t fun j hj=>Int.le_trans (sd_up t.sb (by omega) (by omega)) (Int.le_of_lt c)
  rw[arr_push]
  by_cases c2:na - 1=0
  ·rw[if_pos (by simpa using c2)]
   exact wpS_pure (d _ _ _ (t.doneH m' (by omega) h4 (.inl c2)))
  ·rw[if_neg (by simpa using c2)]
   have z:=e _ _ _ (ac + 1) 0 g (⟨m',by omega,h4,by omega,h2⟩:Wh r la lb _ (na - 1) nb) (by omega)
   split
   ·exact wpS_pure z.1
   ·exact wpS_pure z.2
 ·rw[decide_eq_false c,if_neg (by simp)]
  unfold qB
  dsimp only
  refine wpS_bind (el_w (by omega) ?_)
  have m':=y.pushB t fun j hj=>Int.le_trans (sd_up t.sa (by omega) (by omega)) (Int.not_lt.mp c)
  rw[arr_push]
  by_cases c2:nb - 1=1
  ·rw[if_pos (by simpa using c2)]
   exact wpS_pure (d _ _ _ (t.lstH m' h0 (by omega) c2))
  ·rw[if_neg (by simpa using c2)]
   have z:=e _ _ _ 0 (bc + 1) g (⟨m',h0,by omega,h1,by omega⟩:Wh r la lb _ na (nb - 1)) (by omega)
   split
   ·exact wpS_pure z.1
   ·exact wpS_pure z.2
theorem oStepH_w (h:Srt.Ask N r (kas_cmp prog w A κ it) s) {L:List Nat} {x mg na nb g:Nat} {R:ForInStep HO'->SortSt->Prop} (y:Wh r la lb L na nb)
  (d:∀ o u st',Rs r it κ P0 pd la lb o st'->R (.done (some o,u)) st') (e:∀ L' na' nb' mg' g,Wh r la lb L' na' nb'->na' + nb' + 1≤na + nb->R (.yield (none,na',nb',arr it L',mg')) (SS κ P0 pd g)) :
  wpS (model prog w) A E s (oStepH (arr it la) (arr it lb) x (none,na,nb,arr it L,mg)) R (SS κ P0 pd g):=by
 have g0:=y.hna;have g4:=y.hnb
 unfold oStepH
 dsimp only
 rw[arr_size,arr_size]
 refine wpS_bind (wpS_mono (wpS_forRange (I:=fun x c st'=>∃ L' na' nb' ac' bc' g',c=(none,na',nb',arr it L',ac',bc')∧st'=SS κ P0 pd g'∧Wh r la lb L' na' nb'∧na' + nb' + x≤na + nb)
  (Q:=fun c st'=>(∃ o u,c=(some o,u)∧Rs r it κ P0 pd la lb o st')∨∃ L' na' nb' ac' bc' g',c=(none,na',nb',arr it L',ac',bc')∧st'=SS κ P0 pd g'∧Wh r la lb L' na' nb'∧na' + nb' + 1≤na + nb) (fun x c st' _ _ hI=>?_) (fun c st' hI=>?_) ⟨L,na,nb,0,0,g,rfl,rfl,y,Nat.le_refl _⟩) (fun c st' hI=>?_))
 ·obtain⟨L',na',nb',ac',bc',g',rfl,rfl,y',p'⟩:=hI
  exact pStepH_w t h y' (fun o u st' hr=>.inl ⟨o,u,rfl,hr⟩) fun L2 na2 nb2 ac2 bc2 g2 y2 p2=>⟨.inr ⟨L2,na2,nb2,ac2,bc2,g2,rfl,rfl,y2,by omega⟩,⟨L2,na2,nb2,ac2,bc2,g2,rfl,rfl,y2,by omega⟩⟩
 ·obtain⟨L',na',nb',ac',bc',g',rfl,rfl,y',p'⟩:=hI
  have h1:=y'.a0
  have h2:=y'.b0
  omega
 rcases hI with ⟨o,u,rfl,hr⟩ | ⟨L',na',nb',ac',bc',g',rfl,rfl,y',p'⟩
 ·exact wpS_pure (d _ _ _ hr)
 dsimp only
 refine wpS_bind (wpS_lift (wpAny_rule ⟨rfl,?_⟩))
 refine wpS_bind (wpS_mono (wpS_forRange (I:=fun x c st'=>∃ L2 na2 nb2 mg2 ac2 bc2 g2,c=(none,na2,nb2,arr it L2,mg2,ac2,bc2)∧st'=SS κ P0 pd g2∧Wh r la lb L2 na2 nb2∧na2 + nb2 + x≤na' + nb')
  (Q:=fun c st'=>(∃ o u,c=(some o,u)∧Rs r it κ P0 pd la lb o st')∨∃ L2 na2 nb2 mg2 ac2 bc2 g2,c=(none,na2,nb2,arr it L2,mg2,ac2,bc2)∧st'=SS κ P0 pd g2∧Wh r la lb L2 na2 nb2∧na2 + nb2≤na' + nb') (fun x c st' _ _ hI=>?_) (fun c st' hI=>?_) ⟨L',na',nb',mg + 1,ac',bc',g',rfl,rfl,y',Nat.le_refl _⟩) (fun c st' hI=>?_))
 ·obtain⟨L2,na2,nb2,mg2,ac2,bc2,g2,rfl,rfl,y2,p2⟩:=hI
  exact gStepH_w t h y2 (fun o u st' hr=>.inl ⟨o,u,rfl,hr⟩) fun L3 na3 nb3 mg3 ac3 bc3 g3 y3 p3=>⟨.inr ⟨L3,na3,nb3,mg3,ac3,bc3,g3,rfl,rfl,y3,by omega⟩,⟨L3,na3,nb3,mg3,ac3,bc3,g3,rfl,rfl,y3,by omega⟩⟩
 ·obtain⟨L2,na2,nb2,mg2,ac2,bc2,g2,rfl,rfl,y2,p2⟩:=hI
  have h1:=y2.a0
  have h2:=y2.b0
  have h3:=y'.hna;have h4:=y'.hnb
  omega
 rcases hI with ⟨o,u,rfl,hr⟩ | ⟨L2,na2,nb2,mg2,ac2,bc2,g2,rfl,rfl,y2,p2⟩
 ·exact wpS_pure (d _ _ _ hr)
 dsimp only
 exact wpS_bind (setMg_w (wpS_pure (e _ _ _ _ _ y2 (by omega))))
theorem mergeHi_w (h:Srt.Ask N r (kas_cmp prog w A κ it) s) {g:Nat} {Q:KA->SortSt->Prop} (z:∀ X g,Gm r la lb X->Q (arr it X) (SS κ P0 pd g)):wpS (model prog w) A E s (mergeHi' (arr it la) (arr it lb)) Q (SS κ P0 pd g):=by
 have a1:=t.a1
 have b1:=t.b1
 have t':=t.neg
 have zz:∀ {o st'},Rs r it κ P0 pd la lb o st'->Q o st':=fun {o st'} ⟨X,g,gm,e1,e2⟩=>by rw[e1,e2];exact z X g gm
 rw[mergeHi'_eq]
 refine wpS_bind (wpS_lift (wpAny_rule ⟨rfl,?_⟩))
 rw[arr_size,arr_size]
 refine wpS_bind (el_w (by omega) ?_)
 have m:=Mg.start (la:=lb.reverse) t'.sb t'.b1 fun y hy=>Int.le_trans t'.first (t'.sa.head (ia:=0) t'.a1 y hy)
 rw[rev_getD a1,Nat.sub_zero] at m
 have m:Mg (ng r) lb.reverse la.reverse [la.getD (la.length - 1) 0] (lb.length - lb.length) (la.length - (la.length - 1)):=by
  rw[Nat.sub_self,show la.length - (la.length - 1)=1 by omega];exact m
 rw[arr_one]
 by_cases c1:la.length - 1=0
 ·rw[if_pos (by simpa using c1)]
  exact wpS_pure (zz (t.doneH m (by omega) (by omega) (.inl c1)))
 rw[if_neg (by simpa using c1)]
 by_cases c2:lb.length=1
 ·rw[if_pos (by simpa using c2)]
  exact wpS_pure (zz (t.lstH m (by omega) (by omega) c2))
 rw[if_neg (by simpa using c2)]
 refine wpS_bind (wpS_get ?_)
 refine wpS_bind (wpS_mono (wpS_forRange (I:=fun x c st'=>∃ L' na' nb' mg' g',c=(none,na',nb',arr it L',mg')∧st'=SS κ P0 pd g'∧Wh r la lb L' na' nb'∧na' + nb' + x≤la.length + lb.length)
  (Q:=fun c st'=>∃ o u,c=(some o,u)∧Rs r it κ P0 pd la lb o st') (fun x c st' _ _ hI=>?_) (fun c st' hI=>?_) ⟨_,_,_,_,g,rfl,rfl,⟨m,by omega,by omega,by omega,by omega⟩,by omega⟩) (fun c st' hI=>?_))
 ·obtain⟨L',na',nb',mg',g',rfl,rfl,y',p'⟩:=hI
  exact oStepH_w t h y' (fun o u st' hr=>⟨o,u,rfl,hr⟩) fun L2 na2 nb2 mg2 g2 y2 p2=>⟨L2,na2,nb2,mg2,g2,rfl,rfl,y2,by omega⟩
 ·obtain⟨L',na',nb',mg',g',rfl,rfl,y',p'⟩:=hI
  have h1:=y'.a0
  have h2:=y'.b0
  omega
 ·obtain⟨o,u,rfl,hr⟩:=hI
  exact wpS_pure (zz hr)
end
end Ts
namespace Ts
open PySem PySem.W PyProof.Rows
abbrev AS:=Option (Option Nat) × Nat
abbrev DS:=Option (Option Nat) × Nat × Nat
def aStep (lo:Nat) (_:Nat) (s:AS):SM (ForInStep AS):=do
 let x ← ltAt' (lo + s.2) (lo + s.2 - 1)
 match x with
 | some c=>if c=true then pure (.done (none,s.2)) else pure (.yield (none,s.2 + 1))
 | _=>pure (.done (some none,s.2))
def dYes (lo:Nat) (s:DS):SM (ForInStep DS) :=
 if s.2.2 > 0 then do
  reverseSlice' (lo + s.2.1 - (s.2.2 + 1)) (lo + s.2.1)
  pure (.yield (none,s.2.1 + 1,0))
 else pure (.yield (none,s.2.1 + 1,0))
def dNo (lo:Nat) (s:DS):SM (ForInStep DS):=do
 let y ← ltAt' (lo + s.2.1 - 1) (lo + s.2.1)
 match y with
 | some d=>if d=true then pure (.done (none,s.2.1,s.2.2)) else pure (.yield (none,s.2.1 + 1,s.2.2 + 1))
 | _=>pure (.done (some none,s.2.1,s.2.2))
def dStep (lo:Nat) (_:Nat) (s:DS):SM (ForInStep DS):=do
 let x ← ltAt' (lo + s.2.1) (lo + s.2.1 - 1)
 match x with
 | some c=>if c=true then dYes lo s else dNo lo s
 | _=>pure (.done (some none,s.2.1,s.2.2))
def cTail (lo nrem n:Nat):SM (Option Nat):=do
 reverseSlice' lo (lo + n)
 let s ← forIn [n:nrem] ((none,n):AS) (aStep lo)
 match s.1 with
 | some r=>pure r
 | none=>pure (some s.2)
def cDesc (lo nrem n:Nat):SM (Option Nat):=do
 liftM (rule "list.sort.descending-run")
 let s ← forIn [n + 1:nrem] ((none,n + 1,0):DS) (dStep lo)
 match s.1 with
 | some r=>pure r
 | none => if s.2.2 > 0 then (do
     reverseSlice' (lo + s.2.1 - (s.2.2 + 1)) (lo + s.2.1)
     cTail lo nrem s.2.1) else cTail lo nrem s.2.1
theorem countRun_eq2 (lo nrem:Nat):countRun' lo nrem=(do
 let s ← forIn [1:nrem] ((none,1):AS) (aStep lo)
 match s.1 with
 | some r=>pure r
 | none => if (s.2 == nrem) = true then pure (some s.2) else if s.2 > 1 then (do
     let x ← ltAt' lo (lo + s.2 - 1)
     match x with
     | some c => if c = true then pure (some s.2) else (do
         reverseSlice' lo (lo + s.2)
         cDesc lo nrem s.2)
     | _=>pure none) else cDesc lo nrem s.2):=by
 rw[countRun'_eq]
 dsimp only
 congr 1
 funext u
 obtain⟨o,n⟩:=u
 cases o with
 | some r=>rfl
 | none =>
  have e : ∀ n, (do
      liftM (rule "list.sort.descending-run")
      let s ← forIn [n + 1:nrem] ((none,n + 1,0):DS) (dStep lo)
      match s.1 with
      | some r=>pure r
      | none => if s.2.2 > 0 then (do
          reverseSlice' (lo + s.2.1 - (s.2.2 + 1)) (lo + s.2.1)
          reverseSlice' lo (lo + s.2.1)
          let v ← forIn [s.2.1:nrem] ((none,s.2.1):AS) (aStep lo)
          match v.1 with
          | some r=>pure r
          | none=>pure (some v.2)) else (do
          reverseSlice' lo (lo + s.2.1)
          let v ← forIn [s.2.1:nrem] ((none,s.2.1):AS) (aStep lo)
          match v.1 with
          | some r=>pure r
          | none=>pure (some v.2)):SM (Option Nat))=cDesc lo nrem n:=fun n=>rfl
  show (if (n == nrem)=true then _ else _)=(if (n == nrem)=true then _ else _)
  congr 1
  show (if n > 1 then _ else _)=(if n > 1 then _ else _)
  rw[← e n]
  congr 1
  ·congr 1
   funext x
   cases x with
   | none=>rfl
   | some c =>
    show (if c=true then _ else _)=(if c=true then _ else _)
    congr 1
    congr 1
    funext _
    congr 1
    funext _
    congr 1
    funext v
    obtain⟨o,v⟩:=v
    cases o with
    | some r=>rfl
    | none =>
     dsimp only
     congr 1
     ·congr 1;funext _;congr 1;funext _;congr 1;funext v
      obtain⟨o,v⟩:=v
      cases o <;> rfl
     ·congr 1;funext _;congr 1;funext v
      obtain⟨o,v⟩:=v
      cases o <;> rfl
  ·congr 1
   funext _
   congr 1
   funext v
   obtain⟨o,v⟩:=v
   cases o with
   | some r=>rfl
   | none =>
    dsimp only
    congr 1
    ·congr 1;funext _;congr 1;funext _;congr 1;funext v
     obtain⟨o,v⟩:=v
     cases o <;> rfl
    ·congr 1;funext _;congr 1;funext v
     obtain⟨o,v⟩:=v
     cases o <;> rfl
abbrev BS':=Option Bool × Nat × Nat
def sStep (lo k:Nat) (_:Nat) (s:BS'):SM (ForInStep BS') :=
 if s.2.1 ≥ s.2.2 then pure (.done (none,s.2.1,s.2.2)) else do
  let x ← ltAt' (lo + k) (lo + (s.2.1 + s.2.2) / 2)
  match x with
  | some c=>if c=true then pure (.yield (none,s.2.1,(s.2.1 + s.2.2) / 2)) else pure (.yield (none,(s.2.1 + s.2.2) / 2 + 1,s.2.2))
  | _=>pure (.done (some false,s.2.1,s.2.2))
def bStep (lo:Nat) (k:Nat) (_:Option Bool × Unit):SM (ForInStep (Option Bool × Unit)):=do
 let s ← forIn [0:k] ((none,0,k):BS') (sStep lo k)
 match s.1 with
 | some r=>pure (.done (some r,()))
 | none=>do
  moveDown' (lo + k) (lo + s.2.1)
  pure (.yield (none,()))
theorem binarySort_eq2 (lo n ok:Nat):binarySort' lo n ok=(do
 let s ← forIn [max ok 1:n] ((none,()):Option Bool × Unit) (bStep lo)
 match s.1 with
 | some r=>pure r
 | none=>pure true):=by
 rw[binarySort'_eq]
 dsimp only
 congr 1
 ·congr 1
  funext k u
  unfold bStep
  congr 1
  funext v
  obtain⟨o,v⟩:=v
  cases o <;> rfl
 ·funext v
  obtain⟨o,v⟩:=v
  cases o <;> rfl
end Ts
namespace Ts
open PySem PySem.W PyProof.Rows Srt
section
variable {prog:Program} {w:World} {A:Around} {E:Value->Shared->Prop} {s:Shared} {κ:SortKind} {it:Array Keyed} {N:Nat} {r:Nat->Int} {p p' p'':Array Nat} {pd:Array (Nat × Nat × Nat)} {gl:Nat}
abbrev SP (κ:SortKind) (it:KA) (p:Array Nat) (pd:Array (Nat × Nat × Nat)) (g:Nat):SortSt:=SS κ (p.map (kas_item it)) pd g
/-- from s on n places rise -/
def Rn (r:Nat->Int) (p:Array Nat) (s n:Nat):Prop:=∀ i j,s≤i->i≤j->j < s + n->ky r p i≤ky r p j
def Fl (r:Nat->Int) (p:Array Nat) (s n:Nat):Prop:=∀ i j,s≤i->i≤j->j < s + n->ky r p j≤ky r p i
/-- alike but from x to y -/
def Ag (p p':Array Nat) (x y:Nat):Prop:=∀ i,(i < x∨y≤i)->p'.getD i 0=p.getD i 0
theorem Ag.refl {x y:Nat}:Ag p p x y:=fun _ _=>rfl
theorem Ag.trans {x y:Nat} (a:Ag p p' x y) (b:Ag p' p'' x y):Ag p p'' x y:=fun i h=>(b i h).trans (a i h)
theorem Ag.wide {x y x' y':Nat} (a:Ag p p' x y) (h1:x'≤x) (h2:y≤y'):Ag p p' x' y':=fun i h=>a i (by omega)
theorem Rn.ag {x y a n:Nat} (u:Rn r p a n) (g:Ag p p' x y) (h:a + n≤x∨y≤a):Rn r p' a n:=fun i j h1 h2 h3=>by
 unfold ky
 rw[g i (by omega),g j (by omega)]
 exact u i j h1 h2 h3
theorem Rn.one (a:Nat):Rn r p a 1:=fun i j h1 h2 h3=>by
 have:i=j:=by omega
 rw[this];exact Int.le_refl _
theorem Rn.snoc {a n:Nat} (u:Rn r p a n) (h1:1≤n) (h:ky r p (a + n - 1)≤ky r p (a + n)):Rn r p a (n + 1):=fun i j c1 c2 c3=>by
 by_cases e:j=a + n
 ·rw[e]
  by_cases e2:i=a + n
  ·rw[e2];exact Int.le_refl _
  ·exact Int.le_trans (u i (a + n - 1) c1 (by omega) (by omega)) h
 ·exact u i j c1 c2 (by omega)
theorem Fl.snoc {a n:Nat} (u:Fl r p a n) (h1:1≤n) (h:ky r p (a + n)≤ky r p (a + n - 1)):Fl r p a (n + 1):=fun i j c1 c2 c3=>by
 by_cases e:j=a + n
 ·rw[e]
  by_cases e2:i=a + n
  ·rw[e2];exact Int.le_refl _
  ·exact Int.le_trans h (u i (a + n - 1) c1 (by omega) (by omega))
 ·exact u i j c1 c2 (by omega)
theorem ag_rev {i j x y:Nat} (hj:j≤p.size) (h1:x≤i) (h2:j≤y):Ag p (kas_rev p i j) x y:=fun k hk=>by
 have e:=getElem?_mirror_all (i:=i) hj k
 rw[if_neg (by omega)] at e
 have f:∀ (a:Array Nat) (k:Nat),a.getD k 0=(a[k]?).getD 0:=fun a k=>by by_cases hk:k < a.size <;> simp [Array.getD,hk]
 rw[f,f]
 exact congrArg (·.getD 0) e
theorem ag_bub {k d x y:Nat} (hs:k < p.size) (hd:d≤k) (h1:x≤k - d) (h2:k < y):Ag p (bubble p k d) x y:=fun m hm=>by
 have e:=getElem?_bubble hs d hd m
 rw[if_neg (by omega),if_neg (by omega)] at e
 have f:∀ (a:Array Nat) (k:Nat),a.getD k 0=(a[k]?).getD 0:=fun a k=>by by_cases hk:k < a.size <;> simp [Array.getD,hk]
 rw[f,f]
 exact congrArg (·.getD 0) e
theorem ltAt_w {i j:Nat} {Q:Option Bool->SortSt->Prop} (h:Srt.Ask N r (kas_cmp prog w A κ it) s) (g:Gd N p) (hi:i < N) (hj:j < N) (z:Q (some (decide (ky r p i < ky r p j))) (SP κ it p pd gl)):wpS (model prog w) A E s (ltAt' i j) Q (SP κ it p pd gl):=by
 rw[ltAt'_eq]
 refine wpS_bind (wpS_get ?_)
 show wpS _ _ _ _ (do let x ← elem' (p.map (kas_item it)) i;let y ← elem' (p.map (kas_item it)) j;lt' x y) _ _
 have sz:=g.sz
 exact wpS_bind (elem_w (by omega) (wpS_bind (elem_w (by omega) (lt_w h rfl (g.lt (by omega) _) (g.lt (by omega) _) z))))
theorem rev_w {i j:Nat} {Q:Unit->SortSt->Prop} (z:Q () (SP κ it (kas_rev p i j) pd gl)):wpS (model prog w) A E s (reverseSlice' i j) Q (SP κ it p pd gl):=by
 rw[reverseSlice'_eq]
 refine wpS_modify ?_
 have e:setArr (SP κ it p pd gl) (mirror (arrOf (SP κ it p pd gl)) i j ((j - i) / 2))=SP κ it (kas_rev p i j) pd gl:=by
  show SortSt.mk' κ (mirror (p.map (kas_item it)) i j ((j - i) / 2)) pd gl none=SortSt.mk' κ ((mirror p i j ((j - i) / 2)).map (kas_item it)) pd gl none
  rw[show mirror (p.map (kas_item it)) i j ((j - i) / 2)=(mirror p i j ((j - i) / 2)).map (kas_item it) from kas_swaps_map (kas_item it) (fun k=>i + k) (fun k=>j - 1 - k) _ p]
 rw[e];exact z
theorem move_w {k l:Nat} {Q:Unit->SortSt->Prop} (z:Q () (SP κ it (bubble p k (k - l)) pd gl)):wpS (model prog w) A E s (moveDown' k l) Q (SP κ it p pd gl):=by
 rw[moveDown'_eq]
 refine wpS_modify ?_
 have e:setArr (SP κ it p pd gl) (bubble (arrOf (SP κ it p pd gl)) k (k - l))=SP κ it (bubble p k (k - l)) pd gl:=by
  show SortSt.mk' κ (bubble (p.map (kas_item it)) k (k - l)) pd gl none=SortSt.mk' κ ((bubble p k (k - l)).map (kas_item it)) pd gl none
  rw[show bubble (p.map (kas_item it)) k (k - l)=(bubble p k (k - l)).map (kas_item it) from kas_swaps_map (kas_item it) (fun i=>k - i) (fun i=>k - i - 1) _ p]
 rw[e];exact z
theorem aLoop_w (h:Srt.Ask N r (kas_cmp prog w A κ it) s) (g:Gd N p) {lo nrem a:Nat} {Q:AS->SortSt->Prop} (hl:lo + nrem≤N) (ha:1≤a) (han:a≤nrem) (u:Rn r p lo a)
  (z:∀ m,a≤m->m≤nrem->Rn r p lo m->(m < nrem->ky r p (lo + m) < ky r p (lo + m - 1))->Q (none,m) (SP κ it p pd gl)):wpS (model prog w) A E s (forIn [a:nrem] ((none,a):AS) (aStep lo)) Q (SP κ it p pd gl):=by
 refine wpS_forRange (I:=fun x c st'=>st'=SP κ it p pd gl∧c=(none,x)∧Rn r p lo x) (fun x c st' hx1 hx2 hI=>?_) (fun c st' hI=>?_) ⟨rfl,rfl,u⟩
 ·obtain⟨rfl,rfl,u'⟩:=hI
  unfold aStep
  dsimp only
  refine wpS_bind (ltAt_w h g (by omega) (by omega) ?_)
  dsimp only
  by_cases c:ky r p (lo + x) < ky r p (lo + x - 1)
  ·rw[decide_eq_true c,if_pos rfl]
   exact wpS_pure (z x hx1 (by omega) u' fun _=>c)
  ·rw[decide_eq_false c,if_neg (by simp)]
   exact wpS_pure ⟨rfl,rfl,u'.snoc (by omega) (Int.not_lt.mp c)⟩
 ·obtain⟨rfl,rfl,u'⟩:=hI
  rw[Nat.max_eq_right han] at u' ⊢
  exact z nrem han (Nat.le_refl _) u' fun q=>absurd q (Nat.lt_irrefl _)
theorem cTail_w (h:Srt.Ask N r (kas_cmp prog w A κ it) s) (g:Gd N p) {lo nrem n:Nat} {Q:Option Nat->SortSt->Prop} (hl:lo + nrem≤N) (h1:1≤n) (hn:n≤nrem) (f:Fl r p lo n)
  (z:∀ m p',Gd N p'->1≤m->m≤nrem->Rn r p' lo m->Ag p p' lo (lo + nrem)->Q (some m) (SP κ it p' pd gl)):wpS (model prog w) A E s (cTail lo nrem n) Q (SP κ it p pd gl):=by
 have sz:=g.sz
 unfold cTail
 refine wpS_bind (rev_w ?_)
 have g':=g.rev lo (lo + n)
 refine wpS_bind (aLoop_w h g' hl h1 hn (fun i j c1 c2 c3=>?_) fun m m1 m2 u _=>wpS_pure (z m _ g' (by omega) m2 u (ag_rev (by omega) (Nat.le_refl _) (by omega))))
 rw[ky_rev (by omega),ky_rev (by omega),if_pos (by omega),if_pos (by omega)]
 exact f _ _ (by omega) (by omega) (by omega)
theorem cDesc_w (h:Srt.Ask N r (kas_cmp prog w A κ it) s) (g:Gd N p) {lo nrem n:Nat} {Q:Option Nat->SortSt->Prop} (hl:lo + nrem≤N) (h1:1≤n) (hn:n + 1≤nrem) (f:Fl r p lo (n + 1))
  (z:∀ m p',Gd N p'->1≤m->m≤nrem->Rn r p' lo m->Ag p p' lo (lo + nrem)->Q (some m) (SP κ it p' pd gl)):wpS (model prog w) A E s (cDesc lo nrem n) Q (SP κ it p pd gl):=by
 have sz:=g.sz
 unfold cDesc
 refine wpS_bind (wpS_lift (wpAny_rule ⟨rfl,?_⟩))
 refine wpS_bind (wpS_mono (wpS_forRange (I:=fun x c st'=>∃ p' q,st'=SP κ it p' pd gl∧c=(none,x,q)∧Gd N p'∧Ag p p' lo (lo + nrem)∧Fl r p' lo x∧q + 1≤x∧∀ i,x - (q + 1)≤i->i < x->ky r p' (lo + i)=ky r p' (lo + x - 1))
  (Q:=fun c st'=>∃ p' m q,st'=SP κ it p' pd gl∧c=(none,m,q)∧Gd N p'∧Ag p p' lo (lo + nrem)∧Fl r p' lo m∧1≤m∧m≤nrem∧q + 1≤m∧∀ i,m - (q + 1)≤i->i < m->ky r p' (lo + i)=ky r p' (lo + m - 1)) (fun x c st' hx1 hx2 hI=>?_) (fun c st' hI=>?_)
  ⟨p,0,rfl,rfl,g,Ag.refl,f,by omega,fun i i1 i2=>by congr 1;omega⟩) (fun c st' hI=>?_))
 ·obtain⟨p',q,rfl,rfl,g',ag,f',hq,eq⟩:=hI
  have sz':=g'.sz
  unfold dStep
  dsimp only
  refine wpS_bind (ltAt_w h g' (by omega) (by omega) ?_)
  dsimp only
  by_cases c:ky r p' (lo + x) < ky r p' (lo + x - 1)
  ·rw[decide_eq_true c,if_pos rfl]
   have f2:=f'.snoc (by omega) (Int.le_of_lt c)
   unfold dYes
   dsimp only
   by_cases cq:q > 0
   ·rw[if_pos cq]
    refine wpS_bind (rev_w (wpS_pure ?_))
    have e:∀ k,ky r (kas_rev p' (lo + x - (q + 1)) (lo + x)) k=ky r p' k:=ky_rev_eq (by omega) (ky r p' (lo + x - 1)) fun k k1 k2=>by
     have:=eq (k - lo) (by omega) (by omega)
     rw[show lo + (k - lo)=k by omega] at this
     exact this
    exact⟨_,0,rfl,rfl,g'.rev _ _,ag.trans (ag_rev (by omega) (by omega) (by omega)),fun i j c1 c2 c3=>by rw[e,e];exact f2 i j c1 c2 c3,by omega,fun i i1 i2=>by congr 1;omega⟩
   ·rw[if_neg cq]
    exact wpS_pure ⟨p',0,rfl,rfl,g',ag,f2,by omega,fun i i1 i2=>by congr 1;omega⟩
  ·rw[decide_eq_false c,if_neg (by simp)]
   unfold dNo
   dsimp only
   refine wpS_bind (ltAt_w h g' (by omega) (by omega) ?_)
   dsimp only
   by_cases c2:ky r p' (lo + x - 1) < ky r p' (lo + x)
   ·rw[decide_eq_true c2,if_pos rfl]
    exact wpS_pure ⟨p',x,q,rfl,rfl,g',ag,f',by omega,by omega,hq,eq⟩
   ·rw[decide_eq_false c2,if_neg (by simp)]
    have e0:ky r p' (lo + x)=ky r p' (lo + x - 1):=by omega
    refine wpS_pure ⟨p',q + 1,rfl,rfl,g',ag,f'.snoc (by omega) (by omega),by omega,fun i i1 i2=>?_⟩
    rw[show lo + (x + 1) - 1=lo + x by omega]
    by_cases ei:i=x
    ·rw[ei]
    ·rw[e0];exact eq i (by omega) (by omega)
 ·obtain⟨p',q,rfl,rfl,g',ag,f',hq,eq⟩:=hI
  have em:max (n + 1) nrem=nrem:=by omega
  rw[em] at f' hq eq ⊢
  exact⟨p',nrem,q,rfl,rfl,g',ag,f',by omega,Nat.le_refl _,hq,eq⟩
 ·obtain⟨p',m,q,rfl,rfl,g',ag,f',m1,m2,hq,eq⟩:=hI
  have sz':=g'.sz
  dsimp only
  by_cases cq:q > 0
  ·rw[if_pos cq]
   refine wpS_bind (rev_w ?_)
   have e:∀ k,ky r (kas_rev p' (lo + m - (q + 1)) (lo + m)) k=ky r p' k:=ky_rev_eq (by omega) (ky r p' (lo + m - 1)) fun k k1 k2=>by
    have:=eq (k - lo) (by omega) (by omega)
    rw[show lo + (k - lo)=k by omega] at this
    exact this
   exact cTail_w h (g'.rev _ _) hl m1 m2 (fun i j c1 c2 c3=>by rw[e,e];exact f' i j c1 c2 c3) fun m' p'' g'' a b c d=>z m' p'' g'' a b c ((ag.trans (ag_rev (by omega) (by omega) (by omega))).trans d)
  ·rw[if_neg cq]
   exact cTail_w h g' hl m1 m2 f' fun m' p'' g'' a b c d=>z m' p'' g'' a b c (ag.trans d)
/-- a run from lo on -/
theorem countRun_w (h:Srt.Ask N r (kas_cmp prog w A κ it) s) (g:Gd N p) {lo nrem:Nat} {Q:Option Nat->SortSt->Prop} (hl:lo + nrem≤N) (h1:1≤nrem)
  (z:∀ m p',Gd N p'->1≤m->m≤nrem->Rn r p' lo m->Ag p p' lo (lo + nrem)->Q (some m) (SP κ it p' pd gl)):wpS (model prog w) A E s (countRun' lo nrem) Q (SP κ it p pd gl):=by
 have sz:=g.sz
 rw[countRun_eq2]
 refine wpS_bind (aLoop_w h g hl (Nat.le_refl 1) h1 (Rn.one _) fun m m1 m2 u d=>?_)
 dsimp only
 by_cases e1:m=nrem
 ·rw[if_pos (by simpa using e1)]
  exact wpS_pure (z m p g m1 m2 u Ag.refl)
 rw[if_neg (by simpa using e1)]
 have d:=d (by omega)
 by_cases e2:m > 1
 ·rw[if_pos e2]
  refine wpS_bind (ltAt_w h g (by omega) (by omega) ?_)
  dsimp only
  by_cases c:ky r p lo < ky r p (lo + m - 1)
  ·rw[decide_eq_true c,if_pos rfl]
   exact wpS_pure (z m p g m1 m2 u Ag.refl)
  ·rw[decide_eq_false c,if_neg (by simp)]
   refine wpS_bind (rev_w ?_)
   have eq:∀ k,lo≤k->k < lo + m->ky r p k=ky r p lo:=fun k k1 k2=>by
    have a1:=u lo k (Nat.le_refl _) k1 k2
    have a2:=u k (lo + m - 1) k1 (by omega) (by omega)
    omega
   have e:=ky_rev_eq (r:=r) (p:=p) (i:=lo) (j:=lo + m) (by omega) (ky r p lo) eq
   have fl:Fl r p lo m:=fun i j c1 c2 c3=>by rw[eq i (by omega) (by omega),eq j (by omega) (by omega)];exact Int.le_refl _
   have fl2:=fl.snoc (by omega) (Int.le_of_lt d)
   exact cDesc_w h (g.rev _ _) hl (by omega) (by omega) (fun i j c1 c2 c3=>by rw[e,e];exact fl2 i j c1 c2 c3) fun m' p'' g'' a b c d=>z m' p'' g'' a b c ((ag_rev (by omega) (by omega) (by omega)).trans d)
 ·rw[if_neg e2]
  have e3:m=1:=by omega
  subst e3
  have f1:Fl r p lo 1:=fun i j c1 c2 c3=>by
   have:i=j:=by omega
   rw[this];exact Int.le_refl _
  exact cDesc_w h g hl (by omega) (by omega) (f1.snoc (by omega) (Int.le_of_lt d)) z
/-- insertion from lo on -/
theorem binary_w (h:Srt.Ask N r (kas_cmp prog w A κ it) s) (g:Gd N p) {lo n ok:Nat} {Q:Bool->SortSt->Prop} (hl:lo + n≤N) (h1:1≤ok) (hn:ok≤n) (u:Rn r p lo ok)
  (z:∀ p',Gd N p'->Rn r p' lo n->Ag p p' lo (lo + n)->Q true (SP κ it p' pd gl)):wpS (model prog w) A E s (binarySort' lo n ok) Q (SP κ it p pd gl):=by
 have sz:=g.sz
 rw[binarySort_eq2,Nat.max_eq_left h1]
 refine wpS_bind (wpS_mono (wpS_forRange (I:=fun x c st'=>∃ p',st'=SP κ it p' pd gl∧c=(none,())∧Gd N p'∧Ag p p' lo (lo + n)∧Rn r p' lo x)
  (Q:=fun c st'=>∃ p',st'=SP κ it p' pd gl∧c=(none,())∧Gd N p'∧Ag p p' lo (lo + n)∧Rn r p' lo n) (fun k c st' hx1 hx2 hI=>?_) (fun c st' hI=>?_) ⟨p,rfl,rfl,g,Ag.refl,u⟩) (fun c st' hI=>?_))
 ·obtain⟨p',rfl,rfl,g',ag,u'⟩:=hI
  have sz':=g'.sz
  unfold bStep
  refine wpS_bind (wpS_mono (wpS_forRange (I:=fun x c st'=>st'=SP κ it p' pd gl∧∃ l rr,c=(none,l,rr)∧l≤rr∧rr≤k∧rr - l≤k - x∧(∀ i,i < l->ky r p' (lo + i)≤ky r p' (lo + k))∧(∀ i,rr≤i->i < k->ky r p' (lo + k) < ky r p' (lo + i)))
   (Q:=fun c st'=>st'=SP κ it p' pd gl∧∃ l rr,c=(none,l,rr)∧l≤k∧(∀ i,i < l->ky r p' (lo + i)≤ky r p' (lo + k))∧(∀ i,l≤i->i < k->ky r p' (lo + k) < ky r p' (lo + i))) (fun x c st' hy1 hy2 hJ=>?_) (fun c st' hJ=>?_) ⟨rfl,0,k,rfl,by omega,by omega,by omega,fun i hi=>absurd hi (Nat.not_lt_zero _),fun i i1 i2=>by omega⟩) (fun c st' hJ=>?_))
  ·obtain⟨rfl,l,rr,rfl,a1,a2,a3,a4,a5⟩:=hJ
   unfold sStep
   dsimp only
   by_cases c:l ≥ rr
   ·rw[if_pos c]
    exact wpS_pure ⟨rfl,l,rr,rfl,by omega,a4,fun i i1 i2=>a5 i (by omega) i2⟩
   ·rw[if_neg c]
    refine wpS_bind (ltAt_w h g' (by omega) (by omega) ?_)
    dsimp only
    by_cases c2:ky r p' (lo + k) < ky r p' (lo + (l + rr) / 2)
    ·rw[decide_eq_true c2,if_pos rfl]
     exact wpS_pure ⟨rfl,_,_,rfl,by omega,by omega,by omega,a4,fun i i1 i2=>Int.lt_of_lt_of_le c2 (u' _ _ (by omega) (by omega) (by omega))⟩
    ·rw[decide_eq_false c2,if_neg (by simp)]
     exact wpS_pure ⟨rfl,_,_,rfl,by omega,by omega,by omega,fun i hi=>Int.le_trans (u' (lo + i) (lo + (l + rr) / 2) (by omega) (by omega) (by omega)) (Int.not_lt.mp c2),a5⟩
  ·obtain⟨rfl,l,rr,rfl,a1,a2,a3,a4,a5⟩:=hJ
   exact⟨rfl,l,rr,rfl,by omega,a4,fun i i1 i2=>a5 i (by omega) i2⟩
  ·obtain⟨rfl,l,rr,rfl,a1,a4,a5⟩:=hJ
   dsimp only
   refine wpS_bind (move_w (wpS_pure ?_))
   rw[show lo + k - (lo + l)=k - l by omega]
   have e:=fun m=>ky_bub (r:=r) (p:=p') (k:=lo + k) (d:=k - l) (by omega) (by omega) m
   refine⟨_,rfl,rfl,g'.bub _ _,ag.trans (ag_bub (by omega) (by omega) (by omega) (by omega)),fun i j c1 c2 c3=>?_⟩
   rw[e,e]
   have ekl:lo + k - (k - l)=lo + l:=by omega
   rw[ekl]
   by_cases i1:i=lo + l
   ·rw[if_pos i1]
    by_cases j1:j=lo + l
    ·rw[if_pos j1];exact Int.le_refl _
    ·rw[if_neg j1,if_pos (by omega)]
     have:=a5 (j - 1 - lo) (by omega) (by omega)
     rw[show lo + (j - 1 - lo)=j - 1 by omega] at this
     exact Int.le_of_lt this
   ·rw[if_neg i1]
    by_cases i2:lo + l < i∧i≤lo + k
    ·rw[if_pos i2,if_neg (by omega),if_pos (by omega)]
     exact u' _ _ (by omega) (by omega) (by omega)
    ·rw[if_neg i2]
     by_cases j1:j=lo + l
     ·rw[if_pos j1]
      have:=a4 (i - lo) (by omega)
      rw[show lo + (i - lo)=i by omega] at this
      exact this
     ·rw[if_neg j1]
      by_cases j2:lo + l < j∧j≤lo + k
      ·rw[if_pos j2];exact u' _ _ (by omega) (by omega) (by omega)
      ·rw[if_neg j2];exact u' _ _ (by omega) (by omega) (by omega)
 ·obtain⟨p',rfl,rfl,g',ag,u'⟩:=hI
  rw[Nat.max_eq_right hn] at u'
  exact⟨p',rfl,rfl,g',ag,u'⟩
 ·obtain⟨p',rfl,rfl,g',ag,u'⟩:=hI
  exact wpS_pure (z p' g' u' ag)
end
end Ts
namespace Ts
open PySem PySem.W PyProof.Rows Srt
theorem mergeAt_do (i:Nat):mergeAt' i=(do
 let s ← get
 let (some (sa,na,power),some (sb,nb,_)):=((pendingOf s)[i]?,(pendingOf s)[i + 1]?) | liftM (unsupported "internal:list.sort.pending":Sem Bool)
 set (setPending s (((pendingOf s).setIfInBounds i (sa,na + nb,power)).eraseIdxIfInBounds (i + 1)))
 let some k ← gallop' false (← elem' (arrOf s) sb) (arrOf s) sa na 0 | return false
 let (sa,na):=(sa + k,na - k)
 if na == 0 then return true
 let some nb ← gallop' true (← elem' (arrOf s) (sa + na - 1)) (arrOf s) sb nb (nb - 1) | return false
 if nb == 0 then return true
 let x:=(arrOf s).extract sa sb
 let y:=(arrOf s).extract sb (sb + nb)
 let merged ← if na≤nb then mergeLo' x y else mergeHi' x y
 modify fun s=>setArr s (merged.toList.zipIdx.foldl (fun a (p,j)=>a.setIfInBounds (sa + j) p) (arrOf s))
 return (failedOf (← get)).isNone):=rfl
theorem getD_some {a:Array Nat} {k:Nat}:a.getD k 0=(a[k]?).getD 0:=by by_cases hk:k < a.size <;> simp [Array.getD,hk]
theorem getD_list {a:Array Nat} {k:Nat}:a.toList.getD k 0=a.getD k 0:=by rw[getD_some,List.getD_eq_getElem?_getD,Array.getElem?_toList]
def seg (p:Array Nat) (a n:Nat):List Nat:=(p.toList.drop a).take n
theorem seg_len {p:Array Nat} {a n:Nat} (h:a + n≤p.size):(seg p a n).length=n:=by
 unfold seg;rw[List.length_take,List.length_drop,Array.length_toList];omega
theorem seg_get {p:Array Nat} {a n i:Nat} (hi:i < n) (h:a + n≤p.size):(seg p a n).getD i 0=p.getD (a + i) 0:=by
 unfold seg
 rw[← getD_list,List.getD_eq_getElem?_getD,List.getD_eq_getElem?_getD,List.getElem?_take_of_lt hi,List.getElem?_drop]
theorem seg_mem {p:Array Nat} {a n x:Nat} (h:a + n≤p.size) (hx:x ∈ seg p a n):∃ i,a≤i∧i < a + n∧x=p.getD i 0:=by
 obtain⟨i,hi,e⟩:=List.mem_iff_getElem.mp hx
 rw[seg_len h] at hi
 refine⟨a + i,by omega,by omega,?_⟩
 rw[← seg_get hi h,List.getD_eq_getElem?_getD,List.getElem?_eq_getElem (by rw[seg_len h];exact hi),← e];rfl
theorem seg_app {p:Array Nat} {a n m:Nat}:seg p a n++seg p (a + n) m=seg p a (n + m):=by
 unfold seg;rw[List.take_add,List.drop_drop]
theorem seg_ext {it:KA} {p:Array Nat} {a b:Nat}:(p.map (kas_item it)).extract a b=arr it (seg p a (b - a)):=by
 have e:p.map (kas_item it)=arr it p.toList:=by unfold arr;simp
 rw[e,arr_ext];rfl
def wb (q:Array Nat) (c:Nat) (M:List Nat):Array Nat:=(q.toList.take c++M++q.toList.drop (c + M.length)).toArray
theorem wb_fold {it:KA} {b:Nat}:∀ (M:List Nat) (j:Nat) (q:Array Nat),b + j + M.length≤q.size->((arr it M).toList.zipIdx j).foldl (fun a x=>a.setIfInBounds (b + x.2) x.1) (q.map (kas_item it))=(wb q (b + j) M).map (kas_item it)
 | [],j,q,_=>by
  have e:wb q (b + j) []=q:=by
   unfold wb
   rw[List.length_nil,Nat.add_zero,List.append_nil,List.take_append_drop]
  rw[e];unfold arr;simp
 | x::t,j,q,h=>by
  rw[List.length_cons] at h
  have e1:(arr it (x::t)).toList=kas_item it x::(arr it t).toList:=by unfold arr;simp
  have e2:(q.map (kas_item it)).setIfInBounds (b + j) (kas_item it x)=(q.setIfInBounds (b + j) x).map (kas_item it):=by
   rw[Array.map_setIfInBounds]
  rw[e1,List.zipIdx_cons,List.foldl_cons]
  show List.foldl _ ((q.map (kas_item it)).setIfInBounds (b + j) (kas_item it x)) _=_
  rw[e2,wb_fold t (j + 1) (q.setIfInBounds (b + j) x) (by rw[Array.size_setIfInBounds];omega)]
  congr 1
  unfold wb
  congr 1
  rw[Array.toList_setIfInBounds,← Nat.add_assoc,List.length_cons,List.drop_set_of_lt (by omega),List.take_set,List.take_add_one]
  have hl:b + j < q.toList.length:=by rw[Array.length_toList];omega
  rw[List.getElem?_eq_getElem hl,Option.toList_some,List.set_append_right _ _ (by rw[List.length_take];omega),List.length_take,Nat.min_eq_left (by omega),Nat.sub_self,List.set_cons_zero,show b + j + (t.length + 1)=b + j + 1 + t.length by omega]
  simp
theorem wb_get {q:Array Nat} {c i:Nat} {M:List Nat} (h:c + M.length≤q.size):(wb q c M).getD i 0=if c≤i∧i < c + M.length then M.getD (i - c) 0 else q.getD i 0:=by
 have lq:=Array.length_toList (xs:=q)
 rw[← getD_list,← getD_list (a:=q),List.getD_eq_getElem?_getD,List.getD_eq_getElem?_getD,List.getD_eq_getElem?_getD]
 show ((q.toList.take c++M++q.toList.drop (c + M.length))[i]?).getD 0=_
 have l1:(q.toList.take c).length=c:=by rw[List.length_take];omega
 by_cases h1:i < c
 ·rw[if_neg (by omega),List.getElem?_append_left (by rw[List.length_append];omega),List.getElem?_append_left (by omega),List.getElem?_take_of_lt h1]
 ·by_cases h2:i < c + M.length
  ·rw[if_pos ⟨by omega,h2⟩,List.getElem?_append_left (by rw[List.length_append];omega),List.getElem?_append_right (by omega),l1]
  ·rw[if_neg (by omega),List.getElem?_append_right (by rw[List.length_append];omega),List.length_append,l1,List.getElem?_drop,show c + M.length + (i - (c + M.length))=i by omega]
theorem wb_perm {q:Array Nat} {c:Nat} {M:List Nat} (h:M.Perm (seg q c M.length)):(wb q c M).Perm q:=by
 rw[Array.perm_iff_toList_perm]
 have e:q.toList=q.toList.take c++seg q c M.length++q.toList.drop (c + M.length):=by
  unfold seg
  rw[List.append_assoc,← List.drop_drop,List.take_append_drop,List.take_append_drop]
 show (q.toList.take c++M++q.toList.drop (c + M.length)).Perm q.toList
 conv=>rhs;rw[e]
 exact ((List.Perm.refl _).append h).append (List.Perm.refl _)
section
variable {prog:Program} {w:World} {A:Around} {E:Value->Shared->Prop} {s:Shared} {κ:SortKind} {it:Array Keyed} {N:Nat} {r:Nat->Int} {p p' p'':Array Nat} {pd:Array (Nat × Nat × Nat)} {gl:Nat}
theorem wpS_set {M:Model} {σ:Type} {x st:σ} {Q:PUnit->σ->Prop} (h:Q ⟨⟩ x):wpS M A E s (set x:StateT σ Sem PUnit) Q st:=by
 unfold wpS;rw[StateT.run_set];exact wpAny_pure ⟨rfl,h⟩
theorem seg_sd {a n:Nat} (h:a + n≤p.size) (u:Rn r p a n):Sd r (seg p a n):=by
 refine List.pairwise_iff_getElem.mpr fun i j hi hj hij=>?_
 have hi':=hi;have hj':=hj
 rw[seg_len h] at hi' hj'
 have e:∀ k (hk:k < (seg p a n).length),(seg p a n)[k]=p.getD (a + k) 0:=fun k hk=>by
  rw[← seg_get (by rwa [seg_len h] at hk) h,List.getD_eq_getElem?_getD,List.getElem?_eq_getElem hk];rfl
 rw[e i hi,e j hj]
 exact u (a + i) (a + j) (by omega) (by omega) (by omega)
theorem mergeAt_w (h:Srt.Ask N r (kas_cmp prog w A κ it) s) (g:Gd N p) {i sa na nb pw pw2:Nat} {Q:Bool->SortSt->Prop} (e1:pd[i]?=some (sa,na,pw)) (e2:pd[i + 1]?=some (sa + na,nb,pw2)) (n1:1≤na) (n2:1≤nb) (hl:sa + na + nb≤N) (u1:Rn r p sa na) (u2:Rn r p (sa + na) nb)
  (z:∀ p' g',Gd N p'->Rn r p' sa (na + nb)->Ag p p' sa (sa + na + nb)->Q true (SP κ it p' ((pd.setIfInBounds i (sa,na + nb,pw)).eraseIdxIfInBounds (i + 1)) g')):wpS (model prog w) A E s (mergeAt' i) Q (SP κ it p pd gl):=by
 have sz:=g.sz
 have hN:0 < N:=by omega
 rw[mergeAt_do]
 dsimp only
 refine wpS_bind (wpS_get ?_)
 rw[show (pendingOf (SP κ it p pd gl))[i]?=some (sa,na,pw) from e1,show (pendingOf (SP κ it p pd gl))[i + 1]?=some (sa + na,nb,pw2) from e2]
 dsimp only
 refine wpS_bind (wpS_set ?_)
 show wpS _ _ _ _ _ _ (SP κ it p ((pd.setIfInBounds i (sa,na + nb,pw)).eraseIdxIfInBounds (i + 1)) gl)
 generalize (pd.setIfInBounds i (sa,na + nb,pw)).eraseIdxIfInBounds (i + 1)=pd' at z
 have ltN:∀ m,m < p.size->p.getD m 0 < N:=fun m _=>g.lt hN m
 refine wpS_bind (elem_w (by omega) ?_)
 refine wpS_bind (gallop_w h rfl (g.lt hN _) ltN (by omega) (by omega) (fun a b hab hb=>u1 (sa + a) (sa + b) (by omega) (by omega) (by omega)) fun k k1 k2 k3=>?_)
 dsimp only
 have F1:∀ a,sa≤a->a < sa + k->ky r p a≤ky r p (sa + na):=fun a a1 a2=>by
  have q:=k2 (a - sa) (by omega)
  rw[show sa + (a - sa)=a by omega] at q
  unfold By at q
  rw[if_neg (by simp)] at q
  have:=of_decide_eq_false (by simpa using q:decide (r (p.getD (sa + na) 0) < r (p.getD a 0))=false)
  unfold ky;omega
 have F2:∀ a,sa + k≤a->a < sa + na->ky r p (sa + na) < ky r p a:=fun a a1 a2=>by
  have q:=k3 (a - sa) (by omega) (by omega)
  rw[show sa + (a - sa)=a by omega] at q
  unfold By at q
  rw[if_neg (by simp)] at q
  exact of_decide_eq_true (by simpa using q:decide (r (p.getD (sa + na) 0) < r (p.getD a 0))=true)
 by_cases c0:na - k=0
 ·rw[if_pos (by simpa using c0)]
  refine wpS_pure (z p gl g (fun a b a1 ab b1=>?_) Ag.refl)
  by_cases hb:b < sa + na
  ·exact u1 a b a1 ab hb
  ·by_cases ha:a < sa + na
   ·exact Int.le_trans (F1 a a1 (by omega)) (u2 (sa + na) b (Nat.le_refl _) (by omega) (by omega))
   ·exact u2 a b (by omega) ab (by omega)
 rw[if_neg (by simpa using c0)]
 rw[show sa + k + (na - k) - 1=sa + na - 1 by omega]
 refine wpS_bind (elem_w (by omega) ?_)
 refine wpS_bind (gallop_w h rfl (g.lt hN _) ltN (by omega) (by omega) (fun a b hab hb=>u2 (sa + na + a) (sa + na + b) (by omega) (by omega) (by omega)) fun m m1 m2 m3=>?_)
 dsimp only
 have G1:∀ a,sa + na≤a->a < sa + na + m->ky r p a < ky r p (sa + na - 1):=fun a a1 a2=>by
  have q:=m2 (a - (sa + na)) (by omega)
  rw[show sa + na + (a - (sa + na))=a by omega] at q
  unfold By at q
  rw[if_pos rfl] at q
  exact of_decide_eq_true q
 have G2:∀ a,sa + na + m≤a->a < sa + na + nb->ky r p (sa + na - 1)≤ky r p a:=fun a a1 a2=>by
  have q:=m3 (a - (sa + na)) (by omega) (by omega)
  rw[show sa + na + (a - (sa + na))=a by omega] at q
  unfold By at q
  rw[if_pos rfl] at q
  have:=of_decide_eq_false q
  unfold ky;omega
 by_cases c1:m=0
 ·rw[if_pos (by simpa using c1)]
  refine wpS_pure (z p gl g (fun a b a1 ab b1=>?_) Ag.refl)
  by_cases hb:b < sa + na
  ·exact u1 a b a1 ab hb
  ·by_cases ha:a < sa + na
   ·exact Int.le_trans (u1 a (sa + na - 1) a1 (by omega) (by omega)) (G2 b (by omega) (by omega))
   ·exact u2 a b (by omega) ab (by omega)
 rw[if_neg (by simpa using c1)]
 have ex:(p.map (kas_item it)).extract (sa + k) (sa + na)=arr it (seg p (sa + k) (na - k)):=by rw[seg_ext,show sa + na - (sa + k)=na - k by omega]
 have ey:(p.map (kas_item it)).extract (sa + na) (sa + na + m)=arr it (seg p (sa + na) m):=by rw[seg_ext,show sa + na + m - (sa + na)=m by omega]
 have l1:(seg p (sa + k) (na - k)).length=na - k:=seg_len (by omega)
 have l2:(seg p (sa + na) m).length=m:=seg_len (by omega)
 have two:Two N r (seg p (sa + k) (na - k)) (seg p (sa + na) m):=by
  refine⟨by omega,by omega,fun x hx=>?_,fun x hx=>?_,seg_sd (by omega) fun a b a1 ab b1=>u1 a b (by omega) ab (by omega),seg_sd (by omega) fun a b a1 ab b1=>u2 a b (by omega) ab (by omega),?_,fun x hx=>?_⟩
  ·obtain⟨a,a1,a2,rfl⟩:=seg_mem (by omega) hx;exact g.lt hN _
  ·obtain⟨a,a1,a2,rfl⟩:=seg_mem (by omega) hx;exact g.lt hN _
  ·rw[seg_get (by omega) (by omega),seg_get (by omega) (by omega)]
   exact Int.le_of_lt (F2 (sa + k + 0) (by omega) (by omega))
  ·obtain⟨a,a1,a2,rfl⟩:=seg_mem (by omega) hx
   rw[l1,seg_get (by omega) (by omega),show sa + k + (na - k - 1)=sa + na - 1 by omega]
   exact Int.le_of_lt (G1 a (by omega) (by omega))
 have fin : ∀ X g', Gm r (seg p (sa + k) (na - k)) (seg p (sa + na) m) X → wpS (model prog w) A E s (do
       modify fun s=>setArr s (List.foldl (fun a x=>a.setIfInBounds (sa + k + x.snd) x.fst) (arrOf s) (arr it X).toList.zipIdx)
       let v ← get
       pure (failedOf v).isNone) Q (SS κ (p.map (kas_item it)) pd' g'):=fun X g' gm=>by
  have lX:X.length=na - k + m:=by have:=gm.1.length_eq;rw[List.length_append,l1,l2] at this;exact this
  refine wpS_bind (wpS_modify ?_)
  have e:=wb_fold (it:=it) (b:=sa + k) X 0 p (by omega)
  rw[Nat.add_zero] at e
  rw[show setArr (SS κ (p.map (kas_item it)) pd' g') (List.foldl (fun a x=>a.setIfInBounds (sa + k + x.snd) x.fst) (arrOf (SS κ (p.map (kas_item it)) pd' g')) (arr it X).toList.zipIdx)=SP κ it (wb p (sa + k) X) pd' g' from by
   show SortSt.mk' κ _ pd' g' none=SortSt.mk' κ _ pd' g' none
   rw[← e]]
  refine wpS_bind (wpS_get (wpS_pure ?_))
  have sg:seg p (sa + k) (na - k)++seg p (sa + na) m=seg p (sa + k) (na - k + m):=by
   rw[← seg_app,show sa + k + (na - k)=sa + na by omega]
  have pm:(wb p (sa + k) X).Perm p:=wb_perm (by rw[lX,← sg];exact gm.1)
  have gt:∀ a,(wb p (sa + k) X).getD a 0=if sa + k≤a∧a < sa + na + m then X.getD (a - (sa + k)) 0 else p.getD a 0:=fun a=>by
   rw[wb_get (by omega),lX,show sa + k + (na - k + m)=sa + na + m by omega]
  have key:ky r p (sa + na)≤ky r p (sa + na - 1):=Int.le_of_lt (F2 _ (by omega) (by omega))
  have mid:∀ a,sa + k≤a->a < sa + na + m->ky r p (sa + na)≤ky r (wb p (sa + k) X) a∧ky r (wb p (sa + k) X) a≤ky r p (sa + na - 1):=fun a a1 a2=>by
   unfold ky
   rw[gt,if_pos ⟨a1,a2⟩]
   have hm:=gm.1.mem_iff.mp (getD_mem (l:=X) (i:=a - (sa + k)) (by omega))
   rcases List.mem_append.mp hm with hm | hm
   ·obtain⟨b,b1,b2,e⟩:=seg_mem (by omega) hm
    rw[e]
    exact⟨Int.le_of_lt (F2 b (by omega) (by omega)),u1 b (sa + na - 1) (by omega) (by omega) (by omega)⟩
   ·obtain⟨b,b1,b2,e⟩:=seg_mem (by omega) hm
    rw[e]
    exact⟨u2 (sa + na) b (Nat.le_refl _) (by omega) (by omega),Int.le_of_lt (G1 b (by omega) (by omega))⟩
  have out:∀ a,(a < sa + k∨sa + na + m≤a)->ky r (wb p (sa + k) X) a=ky r p a:=fun a ha=>by
   unfold ky;rw[gt,if_neg (by omega)]
  refine z _ g' (pm.trans g) (fun a b a1 ab b1=>?_) fun a ha=>by rw[gt,if_neg (by omega)]
  by_cases ca:a < sa + k
  ·rw[out a (.inl ca)]
   by_cases cb:b < sa + k
   ·rw[out b (.inl cb)];exact u1 a b a1 ab (by omega)
   ·by_cases cb2:b < sa + na + m
    ·exact Int.le_trans (F1 a a1 ca) (mid b (by omega) cb2).1
    ·rw[out b (.inr (by omega))]
     exact Int.le_trans (F1 a a1 ca) (Int.le_trans key (G2 b (by omega) (by omega)))
  ·by_cases ca2:a < sa + na + m
   ·by_cases cb2:b < sa + na + m
    ·unfold ky
     rw[gt,gt,if_pos ⟨by omega,ca2⟩,if_pos ⟨by omega,cb2⟩]
     exact sd_up gm.2 (by omega) (by omega)
    ·rw[out b (.inr (by omega))]
     exact Int.le_trans (mid a (by omega) ca2).2 (G2 b (by omega) (by omega))
   ·rw[out a (.inr (by omega)),out b (.inr (by omega))]
    exact u2 a b (by omega) ab (by omega)
 split
 ·refine wpS_bind ?_
  show wpS _ _ _ _ (mergeLo' ((p.map (kas_item it)).extract (sa + k) (sa + na)) ((p.map (kas_item it)).extract (sa + na) (sa + na + m))) _ _
  rw[ex,ey]
  exact mergeLo_w two h fin
 ·refine wpS_bind ?_
  show wpS _ _ _ _ (mergeHi' ((p.map (kas_item it)).extract (sa + k) (sa + na)) ((p.map (kas_item it)).extract (sa + na) (sa + na + m))) _ _
  rw[ex,ey]
  exact mergeHi_w two h fin
end
end Ts
namespace Ts
open PySem PySem.W PyProof.Rows Srt
abbrev US:=Option Unit × Unit
abbrev RS:=Option Unit × Nat
abbrev PD:=Array (Nat × Nat × Nat)
def cStep (pw:Nat) (_:Nat) (_:US):SM (ForInStep US):=do
 let g ← get
 match (if (pendingOf g).size > 1 then (pendingOf g)[(pendingOf g).size - 2]? else none) with
 | some (_, _, older) => if older ≤ pw then pure (.done (none, ())) else do
     let b ← mergeAt' ((pendingOf g).size - 2)
     if (!b)=true then pure (.done (some (),())) else pure (.yield (none,()))
 | _=>pure (.done (none,()))
def rPush (size lo n:Nat):SM (ForInStep RS):=do
 let g ← get
 match (pendingOf g).back? with
 | some (s1,n1,_)=>do
  let u ← forIn [0:size] ((none,()):US) (cStep (power' size (2 * s1 + n1) (2 * s1 + n1 + n1 + n) size))
  match u.1 with
  | some r=>pure (.done (some r,lo))
  | none=>do
   modify fun s=>setPending s ((pendingOf s).modify ((pendingOf s).size - 1) fun x=>(x.1,x.2.1,power' size (2 * s1 + n1) (2 * s1 + n1 + n1 + n) size))
   modify fun s=>setPending s ((pendingOf s).push (lo,n,0))
   pure (.yield (none,lo + n))
 | _=>do
  modify fun s=>setPending s ((pendingOf s).push (lo,n,0))
  pure (.yield (none,lo + n))
def rFew (size lo found:Nat):SM (ForInStep RS):=do
 liftM (rule "list.sort.binary-insertion")
 let b ← binarySort' lo (min (size - lo) (minRun' size size 0)) found
 if (!b)=true then pure (.done (some (),lo)) else rPush size lo (min (size - lo) (minRun' size size 0))
def rStep (size:Nat) (_:Nat) (s:RS):SM (ForInStep RS) :=
 if s.2 ≥ size then pure (.done (none,s.2)) else do
  let x ← countRun' s.2 (size - s.2)
  match x with
  | some found=>if found < minRun' size size 0 then rFew size s.2 found else rPush size s.2 found
  | _=>pure (.done (some (),s.2))
def pick (p:PD):Nat :=
 if Option.any (fun x=>decide (x < p[p.size - 2 + 1]?.elim 0 fun x=>x.2.1)) (if p.size - 2 > 0 then Option.map (fun x=>x.2.1) p[p.size - 2 - 1]? else none)=true then p.size - 2 - 1 else p.size - 2
def eStep (_:Nat) (_:US):SM (ForInStep US):=do
 let g ← get
 if (pendingOf g).size≤1 then pure (.done (none,())) else do
  let b ← mergeAt' (pick (pendingOf g))
  if (!b)=true then pure (.done (some (),())) else pure (.yield (none,()))
theorem sortRuns_eq2:sortRuns'=(do
 let g ← get
 let s ← forIn [0:(arrOf g).size] ((none,0):RS) (rStep (arrOf g).size)
 match s.1 with
 | some r=>pure r
 | none=>do
  let u ← forIn [0:(arrOf g).size] ((none,()):US) eStep
  match u.1 with
  | some r=>pure r
  | none=>pure ()):=by
 rw[sortRuns'_eq]
 dsimp only
 congr 1
 funext g
 have hp : ∀ lo n, (do
     let g' ← get
     match (pendingOf g').back? with
     | some (s1,n1,_)=>do
       let u ← forIn [0:(arrOf g).size] ((none,()):US) (cStep (power' (arrOf g).size (2 * s1 + n1) (2 * s1 + n1 + n1 + n) (arrOf g).size))
       match u.1 with
       | some r=>pure (.done (some r,lo))
       | none=>do
         modify fun s=>setPending s ((pendingOf s).modify ((pendingOf s).size - 1) fun x=>(x.1,x.2.1,power' (arrOf g).size (2 * s1 + n1) (2 * s1 + n1 + n1 + n) (arrOf g).size))
         modify fun s=>setPending s ((pendingOf s).push (lo,n,0))
         pure (.yield (none,lo + n))
     | _=>do
       modify fun s=>setPending s ((pendingOf s).push (lo,n,0))
       pure (.yield (none,lo + n)):SM (ForInStep RS))=rPush (arrOf g).size lo n:=fun lo n=>rfl
 congr 1
 ·congr 1
  funext x s
  unfold rStep
  congr 1
  congr 1
  funext o
  cases o with
  | none=>rfl
  | some found =>
   dsimp only
   congr 1
   ·unfold rFew
    congr 1;funext _;congr 1;funext b;congr 1
    rw[← hp]
    congr 1;funext g'
    cases (pendingOf g').back? with
    | none=>rfl
    | some t =>
     obtain⟨s1,n1,k⟩:=t
     dsimp only
     congr 1
     funext u
     obtain⟨o,u⟩:=u
     cases o <;> rfl
   ·rw[← hp]
    congr 1;funext g'
    cases (pendingOf g').back? with
    | none=>rfl
    | some t =>
     obtain⟨s1,n1,k⟩:=t
     dsimp only
     congr 1
     funext u
     obtain⟨o,u⟩:=u
     cases o <;> rfl
 ·funext s
  obtain⟨o,s⟩:=s
  cases o with
  | some r=>rfl
  | none =>
   dsimp only
   congr 1
   funext u
   obtain⟨o,u⟩:=u
   cases o <;> rfl
/-- runs one after another from a to b -/
def Cov (r:Nat->Int) (p:Array Nat):List (Nat × Nat × Nat)->Nat->Nat->Prop
 | [],a,b=>a=b
 | x::t,a,b=>x.1=a∧1≤x.2.1∧Rn r p a x.2.1∧Cov r p t (a + x.2.1) b
section
variable {r:Nat->Int} {p p':Array Nat}
theorem Cov.len:∀ {l:List (Nat × Nat × Nat)} {a b:Nat},Cov r p l a b->a + l.length≤b
 | [],a,b,h=>Nat.le_of_eq h
 | x::t,a,b,⟨_,h1,_,h2⟩=>by
  have:=Cov.len h2
  rw[List.length_cons];omega
theorem Cov.app:∀ {l m:List (Nat × Nat × Nat)} {a b:Nat},Cov r p (l++m) a b↔∃ c,Cov r p l a c∧Cov r p m c b
 | [],m,a,b=>⟨fun h=>⟨a,rfl,h⟩,fun ⟨c,e,h⟩=>by cases e;exact h⟩
 | x::t,m,a,b=>⟨fun ⟨e,h1,u,h⟩=>by obtain⟨c,h2,h3⟩:=Cov.app.mp h;exact⟨c,⟨e,h1,u,h2⟩,h3⟩,fun ⟨c,⟨e,h1,u,h2⟩,h3⟩=>⟨e,h1,u,Cov.app.mpr ⟨c,h2,h3⟩⟩⟩
theorem Cov.ag {x y:Nat} (g:Ag p p' x y):∀ {l:List (Nat × Nat × Nat)} {a b:Nat},Cov r p l a b->(b≤x∨y≤a)->Cov r p' l a b
 | [],a,b,h,_=>h
 | z::t,a,b,⟨e,h1,u,h⟩,d=>by
  have:=Cov.len h
  exact⟨e,h1,u.ag g (by omega),Cov.ag g h (by omega)⟩
theorem Cov.mod (f:Nat × Nat × Nat->Nat × Nat × Nat) (hf:∀ x,(f x).1=x.1∧(f x).2.1=x.2.1):∀ {l:List (Nat × Nat × Nat)} {i a b:Nat},Cov r p l a b->Cov r p (l.modify i f) a b
 | [],i,a,b,h=>by cases i <;> exact h
 | x::t,0,a,b,⟨e,h1,u,h⟩=>by
  obtain⟨f1,f2⟩:=hf x
  show (f x).1=a∧1≤(f x).2.1∧Rn r p a (f x).2.1∧Cov r p t (a + (f x).2.1) b
  rw[f1,f2];exact⟨e,h1,u,h⟩
 | x::t,i + 1,a,b,⟨e,h1,u,h⟩=>⟨e,h1,u,Cov.mod f hf h⟩
end
section
variable {prog:Program} {w:World} {A:Around} {E:Value->Shared->Prop} {s:Shared} {κ:SortKind} {it:Array Keyed} {N:Nat} {r:Nat->Int} {p p' p'':Array Nat} {pd:PD} {gl lo:Nat}
/-- two neighbours of what waits are merged -/
theorem step_w (h:Srt.Ask N r (kas_cmp prog w A κ it) s) (g:Gd N p) (hl:lo≤N) (c:Cov r p pd.toList 0 lo) {i:Nat} (hi:i + 1 < pd.size) {Q:Bool->SortSt->Prop}
  (z:∀ p' pd' g',Gd N p'->Cov r p' pd'.toList 0 lo->pd'.size + 1=pd.size->Ag p p' 0 lo->Q true (SP κ it p' pd' g')):wpS (model prog w) A E s (mergeAt' i) Q (SP κ it p pd gl):=by
 have ln:pd.toList.length=pd.size:=Array.length_toList
 have e1:pd.toList=pd.toList.take i++(pd.toList[i]::pd.toList[i + 1]::pd.toList.drop (i + 2)):=by
  rw[← List.drop_eq_getElem_cons,← List.drop_eq_getElem_cons,List.take_append_drop]
 obtain⟨pre,epre⟩:∃ pre,pre=pd.toList.take i:=⟨_,rfl⟩
 obtain⟨post,epost⟩:∃ post,post=pd.toList.drop (i + 2):=⟨_,rfl⟩
 obtain⟨⟨sa,na,pw⟩,ex⟩:∃ x,x=pd.toList[i]:=⟨_,rfl⟩
 obtain⟨⟨sb,nb,pw2⟩,ey⟩:∃ x,x=pd.toList[i + 1]:=⟨_,rfl⟩
 rw[← epre,← epost,← ex,← ey] at e1
 have lp:pre.length=i:=by rw[epre,List.length_take];omega
 rw[e1] at c
 obtain⟨a,c1,⟨q1,q2,q3,q4,q5,q6,c2⟩⟩:=Cov.app.mp c
 dsimp only at q1 q2 q3 q4 q5 q6 c2
 subst q1
 subst q4
 have lc:=c2.len
 have l1:=c1.len
 have g1:pd[i]?=some (sa,na,pw):=by rw[← Array.getElem?_toList,List.getElem?_eq_getElem (by omega),← ex]
 have g2:pd[i + 1]?=some (sa + na,nb,pw2):=by rw[← Array.getElem?_toList,List.getElem?_eq_getElem (by omega),← ey]
 have en:((pd.setIfInBounds i (sa,na + nb,pw)).eraseIdxIfInBounds (i + 1)).toList=pre++(sa,na + nb,pw)::post:=by
  rw[Array.toList_eraseIdxIfInBounds,Array.toList_setIfInBounds,e1,List.set_append_right _ _ (by omega),lp,Nat.sub_self,List.set_cons_zero,List.eraseIdx_append_of_length_le (by omega),lp,show i + 1 - i=1 by omega]
  rfl
 refine mergeAt_w h g g1 g2 q2 q5 (by omega) q3 q6 fun p' g' gd u ag=>z p' _ g' gd ?_ ?_ (ag.wide (Nat.zero_le _) (by omega))
 ·rw[en]
  refine Cov.app.mpr ⟨sa,c1.ag ag (.inl (Nat.le_refl _)),rfl,by show 1≤na + nb;omega,u,?_⟩
  show Cov r p' post (sa + (na + nb)) lo
  rw[← Nat.add_assoc]
  exact c2.ag ag (.inr (Nat.le_refl _))
 ·have:=congrArg List.length en
  rw[Array.length_toList] at this
  have:=congrArg List.length e1
  simp only [List.length_append,List.length_cons] at *
  omega
theorem push_w (h:Srt.Ask N r (kas_cmp prog w A κ it) s) (g:Gd N p) {n:Nat} (h1:1≤n) (hl:lo + n≤N) (c:Cov r p pd.toList 0 lo) (u:Rn r p lo n) {Q:ForInStep RS->SortSt->Prop}
  (z:∀ p' pd' g',Gd N p'->Cov r p' pd'.toList 0 (lo + n)->Q (.yield (none,lo + n)) (SP κ it p' pd' g')):wpS (model prog w) A E s (rPush N lo n) Q (SP κ it p pd gl):=by
 have fin:∀ p' (pd':PD) g',Gd N p'->Cov r p' pd'.toList 0 lo->Ag p p' 0 lo->Q (.yield (none,lo + n)) (SP κ it p' (pd'.push (lo,n,0)) g'):=fun p' pd' g' gd cv ag=>by
  refine z p' _ g' gd ?_
  rw[Array.toList_push]
  exact Cov.app.mpr ⟨lo,cv,rfl,h1,u.ag ag (.inr (Nat.le_refl _)),rfl⟩
 unfold rPush
 refine wpS_bind (wpS_get ?_)
 show wpS _ _ _ _ (match pd.back? with | some (s1,n1,_)=>_ | _=>_) _ _
 cases eb:pd.back? with
 | none =>
  dsimp only
  exact wpS_bind (wpS_modify (wpS_pure (fin p pd gl g c Ag.refl)))
 | some t =>
  obtain⟨s1,n1,k⟩:=t
  dsimp only
  generalize power' N (2 * s1 + n1) (2 * s1 + n1 + n1 + n) N=pw
  refine wpS_bind (wpS_mono (wpS_forRange (I:=fun x c st'=>c=(none,())∧∃ p' pd' g',st'=SP κ it p' pd' g'∧Gd N p'∧Cov r p' pd'.toList 0 lo∧Ag p p' 0 lo) (Q:=fun c st'=>c=(none,())∧∃ p' pd' g',st'=SP κ it p' pd' g'∧Gd N p'∧Cov r p' pd'.toList 0 lo∧Ag p p' 0 lo)
   (fun x c st' _ _ hI=>?_) (fun c st' hI=>hI) ⟨rfl,p,pd,gl,rfl,g,c,Ag.refl⟩) (fun c st' hI=>?_))
  ·obtain⟨rfl,p',pd',g',rfl,gd,cv,ag⟩:=hI
   unfold cStep
   refine wpS_bind (wpS_get ?_)
   show wpS _ _ _ _ (match (if pd'.size > 1 then pd'[pd'.size - 2]? else none) with | some (_,_,older)=>_ | _=>_) _ _
   by_cases c1:pd'.size > 1
   ·rw[if_pos c1]
    cases eo:pd'[pd'.size - 2]? with
    | none=>exact wpS_pure ⟨rfl,p',pd',g',rfl,gd,cv,ag⟩
    | some t =>
     obtain⟨s2,n2,older⟩:=t
     dsimp only
     by_cases c2:older≤pw
     ·rw[if_pos c2]
      exact wpS_pure ⟨rfl,p',pd',g',rfl,gd,cv,ag⟩
     ·rw[if_neg c2]
      refine wpS_bind (step_w h gd (by omega) cv (by show pd'.size - 2 + 1 < pd'.size;omega) fun p2 pd2 g2 gd2 cv2 _ ag2=>?_)
      rw[if_neg (by simp)]
      exact wpS_pure ⟨rfl,p2,pd2,g2,rfl,gd2,cv2,ag.trans ag2⟩
   ·rw[if_neg c1]
    exact wpS_pure ⟨rfl,p',pd',g',rfl,gd,cv,ag⟩
  ·obtain⟨rfl,p',pd',g',rfl,gd,cv,ag⟩:=hI
   dsimp only
   refine wpS_bind (wpS_modify (wpS_bind (wpS_modify (wpS_pure (fin p' _ g' gd ?_ ag)))))
   rw[Array.toList_modify]
   exact cv.mod (fun x=>(x.1,x.2.1,pw)) fun x=>⟨rfl,rfl⟩
theorem rStep_w (h:Srt.Ask N r (kas_cmp prog w A κ it) s) (g:Gd N p) {x:Nat} (hl:lo≤N) (c:Cov r p pd.toList 0 lo) {Q:ForInStep RS->SortSt->Prop}
  (d:lo=N->Q (.done (none,lo)) (SP κ it p pd gl)) (z:∀ p' pd' g' n,1≤n->lo + n≤N->Gd N p'->Cov r p' pd'.toList 0 (lo + n)->Q (.yield (none,lo + n)) (SP κ it p' pd' g')):wpS (model prog w) A E s (rStep N x (none,lo)) Q (SP κ it p pd gl):=by
 unfold rStep
 dsimp only
 by_cases c0:lo ≥ N
 ·rw[if_pos c0]
  exact wpS_pure (d (by omega))
 rw[if_neg c0]
 refine wpS_bind (countRun_w h g (by omega) (by omega) fun m p1 g1 m1 m2 u ag=>?_)
 dsimp only
 have c1:=c.ag ag (.inl (Nat.le_refl _))
 generalize hmr:minRun' N N 0=mr
 by_cases c2:m < mr
 ·rw[if_pos c2]
  unfold rFew
  rw[hmr]
  refine wpS_bind (wpS_lift (wpAny_rule ⟨rfl,?_⟩))
  refine wpS_bind (binary_w h g1 (by omega) m1 (by omega) u fun p2 g2 u2 ag2=>?_)
  rw[if_neg (by simp)]
  exact push_w h g2 (by omega) (by omega) (c1.ag ag2 (.inl (Nat.le_refl _))) u2 fun p' pd' g' gd cv=>z p' pd' g' _ (by omega) (by omega) gd cv
 ·rw[if_neg c2]
  exact push_w h g1 m1 (by omega) c1 u fun p' pd' g' gd cv=>z p' pd' g' _ m1 (by omega) gd cv
theorem pick_lt {pd:PD} (h:1 < pd.size):pick pd + 1 < pd.size:=by
 have:∀ b:Bool,(if b=true then pd.size - 2 - 1 else pd.size - 2) + 1 < pd.size:=fun b=>by
  cases b <;> simp <;> omega
 exact this _
/-- the whole sort, asked by ranks -/
theorem runs_w (h:Srt.Ask N r (kas_cmp prog w A κ it) s) (g:Gd N p) (h1:1≤N) {Q:Unit->SortSt->Prop} (z:∀ p' pd' g',Gd N p'->Up r p' N->Q () (SP κ it p' pd' g')):wpS (model prog w) A E s sortRuns' Q (SP κ it p #[] gl):=by
 rw[sortRuns_eq2]
 refine wpS_bind (wpS_get ?_)
 have sz:(arrOf (SP κ it p #[] gl)).size=N:=by show (p.map _).size=N;rw[Array.size_map];exact g.sz
 rw[sz]
 refine wpS_bind (wpS_mono (wpS_forRange (I:=fun x c st'=>∃ p' pd' g' lo,c=(none,lo)∧st'=SP κ it p' pd' g'∧Gd N p'∧Cov r p' pd'.toList 0 lo∧lo≤N∧(x≤lo∨lo=N)) (Q:=fun c st'=>∃ p' pd' g',c=(none,N)∧st'=SP κ it p' pd' g'∧Gd N p'∧Cov r p' pd'.toList 0 N)
  (fun x c st' _ hx hI=>?_) (fun c st' hI=>?_) ⟨p,#[],gl,0,rfl,rfl,g,rfl,Nat.zero_le _,.inl (Nat.le_refl _)⟩) (fun c st' hI=>?_))
 ·obtain⟨p',pd',g',lo,rfl,rfl,gd,cv,lN,hx'⟩:=hI
  exact rStep_w h gd lN cv (fun e=>⟨p',pd',g',by rw[e],rfl,gd,by rw[← e];exact cv⟩) fun p2 pd2 g2 n n1 n2 gd2 cv2=>⟨p2,pd2,g2,lo + n,rfl,rfl,gd2,cv2,n2,.inl (by omega)⟩
 ·obtain⟨p',pd',g',lo,rfl,rfl,gd,cv,lN,hx'⟩:=hI
  have e:lo=N:=by omega
  subst e
  exact⟨p',pd',g',rfl,rfl,gd,cv⟩
 ·obtain⟨p',pd',g',rfl,rfl,gd,cv⟩:=hI
  dsimp only
  have one:∀ p2 (pd2:PD) g2,Gd N p2->Cov r p2 pd2.toList 0 N->pd2.size≤1->Q () (SP κ it p2 pd2 g2):=fun p2 pd2 g2 gd2 cv2 l1=>by
   refine z p2 pd2 g2 gd2 ?_
   have ln:pd2.toList.length=pd2.size:=Array.length_toList
   match e:pd2.toList with
   | []=>rw[e] at cv2;have:0=N:=cv2;omega
   | [x] =>
    rw[e] at cv2
    obtain⟨_,_,u,f⟩:=cv2
    have f:0 + x.2.1=N:=f
    exact fun i j hij hj=>u i j (Nat.zero_le _) hij (by omega)
   | x::y::t=>rw[e,List.length_cons,List.length_cons] at ln;omega
  have lp:=cv.len
  rw[Array.length_toList] at lp
  refine wpS_bind (wpS_mono (wpS_forRange (I:=fun x c st'=>c=(none,())∧∃ p' pd' g',st'=SP κ it p' pd' g'∧Gd N p'∧Cov r p' pd'.toList 0 N∧pd'.size + x≤N) (Q:=fun c st'=>c=(none,())∧∃ p' pd' g',st'=SP κ it p' pd' g'∧Gd N p'∧Cov r p' pd'.toList 0 N∧pd'.size≤1)
   (fun x c st' _ _ hI=>?_) (fun c st' hI=>?_) ⟨rfl,p',pd',g',rfl,gd,cv,by omega⟩) (fun c st' hI=>?_))
  ·obtain⟨rfl,p2,pd2,g2,rfl,gd2,cv2,l2⟩:=hI
   unfold eStep
   refine wpS_bind (wpS_get ?_)
   show wpS _ _ _ _ (if pd2.size≤1 then _ else _) _ _
   by_cases c1:pd2.size≤1
   ·rw[if_pos c1]
    exact wpS_pure ⟨rfl,p2,pd2,g2,rfl,gd2,cv2,c1⟩
   ·rw[if_neg c1]
    refine wpS_bind (step_w h gd2 (Nat.le_refl _) cv2 (pick_lt (by omega)) fun p3 pd3 g3 gd3 cv3 e3 _=>?_)
    rw[if_neg (by simp)]
    exact wpS_pure ⟨rfl,p3,pd3,g3,rfl,gd3,cv3,by omega⟩
  ·obtain⟨rfl,p2,pd2,g2,rfl,gd2,cv2,l2⟩:=hI
   exact⟨rfl,p2,pd2,g2,rfl,gd2,cv2,by omega⟩
  ·obtain⟨rfl,p2,pd2,g2,rfl,gd2,cv2,l2⟩:=hI
   exact wpS_pure (one p2 pd2 g2 gd2 cv2 l2)
end
end Ts
namespace Srt
open PySem PySem.W PyProof.Rows
section
variable {prog:Program} {w:World} {A:Around} {E:Value->Shared->Prop} {s:Shared} {κ:SortKind} {it:Array Keyed}
theorem runB {vs:List Value} {r:Nat->Int} {Q:SortSt->Shared->Prop} (h1:1≤vs.length)
  (ask:∀ (i j:Nat) (C:Bool->Shared->Prop),i < vs.length->j < vs.length->C (decide (r i < r j)) s->kas_ask prog w A κ vs i j C s)
  (hG:∀ p st',arrOf st'=p.map (kas_item (vs.toArray.zip vs.toArray))->failedOf st'=none->Gd vs.length p->Up r p vs.length->Q st' s) :
  wpAny (model prog w) A ((sortRuns').run (SortSt.mk' κ (vs.toArray.zip vs.toArray) #[] 7 none)) (fun r s'=>Q r.2 s') E s:=by
 have e:=kas_range (vs.toArray.zip vs.toArray)
 rw[show (vs.toArray.zip vs.toArray).size=vs.length by simp] at e
 have e2:SortSt.mk' κ (vs.toArray.zip vs.toArray) #[] 7 none=Ts.SP κ (vs.toArray.zip vs.toArray) (List.toArray (List.range vs.length)) #[] 7:=by
  show _=SortSt.mk' κ (Array.map _ _) #[] 7 none
  rw[e]
 rw[e2]
 refine wpAny_mono (Ts.runs_w (N:=vs.length) (r:=r) (Q:=fun _ st'=>Q st' s) (fun i j C hi hj q=>?_) (Array.Perm.refl _) h1 fun p' pd' g' gd up=>hG p' _ rfl rfl gd up) (fun x s' h=>?_) fun _ _ x=>x
 ·rw[← kat_ask_eq (ks:=vs) (vs:=vs) rfl]
  exact ask i j C hi hj q
 ·obtain⟨rfl,q⟩:=h;exact q
/-- list.sort of a list whose items are told apart by ranks; nothing is written by a comparison -/
theorem lsortB {a:Addr} {vs:List Value} {n:Nat} {P:PySem.Fin->Shared->Prop} {r:Nat->Int} {κ:SortKind} (ho:s.heap.get? a=some (seqObj "list" vs.toArray n)) (hz:vs.length≤1000)
  (hk:2≤vs.length->∀ (s':Shared) (Q:SortKind->Shared->Prop),Stay a s.heap s'.heap->Q κ s'->wpAny (model prog w) A (keyKind' vs.toArray) Q (fun _ _=>False) s')
  (hc:∀ (s':Shared) (i j:Nat) (C:Bool->Shared->Prop),Stay a s.heap s'.heap->i < vs.length->j < vs.length->C (decide (r i < r j)) s'->kas_ask prog w A κ vs i j C s')
  (h:∀ (p:Array Nat) (h':Heap) (c:Nat),Gd vs.length p->Up r p vs.length->Stay a s.heap h'->h'.get? a=some (seqObj "list" (outOf vs p).toArray c)->P (.done (.ret .none)) { s with heap:=h' }) :
  wpAny (model prog w) A (Builtin.«list.sort» ⟨[.ref a],[]⟩) P E s:=by
 rw[list_sort_plain]
 have ha:a < s.heap.objs.size:=Heap.lt_size ho
 have line:(1000:Nat)≤sizeLine:=by rw[sizeLine_eq];decide
 refine wpAny_bind (listItems_at ho rfl (wpAny_bind (listUpdate_at ho rfl ?_ (by rw[List.size_toArray];omega) (Nat.zero_le _))))
 have e1:=get?_update_seq ho fun _=>(#[]:Array Value)
 generalize (if ((fun _=>(#[]:Array Value)) vs.toArray).size == vs.toArray.size then n else n + 1)=n1 at e1
 have k1:Stay a s.heap (s.heap.update a (Obj.mapSeq fun _=>(#[]:Array Value))):=fun b o hb q=>(Heap.get?_update_other s.heap _ (Ne.symm hb)).trans q
 refine wpAny_bind (seqEpoch_at e1 rfl (wpAny_bind (wpAny_newTuple ?_ (by show vs.length≤_;omega))))
 refine wpAny_bind (wpAny_newList ?_ (Nat.zero_le _))
 refine wpAny_holding ?_
 show wpAny (model prog w) A _ P E { s with heap:=(((s.heap.update a (Obj.mapSeq fun _=>(#[]:Array Value))).push (seqObj "tuple" vs.toArray 0)).push (seqObj "list" #[] 0):Heap) }
 generalize hg:((s.heap.update a (Obj.mapSeq fun _=>(#[]:Array Value))).push (seqObj "tuple" vs.toArray 0)).push (seqObj "list" #[] 0)=g
 have e2:g.get? a=some (seqObj "list" #[] n1):=by rw[← hg];exact Heap.get?_push_of_some _ (Heap.get?_push_of_some _ e1)
 have k2:Stay a s.heap g:=fun b o hb q=>by rw[← hg];exact Heap.get?_push_of_some _ (Heap.get?_push_of_some _ (k1 b o hb q))
 have fin:∀ (p:Array Nat),Gd vs.length p->Up r p vs.length->P (.done (.ret .none)) { s with heap:=g.update a (Obj.mapSeq fun _=>(outOf vs p).toArray) }:=fun p g1 u1 =>
  h p _ _ g1 u1 (fun b o hb q=>(Heap.get?_update_other g _ (Ne.symm hb)).trans (k2 b o hb q)) (get?_update_seq e2 fun _=>(outOf vs p).toArray)
 by_cases h2:vs.length < 2
 ·have h2':vs.toArray.size < 2:=by rw[List.size_toArray];exact h2
  simp only [if_pos h2']
  refine wpAny_bind (wpAny_pure ?_)
  rw[StateT.run_pure]
  refine wpAny_bind (wpAny_pure ?_)
  have eo:((arrOf (SortSt.mk' general' (vs.toArray.zip vs.toArray) #[] 7 none)).map (·.2))=vs.toArray:=by
   apply Array.toList_inj.mp
   show ((vs.toArray.zip vs.toArray).map (·.2)).toList=_
   rw[Array.toList_map]
   simp only [Array.toList_zip,List.toList_toArray]
   exact List.map_snd_zip (Nat.le_refl _)
  dsimp only
  refine wpAny_bind (seqEpoch_at e2 rfl ?_)
  rw[eo]
  refine wpAny_bind (listUpdate_at e2 rfl ?_ (Nat.zero_le _) (by rw[List.size_toArray];omega))
  simp only [bne_self_eq_false,Bool.false_eq_true,if_false]
  have f:=fin (List.toArray (List.range vs.length)) (Array.Perm.refl _) (fun i j hij hj=>by
   have:i=j:=by omega
   subst this;exact Int.le_refl _)
  rw[out_range] at f
  exact wpAny_pure f
 ·have h2':¬ vs.toArray.size < 2:=by rw[List.size_toArray];exact h2
  simp only [if_neg h2']
  refine wpAny_bind (wpAny_mono (hk (by omega) { s with heap:=g } (fun κ' s'=>κ'=κ∧s'={ s with heap:=g }) k2 ⟨rfl,rfl⟩) (fun κ' s' hq=>?_) fun _ _ x=>x.elim)
  obtain⟨rfl,rfl⟩:=hq
  refine wpAny_bind (wpAny_mono (runB (r:=r) (Q:=fun st' s'=>∃ p:Array Nat,arrOf st'=p.map (kas_item (vs.toArray.zip vs.toArray))∧failedOf st'=none∧s'={ s with heap:=g }∧Gd vs.length p∧Up r p vs.length)
   (by omega) (fun i j C hi hj q=>hc _ i j C k2 hi hj q) (fun p st' b2 b3 b4 b5=>⟨p,b2,b3,rfl,b4,b5⟩)) ?_ fun _ _ e=>e)
  rintro ⟨⟨⟩,st'⟩ s' ⟨p,har,hf,rfl,g1,u1⟩
  have hout:=kat_snds (ks:=vs) (vs:=vs) rfl har
  have ol:(outOf vs p).length=vs.length:=gd_len g1
  dsimp only
  rw[hout]
  refine wpAny_bind (seqEpoch_at e2 rfl ?_)
  refine wpAny_bind (listUpdate_at e2 rfl ?_ (Nat.zero_le _) (by show (outOf vs p).toArray.size≤_;rw[List.size_toArray];omega))
  rw[hf]
  simp only [bne_self_eq_false,Bool.false_eq_true,if_false]
  exact wpAny_pure (fin p g1 u1)
/-- sorted(l) -/
theorem sorted_byB {l:Addr} {vs:List Value} {Q:Value->Shared->Prop} {r:Nat->Int} {κ:SortKind} (hl:s.heap.IsList l vs.toArray) (hz:vs.length≤1000)
  (hk:2≤vs.length->∀ (A':Around) (s':Shared) (Q:SortKind->Shared->Prop),(∀ b o,s.heap.get? b=some o->s'.heap.get? b=some o)->Q κ s'->wpAny (model prog w) A' (keyKind' vs.toArray) Q (fun _ _=>False) s')
  (hc:∀ (A':Around) (s':Shared) (i j:Nat) (C:Bool->Shared->Prop),(∀ b o,s.heap.get? b=some o->s'.heap.get? b=some o)->i < vs.length->j < vs.length->C (decide (r i < r j)) s'->kas_ask prog w A' κ vs i j C s')
  (h:∀ (p:Array Nat) (h':Heap) (c:Nat),Gd vs.length p->Up r p vs.length->(∀ b o,s.heap.get? b=some o->h'.get? b=some o)->h'.get? (s.heap.objs.size + 1)=some (seqObj "list" (outOf vs p).toArray c)->Q (.ref (s.heap.objs.size + 1)) { s with heap:=h' }) :
  wpAny (model prog w) A (call (.builtin "sorted") [.ref l]) Q E s:=by
 have line:(1000:Nat)≤sizeLine:=by rw[sizeLine_eq];decide
 refine Calls.call_function_entry kind_sorted plain_sorted entry_sorted (args_sorted1 _) ?_
 unfold Builtin.«sorted»
 refine wpAny_bind (m:=checkCount "sorted" 1 1 _) (wpAny_pure (wpAny_bind (collect_list hl (wpAny_bind (wpAny_newList ?_ (by omega))) (by omega))))
 generalize hg:(s.heap.push (seqObj "list" #[] 0)).update s.heap.objs.size (Obj.mapSeq (·++vs.toArray))=g
 have sz:g.objs.size=s.heap.objs.size + 1:=by rw[← hg,Heap.size_update,size_push']
 have k1:∀ b o,s.heap.get? b=some o->g.get? b=some o:=fun b o q=>by
  rw[← hg]
  exact (Heap.get?_update_other _ _ (Ne.symm (Nat.ne_of_lt (Heap.lt_size q)))).trans (Heap.get?_push_of_some _ q)
 have hoL:(g.push { cls:=.type "list",data:=.seq vs.toArray }).get? (s.heap.objs.size + 1)=some (seqObj "list" vs.toArray 0):=by rw[← sz];exact Heap.get?_push_size _ rfl
 have k2:∀ b o,s.heap.get? b=some o->(g.push { cls:=.type "list",data:=.seq vs.toArray }).get? b=some o:=fun b o q=>Heap.get?_push_of_some _ (k1 b o q)
 have ne:∀ b o,s.heap.get? b=some o->b≠s.heap.objs.size + 1:=fun b o q=>Nat.ne_of_lt (Nat.lt_succ_of_lt (Heap.lt_size q))
 show wpAny _ _ _ _ _ { s with heap:=g.push { cls:=.type "list",data:=.seq vs.toArray } }
 rw[sz]
 refine wpAny_bind (wpAny_holding (wpAny_call_entry slot_list_sort ⟨_,hoL,rfl⟩ entry_list_sort ?_ (args_list_sort _)))
 refine lsortB (s:={ s with heap:=g.push { cls:=.type "list",data:=.seq vs.toArray } }) (r:=r) (κ:=κ) hoL hz (fun h2 s' Q' st q=>hk h2 _ s' Q' (fun b o e=>st b o (ne b o e) (k2 b o e)) q)
  (fun s' i j C st hi hj q=>hc _ s' i j C (fun b o e=>st b o (ne b o e) (k2 b o e)) hi hj q) fun p h' c g1 u1 st e=>⟨_,rfl,?_⟩
 exact wpAny_pure ⟨_,rfl,h p h' c g1 u1 (fun b o e=>st b o (ne b o e) (k2 b o e)) e⟩
end
end Srt
namespace L3
open PySem PySem.Spec PyProof.Rows L2
/-- sorted(l), l a list of tuples of whole numbers that rise already -/
theorem call_sortedTL {X:Cx}:CallR X (.builtin "sorted") (fun xs H Q=>∃ p ys ks,xs=[.ref p]∧SqL X.K H p ys∧ys.length≤1000∧Paired (fun (y:V) (k:List Int)=>∃ a,y=.ref a∧SqT X.K H a (k.map V.int)) ys ks∧(∀ k ∈ ks,k≠[]) ∧
  ∀ qs:List (V × List Int),qs.Perm (ys.zip ks)->qs.Pairwise (fun a b=>Srt.lexI b.2 a.2=false)->∀ l,H l=none->Q (.ref l) (upd H l (.lst (qs.map (·.1))))):=by
 intro pins s σ H xs us Q I r h
 obtain⟨p,ys,ks,rfl,hq,h64,hp,hne,q⟩:=h
 obtain⟨u,rfl,rx⟩:=vals1 r
 cases rx
 obtain⟨its,rv,pl,hz⟩:=I.list hq
 have hl:=rv.length
 have hlk:ys.length=ks.length:=Paired.length hp
 have line:(1000:Nat)≤sizeLine:=by rw[sizeLine_eq];decide
 have hT:∀ {ys:List V} {ks:List (List Int)} {its:List Value},Paired (fun (y:V) (k:List Int)=>∃ a,y=.ref a∧SqT X.K H a (k.map V.int)) ys ks->Vals ys its->Paired (Srt.TupI s.heap) its ks:=by
  intro ys ks its hp
  induction hp generalizing its with
  | nil=>intro rv;cases rv;exact .nil
  | cons r t ih =>
   intro rv
   cases rv with
   | cons r1 r2 =>
    refine .cons ?_ (ih r2)
    obtain⟨a,rfl,qa⟩:=r
    cases r1
    obtain⟨its',rv',⟨o,e1,e2,n,e3⟩,_⟩:=I.tuple qa
    exact⟨a,o,its'.toArray,n,rfl,e1,e2,e3,by simpa using intsAre_of rv'⟩
 have tp:=hT hp rv
 have mono:∀ {h':Heap},(∀ b o,s.heap.get? b=some o->h'.get? b=some o)->Paired (Srt.TupI h') its ks:=fun k=>Paired.mapP tp fun v k' z=>z.to k
 refine Srt.sorted_byB (r:=Srt.rank its.length fun i j=>Srt.lexI (ks.getD i []) (ks.getD j [])) (κ:=tuples' true) pl.isList (by omega) (fun h2 A' s' Q' k q'=>Srt.tup_kind (mono k) hne h2 q')
  (fun A' s' i j C k hi hj q'=>Srt.tup_ask (mono k) hi hj (by rw[Srt.rank_lt (lt:=fun i j=>Srt.lexI (ks.getD i []) (ks.getD j [])) (fun i=>Srt.lexI_irr _) (fun _ _ _ _ _ _=>Srt.lexI_trans _ _ _) (fun _ _ _ _ _ _=>Srt.lexI_neg _ _ _) hi hj] at q';exact q')) fun pp h' c g u kp e=>?fin
 have fr:H (s.heap.objs.size + 1)=none:=I.hok.fresh (Nat.le_succ _)
 have pm:(pp.toList.map fun i=>(ys.getD i .non,ks.getD i [])).Perm (ys.zip ks):=by
  have h1:=gd_perm g fun i=>(ys.getD i V.non,ks.getD i [])
  have e1:(List.range its.length).map (fun i=>(ys.getD i V.non,ks.getD i []))=ys.zip ks:=by
   refine List.ext_getElem (by simp;omega) fun i h1 h2=>?_
   have hi:i < its.length:=by simpa using h1
   have a1:i < ys.length:=by omega
   have a2:i < ks.length:=by omega
   simp [List.getD,a1,a2]
  rw[e1] at h1
  exact h1
 have pw:(pp.toList.map fun i=>(ys.getD i V.non,ks.getD i [])).Pairwise (fun a b=>Srt.lexI b.2 a.2=false):=by
  rw[List.pairwise_map]
  refine up_pair g u fun i j hi hj z=>?_
  have w:=Srt.rank_lt (n:=its.length) (lt:=fun i j=>Srt.lexI (ks.getD i []) (ks.getD j [])) (fun i=>Srt.lexI_irr _) (fun _ _ _ _ _ _=>Srt.lexI_trans _ _ _) (fun _ _ _ _ _ _=>Srt.lexI_neg _ _ _) hj hi
  rw[decide_eq_false (by omega)] at w
  exact w.symm
 have ev:(pp.toList.map fun i=>(ys.getD i V.non,ks.getD i [])).map (·.1)=pp.toList.map fun i=>ys.getD i V.non:=by
  rw[List.map_map];rfl
 refine⟨.ref (s.heap.objs.size + 1),_,I.laid (a:=s.heap.objs.size + 1) (o:=.lst ((pp.toList.map fun i=>(ys.getD i V.non,ks.getD i [])).map (·.1))) (t':=s.toks) kp (Nat.le_succ _) ⟨?_,Srt.outOf its pp,c,?_,e⟩,rfl,q _ pm pw _ fr⟩
 ·have:=pm.length_eq
  rw[List.length_map,this,List.length_zip];omega
 ·rw[ev]
  exact vals_out rv pp.toList fun i hi=>by have:=gd_mem g i hi;omega
theorem call_sortedTB {X:Cx}:CallR X (.builtin "sorted") (fun xs H Q=>∃ p ys ks,xs=[.ref p]∧H p=some (.lst ys)∧ys.length≤1000∧Paired (fun (y:V) (k:List Int)=>∃ a,y=.ref a∧H a=some (.tup (k.map V.int))) ys ks∧(∀ k ∈ ks,k≠[]) ∧
  ∀ qs:List (V × List Int),qs.Perm (ys.zip ks)->qs.Pairwise (fun a b=>Srt.lexI b.2 a.2=false)->∀ l H',Same H H'->H l=none->H' l=some (.lst (qs.map (·.1)))->Q (.ref l) H'):=by
 intro pins s σ H xs us Q I r h
 obtain⟨p,ys,ks,rfl,hp,hz,pr,ne,q⟩:=h
 exact call_sortedTL (X:=X) pins s σ H _ us Q I r ⟨p,ys,ks,rfl,SqL.of hp,hz,Paired.mapP pr fun y k ⟨a,e1,e2⟩=>⟨a,e1,SqT.of e2⟩,ne,fun qs pq wq l hl=>q qs pq wq l _ (same_new hl) hl upd_same⟩
end L3
namespace Far
/-- walks along arcs, with their lengths -/
inductive Walk (A:List (Nat × Nat × Int)) (s:Nat):Nat->Int->Prop
 | nil:Walk A s s 0
 | snoc {u v:Nat} {l x:Int}:Walk A s u x->(u,v,l) ∈ A->Walk A s v (x + l)
variable {A:List (Nat × Nat × Int)} {s:Nat}
def Pos (A:List (Nat × Nat × Int)):Prop:=∀ u v l,(u,v,l) ∈ A->1≤l
theorem Walk.nonneg (P:Pos A) {v:Nat} {x:Int} (h:Walk A s v x):0≤x:=by
 induction h with
 | nil=>exact Int.le_refl 0
 | snoc _ m ih=>have:=P _ _ _ m;omega
def Dst (A:List (Nat × Nat × Int)) (s v:Nat) (o:Option Int):Prop:=(∀ y,o=some y->Walk A s v y)∧∀ L,Walk A s v L->∃ y,o=some y∧y≤L
theorem Dst.unique {v:Nat} {o p:Option Int} (h:Dst A s v o) (k:Dst A s v p):o=p:=by
 cases o with
 | none =>
  cases p with
  | none=>rfl
  | some y=>obtain⟨_,e,_⟩:=h.2 y (k.1 y rfl);cases e
 | some x =>
  obtain⟨y,rfl,hy⟩:=k.2 x (h.1 x rfl)
  obtain⟨z,e,hz⟩:=h.2 y (k.1 y rfl)
  cases e
  rw[show x=y by omega]
theorem least {P:Nat->Prop}:∀ n,P n->∃ m,P m∧∀ k,P k->m≤k:=by
 intro n
 induction n using Nat.strongRecOn with
 | ind n ih =>
  intro h
  by_cases c:∃ k,k < n∧P k
  ·obtain⟨k,hk,pk⟩:=c;exact ih k hk pk
  ·exact⟨n,h,fun k pk=>by
    by_cases z:k < n
    ·exact absurd ⟨k,z,pk⟩ c
    ·omega⟩
theorem dst_exists (P:Pos A) (s v:Nat):∃ o,Dst A s v o:=by
 by_cases c:∃ x,Walk A s v x
 ·obtain⟨x,hx⟩:=c
  have nn:=hx.nonneg P
  obtain⟨m,hm,mn⟩:=least (P:=fun k=>Walk A s v (k:Int)) x.toNat (by rw[Int.toNat_of_nonneg nn];exact hx)
  refine⟨some m,fun y e=>by cases e;exact hm,fun L hL=>⟨m,rfl,?_⟩⟩
  have n2:=hL.nonneg P
  have:=mn L.toNat (by rw[Int.toNat_of_nonneg n2];exact hL)
  omega
 ·exact⟨none,⟨fun y e=>(by cases e),fun L hL=>absurd ⟨L,hL⟩ c⟩⟩
theorem Walk.cons {u v:Nat} {l:Int} (m:(u,v,l) ∈ A) {w:Nat} {x:Int} (h:Walk A v w x):Walk A u w (x + l):=by
 induction h with
 | nil=>exact .snoc .nil m
 | snoc _ m' ih=>rw[Int.add_right_comm];exact .snoc ih m'
def Sym (A:List (Nat × Nat × Int)):Prop:=∀ u v l,(u,v,l) ∈ A->(v,u,l) ∈ A
theorem Walk.back (S:Sym A) {v:Nat} {x:Int} (h:Walk A s v x):Walk A v s x:=by
 induction h with
 | nil=>exact .nil
 | snoc _ m ih=>exact ih.cons (S _ _ _ m)
theorem Dst.back (S:Sym A) {v:Nat} {o:Option Int} (h:Dst A s v o):Dst A v s o:=⟨fun y e=>(h.1 y e).back S,fun L hL=>h.2 L (hL.back S)⟩
def lt2 (e f:Int × Int):Prop:=e.1 < f.1∨(e.1=f.1∧e.2 < f.2)
def get {α:Type} (cs:List (Option α)) (v:Nat):Option α:=cs.getD v none
theorem get_set {α:Type} {cs:List (Option α)} {v i:Nat} {x:Option α} (h:v < cs.length):get (cs.set v x) i=if i=v then x else get cs i:=by
 unfold get
 rw[List.getD_eq_getElem?_getD,List.getElem?_set,List.getD_eq_getElem?_getD]
 by_cases c:v=i
 ·subst c;simp [h]
 ·simp [c,Ne.symm c]
def ct {α:Type}:List (Option α)->Nat
 | []=>0
 | none::r=>ct r
 | some _::r=>ct r + 1
theorem ct_le {α:Type}:∀ cs:List (Option α),ct cs≤cs.length
 | []=>Nat.le_refl 0
 | none::r=>Nat.le_succ_of_le (ct_le r)
 | some _::r=>Nat.succ_le_succ (ct_le r)
theorem ct_set {α:Type} {c:α}:∀ {cs:List (Option α)} {v:Nat},v < cs.length->ct (cs.set v (some c))=ct cs + (if (get cs v).isSome then 0 else 1)
 | none::r,0,_=>rfl
 | some _::r,0,_=>rfl
 | none::r,v + 1,h=>ct_set (cs:=r) (v:=v) (by simpa using h)
 | some _::r,v + 1,h=>by
  have:=ct_set (c:=c) (cs:=r) (v:=v) (by simpa using h)
  show ct (r.set v (some c)) + 1=ct r + 1 + _
  rw[this]
  show _=ct r + 1 + (if (get r v).isSome then 0 else 1)
  omega
theorem ct_pos {α:Type}:∀ {cs:List (Option α)} {v:Nat} {c:α},get cs v=some c->1≤ct cs
 | [],v,c,h=>by cases h
 | some _::r,_,_,_=>Nat.succ_le_succ (Nat.zero_le _)
 | none::r,0,c,h=>by cases h
 | none::r,v + 1,c,h=>ct_pos (cs:=r) (v:=v) (c:=c) h
/-- the weight of costs, which falls -/
def WM:Int:=2 ^ 130
def mW:Option (Int × Int)->Nat
 | none=>(2 ^ 250)
 | some c=>(c.1 * WM + c.2).toNat
def mu:List (Option (Int × Int))->Nat
 | []=>0
 | c::r=>mW c + mu r
theorem mu_set {x:Option (Int × Int)}:∀ {cs:List (Option (Int × Int))} {v:Nat},v < cs.length->mW x < mW (get cs v)->mu (cs.set v x) < mu cs
 | c::r,0,_,h=>Nat.add_lt_add_right (k:=mu r) h
 | c::r,v + 1,hl,h=>Nat.add_lt_add_left (k:=mW c) (mu_set (cs:=r) (v:=v) (by simpa using hl) h)
structure Good (A:List (Nat × Nat × Int)) (n s:Nat) (cs:List (Option (Int × Int))):Prop where
 len:cs.length=n
 walk:∀ v c,get cs v=some c->Walk A s v c.1
 w0:∀ v c,get cs v=some c->0≤c.2∧c.2≤c.1 * 2 ^ 60
 top:∀ v c,get cs v=some c->c.1≤((ct cs:Nat) - 1:Int) * 10 ^ 18
 start:∃ c,get cs s=some c∧c.1≤0
theorem Good.step {n u v:Nat} {l w:Int} {cs:List (Option (Int × Int))} {c:Int × Int} (P:Pos A) (n24:n≤24) (g:Good A n s cs) (arc:(u,v,l) ∈ A) (l1:l≤10 ^ 18) (w0:0≤w) (w1:w≤2 ^ 60) (hv:v < n) (hu:get cs u=some c)
  (h:get cs v=none∨∃ c',get cs v=some c'∧lt2 (c.1 + l,c.2 + w) c'):Good A n s (cs.set v (some (c.1 + l,c.2 + w)))∧mu (cs.set v (some (c.1 + l,c.2 + w))) < mu cs:=by
 have hv':v < cs.length:=by rw[g.len];exact hv
 have l0:=P _ _ _ arc
 have wk:=Walk.snoc (g.walk _ _ hu) arc
 have c0:=(g.walk _ _ hu).nonneg P
 obtain⟨cw0,cw1⟩:=g.w0 _ _ hu
 have ct24:ct cs≤24:=by have:=ct_le cs;rw[g.len] at this;omega
 have ctp:=ct_pos hu
 have es:=ct_set (c:=(c.1 + l,c.2 + w)) hv'
 have topc:=g.top _ _ hu
 have wbound:c.2 + w≤(c.1 + l) * 2 ^ 60:=by rw[Int.add_mul];omega
 have big:c.1 + l≤((ct (cs.set v (some (c.1 + l,c.2 + w))):Nat) - 1:Int) * 10 ^ 18:=by
  rw[es]
  rcases h with h | ⟨c',h,hlt⟩
  ·rw[h]
   show _≤(((ct cs + 1:Nat):Int) - 1) * 10 ^ 18
   omega
  ·rw[h]
   show _≤(((ct cs + 0:Nat):Int) - 1) * 10 ^ 18
   have:=g.top _ _ h
   unfold lt2 at hlt
   simp only at hlt
   omega
 have ctm:ct cs≤ct (cs.set v (some (c.1 + l,c.2 + w))):=by rw[es];exact Nat.le_add_right _ _
 refine⟨⟨by rw[List.length_set];exact g.len,fun v' d e=>?_,fun v' d e=>?_,fun v' d e=>?_,?_⟩,?_⟩
 ·rw[get_set hv'] at e
  split at e
  ·rename_i z;subst z;cases e;exact wk
  ·exact g.walk _ _ e
 ·rw[get_set hv'] at e
  split at e
  ·cases e;exact⟨by show 0≤c.2 + w;omega,wbound⟩
  ·exact g.w0 _ _ e
 ·rw[get_set hv'] at e
  split at e
  ·cases e;exact big
  ·have:=g.top _ _ e
   omega
 ·obtain⟨d,hd,hd0⟩:=g.start
  rw[get_set hv']
  split
  ·rename_i z;subst z
   refine⟨_,rfl,?_⟩
   rcases h with h | ⟨c',h,hlt⟩
   ·rw[h] at hd;cases hd
   ·rw[h] at hd;cases hd
    unfold lt2 at hlt
    simp only at hlt
    show c.1 + l≤0
    omega
  ·exact⟨d,hd,hd0⟩
 ·refine mu_set hv' ?_
  have ctb:ct (cs.set v (some (c.1 + l,c.2 + w)))≤24:=by have:=ct_le (cs.set v (some (c.1 + l,c.2 + w)));rw[List.length_set,g.len] at this;omega
  have x23:c.1 + l≤23 * 10 ^ 18:=by omega
  have y23:c.2 + w≤23 * 10 ^ 18 * 2 ^ 60:=by omega
  have WMe:WM=1361129467683753853853498429727072845824:=by decide
  rcases h with h | ⟨c',h,hlt⟩
  ·rw[h]
   show ((c.1 + l) * WM + (c.2 + w)).toNat < 2 ^ 250
   have:(c.1 + l) * WM + (c.2 + w) < 2 ^ 250:=by rw[WMe];omega
   omega
  ·rw[h]
   obtain⟨d0,d1⟩:=g.w0 _ _ h
   have t0:=(g.walk _ _ h).nonneg P
   have tt:=g.top _ _ h
   show ((c.1 + l) * WM + (c.2 + w)).toNat < (c'.1 * WM + c'.2).toNat
   unfold lt2 at hlt
   simp only at hlt
   have:(c.1 + l) * WM + (c.2 + w) < c'.1 * WM + c'.2:=by
    rw[WMe]
    rcases hlt with z | ⟨z,z'⟩
    ·omega
    ·rw[z];omega
   have p0:0≤(c.1 + l) * WM + (c.2 + w):=by rw[WMe];omega
   omega
/-- stable along arcs -/
def Stab (A:List (Nat × Nat × Int)) (cs:List (Option (Int × Int))):Prop:=∀ u v l c,(u,v,l) ∈ A->get cs u=some c->∃ c',get cs v=some c'∧c'.1≤c.1 + l
theorem Good.dst {n:Nat} {cs:List (Option (Int × Int))} (g:Good A n s cs) (st:Stab A cs) (v:Nat):Dst A s v ((get cs v).map (·.1)):=by
 refine⟨fun y e=>?_,fun L hL=>?_⟩
 ·cases h:get cs v with
  | none=>rw[h] at e;cases e
  | some c=>rw[h] at e;cases e;exact g.walk _ _ h
 ·have:∃ c,get cs v=some c∧c.1≤L:=by
   induction hL with
   | nil=>exact g.start
   | snoc _ m ih =>
    obtain⟨c,hc,hle⟩:=ih
    obtain⟨c',hc',hle'⟩:=st _ _ _ _ m hc
    exact⟨c',hc',by omega⟩
  obtain⟨c,hc,hle⟩:=this
  exact⟨c.1,by rw[hc];rfl,hle⟩
structure Snd (A:List (Nat × Nat × Int)) (n s:Nat) (D:List (Option Int)):Prop where
 len:D.length=n
 walk:∀ v x,get D v=some x->Walk A s v x
 start:∃ x,get D s=some x∧x≤0
structure Rnd (A:List (Nat × Nat × Int)) (n s:Nat) (δ:Nat->Option Int) (D0:List (Option Int)) (B:(Nat × Nat × Int)->Prop) (D:List (Option Int)):Prop where
 snd:Snd A n s D
 keep:∀ v,get D0 v=δ v->get D v=δ v
 arc:∀ u v l x,B (u,v,l)->get D0 u=δ u->δ u=some x->∃ y,get D v=some y∧y≤x + l
section
variable {n:Nat} {δ:Nat->Option Int} {D0 D:List (Option Int)} {B:(Nat × Nat × Int)->Prop} {u v:Nat} {l:Int}
def plus (B:(Nat × Nat × Int)->Prop) (a:Nat × Nat × Int):(Nat × Nat × Int)->Prop:=fun b=>B b∨b=a
end
theorem countP_lt {α:Type} {p q:α->Bool}:∀ {xs:List α},(∀ x ∈ xs,p x=true->q x=true)->(∃ x ∈ xs,q x=true∧p x=false)->xs.countP p < xs.countP q
 | [],_,⟨x,h,_⟩=>by cases h
 | a::r,h,⟨x,hx,e1,e2⟩=>by
  rw[List.countP_cons,List.countP_cons]
  have le:r.countP p≤r.countP q:=List.countP_mono_left fun x hx=>h x (List.mem_cons_of_mem _ hx)
  rcases List.mem_cons.mp hx with rfl | hx
  ·rw[e1,e2];simp;omega
  ·have:=countP_lt (xs:=r) (fun x hx=>h x (List.mem_cons_of_mem _ hx)) ⟨x,hx,e1,e2⟩
   have:=h a List.mem_cons_self
   cases e:p a <;> cases e':q a <;> simp_all <;> omega
def cnt (n:Nat) (δ:Nat->Option Int) (D:List (Option Int)):Nat:=(List.range n).countP fun v=>decide (get D v=δ v)
def Done (n:Nat) (δ:Nat->Option Int) (D:List (Option Int)) (k:Nat):Prop:=(∀ v,v < n->get D v=δ v)∨k + 1≤cnt n δ D
def PSt (c0:List (Option (Int × Int))) (B:(Nat × Nat × Int)->Prop) (cs:List (Option (Int × Int))) (ag:Bool):Prop :=
 (ag=false∧cs=c0∧∀ u v l c,B (u,v,l)->get c0 u=some c->∃ c',get c0 v=some c'∧c'.1≤c.1 + l)∨(ag=true∧mu cs < mu c0)
section
variable {c0 cs:List (Option (Int × Int))} {B B':(Nat × Nat × Int)->Prop} {ag:Bool} {u v:Nat} {l w:Int}
end
theorem get_rep {α:Type} (n v:Nat):get (List.replicate n (none:Option α)) v=none:=by
 unfold get
 rw[List.getD_eq_getElem?_getD,List.getElem?_replicate]
 split <;> rfl
theorem ct_rep {α:Type}:∀ n:Nat,ct (List.replicate n (none:Option α))=0
 | 0=>rfl
 | n + 1=>ct_rep n
theorem Good.first {n:Nat} (hs:s < n):Good A n s ((List.replicate n none).set s (some (0,0))):=by
 have hl:s < (List.replicate n (none:Option (Int × Int))).length:=by rw[List.length_replicate];exact hs
 have cases':∀ v c,get ((List.replicate n (none:Option (Int × Int))).set s (some (0,0))) v=some c->v=s∧c=(0,0):=fun v c e=>by
  rw[get_set hl,get_rep] at e
  split at e
  ·rename_i z;cases e;exact⟨z,rfl⟩
  ·cases e
 refine⟨by rw[List.length_set,List.length_replicate],fun v c e=>?_,fun v c e=>?_,fun v c e=>?_,⟨(0,0),?_,Int.le_refl _⟩⟩
 ·obtain⟨rfl,rfl⟩:=cases' _ _ e;exact .nil
 ·obtain⟨rfl,rfl⟩:=cases' _ _ e;exact⟨Int.le_refl _,by decide⟩
 ·obtain⟨rfl,rfl⟩:=cases' _ _ e
  rw[ct_set hl,ct_rep,get_rep];decide
 ·rw[get_set hl,if_pos rfl]
end Far
namespace Far
variable {A:List (Nat × Nat × Int)} {s:Nat}
/-- the places ahead -/
structure Ahd (A:List (Nat × Nat × Int)) (s:Nat) (cs:List (Option (Int × Int))) (as:List (Option Nat)):Prop where
 len:as.length=cs.length
 root:get as s=none
 has:∀ v c,get cs v=some c->v≠s->get as v≠none
 arc:∀ v u,get as v=some u->∃ l cu cv,(u,v,l) ∈ A∧get cs u=some cu∧get cs v=some cv∧cu.1 + l≤cv.1
/-- a way, as a list from its start -/
inductive Tr (A:List (Nat × Nat × Int)) (a:Nat):List Nat->Nat->Int->Prop
 | one:Tr A a [a] a 0
 | snoc {ws:List Nat} {u v:Nat} {x l:Int}:Tr A a ws u x->(u,v,l) ∈ A->Tr A a (ws++[v]) v (x + l)
/-- how many places are as far or further -/
def beyond (n:Nat) (cs:List (Option (Int × Int))) (d:Int):Nat:=(List.range n).countP fun v=>match get cs v with | none=>false | some c=>decide (d≤c.1)
theorem beyond_lt {n u:Nat} {cs:List (Option (Int × Int))} {cu:Int × Int} {d:Int} (hu:u < n) (e:get cs u=some cu) (h:cu.1 < d):beyond n cs d < beyond n cs cu.1:=by
 refine countP_lt (fun v _ hv=>?_) ⟨u,List.mem_range.mpr hu,?_,?_⟩
 ·cases e2:get cs v with
  | none=>rw[e2] at hv;cases hv
  | some c=>rw[e2] at hv;have:=of_decide_eq_true hv;exact decide_eq_true (by omega)
 ·rw[e];exact decide_eq_true (Int.le_refl _)
 ·rw[e];exact decide_eq_false (by omega)
theorem beyond_le (n:Nat) (cs:List (Option (Int × Int))) (d:Int):beyond n cs d≤n:=by
 have:=List.countP_le_length (p:=fun v=>match get cs v with | none=>false | some c=>decide (d≤c.1)) (l:=List.range n)
 rw[List.length_range] at this;exact this
theorem beyond_pos {n u:Nat} {cs:List (Option (Int × Int))} {cu:Int × Int} (hu:u < n) (e:get cs u=some cu):1≤beyond n cs cu.1 :=
 List.countP_pos_iff.mpr ⟨u,List.mem_range.mpr hu,by rw[e];exact decide_eq_true (Int.le_refl _)⟩
end Far
namespace Far
def sumP:List Nat->Nat
 | []=>0
 | k::r=>2 ^ k + sumP r
theorem sumP_perm {S S':List Nat} (h:S.Perm S'):sumP S=sumP S':=by
 induction h with
 | nil=>rfl
 | cons x _ ih=>show _ + _=_ + _;rw[ih]
 | swap x y l=>show 2 ^ y + (2 ^ x + sumP l)=2 ^ x + (2 ^ y + sumP l);omega
 | trans _ _ h1 h2=>exact h1.trans h2
theorem sumP_append (S:List Nat):∀ T:List Nat,sumP (S++T)=sumP S + sumP T:=by
 intro T
 induction S with
 | nil=>show sumP T=0 + sumP T;omega
 | cons k r ih=>show 2 ^ k + sumP (r++T)=2 ^ k + sumP r + sumP T;rw[ih];omega
theorem sumP_lt:∀ (m:Nat) {S:List Nat},S.Nodup->(∀ k ∈ S,k < m)->sumP S < 2 ^ m
 | 0,S,_,h=>by
  cases S with
  | nil=>exact Nat.zero_lt_one
  | cons k r=>exact absurd (h k List.mem_cons_self) (Nat.not_lt_zero _)
 | m + 1,S,nd,h=>by
  have e:2 ^ (m + 1)=2 ^ m + 2 ^ m:=by rw[Nat.pow_succ];omega
  by_cases c:m ∈ S
  ·have p:=List.perm_cons_erase c
   have nd':(m::S.erase m).Nodup:=p.nodup_iff.mp nd
   have:=sumP_lt m (S:=S.erase m) (List.nodup_cons.mp nd').2 fun k hk=>by
    have h1:=h k (List.mem_of_mem_erase hk)
    have h2:k≠m:=fun z=>(List.nodup_cons.mp nd').1 (z ▸ hk)
    omega
   rw[sumP_perm p,e]
   show 2 ^ m + sumP (S.erase m) < _
   omega
  ·have:=sumP_lt m nd fun k hk=>by
    have h1:=h k hk
    have h2:k≠m:=fun z=>c (z ▸ hk)
    omega
   omega
theorem sumP_inj:∀ (m:Nat) {S S':List Nat},S.Nodup->S'.Nodup->(∀ k ∈ S,k < m)->(∀ k ∈ S',k < m)->sumP S=sumP S'->∀ k,k ∈ S->k ∈ S'
 | 0,S,S',_,_,h,_,_,k,hk=>absurd (h k hk) (Nat.not_lt_zero _)
 | m + 1,S,S',nd,nd',h,h',e,k,hk=>by
  have lower:∀ {T:List Nat},T.Nodup->(∀ k ∈ T,k < m + 1)->m ∉ T->sumP T < 2 ^ m:=fun {T} n1 n2 n3=>sumP_lt m n1 fun j hj=>by
   have h1:=n2 j hj
   have h2:j≠m:=fun z=>n3 (z ▸ hj)
   omega
  by_cases c:m ∈ S
  ·have p:=List.perm_cons_erase c
   have ndp:(m::S.erase m).Nodup:=p.nodup_iff.mp nd
   have e1:sumP S=2 ^ m + sumP (S.erase m):=sumP_perm p
   by_cases c':m ∈ S'
   ·have p':=List.perm_cons_erase c'
    have ndp':(m::S'.erase m).Nodup:=p'.nodup_iff.mp nd'
    have e2:sumP S'=2 ^ m + sumP (S'.erase m):=sumP_perm p'
    by_cases z:k=m
    ·rw[z];exact c'
    ·have lt:∀ {T:List Nat},(m::T.erase m).Nodup->(∀ k ∈ T,k < m + 1)->∀ j ∈ T.erase m,j < m:=fun {T} n1 n2 j hj=>by
      have h1:=n2 j (List.mem_of_mem_erase hj)
      have h2:j≠m:=fun y=>(List.nodup_cons.mp n1).1 (y ▸ hj)
      omega
     have:=sumP_inj m (List.nodup_cons.mp ndp).2 (List.nodup_cons.mp ndp').2 (lt ndp h) (lt ndp' h') (by omega) k ((List.mem_erase_of_ne z).mpr hk)
     exact List.mem_of_mem_erase this
   ·have:=lower nd' h' c'
    omega
  ·by_cases c':m ∈ S'
   ·have e2:sumP S'=2 ^ m + sumP (S'.erase m):=sumP_perm (List.perm_cons_erase c')
    have:=lower nd h c
    omega
   ·have lt:∀ {T:List Nat},(∀ k ∈ T,k < m + 1)->m ∉ T->∀ j ∈ T,j < m:=fun {T} n1 n2 j hj=>by
     have h1:=n1 j hj
     have h2:j≠m:=fun y=>n2 (y ▸ hj)
     omega
    exact sumP_inj m nd nd' (lt h c) (lt h' c') e k hk
abbrev Arc:=Nat × Nat × Int × Nat
inductive Rt (B:List Arc) (a:Nat):List Nat->List Nat->Nat->Int->Int->Prop
 | one:Rt B a [a] [] a 0 0
 | snoc {ws S:List Nat} {u v:Nat} {x y l:Int} {k:Nat}:Rt B a ws S u x y->(u,v,l,k) ∈ B->v ∉ ws->Rt B a (ws++[v]) (S++[k]) v (x + l) (y + 2 ^ k)
structure Keys (B:List Arc):Prop where
 sym:∀ u v l k,(u,v,l,k) ∈ B->(v,u,l,k) ∈ B
 key:∀ u v l u' v' l' k,(u,v,l,k) ∈ B->(u',v',l',k) ∈ B->l'=l∧((u'=u∧v'=v)∨(u'=v∧v'=u))
 ne:∀ u v l k,(u,v,l,k) ∈ B->u≠v
 pos:∀ u v l k,(u,v,l,k) ∈ B->1≤l
 few:∀ u v l k,(u,v,l,k) ∈ B->k < 60
variable {B:List Arc} {a b:Nat} {ws S:List Nat} {x y:Int}
theorem Rt.last (h:Rt B a ws S b x y):b ∈ ws:=by
 cases h with
 | one=>exact List.mem_singleton.mpr rfl
 | snoc _ _ _=>exact List.mem_append_right _ (List.mem_singleton.mpr rfl)
theorem Rt.ends (K:Keys B) (h:Rt B a ws S b x y):∀ k ∈ S,∃ u v l,(u,v,l,k) ∈ B∧u ∈ ws∧v ∈ ws:=by
 induction h with
 | one=>intro k hk;cases hk
 | @snoc ws S u v x y l k r m nv ih =>
  intro j hj
  rcases List.mem_append.mp hj with hj | hj
  ·obtain⟨p,q,l',h1,h2,h3⟩:=ih j hj
   exact⟨p,q,l',h1,List.mem_append_left _ h2,List.mem_append_left _ h3⟩
  ·rw[List.mem_singleton.mp hj]
   exact⟨u,v,l,m,List.mem_append_left _ r.last,List.mem_append_right _ (List.mem_singleton.mpr rfl)⟩
theorem Rt.fresh (K:Keys B) (h:Rt B a ws S b x y) {u v:Nat} {l:Int} {k:Nat} (m:(u,v,l,k) ∈ B) (nv:v ∉ ws):k ∉ S:=fun hk=>by
 obtain⟨p,q,l',m',hp,hq⟩:=h.ends K k hk
 rcases (K.key _ _ _ _ _ _ _ m m').2 with ⟨e1,e2⟩ | ⟨e1,e2⟩
 ·exact nv (e2 ▸ hq)
 ·exact nv (e1 ▸ hp)
theorem Rt.nodup (K:Keys B) (h:Rt B a ws S b x y):S.Nodup:=by
 induction h with
 | one=>exact List.nodup_nil
 | @snoc ws S u v x y l k r m nv ih =>
  refine List.nodup_append.mpr ⟨ih,by simp,fun p hp q hq z=>?_⟩
  rw[List.mem_singleton.mp hq] at z
  exact r.fresh K m nv (z ▸ hp)
theorem Rt.small (K:Keys B) (h:Rt B a ws S b x y):∀ k ∈ S,k < 60:=fun k hk=>let ⟨u,v,l,m,_⟩:=h.ends K k hk;K.few u v l k m
theorem Rt.sum (h:Rt B a ws S b x y):y=(sumP S:Nat):=by
 induction h with
 | one=>rfl
 | @snoc ws S u v x y l k r m nv ih =>
  rw[sumP_append,ih]
  show ((sumP S:Nat):Int) + 2 ^ k=((sumP S + (2 ^ k + 0):Nat):Int)
  have:((2 ^ k:Nat):Int)=(2:Int) ^ k:=by norm_cast
  omega
theorem Rt.lt (K:Keys B) (h:Rt B a ws S b x y):0≤y∧y < 2 ^ 60:=by
 have e:=h.sum
 have:=sumP_lt 60 (h.nodup K) (h.small K)
 have e2:((2 ^ 60:Nat):Int)=(2:Int) ^ 60:=by norm_cast
 omega
/-- the same sum of powers: the same route -/
theorem Rt.unique (K:Keys B) (h:Rt B a ws S b x y):∀ {ws' S':List Nat} {x':Int},Rt B a ws' S' b x' y->ws'=ws∧x'=x:=by
 induction h with
 | one =>
  intro ws' S' x' r
  generalize ey:(0:Int)=yy at r
  cases r with
  | one=>exact⟨rfl,rfl⟩
  | @snoc ws0 S0 u _ x0 y0 l k r m nv =>
   have p:=r.lt K
   have:(0:Int) < 2 ^ k:=Int.pow_pos (by decide)
   omega
 | @snoc ws0 S0 u v x0 y0 l k r m nv ih =>
  intro ws' S' x' r'
  have full:Rt B a (ws0++[v]) (S0++[k]) v (x0 + l) (y0 + 2 ^ k):=.snoc r m nv
  have se:sumP S'=sumP (S0++[k]):=by
   have e1:=r'.sum
   have e2:=full.sum
   omega
  have sub:=sumP_inj 60 (r'.nodup K) (full.nodup K) (r'.small K) (full.small K) se
  generalize ey:y0 + 2 ^ k=yy at r'
  cases r' with
  | one =>
   have p:=r.lt K
   have:(0:Int) < 2 ^ k:=Int.pow_pos (by decide)
   omega
  | @snoc ws1 S1 u1 _ x1 y1 l1 k1 r1 m1 nv1 =>
   have in1:=sub k1 (List.mem_append_right _ (List.mem_singleton.mpr rfl))
   have k1k:k1=k:=by
    rcases List.mem_append.mp in1 with z | z
    ·exact absurd z (r.fresh K m1 nv)
    ·exact List.mem_singleton.mp z
   subst k1k
   obtain⟨el,eu⟩:=K.key _ _ _ _ _ _ _ m m1
   have uu:u1=u:=by
    rcases eu with ⟨e,_⟩ | ⟨e,e'⟩
    ·exact e
    ·exact absurd e' (K.ne _ _ _ _ m).symm
   subst uu
   have yy1:y1=y0:=by omega
   subst yy1
   obtain⟨e1,e2⟩:=ih r1
   exact⟨by rw[e1],by rw[e2,el]⟩
theorem Rt.cons (K:Keys B) {u:Nat} {l:Int} {k:Nat} (m:(u,a,l,k) ∈ B) (h:Rt B a ws S b x y):u ∉ ws->Rt B u (u::ws) (k::S) b (x + l) (y + 2 ^ k):=by
 induction h with
 | one =>
  intro nu
  have:Rt B u ([u]++[a]) ([]++[k]) a (0 + l) (0 + 2 ^ k):=.snoc .one m (fun z=>nu (by rw[List.mem_singleton] at z ⊢;exact z.symm))
  exact this
 | @snoc ws S w v x y l' k' r m' nv ih =>
  intro nu
  have r2:=ih fun z=>nu (List.mem_append_left _ z)
  have:Rt B u ((u::ws)++[v]) ((k::S)++[k']) v (x + l + l') (y + 2 ^ k + 2 ^ k'):=.snoc r2 m' fun z=>by
   rcases List.mem_cons.mp z with z | z
   ·exact nu (List.mem_append_right _ (List.mem_singleton.mpr z.symm))
   ·exact nv z
  rw[Int.add_right_comm x l l',Int.add_right_comm y] at this
  exact this
theorem Rt.back (K:Keys B) (h:Rt B a ws S b x y):Rt B b ws.reverse S.reverse a x y:=by
 induction h with
 | one=>exact .one
 | @snoc ws S u v x y l k r m nv ih =>
  rw[List.reverse_append,List.reverse_append]
  exact ih.cons K (K.sym _ _ _ _ m) (fun z=>nv (List.mem_reverse.mp z))
end Far
namespace Far
structure Best (B:List Arc) (n s:Nat) (cs:List (Option (Int × Int))) (as:List (Option Nat)):Prop where
 len:cs.length=n
 alen:as.length=n
 start:get cs s=some (0,0)
 root:get as s=none
 has:∀ v c,get cs v=some c->v≠s->get as v≠none
 nn:∀ v c,get cs v=some c->0≤c.1
 stab:∀ u v l k c,(u,v,l,k) ∈ B->get cs u=some c->∃ c',get cs v=some c'∧¬ lt2 (c.1 + l,c.2 + 2 ^ k) c'
 arc:∀ v u,get as v=some u->∃ l k cu,(u,v,l,k) ∈ B∧get cs u=some cu∧get cs v=some (cu.1 + l,cu.2 + 2 ^ k)
/-- the way by the tree, from its root -/
inductive TPw (as:List (Option Nat)) (s:Nat):List Nat->Nat->Prop
 | root:TPw as s [s] s
 | step {ws:List Nat} {u v:Nat}:get as v=some u->TPw as s ws u->TPw as s (ws++[v]) v
section
variable {B:List Arc} {n s:Nat} {cs:List (Option (Int × Int))} {as:List (Option Nat)}
theorem Best.route (K:Keys B) (h:Best B n s cs as):∀ (m:Nat) (v:Nat) (c:Int × Int),get cs v=some c->c.1.toNat≤m->∃ ws S,Rt B s ws S v c.1 c.2∧TPw as s ws v∧∀ w ∈ ws,∃ cw,get cs w=some cw∧cw.1≤c.1:=by
 intro m
 induction m using Nat.strongRecOn with
 | ind m ih =>
  intro v c e hm
  by_cases vs:v=s
  ·subst vs
   rw[h.start] at e;cases e
   exact⟨[v],[],.one,.root,fun w hw=>by rw[List.mem_singleton.mp hw];exact⟨_,h.start,Int.le_refl _⟩⟩
  ·cases ea:get as v with
   | none=>exact absurd ea (h.has v c e vs)
   | some u =>
    obtain⟨l,k,cu,ma,eu,ev⟩:=h.arc v u ea
    rw[e] at ev;cases ev
    have l1:=K.pos _ _ _ _ ma
    have c0:=h.nn _ _ eu
    simp only at hm
    obtain⟨ws,S,r,tp,all⟩:=ih cu.1.toNat (by omega) u cu eu (Nat.le_refl _)
    have nv:v ∉ ws:=fun z=>by
     obtain⟨cw,e1,h1⟩:=all v z
     rw[e] at e1;cases e1
     simp only at h1;omega
    refine⟨ws++[v],S++[k],.snoc r ma nv,.step ea tp,fun w hw=>?_⟩
    rcases List.mem_append.mp hw with hw | hw
    ·obtain⟨cw,e1,h1⟩:=all w hw
     exact⟨cw,e1,by show cw.1≤cu.1 + l;omega⟩
    ·rw[List.mem_singleton.mp hw]
     exact⟨_,e,Int.le_refl _⟩
theorem Best.small (K:Keys B) (h:Best B n s cs as) {v:Nat} {c:Int × Int} (e:get cs v=some c):0≤c.2∧c.2 < 2 ^ 60:=by
 obtain⟨ws,S,r,_⟩:=h.route K _ v c e (Nat.le_refl _)
 exact r.lt K
/-- no route is less -/
theorem Best.least (h:Best B n s cs as) {ws S:List Nat} {v:Nat} {x y:Int} (r:Rt B s ws S v x y):∃ c,get cs v=some c∧¬ lt2 (x,y) c:=by
 induction r with
 | one=>exact⟨_,h.start,fun z=>by unfold lt2 at z;simp only at z;omega⟩
 | @snoc ws S u v x y l k r m nv ih =>
  obtain⟨c,e,hc⟩:=ih
  obtain⟨c',e',hc'⟩:=h.stab _ _ _ _ _ m e
  refine⟨c',e',fun z=>?_⟩
  unfold lt2 at *
  simp only at *
  omega
end
/-- lengths and powers in one number -/
def comb (c:Int × Int):Int:=c.1 * 2 ^ 61 + c.2
def arcsC (B:List Arc):List (Nat × Nat × Int):=B.map fun b=>(b.1,b.2.1,b.2.2.1 * 2 ^ 61 + 2 ^ b.2.2.2)
theorem arcsC_mem {B:List Arc} {u v:Nat} {L:Int}:(u,v,L) ∈ arcsC B↔∃ l k,(u,v,l,k) ∈ B∧L=l * 2 ^ 61 + 2 ^ k:=by
 unfold arcsC
 rw[List.mem_map]
 constructor
 ·rintro ⟨⟨a,b,l,k⟩,h,e⟩
  cases e
  exact⟨l,k,h,rfl⟩
 ·rintro ⟨l,k,h,rfl⟩
  exact⟨(u,v,l,k),h,rfl⟩
section
variable {B:List Arc} {n s:Nat} {cs:List (Option (Int × Int))} {as:List (Option Nat)}
theorem two_pos (k:Nat):(1:Int)≤2 ^ k:=Int.pow_pos (by decide)
theorem arcsC_sym (K:Keys B):Sym (arcsC B):=fun u v L h=>by
 obtain⟨l,k,m,rfl⟩:=arcsC_mem.mp h
 exact arcsC_mem.mpr ⟨l,k,K.sym _ _ _ _ m,rfl⟩
theorem Best.dst (K:Keys B) (h:Best B n s cs as) (v:Nat):Dst (arcsC B) s v ((get cs v).map comb):=by
 refine⟨fun y e=>?_,fun L w=>?_⟩
 ·cases ec:get cs v with
  | none=>rw[ec] at e;cases e
  | some c =>
   rw[ec] at e;cases e
   obtain⟨ws,S,r,_⟩:=h.route K _ v c ec (Nat.le_refl _)
   have go:∀ {ws S:List Nat} {v:Nat} {x y:Int},Rt B s ws S v x y->Walk (arcsC B) s v (comb (x,y)):=by
    intro ws S v x y r
    induction r with
    | one=>exact .nil
    | @snoc ws S u v x y l k r m nv ih =>
     have:=Walk.snoc ih (arcsC_mem.mpr ⟨l,k,m,rfl⟩)
     have e:comb (x + l,y + 2 ^ k)=comb (x,y) + (l * 2 ^ 61 + 2 ^ k):=by unfold comb;simp only;omega
     rw[e];exact this
   exact go r
 ·have:∃ c,get cs v=some c∧comb c≤L:=by
   induction w with
   | nil=>exact⟨_,h.start,by decide⟩
   | @snoc u v l x w m ih =>
    obtain⟨c,e,hc⟩:=ih
    obtain⟨l',k,m',rfl⟩:=arcsC_mem.mp m
    obtain⟨c',e',hc'⟩:=h.stab _ _ _ _ _ m' e
    refine⟨c',e',?_⟩
    have s1:=h.small K e
    have s2:=h.small K e'
    have:=two_pos k
    unfold comb at *
    unfold lt2 at hc'
    simp only at hc'
    omega
  obtain⟨c,e,hc⟩:=this
  exact⟨comb c,by rw[e];rfl,hc⟩
theorem comb_inj {c d:Int × Int} (hc:0≤c.2∧c.2 < 2 ^ 61) (hd:0≤d.2∧d.2 < 2 ^ 61) (e:comb c=comb d):c=d:=by
 unfold comb at e
 exact Prod.ext (by omega) (by omega)
end
end Far
namespace Far
def arcsF (B:List Arc):List (Nat × Nat × Int):=B.map fun b=>(b.1,b.2.1,b.2.2.1)
theorem arcsF_mem {B:List Arc} {u v:Nat} {l:Int}:(u,v,l) ∈ arcsF B↔∃ k,(u,v,l,k) ∈ B:=by
 unfold arcsF
 rw[List.mem_map]
 constructor
 ·rintro ⟨⟨a,b,l',k⟩,h,e⟩
  cases e
  exact⟨k,h⟩
 ·rintro ⟨k,h⟩
  exact⟨(u,v,l,k),h,rfl⟩
section
variable {B:List Arc} {n s:Nat} {cs:List (Option (Int × Int))} {as:List (Option Nat)} {a b:Nat} {ws S:List Nat} {x y:Int}
theorem tp_unique {v:Nat} {ws ws':List Nat} (hr:get as s=none) (t:TPw as s ws v):TPw as s ws' v->ws'=ws:=by
 induction t generalizing ws' with
 | root =>
  intro t'
  cases t' with
  | root=>rfl
  | step e _=>rw[hr] at e;cases e
 | step e t ih =>
  intro t'
  cases t' with
  | root=>rw[hr] at e;cases e
  | step e' t'=>rw[e] at e';cases e';rw[ih t']
theorem Best.rt (K:Keys B) (h:Best B n s cs as) {v:Nat} {c:Int × Int} (t:TPw as s ws v) (e:get cs v=some c):∃ S,Rt B s ws S v c.1 c.2:=by
 obtain⟨w1,S1,r1,p1,_⟩:=h.route K _ v c e (Nat.le_refl _)
 rw[tp_unique h.root p1 t]
 exact⟨S1,r1⟩
theorem Rt.walk (r:Rt B a ws S b x y):Walk (arcsF B) a b x:=by
 induction r with
 | one=>exact .nil
 | snoc r m nv ih=>exact .snoc ih (arcsF_mem.mpr ⟨_,m⟩)
theorem Rt.tr (r:Rt B a ws S b x y):Tr (arcsF B) a ws b x:=by
 induction r with
 | one=>exact .one
 | snoc r m nv ih=>exact .snoc ih (arcsF_mem.mpr ⟨_,m⟩)
theorem Best.dst1 (K:Keys B) (h:Best B n s cs as) (v:Nat):Dst (arcsF B) s v ((get cs v).map (·.1)):=by
 refine⟨fun y e=>?_,fun L w=>?_⟩
 ·cases ec:get cs v with
  | none=>rw[ec] at e;cases e
  | some c =>
   rw[ec] at e;cases e
   obtain⟨ws,S,r,_⟩:=h.route K _ v c ec (Nat.le_refl _)
   exact r.walk
 ·have:∃ c,get cs v=some c∧c.1≤L:=by
   induction w with
   | nil=>exact⟨_,h.start,Int.le_refl _⟩
   | @snoc u v l x w m ih =>
    obtain⟨c,e,hc⟩:=ih
    obtain⟨k,m'⟩:=arcsF_mem.mp m
    obtain⟨c',e',hc'⟩:=h.stab _ _ _ _ _ m' e
    refine⟨c',e',?_⟩
    unfold lt2 at hc'
    simp only at hc'
    omega
  obtain⟨c,e,hc⟩:=this
  exact⟨c.1,by rw[e];rfl,hc⟩
/-- the least of the routes from a to b -/
structure Uni (B:List Arc) (a b:Nat) (ws S:List Nat) (x y:Int):Prop where
 rt:Rt B a ws S b x y
 least:∀ ws' S' x' y',Rt B a ws' S' b x' y'->¬ lt2 (x',y') (x,y)
/-- the way from a to b by the tree of b -/
theorem Best.uni (K:Keys B) (h:Best B n s cs as) {v:Nat} {c:Int × Int} (t:TPw as s ws.reverse v) (e:get cs v=some c):∃ S,Uni B v s ws S c.1 c.2:=by
 obtain⟨S,r⟩:=h.rt K t e
 have rb:=r.back K
 rw[List.reverse_reverse] at rb
 refine⟨_,rb,fun ws' S' x' y' r' z=>?_⟩
 obtain⟨c',e',n'⟩:=h.least (r'.back K)
 rw[e] at e';cases e'
 exact n' z
end
end Far
namespace Far
variable {A:List (Nat × Nat × Int)} {s:Nat}
def Con (A:List (Nat × Nat × Int)) (s v:Nat):Prop:=∃ x,Walk A s v x
noncomputable def rB (A:List (Nat × Nat × Int)) (s v:Nat):Bool:=@decide (Con A s v) (Classical.propDecidable _)
theorem Con.symm (S:Sym A) {v:Nat} (h:Con A s v):Con A v s:=let ⟨x,w⟩:=h;⟨x,w.back S⟩
noncomputable def rN (A:List (Nat × Nat × Int)) (n s:Nat):List Nat:=(List.range n).filter (rB A s)
noncomputable def isHd (A:List (Nat × Nat × Int)) (n p:Nat):Bool:=decide ((rN A n p).head?=some p)
noncomputable def pcs (A:List (Nat × Nat × Int)) (n:Nat):List (List Nat):=((List.range n).filter (isHd A n)).map (rN A n)
end Far
namespace Far
section
variable {B:List Arc} {n s a b:Nat} {ws S:List Nat} {x y:Int} {cs:List (Option (Int × Int))} {as:List (Option Nat)}
theorem Rt.walkC (r:Rt B a ws S b x y):Walk (arcsC B) a b (comb (x,y)):=by
 induction r with
 | one=>exact .nil
 | @snoc ws S u v x y l k r m nv ih =>
  have:=Walk.snoc ih (arcsC_mem.mpr ⟨l,k,m,rfl⟩)
  have e:comb (x + l,y + 2 ^ k)=comb (x,y) + (l * 2 ^ 61 + 2 ^ k):=by unfold comb;simp only;omega
  rw[e];exact this
/-- the least of all walks, and a route -/
def MinW (B:List Arc) (a b:Nat) (ws:List Nat):Prop:=∃ S x y,Rt B a ws S b x y∧∀ L,Walk (arcsC B) a b L->comb (x,y)≤L
theorem MinW.unique (K:Keys B) {ws':List Nat} (h:MinW B a b ws) (h':MinW B a b ws'):ws'=ws:=by
 obtain⟨S,x,y,r,l⟩:=h
 obtain⟨S',x',y',r',l'⟩:=h'
 have e1:=l _ r'.walkC
 have e2:=l' _ r.walkC
 have b1:=r.lt K
 have b2:=r'.lt K
 have e:=comb_inj (c:=(x,y)) (d:=(x',y')) ⟨b1.1,Int.lt_trans b1.2 (by decide)⟩ ⟨b2.1,Int.lt_trans b2.2 (by decide)⟩ (by omega)
 injection e with ex ey
 subst ey
 exact (r.unique K r').1
theorem MinW.back (K:Keys B) (h:MinW B a b ws):MinW B b a ws.reverse:=by
 obtain⟨S,x,y,r,l⟩:=h
 exact⟨S.reverse,x,y,r.back K,fun L w=>l L (w.back (arcsC_sym K))⟩
theorem Best.minw (K:Keys B) (h:Best B n s cs as) {v:Nat} {c:Int × Int} (t:TPw as s ws.reverse v) (e:get cs v=some c):MinW B v s ws:=by
 obtain⟨S,r⟩:=h.rt K t e
 have rb:=r.back K
 rw[List.reverse_reverse] at rb
 refine⟨_,_,_,rb,fun L w=>?_⟩
 obtain⟨z,ez,le⟩:=(h.dst K v).2 L (w.back (arcsC_sym K))
 rw[e] at ez
 cases ez
 exact le
end
end Far
namespace Far
inductive W2 (B:List Arc) (s:Nat):Nat->Int->Int->Prop
 | nil:W2 B s s 0 0
 | snoc {u v:Nat} {x y l:Int} {k:Nat}:W2 B s u x y->(u,v,l,k) ∈ B->W2 B s v (x + l) (y + 2 ^ k)
end Far
namespace Stb
open PySem
def Asc (xs:Array Nat):Prop:=∀ i j,i < j->j < xs.size->xs.getD i 0 < xs.getD j 0
theorem go_spec (xs:Array Nat) (j:Nat) (asc:Asc xs):∀ (fuel lo hi:Nat),lo≤hi->hi≤xs.size->hi - lo≤fuel->(∀ i,i < lo->xs.getD i 0 < j)->(∀ i,hi≤i->i < xs.size->j≤xs.getD i 0) ->
  (∀ i,i < SetTable.below.go xs j fuel lo hi->xs.getD i 0 < j)∧(∀ i,SetTable.below.go xs j fuel lo hi≤i->i < xs.size->j≤xs.getD i 0)∧SetTable.below.go xs j fuel lo hi≤xs.size
 | 0,lo,hi,h1,h2,h3,a,b=>by
  have e:lo=hi:=by omega
  subst e
  exact⟨a,b,h2⟩
 | fuel + 1,lo,hi,h1,h2,h3,a,b=>by
  unfold SetTable.below.go
  by_cases c:lo < hi
  ·rw[if_pos c]
   have hm:(lo + hi) / 2 < xs.size:=by omega
   have eg:xs.getD ((lo + hi) / 2) j=xs.getD ((lo + hi) / 2) 0:=by rw[Array.getD_eq_getD_getElem?,Array.getD_eq_getD_getElem?,Array.getElem?_eq_getElem hm];rfl
   by_cases d:xs.getD ((lo + hi) / 2) j < j
   ·simp only [if_pos d]
    refine go_spec xs j asc fuel _ hi (by omega) h2 (by omega) (fun i hi'=>?_) b
    rcases Nat.lt_or_eq_of_le (Nat.le_of_lt_succ hi') with z | z
    ·have:=asc i _ z hm;omega
    ·rw[z];omega
   ·simp only [if_neg d]
    refine go_spec xs j asc fuel lo _ (by omega) (by omega) (by omega) a (fun i hi' hs=>?_)
    rcases Nat.lt_or_eq_of_le hi' with z | z
    ·have:=asc _ i z hs;omega
    ·rw[← z];omega
  ·rw[if_neg c]
   have e:lo=hi:=by omega
   subst e
   exact⟨a,b,h2⟩
theorem below_spec (xs:Array Nat) (j:Nat) (asc:Asc xs):(∀ i,i < SetTable.below xs j->xs.getD i 0 < j)∧(∀ i,SetTable.below xs j≤i->i < xs.size->j≤xs.getD i 0)∧SetTable.below xs j≤xs.size:=by
 unfold SetTable.below
 exact go_spec xs j asc _ 0 xs.size (Nat.zero_le _) (Nat.le_refl _) (by omega) (fun i h=>by omega) (fun i h1 h2=>by omega)
/-- the place behind the i-th -/
theorem below_next (xs:Array Nat) (asc:Asc xs) {i p:Nat} (h:xs[i]?=some p):SetTable.below xs (p + 1)=i + 1:=by
 obtain⟨hi,e⟩:=Array.getElem?_eq_some_iff.mp h
 have eg:xs.getD i 0=p:=by rw[Array.getD_eq_getD_getElem?,h];rfl
 obtain⟨h1,h2,h3⟩:=below_spec xs (p + 1) asc
 rcases Nat.lt_trichotomy (SetTable.below xs (p + 1)) (i + 1) with z | z | z
 ·have:=h2 i (by omega) hi;omega
 ·exact z
 ·have a:=h1 (i + 1) z
  have b:=asc i (i + 1) (by omega) (by omega)
  omega
theorem below_zero (xs:Array Nat) (asc:Asc xs):SetTable.below xs 0=0:=by
 obtain⟨h1,_,_⟩:=below_spec xs 0 asc
 rcases Nat.eq_zero_or_pos (SetTable.below xs 0) with z | z
 ·exact z
 ·have:=h1 0 z;omega
theorem Asc.list {xs:Array Nat}:Asc xs↔xs.toList.Pairwise (· < ·):=by
 rw[List.pairwise_iff_getElem]
 have g:∀ i (h:i < xs.toList.length),xs.getD i 0=xs.toList[i]:=fun i h=>by
  have h':i < xs.size:=by simpa using h
  rw[Array.getD_eq_getD_getElem?,Array.getElem?_eq_getElem h'];simp
 constructor
 ·intro a i j hi hj ij
  have:=a i j ij (by simpa using hj)
  rw[g i hi,g j hj] at this
  exact this
 ·intro a i j ij hj
  have hj':j < xs.toList.length:=by simpa using hj
  have:=a i j (by omega) hj' ij
  rw[g i (by omega),g j hj']
  exact this
theorem asc_insert {xs:Array Nat} {j:Nat} (asc:Asc xs) (new:xs[SetTable.below xs j]?≠some j):Asc (SetTable.insertAt xs (SetTable.below xs j) j):=by
 obtain⟨h1,h2,h3⟩:=below_spec xs j asc
 rw[Asc.list,SetTable.toList_insertAt]
 have al:=Asc.list.mp asc
 have g:∀ i (h:i < xs.size),xs.getD i 0=xs[i]:=fun i h=>by rw[Array.getD_eq_getD_getElem?,Array.getElem?_eq_getElem h];rfl
 have lo:∀ x ∈ xs.toList.take (SetTable.below xs j),x < j:=fun x hx=>by
  obtain⟨i,hi,e⟩:=List.getElem_of_mem hx
  rw[List.length_take] at hi
  have hs:i < xs.size:=by simp at hi;omega
  have:=h1 i (by omega)
  rw[g i hs] at this
  rw[List.getElem_take] at e
  have e':xs[i]=x:=by simpa using e
  omega
 have hi:∀ x ∈ xs.toList.drop (SetTable.below xs j),j < x:=fun x hx=>by
  obtain⟨i,hi,e⟩:=List.getElem_of_mem hx
  rw[List.length_drop] at hi
  have hs:SetTable.below xs j + i < xs.size:=by simp at hi;omega
  have:=h2 (SetTable.below xs j + i) (by omega) hs
  rw[g _ hs] at this
  rw[List.getElem_drop] at e
  have e':xs[SetTable.below xs j + i]=x:=by simpa using e
  rcases Nat.lt_or_eq_of_le this with z | z
  ·omega
  ·exfalso
   rcases Nat.eq_zero_or_pos i with i0 | i0
   ·subst i0
    apply new
    rw[Array.getElem?_eq_getElem (by omega)]
    simp at z
    rw[← z]
   ·have b0:SetTable.below xs j < xs.size:=by omega
    have q1:=h2 (SetTable.below xs j) (Nat.le_refl _) b0
    have q2:=asc (SetTable.below xs j) (SetTable.below xs j + i) (by omega) hs
    rw[g _ hs] at q2
    omega
 refine List.pairwise_append.mpr ⟨al.sublist (List.take_sublist _ _),List.pairwise_cons.mpr ⟨fun x hx=>hi x hx,al.sublist (List.drop_sublist _ _)⟩,fun a ha b hb=>?_⟩
 rcases List.mem_cons.mp hb with z | z
 ·rw[z];exact lo a ha
 ·have:=lo a ha;have:=hi b z;omega
theorem asc_range (n:Nat):Asc (Array.range n):=by
 rw[Asc.list]
 simpa using List.pairwise_lt_range
/-- what holds of each table that was made by adding -/
def TI (b:Bool) (t:SetTable):Prop:=Asc t.place∧t.led=b
theorem ti_fresh (b:Bool):TI b (.fresh 0 0 b):=⟨fun i j _ h=>by simp [SetTable.fresh] at h,rfl⟩
theorem ti_standIn {b:Bool} {t:SetTable} (h:TI b t) (n:Nat):TI b (t.standIn n):=⟨asc_range n,h.2⟩
theorem ti_or {b:Bool} {t:SetTable} (h:TI b t) (n:Nat):TI b (t.orStandIn n):=by
 unfold SetTable.orStandIn
 split
 ·exact h
 ·exact ti_standIn h n
theorem ti_plain {b:Bool} {t:SetTable} (h:TI b t):TI b { t with plain:=false }:=h
theorem slot_new {t:SetTable} {j:Nat} (h:t.slot j=.empty∨t.slot j=.dummy):t.place[SetTable.below t.place j]?≠some j:=fun e=>by
 unfold SetTable.slot at h
 have c:(t.place[SetTable.below t.place j]? == some j)=true:=by rw[e];simp
 simp only [c,if_true] at h
 rcases h with h | h <;> cases h
theorem probe_free (t:SetTable) (hashAt:Nat->Int) (h:Int):∀ (f:Nat) (p:SetTable.Probe),(∀ d,p.dummy=some d->t.slot d=.dummy)->∀ j dm,SetTable.probe.go t hashAt h f p=some (.empty j dm)->t.slot j=.empty∧∀ d,dm=some d->t.slot d=.dummy
 | 0,p,_,j,dm,e=>by cases e
 | f + 1,p,hp,j,dm,e=>by
  have adv:∀ q:SetTable.Probe,(t.advance q).dummy=q.dummy:=fun q=>by
   unfold SetTable.advance
   split <;> rfl
  unfold SetTable.probe.go at e
  split at e
  ·rename_i hs
   injection e with e
   injection e with e1 e2
   subst e1;subst e2
   exact⟨hs,hp⟩
  ·rename_i hs
   refine probe_free t hashAt h f _ (fun d hd=>?_) j dm e
   rw[adv] at hd
   have:p.j=d:=by simpa using hd
   rw[← this];exact hs
  ·split at e
   ·cases e
   ·refine probe_free t hashAt h f _ (fun d hd=>?_) j dm e
    rw[adv] at hd
    exact hp d hd
theorem free_new {t:SetTable} {h:Int} {s:Nat} {w:Bool} (e:t.freeSlot h=some (s,w)):t.place[SetTable.below t.place s]?≠some s:=by
 unfold SetTable.freeSlot at e
 split at e
 ·rename_i j dm hm
  unfold SetTable.probe at hm
  obtain⟨h1,h2⟩:=probe_free t _ h _ _ (fun d hd=>by cases hd) j dm hm
  injection e with e
  injection e with e1 _
  cases dm with
  | none=>exact slot_new (.inl (by rw[← e1];exact h1))
  | some d=>exact slot_new (.inr (by rw[← e1];exact h2 d rfl))
 ·cases e
theorem ti_layNew {b:Bool} {t:SetTable} (h:TI b t) (es:Array (Int × Value)) (k:Int) (x:Value):TI b (layNew t es k x).2.1:=by
 unfold layNew
 split
 ·rename_i s w e
  exact ti_or (t:=(t.put s).1) ⟨asc_insert h.1 (free_new e),h.2⟩ _
 ·exact ti_standIn h _
theorem fm_sub {f:Nat->Option Nat} (hf:∀ j y,f j=some y->y=j):∀ l:List Nat,(l.filterMap f).Sublist l
 | []=>.slnil
 | j::l=>by
  rw[List.filterMap_cons]
  cases e:f j with
  | none=>exact (fm_sub hf l).cons j
  | some y=>rw[hf j y e];exact (fm_sub hf l).cons₂ j
theorem ti_relay {b:Bool} {t:SetTable} (h:TI b t) (es:Array (Int × Value)) (wanted:Nat):TI b (relayAll t es wanted).2.1:=by
 unfold relayAll
 split
 ·rename_i t' order e
  dsimp only
  split
  ·unfold SetTable.relaid SetTable.laid at e
   simp only [Option.bind_eq_bind,Option.bind_eq_some_iff] at e
   obtain⟨owner,_,e⟩:=e
   injection e with e
   injection e with e1 _
   rw[← e1]
   refine⟨?_,h.2⟩
   rw[Asc.list]
   simp only [List.map_filterMap]
   refine List.pairwise_lt_range.sublist (fm_sub (fun j y hy=>?_) _)
   cases c:owner.getD j none with
   | none=>rw[c] at hy;cases hy
   | some z=>rw[c] at hy;exact (Option.some.inj hy).symm
  ·exact ti_standIn h _
 ·exact ti_standIn h _
end Stb
namespace Stb
open PySem PyProof.Rows
/-- whether sets of this world are led -/
def ledOf (w:World):Bool:=!w.params.followText "set-order"
/-- the table of the set at a -/
def TIat (w:World) (h:Heap) (a:Addr):Prop:=∃ o es ep t,h.get? a=some o∧o.data=.set es ep t∧TI (ledOf w) t
abbrev SetT (P:Program) (w:World) (h:Heap) (a:Addr) (S:Int->Bool) (n:Nat):Prop:=h.SetOf (intKind P w) a S n∧TIat w h a
section
variable {prog:Program} {w:World} {A:Around} {E:Value->Shared->Prop} {s:Shared}
theorem SetT.keep {h h':Heap} {a:Addr} {S:Int->Bool} {n:Nat} (x:SetT prog w h a S n) (k:∀ o,h.get? a=some o->h'.get? a=some o):SetT prog w h' a S n:=by
 obtain⟨⟨o,es,ep,t,ho,r⟩,o',es',ep',t',ho',r'⟩:=x
 exact⟨⟨o,es,ep,t,k _ ho,r⟩,o',es',ep',t',k _ ho',r'⟩
/-- what is behind the finding of a place -/
theorem lay_tail {g:Bool->Sem Unit} (gp:∀ (b:Bool) (z:Shared) (U:Unit->Shared->Prop),U () z->wpAny (model prog w) A (g b) U E z) {S':Int->Bool}
  {a:Addr} {o:Obj} {es es1:Array (Int × Value)} {ep:Nat} {t t2:SetTable} (ho:s.heap.get? a=some o) (ox:o.ExactSet) (od:o.data=.set es ep t)
  (el:ElemsOf (intKind prog w) es1.toList) (me:∀ k,S' k=true↔∃ e ∈ es1.toList,(intKind prog w).is k e.2=true) (small:es1.size < scanBound) (fit:t2.fits es1.size=true) (ti:TI (ledOf w) t2) {dum:Bool} {R:Option Bool->Shared->Prop}
  (fin:∀ h',Heap.SameBut a s.heap h'->SetT prog w h' a S' es1.size->R (some true) { s with heap:=h' }) :
  wpAny (model prog w) A (do
      storeSet a es1 t2
      if (!dum && t2.tooFull) = true then do
          g (relayAll t2 es1 (SetTable.grown es1.size)).2.2
          storeSet a (relayAll t2 es1 (SetTable.grown es1.size)).1 (relayAll t2 es1 (SetTable.grown es1.size)).2.1
          pure (some true)
        else pure (some true)) R E s:=by
 refine wpAny_bind (wpAny_storeSet_of ho od ?_ (fits_of_scanBound small))
 obtain⟨g1,s1⟩:=SetOf_store (knd:=intKind prog w) ho ox od el me small fit
 have sb:=Heap.SameBut.update s.heap a (Obj.putSet es1 t2)
 split
 ·have pm:=relayAll_perm t2 es1 (SetTable.grown es1.size)
  have fr:=relayAll_fits t2 es1 (SetTable.grown es1.size)
  have tr:=ti_relay ti es1 (SetTable.grown es1.size)
  generalize relayAll t2 es1 (SetTable.grown es1.size)=Rl at pm fr tr ⊢
  obtain⟨es2,t3,gv⟩:=Rl
  dsimp only at pm fr tr ⊢
  have sz:es2.size=es1.size:=by rw[← Array.length_toList,pm.length_eq,Array.length_toList]
  have sm2:es2.size < scanBound:=sz ▸ small
  refine wpAny_bind (gp _ _ _ (wpAny_bind (wpAny_storeSet_of g1 rfl ?_ (fits_of_scanBound sm2))))
  obtain⟨g2,s2⟩:=SetOf_store (knd:=intKind prog w) g1 ox rfl (el.perm pm) (fun k=>(me k).trans ⟨fun ⟨e,he,q⟩=>⟨e,pm.mem_iff.mpr he,q⟩,fun ⟨e,he,q⟩=>⟨e,pm.mem_iff.mp he,q⟩⟩) sm2 fr
  rw[sz] at s2
  exact wpAny_pure (fin _ (sb.trans (Heap.SameBut.update _ a _)) ⟨s2,_,_,_,_,g2,rfl,tr⟩)
 ·exact wpAny_pure (fin _ sb ⟨s1,_,_,_,_,g1,rfl,ti⟩)
/-- one more -/
theorem add_T {a:Addr} {S:Int->Bool} {n:Nat} {k:Int} {x:Value} {Q:Bool->Shared->Prop} (kx:(intKind prog w).is k x=true) (sx:x.scannable=true) (st:SetT prog w s.heap a S n) (room:n + 1 < scanBound)
  (fin:∀ h',Heap.SameBut a s.heap h'->SetT prog w h' a (fun y=>S y || decide (y=k)) (if S k then n else n + 1)->Q (!S k) { s with heap:=h' }) :
  wpAny (model prog w) A (setAddHashed a x ((intKind prog w).hash k)) Q E s:=by
 obtain⟨⟨o,es,ep,t,ho,ox,od,el,me,small,fit,en⟩,o',es',ep',t',ho',od',ti⟩:=st
 rw[ho] at ho';cases ho'
 rw[od] at od';cases od'
 have small1:es.size + 1 < scanBound:=en ▸ room
 unfold setAddHashed setAddHashedIn
 refine wpAny_holding (wpAny_bind (wpAny_setState_of ho od fit ?_))
 dsimp only
 rw[byScan_of sx small el,if_pos rfl]
 unfold setAddByScan
 refine wpAny_bind (wpAny_bind (wpAny_rule (wpAny_bind (wpAny_setScan_of kx ho od fit el ?_))))
 cases fd:List.findIdx? (fun e=>(intKind prog w).is k e.2) es.toList with
 | some j =>
  dsimp only
  obtain⟨jl,jp,_⟩:=List.findIdx?_eq_some_iff_getElem.mp fd
  have sk:S k=true:=(me k).mpr ⟨es.toList[j],List.getElem_mem jl,jp⟩
  refine wpAny_pure (wpAny_pure ?_)
  have es0:s={ s with heap:=s.heap }:=by cases s;rfl
  have q:=fin s.heap (Heap.SameBut.refl a s.heap) ⟨⟨o,es,ep,t,ho,ox,od,el,fun y=>by
   rw[Bool.or_eq_true,decide_eq_true_eq,← me y]
   exact⟨fun z=>z.elim id (fun e=>e ▸ sk),.inl⟩,small,fit,by rw[sk];exact en⟩,o,es,ep,t,ho,od,ti⟩
  rw[sk] at q;rw[es0];exact q
 | none =>
  dsimp only
  have sk:S k=false:=by
   cases c:S k with
   | false=>rfl
   | true=>obtain⟨e,he,hp⟩:=(me k).mp c;have:=List.findIdx?_eq_none_iff.mp fd e he;rw[hp] at this;cases this
  have pm:=layNew_perm t es ((intKind prog w).hash k) x
  have ft:=layNew_fits t es ((intKind prog w).hash k) x
  have tl:=ti_layNew ti es ((intKind prog w).hash k) x
  generalize layNew t es ((intKind prog w).hash k) x=L at pm ft tl ⊢
  obtain⟨es1,t1,dum,gv⟩:=L
  dsimp only at pm ft tl ⊢
  rw[Array.toList_push] at pm
  have el1:ElemsOf (intKind prog w) es1.toList:=(el.push kx sx).perm pm
  have me1:∀ y,(S y || decide (y=k))=true↔∃ e ∈ es1.toList,(intKind prog w).is y e.2=true:=mem_push_iff kx me pm
  have ez:es1.size=es.size + 1:=by rw[← Array.length_toList,pm.length_eq,List.length_append,Array.length_toList];rfl
  have small2:es1.size < scanBound:=ez ▸ small1
  have gw:∀ (b:Bool) (z:Shared) (U:Unit->Shared->Prop),U () z->wpAny (model prog w) A (match b with | true=>rule "set.scan.the-table-gave-way" | false=>pure ()) U E z :=
   fun b z U hq=>by cases b <;> first | exact wpAny_pure hq | exact wpAny_rule hq
  refine wpAny_bind (gw _ _ _ ?_)
  have last:∀ h',Heap.SameBut a s.heap h'->SetT prog w h' a (fun y=>S y || decide (y=k)) es1.size->Q true { s with heap:=h' }:=fun h' sb z=>by
   have q:=fin h' sb;rw[sk] at q;rw[ez,en] at z;exact q z
  split
  ·refine wpAny_bind ?_
   rw[hashByValue_scannable 8 sx]
   refine wpAny_pure (lay_tail (fun b z U hq=>?_) ho ox od el1 me1 small2 ?_ ?_ fun h' sb z=>?_)
   ·cases b <;> first | exact wpAny_pure hq | exact wpAny_rule hq
   ·split
    ·exact ft
    ·exact SetTable.fits_plain_off ft
   ·split
    ·exact tl
    ·exact ti_plain tl
   ·dsimp only;exact wpAny_pure (last h' sb z)
  ·refine wpAny_bind (wpAny_pure ?_)
   simp only [↓reduceIte]
   refine lay_tail (fun b z U hq=>?_) ho ox od el1 me1 small2 ft tl fun h' sb z=>?_
   ·cases b <;> first | exact wpAny_pure hq | exact wpAny_rule hq
   ·dsimp only;exact wpAny_pure (last h' sb z)
/-- all that an iterator gives -/
theorem fill_T {R:Result->Shared->Prop} {I:Addr} {fp wr:List Addr} {G:Array GenState->Array GenState->Prop} {n:Nat} {P:Nat->Value->Prop} {St:Nat->Shared->Prop} (W:WalksS prog w A.in1 I fp wr G n P St) (a:Addr) (af:a ∉ fp)
  (val:Nat->Int) (hv:∀ i v,P i v->∃ t,v=.int (val i) t) (hb:n + 1 < scanBound) :
  ∀ (k i:Nat) (s:Shared),n - i=k->i≤n->St i s->SetT prog w s.heap a (fun y=>(firstMet val i).any (· == y)) (firstMet val i).length ->
   (∀ s',Moved (a::wr) G s s'->SetT prog w s'.heap a (fun y=>(firstMet val n).any (· == y)) (firstMet val n).length->R (.ok (.ret .none)) s') ->
   codeAny (model prog w) A (.builtin "set.update.loop" ⟨[.ref a,.ref I],[]⟩) R s:=by
 have aw:a ∉ wr:=fun h=>af (W.sub _ h)
 have up:∀ b ∈ wr,b ∈ a::wr:=fun b hb=>List.mem_cons_of_mem _ hb
 intro k
 induction k with
 | zero =>
  intro i s hk hi st x fin
  obtain rfl:i=n:=by omega
  refine codeAny_builtin PyProof.Rows.F.entry_set_update_loop ?_
  rw[Around.under_plainId PyProof.Rows.F.plain_set_update_loop _]
  show wpAny _ A.in1 (pyNext (.ref I) >>= _) _ _ s
  refine wpAny_bind (W.done s _ _ st fun s' hm=>?_)
  show wpAny _ A.in1 (ret Value.none) _ _ s'
  exact wpAny_pure (fin s' (hm.mono up) (x.keep fun o e=>hm.heap a o aw e))
 | succ k ih =>
  intro i s hk hi st x fin
  have lt:i < n:=by omega
  refine codeAny_builtin PyProof.Rows.F.entry_set_update_loop ?_
  rw[Around.under_plainId PyProof.Rows.F.plain_set_update_loop _]
  show wpAny _ A.in1 (pyNext (.ref I) >>= _) _ _ s
  refine wpAny_bind (W.item i s _ _ lt st fun v s' hP st' hm=>?_)
  obtain⟨t,rfl⟩:=hv i v hP
  have x':=x.keep (prog:=prog) fun o e=>hm.heap a o aw e
  show wpAny _ A.in1 (holding [Value.int (val i) t] (setAdd a (.int (val i) t)) >>= _) _ _ s'
  refine wpAny_bind (wpAny_holding ?_)
  unfold setAdd
  refine wpAny_holding (wpAny_bind ((intKind prog w).pyHash (k:=val i) (intKind_is _ _ _ _) ?_))
  refine add_T (s:={ s' with toks:=s'.toks + 1 }) (intKind_is _ _ _ _) rfl x' (by have:=firstMet_length_le val i;omega) fun h' sb x2=>?_
  have x3:SetT prog w h' a (fun y=>(firstMet val (i + 1)).any (· == y)) (firstMet val (i + 1)).length :=
   ⟨SetOf_congr x2.1 (fun y=>by rw[firstMet_succ,step_any]) (by rw[firstMet_succ,step_length]),x2.2⟩
  refine wpAny_pure ⟨plainId_quiet PyProof.Rows.F.plain_set_update_loop _,ih (i + 1) _ (by omega) lt (W.frame _ s' _ _ st' (Nat.le_succ _) fun b hb o e=>?_) x3 fun s'' hm2 x4=>?_⟩
  ·rw[sb.2 b (fun h:b=a=>af (by rw[← h];exact hb))];exact e
  ·refine fin s'' (Moved.trans W.gtrans ((hm.mono up).then_heap (Nat.le_succ _) fun b o hb e=>?_) hm2) x4
   rw[sb.2 b (fun h:b=a=>hb (by rw[h];exact List.mem_cons_self))];exact e
end
end Stb
namespace HT
open PySem PyProof.Rows
section
variable {prog:Program} {w:World} {A:Around} {E:Value->Shared->Prop} {s:Shared}
/-- what set(..) of ns holds, how many -/
abbrev setS (ns:List Int) (m:Nat):Int->Bool:=fun x=>(firstMet (fun i=>ns.getD i 0) m).any fun y=>y == x
abbrev setN (ns:List Int) (m:Nat):Nat:=(firstMet (fun i=>ns.getD i 0) m).length
end
end HT
namespace Stb
open PySem PyProof.Rows
section
variable {prog:Program} {w:World} {A:Around} {E:Value->Shared->Prop} {s:Shared}
/-- an empty set -/
abbrev emp (w:World):Obj:={ cls:=.type "set",dict:=none,data:=.set #[] 0 (.fresh 0 0 (ledOf w)) }
theorem new_T (x:Value) {U:Value->Shared->Prop} (fin:U (.ref s.heap.objs.size) { s with heap:=s.heap.push (emp w) }) :
  codeAny (model prog w) A (.call (.builtin "set.__new__") ⟨[.type "set",x],[]⟩) (wants U E) s:=by
 refine codeAny_of_tree ?_
 show wpAny _ A.in1 (checkBuiltinCall "set.__new__" ⟨[.type "set",x],[]⟩ >>= fun _=>again (.builtin "set.__new__" ⟨[.type "set",x],[]⟩)) _ _ s
 refine wpAny_bind (wpAny_of_eq (PySem.F.newCall_set_1 x) (wpAny_pure ⟨plainId_quiet PySem.F.plain_set_new _,codeAny_builtin PySem.F.entry_set_new ?_⟩))
 rw[Around.under_plainId PySem.F.plain_set_new _]
 unfold Builtin.«set.__new__» Builtin.Frozenset.newClass
 have sub1:=PySem.sub_set_self
 obtain⟨hp,g,d,tk,os⟩:=s
 dsimp only
 wp_walk
 refine wpAny_askSetting (wpAny_pure ?_)
 simp only [newObj]
 exact wpAny_bind (wpAny_alloc (wpAny_pure (wpAny_pure fin)))
theorem emp_T (h:Heap):SetT prog w (h.push (emp w)) h.objs.size (fun y=>(firstMet (fun i=>([]:List Int).getD i 0) 0).any (· == y)) 0 :=
 ⟨SetOf_congr ((setObjOf_fresh (knd:=intKind prog w) (ledOf w)).setOf (Heap.get?_push_size _ rfl) (by unfold scanBound;omega)) (fun _=>rfl) rfl,_,_,_,_,Heap.get?_push_size _ rfl,rfl,ti_fresh _⟩
end
end Stb
namespace Stb
open PySem PyProof.Rows
theorem sl_next:Slot "set_iterator" "__next__" "set_iterator.__next__":=.of (owner:="set_iterator") (n:="__next__") (by rw[typeLookup_type,builtinLookup_eq_fast];kernel_rfl) (by decide +kernel) (by decide +kernel) (by decide +kernel) (by first | exact .inl (by decide +kernel) | exact .inr (by decide +kernel)) (by rw[isSubtype_type];kernel_rfl)
theorem en_next:entryFor table "set_iterator.__next__"=some Builtin.«set_iterator.__next__»:=entryFor_of_tree (by kernel_rfl)
theorem ow_next:Manifest.owners.lookup (String.ofList ['r','o','t','a','r','e','t','i','_','t','e','s'].reverse)=some Manifest.sig_set_iterator:=by kernel_rfl
theorem ar_next (a:Value):argsOk "set_iterator.__next__" ⟨[a],[]⟩:=by
 unfold argsOk;rw[signature?_of (id:="set_iterator.__next__") (n:=['_','_','t','x','e','n','_','_']) (o:=['r','o','t','a','r','e','t','i','_','t','e','s']) (by kernel_rfl) ow_next];kernel_rfl
theorem en_iter:entryFor table "set.__iter__"=some Builtin.«frozenset.__iter__»:=entryFor_alias (id':="frozenset.__iter__") (by kernel_rfl) rfl (by decide +kernel) (by kernel_rfl)
theorem out_in {α:Type} {l:List α} {i:Nat} (h:i < l.length):(l[i]::l.eraseIdx i).Perm l:=by
 rw[List.eraseIdx_eq_take_drop_succ]
 refine List.perm_middle.symm.trans ?_
 rw[← List.drop_eq_getElem_cons h,List.take_append_drop]
theorem pick_go {α:Type} (next:Nat->Nat):∀ (f k:Nat) (left:List α) (out:Array α),left.length=f->(pickOrder.go next f k left out).toList.Perm (out.toList++left)
 | 0,k,left,out,h=>by
  have:left=[]:=List.length_eq_zero_iff.mp h
  subst this
  unfold pickOrder.go
  simp
 | f + 1,k,left,out,h=>by
  have lt:next k % left.length < left.length:=Nat.mod_lt _ (by omega)
  unfold pickOrder.go
  rw[List.getElem?_eq_getElem lt]
  dsimp only
  refine (pick_go next f (k + 1) _ _ (by rw[List.length_eraseIdx_of_lt lt];omega)).trans ?_
  rw[Array.toList_push,List.append_assoc]
  refine List.Perm.append_left _ ?_
  exact out_in lt
theorem pick_perm {α:Type} (next:Nat->Nat) (xs:Array α):(pickOrder next xs).toList.Perm xs.toList:=by
 unfold pickOrder
 simpa using pick_go next xs.size 0 xs.toList #[] (by simp)
section
variable {prog:Program} {w:World} {A:Around} {E:Value->Shared->Prop} {s:Shared}
theorem wp_chosen {M:Model} {src:Source} {n:Nat} {Q:Nat->Shared->Prop} (hn:n≠0) (h:∀ i,i < n->Q i { s with drawn:=s.drawn.bump src }):wpAny M A (choose src n) Q E s:=fun Γ p hΓ=>by
 unfold choose
 rw[Sem.wp_choose]
 exact⟨hn,by exact h _ (Nat.mod_lt _ (Nat.pos_of_ne_zero hn))⟩
theorem wp_drawOrder {α:Type} {M:Model} (n:Nat):∀ (xs:List α) (s:Shared) (Q:List α->Shared->Prop),xs.length=n->(∀ ys d',ys.Perm xs->Q ys { s with drawn:=d' })->wpAny M A (drawOrder n xs) Q E s:=by
 induction n with
 | zero =>
  intro xs s Q h hQ
  have:xs=[]:=List.length_eq_zero_iff.mp h
  subst this
  unfold drawOrder
  exact wpAny_pure (hQ [] s.drawn .nil)
 | succ n ih =>
  intro xs s Q h hQ
  cases xs with
  | nil=>cases h
  | cons x xs =>
   unfold drawOrder
   refine wpAny_bind (wp_chosen (by simp) fun i hi=>?_)
   rw[List.getElem?_eq_getElem hi]
   refine wpAny_bind (ih _ _ _ (by rw[List.length_eraseIdx_of_lt hi];simp at h ⊢;omega) fun ys d' pm=>wpAny_pure (hQ _ d' ?_))
   exact (List.Perm.cons _ pm).trans (out_in hi)
end
end Stb
namespace Stb
open PySem PyProof.Rows
/-- how an iterator of a set goes -/
inductive Knd where
 | text
 | drawn (p:Addr) (pl:List Nat)
 | places
def First (w:World) (a:Addr) (es:Array (Int × Value)) (ep:Nat) (t:SetTable) (ord:List (Int × Value)) (i:Nat) (h:Heap) (first:Value):Knd->Prop
 | .text=>ledOf w=false∧ord=(pickOrder (w.params.setOrder a ep) es).toList∧∃ z:Nat,first=.int z 0
 | .drawn p pl=>first=.ref p∧h.IsTuple p (pl.map fun i=>rawInt (i:Nat)).toArray∧ord.length=pl.length∧∀ j k:Nat,pl[j]?=some k->∃ e,es[k]?=some e∧ord[j]?=some e
 | .places=>ledOf w=true∧(t.plain=true∨es.size≤1)∧ord=es.toList∧∃ z:Nat,first=.int z 0∧SetTable.below t.place z=i
def IsSet (h:Heap) (a:Addr) (es:Array (Int × Value)) (ep:Nat) (t:SetTable):Prop:=∃ o,h.get? a=some o∧o.cls=.type "set"∧o.data=.set es ep t
def IsIt (h:Heap) (I a:Addr) (n ep i:Nat) (first:Value):Prop:=∃ o,h.get? I=some o∧o.cls=.type "set_iterator"∧o.data=.fields #[first,.int i 0,.ref a,.int n 0,.int ep 0]
section
variable {prog:Program} {w:World} {A:Around} {E:Value->Shared->Prop} {s:Shared} {a I:Addr} {es:Array (Int × Value)} {ep:Nat} {t:SetTable}
theorem next_text {Q:Option (Value × Nat)->Shared->Prop} {z i:Nat} (hs:IsSet s.heap a es ep t) (fit:t.fits es.size=true) (hl:ledOf w=false)
  (h:Q (((pickOrder (w.params.setOrder a ep) es)[i]?).map fun e=>(e.2,z)) s):wpAny (model prog w) A (setNext a z i ep) Q E s:=by
 obtain⟨o,ho,_,od⟩:=hs
 have ft:w.params.followText "set-order"=true:=by simpa [ledOf] using hl
 unfold setNext setsByText
 refine wpAny_bind (wpAny_setState_of ho od fit ?_)
 refine wpAny_bind (wpAny_bind (wpAny_askSetting (wpAny_pure ?_)))
 show wpAny _ _ (if w.params.followText "set-order"=true then _ else _) _ _ _
 rw[if_pos ft]
 dsimp only
 rw[if_neg (by simp)]
 refine wpAny_bind ?_
 unfold setWalk setsByText
 refine wpAny_bind (wpAny_setState_of ho od fit ?_)
 refine wpAny_bind (wpAny_bind (wpAny_askSetting (wpAny_pure ?_)))
 show wpAny _ _ (if w.params.followText "set-order"=true then _ else _) _ _ _
 rw[if_pos ft]
 exact wpAny_bind (wpAny_askSetting (wpAny_pure (wpAny_pure h)))
theorem next_places {Q:Option (Value × Nat)->Shared->Prop} {z i:Nat} (hs:IsSet s.heap a es ep t) (fit:t.fits es.size=true) (ti:TI (ledOf w) t) (hl:ledOf w=true) (hp:t.plain=true∨es.size≤1)
  (h:Q (match es[SetTable.below t.place z]?,t.place[SetTable.below t.place z]? with | some (_,x),some j=>some (x,j + 1) | _,_=>none) s):wpAny (model prog w) A (setNext a z i ep) Q E s:=by
 obtain⟨o,ho,_,od⟩:=hs
 have ft:w.params.followText "set-order"=false:=by simpa [ledOf] using hl
 unfold setNext setsByText
 refine wpAny_bind (wpAny_setState_of ho od fit ?_)
 refine wpAny_bind (wpAny_bind (wpAny_askSetting (wpAny_pure ?_)))
 show wpAny _ _ (if w.params.followText "set-order"=true then _ else _) _ _ _
 rw[if_neg (by rw[ft];exact Bool.false_ne_true)]
 dsimp only
 show wpAny _ _ (if (!t.plain && decide (es.size > 1))=true then _ else _) _ _ _
 rw[if_neg (by rcases hp with z | z <;> simp [z])]
 show wpAny _ _ ((if (!t.led && !es.isEmpty)=true then unsupported "set:maker-not-led" else pure ()) >>= _) _ _ _
 rw[if_neg (by rw[ti.2,hl];simp)]
 exact wpAny_bind (wpAny_pure (wpAny_pure h))
/-- two fields anew -/
theorem IsIt.set0 {h:Heap} {n ep i:Nat} {first:Value} (x:IsIt h I a n ep i first) (v:Value):IsIt (h.update I (Obj.mapFields (·.setIfInBounds 0 v))) I a n ep i v:=by
 obtain⟨o,ho,hc,hd⟩:=x
 exact⟨_,Heap.get?_update_self _ ho (Obj.isFreed_of_fields (Obj.data_mapFields hd _)),(Obj.cls_mapFields ..).trans hc,by rw[Obj.data_mapFields hd];simp⟩
theorem IsIt.set1 {h:Heap} {n ep i:Nat} {first:Value} (x:IsIt h I a n ep i first):IsIt (h.update I (Obj.mapFields (·.setIfInBounds 1 (rawInt ((i:Int) + 1))))) I a n ep (i + 1) first:=by
 obtain⟨o,ho,hc,hd⟩:=x
 exact⟨_,Heap.get?_update_self _ ho (Obj.isFreed_of_fields (Obj.data_mapFields hd _)),(Obj.cls_mapFields ..).trans hc,by rw[Obj.data_mapFields hd];simp [rawInt]⟩
theorem stop_now {Q:PySem.Fin->Shared->Prop} (hh:A.handled=none) (hE:∀ (e:Value) (h':Heap),(∀ b o,s.heap.get? b=some o->h'.get? b=some o)->Shared.TypeIs { s with heap:=h' } e "StopIteration"->E e { s with heap:=h' }) :
  wpAny (model prog w) A (newExc (.type "StopIteration") [] >>= fun e=>raiseNew e) Q E s:=by
 refine wpAny_bind ?_
 simp only [newExc,newTuple]
 refine wpAny_bind (wpAny_newObj_type ?_ (by size_fits))
 refine wpAny_bind (m:=firstArgMember _ _) (wpAny_of_eq (a:=Value.none) (by first | rfl | (simp only [firstArgMember];rfl)) (wpAny_newObj_type ?_ (by size_fits)))
 simp only [raiseNew]
 refine wpAny_bind (wpAny_handled ?_)
 rw[hh]
 refine wpAny_bind (wpAny_pure (wpAny_throw ?_))
 refine hE _ _ (fun b o e=>Heap.get?_push_of_some _ (Heap.get?_push_of_some _ e)) ?_
 exact⟨_,Heap.get?_push_size _ rfl,rfl⟩
section
variable {Q:Option Value->Shared->Prop} {i:Nat}
theorem int_item {x:Value} {z nx:Nat} (hs:IsSet s.heap a es ep t) (fit:t.fits es.size=true) (hit:IsIt s.heap I a es.size ep i (.int z 0))
  (hn:∀ (A':Around) (Q':Option (Value × Nat)->Shared->Prop) (E':Value->Shared->Prop),Q' (some (x,nx)) s->wpAny (model prog w) A' (setNext a z i ep) Q' E' s)
  (hQ:∀ h',IsIt h' I a es.size ep (i + 1) (.int nx 0)->Heap.SameBut I s.heap h'->Q (some x) { s with heap:=h' }):wpAny (model prog w) A (pyNext (.ref I)) Q E s:=by
 obtain⟨oi,hi,ci,di⟩:=id hit
 obtain⟨o,ho,_,od⟩:=hs
 unfold pyNext
 refine wpAny_bind (wpAny_attempt (wpAny_callSpecial?_slot (name:=Str.ofString "__next__") ⟨oi,hi,ci⟩ sl_next (wpAny_call_entry sl_next ⟨oi,hi,ci⟩ en_next ?_ (ar_next _))))
 show wpAny _ _ (fieldsOf (.ref I) >>= _) _ _ s
 refine wpAny_bind (wpAny_fieldsOf hi di ?_)
 show wpAny _ _ (setEntries a >>= _) _ _ s
 refine wpAny_bind (wpAny_setEntries_of ho od fit ?_)
 dsimp only
 rw[if_neg (by simp)]
 show wpAny _ _ (setNext a z i ep >>= _) _ _ s
 refine wpAny_bind (hn _ _ _ ?_)
 dsimp only
 refine wpAny_bind (wpAny_setField hi di (by simp) ?_)
 obtain⟨o1,hi1,ci1,di1⟩:=id (hit.set0 (rawInt nx))
 refine wpAny_bind (wpAny_setField hi1 di1 (by simp) (wpAny_pure ⟨x,rfl,wpAny_pure (hQ _ ?_ ((Heap.SameBut.update ..).trans (Heap.SameBut.update ..)))⟩))
 exact (hit.set0 (rawInt nx)).set1
theorem int_end {z:Nat} (hh:A.handled=none) (hs:IsSet s.heap a es ep t) (fit:t.fits es.size=true) (hit:IsIt s.heap I a es.size ep i (.int z 0))
  (hn:∀ (A':Around) (Q':Option (Value × Nat)->Shared->Prop) (E':Value->Shared->Prop),Q' none s->wpAny (model prog w) A' (setNext a z i ep) Q' E' s)
  (hQ:∀ h',(∀ b o,b≠I->s.heap.get? b=some o->h'.get? b=some o)->Q none { s with heap:=h' }):wpAny (model prog w) A (pyNext (.ref I)) Q E s:=by
 obtain⟨oi,hi,ci,di⟩:=id hit
 obtain⟨o,ho,_,od⟩:=hs
 unfold pyNext
 refine wpAny_bind (wpAny_attempt (wpAny_callSpecial?_slot (name:=Str.ofString "__next__") ⟨oi,hi,ci⟩ sl_next (wpAny_call_entry sl_next ⟨oi,hi,ci⟩ en_next ?_ (ar_next _))))
 show wpAny _ _ (fieldsOf (.ref I) >>= _) _ _ s
 refine wpAny_bind (wpAny_fieldsOf hi di ?_)
 show wpAny _ _ (setEntries a >>= _) _ _ s
 refine wpAny_bind (wpAny_setEntries_of ho od fit ?_)
 dsimp only
 rw[if_neg (by simp)]
 show wpAny _ _ (setNext a z i ep >>= _) _ _ s
 refine wpAny_bind (hn _ _ _ ?_)
 dsimp only
 refine wpAny_bind (wpAny_setField hi di (by simp) (stop_now hh fun e h' hk ty=>?_))
 refine wpAny_bind (wpAny_isInstance (T:="StopIteration") (b:=true) ty isSubtype_stop (wpAny_pure (hQ _ fun b o hb e=>hk b o ?_)))
 exact (Heap.get?_update_other _ _ (Ne.symm hb)).trans e
theorem ref_item {x:Value} {p:Addr} {pl:List Nat} {k:Nat} {hx:Int} (hs:IsSet s.heap a es ep t) (fit:t.fits es.size=true) (hit:IsIt s.heap I a es.size ep i (.ref p)) (hp:s.heap.IsTuple p (pl.map fun i=>rawInt (i:Nat)).toArray)
  (hk:pl[i]?=some k) (he:es[k]?=some (hx,x)) (hQ:∀ h',IsIt h' I a es.size ep (i + 1) (.ref p)->Heap.SameBut I s.heap h'->Q (some x) { s with heap:=h' }):wpAny (model prog w) A (pyNext (.ref I)) Q E s:=by
 obtain⟨oi,hi,ci,di⟩:=id hit
 obtain⟨o,ho,_,od⟩:=hs
 obtain⟨ol,hol,_,nl,hdl⟩:=hp
 unfold pyNext
 refine wpAny_bind (wpAny_attempt (wpAny_callSpecial?_slot (name:=Str.ofString "__next__") ⟨oi,hi,ci⟩ sl_next (wpAny_call_entry sl_next ⟨oi,hi,ci⟩ en_next ?_ (ar_next _))))
 show wpAny _ _ (fieldsOf (.ref I) >>= _) _ _ s
 refine wpAny_bind (wpAny_fieldsOf hi di ?_)
 show wpAny _ _ (setEntries a >>= _) _ _ s
 refine wpAny_bind (wpAny_setEntries_of ho od fit ?_)
 dsimp only
 rw[if_neg (by simp)]
 show wpAny _ _ (seqItems? (.ref p) >>= _) _ _ s
 refine wpAny_bind (wpAny_seqItems hol hdl ?_)
 have ek:(pl.map fun i=>rawInt (i:Nat)).toArray[i]?=some (.int k 0):=by rw[List.getElem?_toArray,List.getElem?_map,hk];rfl
 simp only [Int.toNat_natCast,ek]
 show wpAny _ _ (setNextDrawn a k ep >>= _) _ _ s
 refine wpAny_bind ?_
 unfold setNextDrawn
 refine wpAny_bind (wpAny_setState_of ho od fit ?_)
 dsimp only
 rw[if_neg (by simp),he]
 refine wpAny_pure (wpAny_bind (wpAny_setField hi di (by simp) (wpAny_pure ⟨x,rfl,wpAny_pure (hQ _ hit.set1 (Heap.SameBut.update ..))⟩)))
theorem ref_end {p:Addr} {pl:List Nat} (hh:A.handled=none) (hs:IsSet s.heap a es ep t) (fit:t.fits es.size=true) (hit:IsIt s.heap I a es.size ep i (.ref p)) (hp:s.heap.IsTuple p (pl.map fun i=>rawInt (i:Nat)).toArray)
  (hk:pl[i]?=none) (hQ:∀ h',(∀ b o,b≠I->s.heap.get? b=some o->h'.get? b=some o)->Q none { s with heap:=h' }):wpAny (model prog w) A (pyNext (.ref I)) Q E s:=by
 obtain⟨oi,hi,ci,di⟩:=id hit
 obtain⟨o,ho,_,od⟩:=hs
 obtain⟨ol,hol,_,nl,hdl⟩:=hp
 unfold pyNext
 refine wpAny_bind (wpAny_attempt (wpAny_callSpecial?_slot (name:=Str.ofString "__next__") ⟨oi,hi,ci⟩ sl_next (wpAny_call_entry sl_next ⟨oi,hi,ci⟩ en_next ?_ (ar_next _))))
 show wpAny _ _ (fieldsOf (.ref I) >>= _) _ _ s
 refine wpAny_bind (wpAny_fieldsOf hi di ?_)
 show wpAny _ _ (setEntries a >>= _) _ _ s
 refine wpAny_bind (wpAny_setEntries_of ho od fit ?_)
 dsimp only
 rw[if_neg (by simp)]
 show wpAny _ _ (seqItems? (.ref p) >>= _) _ _ s
 refine wpAny_bind (wpAny_seqItems hol hdl ?_)
 have ek:(pl.map fun i=>rawInt (i:Nat)).toArray[i]?=none:=by rw[List.getElem?_toArray,List.getElem?_map,hk];rfl
 simp only [Int.toNat_natCast,ek]
 refine wpAny_bind (wpAny_setField hi di (by simp) ?_)
 obtain⟨o1,hi1,ci1,di1⟩:=id (hit.set0 (rawInt 0))
 refine wpAny_bind (wpAny_setField hi1 di1 (by simp) (stop_now hh fun e h' hk ty=>?_))
 refine wpAny_bind (wpAny_isInstance (T:="StopIteration") (b:=true) ty isSubtype_stop (wpAny_pure (hQ _ fun b o hb e=>hk b o ?_)))
 exact (Heap.get?_update_other _ _ (Ne.symm hb)).trans ((Heap.get?_update_other _ _ (Ne.symm hb)).trans e)
end
end
end Stb
namespace Stb
open PySem PyProof.Rows
theorem sl_iter:Slot "set_iterator" "__iter__" "set_iterator.__iter__":=.of (owner:="set_iterator") (n:="__iter__") (by rw[typeLookup_type,builtinLookup_eq_fast];kernel_rfl) (by decide +kernel) (by decide +kernel) (by decide +kernel) (by first | exact .inl (by decide +kernel) | exact .inr (by decide +kernel)) (by rw[isSubtype_type];kernel_rfl)
theorem en_iter2:entryFor table "set_iterator.__iter__"=some Builtin.«dict_keyiterator.__iter__»:=entryFor_alias (id':="dict_keyiterator.__iter__") (by kernel_rfl) (by first | rfl | decide +kernel | (unfold String.splitOn;simp +decide [String.splitOnAux])) (by decide +kernel) (by kernel_rfl)
theorem ar_iter (a:Value):argsOk "set_iterator.__iter__" ⟨[a],[]⟩:=by
 unfold argsOk;rw[signature?_of (id:="set_iterator.__iter__") (n:=['_','_','r','e','t','i','_','_']) (o:=['r','o','t','a','r','e','t','i','_','t','e','s']) (by kernel_rfl) ow_next];kernel_rfl
section
variable {prog:Program} {w:World} {A:Around} {E:Value->Shared->Prop} {s:Shared} {a I:Addr} {es:Array (Int × Value)} {ep:Nat} {t:SetTable}
theorem iter_self {Q:Value->Shared->Prop} {n i:Nat} {f:Value} (hit:IsIt s.heap I a n ep i f) (h:Q (.ref I) s):wpAny (model prog w) A (pyIter (.ref I)) Q E s:=by
 obtain⟨oi,hi,ci,di⟩:=id hit
 refine wpAny_pyIter_slot ⟨oi,hi,ci⟩ sl_iter (wpAny_call_entry sl_iter ⟨oi,hi,ci⟩ en_iter2 ?_ (ar_iter _))
 show wpAny _ _ (ret (.ref I)) _ _ s
 exact wpAny_pure ⟨_,rfl,"set_iterator",_,⟨oi,hi,ci⟩,sl_next.lookup,h⟩
def fpK (I a:Addr):Knd->List Addr
 | .drawn p _=>[I,a,p]
 | _=>[I,a]
def StK (w:World) (a I:Addr) (es:Array (Int × Value)) (ep:Nat) (t:SetTable) (ord:List (Int × Value)) (kd:Knd) (i:Nat) (h:Heap):Prop :=
 IsSet h a es ep t∧∃ first,IsIt h I a es.size ep i first∧First w a es ep t ord i h first kd
theorem fp_I (I a:Addr):∀ kd,I ∈ fpK I a kd∧a ∈ fpK I a kd
 | .text=>by simp [fpK]
 | .drawn _ _=>by simp [fpK]
 | .places=>by simp [fpK]
theorem walk_set {ord:List (Int × Value)} {kd:Knd} (hh:A.handled=none) (aI:a≠I) (fit:t.fits es.size=true) (ti:TI (ledOf w) t) (hpI:∀ p pl,kd=.drawn p pl->p≠I) (pm:ord.Perm es.toList) :
  Walks prog w A I (fpK I a kd) [I] ord.length (fun i v=>∃ e,ord[i]?=some e∧v=e.2) (StK w a I es ep t ord kd) where
 sub:=fun b hb=>by simp at hb;rw[hb];exact (fp_I I a kd).1
 frame:=fun i h h' st hk=>by
  obtain⟨⟨o,ho,r⟩,f,⟨oi,hi,ri⟩,fk⟩:=st
  refine⟨⟨o,hk a (fp_I I a kd).2 o ho,r⟩,f,⟨oi,hk I (fp_I I a kd).1 oi hi,ri⟩,?_⟩
  cases kd with
  | text=>exact fk
  | places=>exact fk
  | drawn p pl =>
   obtain⟨e,⟨op,hp,rp⟩,rest⟩:=fk
   exact⟨e,⟨op,hk p (by simp [fpK]) op hp,rp⟩,rest⟩
 self:=fun i s Q E st hQ=>by
  obtain⟨_,f,hit,_⟩:=st
  exact iter_self hit hQ
 item:=fun i s Q E hi st hQ=>by
  obtain⟨hs,f,hit,fk⟩:=st
  have hsK:∀ h',Heap.SameBut I s.heap h'->IsSet h' a es ep t:=fun h' sb=>by
   obtain⟨o,ho,r⟩:=hs
   exact⟨o,sb.extBut a o aI ho,r⟩
  have kp:∀ h',Heap.SameBut I s.heap h'->∀ b o,b ∉ [I]->s.heap.get? b=some o->h'.get? b=some o:=fun h' sb b o hb e=>sb.extBut b o (fun z=>hb (by simp [z])) e
  have oi:ord[i]?=some ord[i]:=List.getElem?_eq_getElem hi
  cases kd with
  | text =>
   obtain⟨hl,eo,z,rfl⟩:=fk
   have ei:(pickOrder (w.params.setOrder a ep) es)[i]?=some ord[i]:=by rw[← Array.getElem?_toList,← eo];exact oi
   refine int_item (x:=ord[i].2) (nx:=z) hs fit hit (fun A' Q' E' q=>next_text hs fit hl ?_) fun h' hit' sb=>hQ _ h' s.toks ⟨_,oi,rfl⟩ ⟨hsK h' sb,_,hit',hl,eo,z,rfl⟩ (kp h' sb)
   rw[ei];exact q
  | places =>
   obtain⟨hl,hp,eo,z,rfl,eb⟩:=fk
   have ei:es[i]?=some ord[i]:=by rw[← Array.getElem?_toList,← eo];exact oi
   have szp:t.place.size=es.size:=by
    simp only [SetTable.fits,Bool.and_eq_true,beq_iff_eq] at fit
    exact fit.1
   have il:i < t.place.size:=by rw[szp];exact (Array.getElem?_eq_some_iff.mp ei).1
   have ep':t.place[i]?=some t.place[i]:=Array.getElem?_eq_getElem il
   refine int_item (x:=ord[i].2) (nx:=t.place[i] + 1) hs fit hit (fun A' Q' E' q=>next_places hs fit ti hl hp ?_) fun h' hit' sb=>hQ _ h' s.toks ⟨_,oi,rfl⟩ ⟨hsK h' sb,_,hit',hl,hp,eo,_,rfl,below_next _ ti.1 ep'⟩ (kp h' sb)
   rw[eb,ei,ep'];exact q
  | drawn p pl =>
   obtain⟨rfl,hp,el,hj⟩:=fk
   have il:i < pl.length:=el ▸ hi
   obtain⟨e,ek,eo⟩:=hj i _ (List.getElem?_eq_getElem il)
   obtain⟨hx,x⟩:=e
   refine ref_item (x:=x) hs fit hit hp (List.getElem?_eq_getElem il) ek fun h' hit' sb=>hQ _ h' s.toks ⟨_,eo,rfl⟩ ⟨hsK h' sb,_,hit',rfl,?_,el,hj⟩ (kp h' sb)
   obtain⟨op,hop,rp⟩:=hp
   exact⟨op,sb.extBut p op (hpI p pl rfl) hop,rp⟩
 done:=fun s Q E st hQ=>by
  obtain⟨hs,f,hit,fk⟩:=st
  have lo:ord.length=es.size:=by rw[pm.length_eq,Array.length_toList]
  have kp:∀ h':Heap,(∀ b o,b≠I->s.heap.get? b=some o->h'.get? b=some o)->∀ b o,b ∉ [I]->s.heap.get? b=some o->h'.get? b=some o:=fun h' k b o hb e=>k b o (fun z=>hb (by simp [z])) e
  cases kd with
  | text =>
   obtain⟨hl,eo,z,rfl⟩:=fk
   refine int_end hh hs fit hit (fun A' Q' E' q=>next_text hs fit hl ?_) fun h' k=>hQ h' s.toks (kp h' k)
   have:(pickOrder (w.params.setOrder a ep) es)[ord.length]?=none:=by rw[← Array.getElem?_toList,← eo,List.getElem?_eq_none (Nat.le_refl _)]
   rw[this];exact q
  | places =>
   obtain⟨hl,hp,eo,z,rfl,eb⟩:=fk
   refine int_end hh hs fit hit (fun A' Q' E' q=>next_places hs fit ti hl hp ?_) fun h' k=>hQ h' s.toks (kp h' k)
   have:es[ord.length]?=none:=by rw[lo];simp
   rw[eb,this];exact q
  | drawn p pl =>
   obtain⟨rfl,hp,el,hj⟩:=fk
   exact ref_end hh hs fit hit hp (by rw[el,List.getElem?_eq_none (Nat.le_refl _)]) fun h' k=>hQ h' s.toks (kp h' k)
end
end Stb
namespace Stb
open PySem PyProof.Rows
section
variable {prog:Program} {w:World} {A:Around} {E:Value->Shared->Prop} {s:Shared} {a:Addr} {es:Array (Int × Value)} {ep:Nat} {t:SetTable}
theorem is_drawn {Q:Bool->Shared->Prop} (hs:IsSet s.heap a es ep t) (fit:t.fits es.size=true) (h:Q (ledOf w && (!t.plain && decide (es.size > 1))) s):wpAny (model prog w) A (setDrawn a) Q E s:=by
 obtain⟨o,ho,_,od⟩:=hs
 unfold setDrawn setsByText
 refine wpAny_bind (wpAny_setState_of ho od fit ?_)
 exact wpAny_bind (wpAny_bind (wpAny_askSetting (wpAny_pure (wpAny_pure h))))
/-- iter of a set -/
theorem iter_set {Q:Value->Shared->Prop} (hs:IsSet s.heap a es ep t) (fit:t.fits es.size=true) (ti:TI (ledOf w) t) (small:es.size≤4096)
  (h:∀ (I:Addr) (h':Heap) (d':Drawn) (ord:List (Int × Value)) (kd:Knd),(∀ b o,s.heap.get? b=some o->h'.get? b=some o)->s.heap.objs.size≤I->(∀ p pl,kd=.drawn p pl->p≠I∧s.heap.objs.size≤p)->ord.Perm es.toList->StK w a I es ep t ord kd 0 h' ->
   Q (.ref I) { s with heap:=h',drawn:=d' }):wpAny (model prog w) A (pyIter (.ref a)) Q E s:=by
 obtain⟨o,ho,oc,od⟩:=id hs
 refine wpAny_pyIter_slot ⟨o,ho,oc⟩ PySem.F.slot_set_iter (wpAny_call_entry PySem.F.slot_set_iter ⟨o,ho,oc⟩ en_iter ?_ (PySem.F.args_set_iter_1 _))
 unfold Builtin.«frozenset.__iter__» Builtin.Frozenset.sizeOf
 show wpAny _ _ ((setEntries a >>= fun x=>pure x.size) >>= _) _ _ s
 refine wpAny_bind (wpAny_bind (wpAny_setEntries_of ho od fit (wpAny_pure (wpAny_bind (is_drawn hs fit ?_)))))
 have lastT : ∀ (h1 : Heap) (first : Value) (d' : Drawn) (ord : List (Int × Value)) (kd : Knd), (∀ b o, s.heap.get? b = some o → h1.get? b = some o) → s.heap.objs.size ≤ h1.objs.size → (∀ p pl, kd = .drawn p pl → p < h1.objs.size ∧ s.heap.objs.size ≤ p) → ord.Perm es.toList → (∀ h', (∀ b o, h1.get? b = some o → h'.get? b = some o) → First w a es ep t ord 0 h' first kd) →
     wpAny (model prog w) A.in1 (setEpoch a >>= fun e=>newFields "set_iterator" [first,rawInt 0,.ref a,rawInt es.size,rawInt e] >>= fun v=>ret v) (fun fin s'=>∃ v,fin=.done (.ret v)∧∃ T' r,s'.TypeIs v T'∧typeLookup (.type T') (Str.ofString "__next__")=pure (some r)∧Q v s') E { s with heap:=h1,drawn:=d' }:=fun h1 first d' ord kd hk sz hp pm hf=>by
  refine wpAny_bind (wpAny_setEpoch_of (hk a o ho) od fit (wpAny_bind (wpAny_newObj_type (wpAny_pure ⟨_,rfl,"set_iterator",_,⟨_,Heap.get?_push_size _ rfl,rfl⟩,sl_next.lookup,?_⟩))))
  exact h _ _ d' ord kd (fun b o e=>Heap.get?_push_of_some _ (hk b o e)) sz (fun p pl e=>⟨Nat.ne_of_lt (hp p pl e).1,(hp p pl e).2⟩) pm ⟨⟨o,Heap.get?_push_of_some _ (hk a o ho),oc,od⟩,first,⟨_,Heap.get?_push_size _ rfl,rfl,rfl⟩,hf _ fun b o e=>Heap.get?_push_of_some _ e⟩
 dsimp only
 have es0:s={ s with heap:=s.heap,drawn:=s.drawn }:=by cases s;rfl
 by_cases c:(ledOf w && (!t.plain && decide (es.size > 1)))=true
 ·rw[if_pos c]
  refine wpAny_bind (wp_drawOrder _ _ _ _ (by simp) fun ys d' pm=>?_)
  have yl:ys.length=es.size:=by rw[pm.length_eq,List.length_range]
  have line:es.size≤sizeLine:=by rw[sizeLine_eq];omega
  refine wpAny_bind (wpAny_newObj_type ?_ (by show (ys.map fun i=>rawInt (i:Nat)).toArray.size≤sizeLine;simpa [yl] using line))
  have ordE:∀ k ∈ ys,∃ e,es[k]?=some e:=fun k hk=>by
   have:k < es.size:=by simpa using pm.mem_iff.mp hk
   exact⟨_,Array.getElem?_eq_getElem this⟩
  have fm:∀ l:List Nat,(∀ k ∈ l,∃ e,es[k]?=some e)->(l.filterMap (es[·]?)).length=l.length∧∀ j k:Nat,l[j]?=some k->∃ e,es[k]?=some e∧(l.filterMap (es[·]?))[j]?=some e:=fun l=>by
   induction l with
   | nil=>exact fun _=>⟨rfl,fun j k e=>by simp at e⟩
   | cons x l ih =>
    intro hx
    obtain⟨e,he⟩:=hx x (by simp)
    obtain⟨h1,h2⟩:=ih fun k hk=>hx k (List.mem_cons_of_mem _ hk)
    rw[List.filterMap_cons_some (b:=e) he]
    refine⟨by simp [h1],fun j k ej=>?_⟩
    cases j with
    | zero=>simp at ej;subst ej;exact⟨e,he,rfl⟩
    | succ j=>simp only [List.getElem?_cons_succ] at ej ⊢;exact h2 j k ej
  obtain⟨f1,f2⟩:=fm ys ordE
  refine lastT _ (.ref s.heap.objs.size) d' (ys.filterMap (es[·]?)) (.drawn s.heap.objs.size ys) (fun b o e=>Heap.get?_push_of_some _ e) (by rw[Heap.size_push];exact Nat.le_succ _) (fun p pl e=>by cases e;rw[Heap.size_push];exact⟨Nat.lt_succ_self _,Nat.le_refl _⟩) ?_ fun h' k=>⟨rfl,⟨_,k _ _ (Heap.get?_push_size _ rfl),rfl,_,rfl⟩,f1,f2⟩
  exact (pm.filterMap _).trans (by rw[filterMap_getElem?_range])
 ·rw[if_neg c]
  refine wpAny_bind (wpAny_pure ?_)
  cases cl:ledOf w with
  | false =>
   rw[es0]
   exact lastT s.heap (rawInt 0) s.drawn _ .text (fun _ _ e=>e) (Nat.le_refl _) (fun p pl e=>nomatch e) (pick_perm _ es) fun h' k=>⟨cl,rfl,0,rfl⟩
  | true =>
   rw[es0]
   refine lastT s.heap (rawInt 0) s.drawn es.toList .places (fun _ _ e=>e) (Nat.le_refl _) (fun p pl e=>nomatch e) (.refl _) fun h' k=>⟨cl,?_,rfl,0,rfl,below_zero _ ti.1⟩
   rw[cl] at c
   cases pl:t.plain with
   | true=>exact .inl rfl
   | false=>rw[pl] at c;exact .inr (by simpa using c)
theorem hint_set {Q:Bool->Shared->Prop} (hT:s.TypeIs (.ref a) "set") (h:Q false s):wpAny (model prog w) A (Builtin.List.listLengthHint (.ref a)) Q E s:=by
 unfold Builtin.List.listLengthHint
 refine wpAny_bind (wpAny_specialOf hT PySem.F.slot_set_len.lookup ?_)
 generalize hid:("set.__len__":String)=id0
 wp_delta
 rw[show splitId id0=some ("set","__len__") from by subst hid;decide +kernel]
 subst hid
 refine wpAny_bind (wpAny_isInstance (T:="set") (b:=true) hT (by rw[isSubtype_type];kernel_rfl) (wpAny_ite_split (fun z=>absurd z (by decide)) fun _=>?_))
 refine wpAny_ite_split (fun _=>wpAny_bind (wpAny_typeOf hT (wpAny_pure h))) (fun z=>absurd (by decide +kernel) z)
theorem ints_of:∀ l:List (Int × Value),ElemsOf (intKind prog w) l->∃ ks,IntsAre (l.map (·.2)) ks∧ks.length=l.length∧∀ k,k ∈ ks↔∃ e ∈ l,(intKind prog w).is k e.2=true
 | [],_=>⟨[],.nil,rfl,fun k=>by simp⟩
 | e::l,h=>by
  obtain⟨ks,h1,h2,h3⟩:=ints_of l h.tail
  obtain⟨⟨k,hk,_⟩,_⟩:=h.head
  obtain⟨hx,x⟩:=e
  obtain⟨u,rfl⟩:=Value.isInt_shape hk
  refine⟨k::ks,.cons k u h1,by simp [h2],fun y=>?_⟩
  rw[List.mem_cons,h3 y]
  constructor
  ·rintro (rfl | ⟨e,he,q⟩)
   ·exact⟨_,List.mem_cons_self,hk⟩
   ·exact⟨e,List.mem_cons_of_mem _ he,q⟩
  ·rintro ⟨e,he,q⟩
   rcases List.mem_cons.mp he with rfl | he
   ·exact .inl ((intKind prog w).inj _ _ _ q hk)
   ·exact .inr ⟨e,he,q⟩
theorem got_all {ord:List (Int × Value)} {acc:Array Value} (h:ItemsOf (fun i v=>∃ e,ord[i]?=some e∧v=e.2) acc ord.length):acc.toList=ord.map (·.2):=by
 refine List.ext_getElem (by simp [h.1]) fun i h1 h2=>?_
 have hi:i < acc.size:=by simpa using h1
 obtain⟨e,e1,e2⟩:=h.2 i _ (Array.getElem?_eq_getElem hi)
 have hi2:i < ord.length:=by simpa using h2
 rw[List.getElem?_eq_getElem hi2] at e1
 cases e1
 simpa using e2
/-- all of a set, as a list -/
theorem collect_set {Q:List Value->Shared->Prop} {S:Int->Bool} {n:Nat} (hh:A.handled=none) (st:SetT prog w s.heap a S n)
  (hQ:∀ (h':Heap) (tk:Nat) (d':Drawn) (vs:List Value) (ks:List Int),(∀ b o,s.heap.get? b=some o->h'.get? b=some o)->IntsAre vs ks->ks.length=n->(∀ k,S k=true↔k ∈ ks)->Q vs { s with heap:=h',toks:=tk,drawn:=d' }) :
  wpAny (model prog w) A (collect (.ref a)) Q E s:=by
 obtain⟨⟨o,es,ep,t,ho,ox,od,el,me,small,fit,en⟩,o',es',ep',t',ho',od',ti⟩:=st
 rw[ho] at ho';cases ho'
 rw[od] at od';cases od'
 unfold collect
 refine wpAny_bind (wpAny_runValue (codeAny_builtin PySem.F.entry_proto_collect ?_))
 rw[Around.under_plainId PySem.F.plain_proto_collect _]
 show wpAny _ A.in1 (newList [] >>= fun l=>again (.builtin "list.__iadd__" ⟨[l,.ref a],[]⟩)) _ _ s
 refine wpAny_bind (wpAny_newObj_type ?_)
 refine wpAny_pure ⟨plainId_quiet PySem.F.plain_list_iadd _,codeAny_builtin PySem.F.entry_list_iadd ?_⟩
 rw[Around.under_plainId PySem.F.plain_list_iadd _]
 show wpAny _ A.in1 (Builtin.List.listExtendWith (.ref s.heap.objs.size) (.ref a) (.ref s.heap.objs.size)) _ _ _
 have alt:a < s.heap.objs.size:=Heap.lt_size ho
 have hS:(s.heap.push { cls:=.type "list",data:=.seq ([]:List Value).toArray }).get? s.heap.objs.size=some { cls:=.type "list",data:=.seq #[] }:=Heap.get?_push_size _ rfl
 have szL:(s.heap.push { cls:=.type "list",data:=.seq ([]:List Value).toArray }).objs.size=s.heap.objs.size + 1:=Heap.size_push ..
 unfold Builtin.List.listExtendWith
 have tS:Shared.TypeIs { s with heap:=s.heap.push { cls:=.type "list",data:=.seq ([]:List Value).toArray } } (.ref a) "set":=⟨o,Heap.get?_push_of_some _ ho,ox.1⟩
 refine wpAny_bind (wpAny_typeOf (T:="set") tS ?_)
 have h1:Builtin.List.listSameRef (.ref s.heap.objs.size) (.ref a)=false:=by simp only [Builtin.List.listSameRef,beq_eq_false_iff_ne];exact Nat.ne_of_gt alt
 have h2:(Value.type "set" == Value.type "list")=false:=by decide
 have h3:(Value.type "set" == Value.type "tuple")=false:=by decide
 simp only [h1,h2,h3,Bool.or_false,Bool.false_eq_true,if_false]
 refine wpAny_bind (iter_set (t:=t) ⟨o,Heap.get?_push_of_some _ ho,ox.1,od⟩ fit ti (Nat.le_of_lt small) fun I h1 d1 ord kd hk lI hp pm stk=>?_)
 refine wpAny_bind (wpAny_holding (hint_set ⟨o,hk a o (Heap.get?_push_of_some _ ho),ox.1⟩ ?_))
 refine wpAny_ite_split (fun _=>?_) (fun z=>absurd (by decide) z)
 refine wpAny_bind (wpAny_rule ?_)
 refine wpAny_bind ?_
 show wpAny _ _ (updateSeq s.heap.objs.size (·.push .none) >>= fun _=>updateSeq s.heap.objs.size (·.pop)) _ _ _
 have g1:=hk _ _ hS
 refine wpAny_bind (wpAny_updateSeq g1 rfl ?_)
 have g2:=Heap.get?_update_self (Obj.mapSeq (·.push Value.none)) g1 rfl
 refine wpAny_updateSeq (hz:=by seq_fits) g2 rfl ?_
 have g3:=Heap.get?_update_self (Obj.mapSeq (·.pop)) g2 rfl
 have neI:s.heap.objs.size≠I:=Nat.ne_of_lt (Nat.lt_of_lt_of_le (by rw[szL];exact Nat.lt_succ_self _) lI)
 have nfp:s.heap.objs.size ∉ fpK I a kd:=by
  cases kd with
  | text=>simp only [fpK,List.mem_cons,List.not_mem_nil,or_false,not_or];exact⟨neI,Nat.ne_of_gt alt⟩
  | places=>simp only [fpK,List.mem_cons,List.not_mem_nil,or_false,not_or];exact⟨neI,Nat.ne_of_gt alt⟩
  | drawn p pl =>
   simp only [fpK,List.mem_cons,List.not_mem_nil,or_false,not_or]
   exact⟨neI,Nat.ne_of_gt alt,Nat.ne_of_lt (Nat.lt_of_lt_of_le (by rw[szL];exact Nat.lt_succ_self _) (hp p pl rfl).2)⟩
 have aI:a≠I:=Nat.ne_of_lt (Nat.lt_of_lt_of_le (by rw[szL];exact Nat.lt_succ_of_lt alt) lI)
 have W:=walk_set (prog:=prog) (w:=w) (A:=A.in1) (ep:=ep) (ord:=ord) (kd:=kd) hh aI fit ti (fun p pl e=>(hp p pl e).1) pm
 have kU:∀ b o,b≠s.heap.objs.size->h1.get? b=some o->((h1.update s.heap.objs.size (Obj.mapSeq (·.push Value.none))).update s.heap.objs.size (Obj.mapSeq (·.pop))).get? b=some o:=fun b o hb e =>
  (Heap.get?_update_other _ _ (Ne.symm hb)).trans ((Heap.get?_update_other _ _ (Ne.symm hb)).trans e)
 have st1:=W.frame 0 _ _ stk fun b hb o e=>kU b o (fun z=>nfp (z ▸ hb)) e
 have lo:ord.length=n:=by rw[pm.length_eq,Array.length_toList,en]
 refine wpAny_pure ⟨plainId_quiet PySem.F.plain_extend_loop _,codeAny_extend_loopS W.toS (by rw[lo,← en];exact fits_of_scanBound small) s.heap.objs.size nfp _ ord.length 0 _ #[] _ rfl (Nat.zero_le _) st1 g3 (ItemsOf.nil _) fun s' acc' c' hm hS' hacc=>?_⟩
 rw[Moved.eq_with hm]
 refine wpAny_bind (wpAny_load hS' (wpAny_pure ?_))
 obtain⟨ks,i1,i2,i3⟩:=ints_of (prog:=prog) (w:=w) ord (el.perm pm)
 rw[got_all hacc]
 refine hQ _ _ _ _ ks (fun b o e=>hm.heap b o ?_ (kU b o (Nat.ne_of_lt (Heap.lt_size e)) (hk b o (Heap.get?_push_of_some _ e)))) i1 (i2.trans lo) fun k=>(me k).trans ?_
 ·simp only [List.mem_cons,List.not_mem_nil,or_false,not_or]
  have:=Heap.lt_size e
  exact⟨Nat.ne_of_lt this,Nat.ne_of_lt (Nat.lt_of_lt_of_le (by rw[szL];exact Nat.lt_succ_of_lt this) lI)⟩
 ·rw[i3 k]
  exact⟨fun ⟨e,he,q⟩=>⟨e,pm.mem_iff.mpr he,q⟩,fun ⟨e,he,q⟩=>⟨e,pm.mem_iff.mp he,q⟩⟩
end
end Stb
namespace L3
open PySem PySem.Spec PyProof.Rows L2
def tieAt (ts:List Tie) (k:Nat):Tie:=ts.getD k (0,0,0)
def arcs2 (t:Tie):List (Nat × Nat × Int):=[(t.1.toNat,t.2.1.toNat,t.2.2),(t.2.1.toNat,t.1.toNat,t.2.2)]
def arcs (ts:List Tie) (ks:List Nat):List (Nat × Nat × Int):=ks.flatMap fun k=>arcs2 (tieAt ts k)
theorem arcs_mem {ts:List Tie} {ks:List Nat} {a:Nat × Nat × Int}:a ∈ arcs ts ks↔∃ k,k ∈ ks∧a ∈ arcs2 (tieAt ts k):=by
 unfold arcs;rw[List.mem_flatMap]
theorem arcs2_mem {t:Tie} {a:Nat × Nat × Int}:a ∈ arcs2 t↔a=(t.1.toNat,t.2.1.toNat,t.2.2)∨a=(t.2.1.toNat,t.1.toNat,t.2.2):=by
 unfold arcs2;simp
theorem tieAt_in {ts:List Tie} {k:Nat} (h:k < ts.length):ts[k]?=some (tieAt ts k)∧tieAt ts k ∈ ts:=by
 have e:ts[k]?=some (tieAt ts k):=by unfold tieAt;rw[List.getD_eq_getElem?_getD,List.getElem?_eq_getElem h];rfl
 exact⟨e,List.mem_of_getElem? e⟩
section
variable {n:Int} {ts:List Tie} {ks:List Nat}
theorem arcs_pos (ok:WebOk n ts) (ko:KeepOk ts.length ks):Far.Pos (arcs ts ks):=fun u v l h=>by
 obtain⟨k,hk,h⟩:=arcs_mem.mp h
 have:=ok.tie _ (tieAt_in (ko.2 k hk)).2
 rcases arcs2_mem.mp h with h | h <;> cases h <;> omega
end
def CV (H:Hp) (v:V):Option (Int × Int)->Prop
 | none=>v=.non
 | some e=>∃ t,v=.ref t∧H t=some (.tup [.int e.1,.int e.2])
theorem CV.keep {H H':Hp} (k:TupKeep H H') {v:V}:∀ {o:Option (Int × Int)},CV H v o->CV H' v o
 | none,h=>h
 | some e,⟨t,h1,h2⟩=>⟨t,h1,k _ _ h2⟩
def CostL (H:Hp) (vs:List V) (cs:List (Option (Int × Int))):Prop:=vs.length=cs.length∧∀ i v,vs[i]?=some v->CV H v (Far.get cs i)
section
variable {H H' J J':Hp} {vs cvs avs ws:List V} {cs:List (Option (Int × Int))} {lw lc la t:Addr} {n k:Nat} {x y:Int}
theorem CostL.keep (h:CostL H vs cs) (k:TupKeep H H'):CostL H' vs cs:=⟨h.1,fun i v e=>(h.2 i v e).keep k⟩
theorem CostL.set {v:V} {c:Int × Int} (h:CostL H vs cs) (hk:k < vs.length) (hv:CV H v (some c)):CostL H (vs.set k v) (cs.set k (some c)):=by
 refine⟨by rw[List.length_set,List.length_set];exact h.1,fun i u e=>?_⟩
 rw[Far.get_set (by rw[← h.1];exact hk)]
 rw[List.getElem?_set] at e
 by_cases z:k=i
 ·subst z;rw[if_pos rfl,if_pos hk] at e;cases e;rw[if_pos rfl];exact hv
 ·rw[if_neg z] at e;rw[if_neg (Ne.symm z)];exact h.2 i u e
theorem CostL.first (n:Nat):CostL H (List.replicate n .non) (List.replicate n none):=by
 refine⟨by rw[List.length_replicate,List.length_replicate],fun i v e=>?_⟩
 rw[Far.get_rep]
 rw[List.getElem?_replicate] at e
 split at e
 ·cases e;rfl
 ·cases e
theorem tk_upd {p:Addr} {xs:List V} {o:HO} (h:J p=some (.lst xs)):TupKeep J (upd J p o):=fun a ys e=>by
 rw[upd_ne (fun z=>by rw[z,h] at e;cases e)];exact e
theorem tk_same (s:Same J J'):TupKeep J J':=fun a xs e=>s _ _ e
/-- the lists of a search: weights, costs, places ahead -/
structure RH (H J:Hp) (lw lc la:Addr) (ws:List V) (n:Nat) (cs:List (Option (Int × Int))):Prop where
 same:Same H J
 fc:H lc=none
 fa:H la=none
 nwc:lw≠lc
 nwa:lw≠la
 nca:lc≠la
 wl:J lw=some (.lst ws)
 co:∃ cvs,J lc=some (.lst cvs)∧CostL J cvs cs
 ah:∃ avs,J la=some (.lst avs)∧avs.length=n
end
theorem rep_one {α:Type} (x:α):∀ k:Nat,(List.replicate k [x]).flatten=List.replicate k x
 | 0=>rfl
 | k + 1=>by rw[List.replicate_succ,List.flatten_cons,rep_one x k];rfl
def ov:Option Int->V
 | none=>.non
 | some x=>.int x
theorem ov_at {D:List (Option Int)} {i:Nat} (h:i < D.length):(D.map ov)[i]?=some (ov (Far.get D i)):=by
 rw[List.getElem?_map,List.getElem?_eq_getElem h]
 unfold Far.get
 rw[List.getD_eq_getElem?_getD,List.getElem?_eq_getElem h];rfl
theorem atI_toNat {α:Type} {xs:List α} {i:Int} {x:α} (h0:0≤i) (h:xs[i.toNat]?=some x):atI xs i=some x:=by
 have hl:=(List.getElem?_eq_some_iff.mp h).1
 unfold atI ixN
 rw[if_pos h0,if_pos (by omega)]
 exact h
theorem ixN_nat {n:Nat} {i:Int} (h0:0≤i) (h:i < n):ixN n i=some i.toNat:=by
 unfold ixN;rw[if_pos h0,if_pos h]
/-- [x] * n -/
def rRep1:R2:=fun x y H Q=>∃ l k z,x=.ref l∧y=.int k∧H l=some (.lst [z])∧0≤k∧k≤1000∧∀ p H',Same H H'->H p=none->H' p=some (.lst (List.replicate k.toNat z))->Q (.ref p) H'
theorem op_rep1 {X:Cx}:OpR X (binaryOp .Mult) rRep1:=by
 intro pins s σ H x y v u Q I rx ry h
 obtain⟨l,k,z,rfl,rfl,hH,h1,h2,q⟩:=h
 refine op_rep (X:=X) pins s σ H _ _ v u Q I rx ry ⟨l,k,_,rfl,rfl,hH,by omega,by omega,?_,fun p hp=>q p _ (same_new hp) hp (by rw[upd_same,rep_one])⟩
 exact Nat.le_trans (by show 1 * k.toNat≤1000;omega) (by decide:1000≤sizeLine)
theorem tie_val {K:PySem.W.Frag} {H:Hp}:∀ {ts:List Tie} {ws:List V} {k:Nat},IsAll K H (ts.map tieD) ws->k < ts.length->∃ a,ws[k]?=some (.ref a)∧H a=some (.tup [.int (tieAt ts k).1,.int (tieAt ts k).2.1,.int (tieAt ts k).2.2])
 | t::r,ws,0,h,_=>by
  obtain⟨v,vs,rfl,h1,_⟩:=h
  obtain⟨a,xs,rfl,ha,hx⟩:=h1
  have e:xs=(tieI t).map V.int:=IsAll.of_ints (ns:=tieI t) hx
  subst e
  exact⟨a,rfl,ha⟩
 | t::r,ws,k + 1,h,hk=>by
  obtain⟨v,vs,rfl,_,h2⟩:=h
  obtain⟨a,e,ha⟩:=tie_val (ts:=r) (ws:=vs) (k:=k) h2 (by simpa using hk)
  exact⟨a,e,ha⟩
theorem keep_parts {K:PySem.W.Frag} {H:Hp} {ks:List Nat} {v:V} (h:Is K H (keepD ks) v):∃ p,v=.ref p∧H p=some (.tup ((keepI ks).map V.int)):=by
 obtain⟨p,vs,rfl,hp,hx⟩:=h
 have e:=IsAll.of_ints hx
 subst e
 exact⟨p,rfl,hp⟩
theorem keep_at {ks:List Nat} {i:Nat} {x:V} (h:((keepI ks).map V.int)[i]?=some x):∃ k,ks[i]?=some k∧x=.int (k:Int):=by
 unfold keepI at h
 rw[List.map_map,List.getElem?_map] at h
 cases e:ks[i]? with
 | none=>rw[e] at h;cases h
 | some k=>rw[e] at h;cases h;exact⟨k,rfl,rfl⟩
theorem cost_at {H:Hp} {vs:List V} {cs:List (Option (Int × Int))} {i:Int} (h:CostL H vs cs) (h0:0≤i) (hi:i.toNat < cs.length):∃ v,atI vs i=some v∧CV H v (Far.get cs i.toNat):=by
 have hl:i.toNat < vs.length:=by rw[h.1];exact hi
 have e:vs[i.toNat]?=some vs[i.toNat]:=List.getElem?_eq_getElem hl
 exact⟨_,atI_toNat h0 e,h.2 _ _ e⟩
def pows (m:Nat):List V:=(List.range m).map fun i=>V.int (2 ^ i)
theorem pows_at {m i:Nat} (h:i < m):(pows m)[i]?=some (.int (2 ^ i)):=by unfold pows;rw[List.getElem?_map,List.getElem?_range h];rfl
theorem pows_succ (m:Nat):pows (m + 1)=pows m++[.int (2 ^ m)]:=by unfold pows;rw[List.range_succ,List.map_append];rfl
theorem pow_le {i:Nat} (h:i < 60):(0:Int)≤2 ^ i∧(2:Int) ^ i≤2 ^ 60:=by
 have e:((2 ^ i:Nat):Int)=(2:Int) ^ i:=by norm_cast
 have:2 ^ i≤2 ^ 60:=Nat.pow_le_pow_right (by decide) (by omega)
 constructor
 ·rw[← e];exact Int.natCast_nonneg _
 ·rw[← e];exact_mod_cast this
def spWeights (K:PySem.W.Frag):Sp:=fun vs H Q _=>∃ n ts v,vs=[v]∧Is K H (webD n ts) v∧ts.length≤60∧∀ l H',Same H H'->H l=none->H' l=some (.lst (pows ts.length))->Q (.ref l) H'
def spCost (K:PySem.W.Frag):Sp:=fun vs H Q _=>∃ c x y l w,vs=[.ref c,.int l,.int w]∧H c=some (.tup [.int x,.int y])∧∀ t H',Same H H'->H' t=some (.tup [.int (x + l),.int (y + w)])->Q (.ref t) H'
/-- a web, a keep of it, a place -/
def WK (K:PySem.W.Frag) (H:Hp) (n:Int) (ts:List Tie) (ks:List Nat) (wv kv:V):Prop:=Is K H (webD n ts) wv∧WebOk n ts∧Is K H (keepD ks) kv∧KeepOk ts.length ks
def spReached (K:PySem.W.Frag):Sp:=fun vs H Q _=>∃ n ts ks wv kv r,vs=[wv,kv,.int r]∧WK K H n ts ks wv kv∧0≤r∧r < n ∧
 ∀ p lc la cvs avs cs H',Same H H'->H' p=some (.tup [.ref lc,.ref la])->H' lc=some (.lst cvs)->H' la=some (.lst avs)->CostL H' cvs cs->Far.Good (arcs ts ks) n.toNat r.toNat cs->Far.Stab (arcs ts ks) cs->Q (.ref p) H'
def spFars (K:PySem.W.Frag):Sp:=fun vs H Q _=>∃ n ts ks wv kv r,vs=[wv,kv,.int r]∧WK K H n ts ks wv kv∧0≤r∧r < n ∧
 ∀ l D H',Same H H'->H l=none->H' l=some (.lst (D.map ov))->D.length=n.toNat->(∀ v,v < n.toNat->Far.Dst (arcs ts ks) r.toNat v (Far.get D v))->Q (.ref l) H'
end L3
namespace HT
open PySem PyProof.Rows
open Sem (wp)
section
variable {prog:Program} {w:World} {A:Around} {E:Value->Shared->Prop} {s:Shared}
end
end HT
namespace L3
open PySem PySem.Spec PyProof.Rows L2
def capO (roof:Int):Option Int->Int
 | none=>roof
 | some x=>if roof < x then roof else x
def IntT (H:Hp) (p:Addr) (hs:List Int):Prop:=H p=some (.tup (hs.map V.int))∧hs.length≤1000
def AllI (xs:List V):Prop:=∃ ns:List Int,xs=ns.map V.int
theorem lay_ints:∀ hs:List Int,PyData.canLayAll0 (hs.map .int)=true
 | []=>rfl
 | t::r=>by
  show (PyData.canLay0 (.int t) && PyData.canLayAll0 (r.map .int))=true
  rw[lay_ints r]
  rfl
theorem deep_ints:∀ hs:List Int,PyData.depthAll (hs.map .int)≤1
 | []=>Nat.zero_le _
 | t::r=>by
  show max (PyData.depth (.int t)) (PyData.depthAll (r.map .int))≤1
  have h1:=deep_ints r
  have h2:PyData.depth (.int t)≤1:=Nat.le_trans (Nat.le_of_eq (by rfl:PyData.depth (.int t)=0)) (by decide)
  omega
def spHFrom (K:PySem.W.Frag):Sp:=fun vs H Q _=>∃ n ts ks wv kv a roof,vs=[wv,kv,.int a,.int roof]∧WK K H n ts ks wv kv∧0≤a∧a < n ∧
 ∀ (p:Addr) (D:List (Option Int)) (H':Hp),Same H H'->H' p=some (.tup ((D.map (capO roof)).map V.int))->D.length=n.toNat->(∀ v,v < n.toNat->Far.Dst (arcs ts ks) a.toNat v (Far.get D v))->Q (.ref p) H'
section
variable {g:TG} {te:TE} {own:List Str} {js:List Nat} {σ:L2.St} {H1:Hp} {Q:VK}
end
end L3
namespace L3
open PySem PySem.Spec PyProof.Rows L2
section
variable {J:It} {g:TG} {tt:TT} {te:TE} {own:List Str} {js:List Nat} {σ:L2.St} {H1:Hp} {Q:VK}
/-- a test, nothing that stands is changed: item i gives sel i, or nothing -/
theorem comp_sel (n:Nat) (Sg:L2.St->Prop) (sel:Nat->Option V) (hn:n≤1000) (h0:Sg (start3 own js σ))
  (go:∀ i H',i < n->Same H1 H'->J.go i H') (stop:∀ H',Same H1 H'->J.stop n H')
  (step:∀ i x σ' H' H2,i < n->Same H1 H'->J.yld i H' x H2->Sg σ'->∀ (C:L2.St->V->Hp->Prop) (L:L2.St->Hp->Prop),(∀ σ3 v H5,Sg σ3->Same H' H5->sel i=some v->C σ3 v H5)->(∀ σ3 H5,Sg σ3->Same H' H5->sel i=none->L σ3 H5) ->
   g x σ' H2 fun σ3 H3=>tt σ3 H3 fun b H4=>if b=true then te σ3 H4 fun v H5=>C σ3 v H5 else L σ3 H4)
  (fin:∀ D H',H1 D=none->Same H1 H'->H' D=some (.lst ((List.range n).filterMap sel))->Q (.ref D) H'):CompGo own js g tt te σ Q J H1:=by
 intro D hD
 refine⟨fun i m ys σ' H'=>m=n - i∧i≤n∧Sg σ'∧Same H1 H'∧ys=(List.range i).filterMap sel,⟨n,rfl,Nat.zero_le _,h0,same_new hD,rfl⟩,?_⟩
 rintro i m ys σ' H' ⟨rfl,hi,sg,sm,rfl⟩ hd
 have len:((List.range i).filterMap sel).length≤i:=by have:=List.length_filterMap_le sel (List.range i);rw[List.length_range] at this;exact this
 by_cases hlt:i < n
 ·refine .inr ⟨go i H' hlt sm,fun x H2 hy=>?_⟩
  refine step i x σ' H' H2 hlt sm hy sg
   (fun σ3 v H5=>H5 D=some (.lst ((List.range i).filterMap sel))∧((List.range i).filterMap sel).length < sizeLine∧∃ m',m' < n - i∧(m'=n - (i + 1)∧i + 1≤n∧Sg σ3∧Same H1 (upd H5 D (.lst ((List.range i).filterMap sel++[v])))∧(List.range i).filterMap sel++[v]=(List.range (i + 1)).filterMap sel))
   (fun σ3 H5=>H5 D=some (.lst ((List.range i).filterMap sel))∧∃ m',m' < n - i∧(m'=n - (i + 1)∧i + 1≤n∧Sg σ3∧Same H1 H5∧(List.range i).filterMap sel=(List.range (i + 1)).filterMap sel)) (fun σ3 v H5 sg3 s5 e=>?_) (fun σ3 H5 sg3 s5 e=>?_)
  ·refine⟨s5 _ _ hd,Nat.lt_of_le_of_lt (by omega:((List.range i).filterMap sel).length≤1000) (by decide),n - (i + 1),by omega,rfl,hlt,sg3,fun b o z=>?_,?_⟩
   ·rw[upd_ne (ne_of_none z hD)];exact s5 _ _ (sm _ _ z)
   ·rw[List.range_succ,List.filterMap_append];simp [e]
  ·refine⟨s5 _ _ hd,n - (i + 1),by omega,rfl,hlt,sg3,sm.trans s5,?_⟩
   rw[List.range_succ,List.filterMap_append];simp [e]
 ·have e:i=n:=by omega
  subst e
  exact .inl ⟨stop H' sm,fin D H' hD sm hd⟩
end
end L3
namespace L3
open PySem PySem.Spec PyProof.Rows L2
def natV (ns:List Nat):List V:=ns.map fun v:Nat=>V.int (v:Int)
theorem natV_keep (ns:List Nat):natV ns=(keepI ns).map V.int:=by unfold natV keepI;rw[List.map_map];rfl
theorem sel_nats (p:Nat->Bool):∀ is:List Nat,is.filterMap (fun i=>if p i=true then some (V.int (i:Int)) else none)=natV (is.filter p)
 | []=>rfl
 | i::r=>by
  rw[List.filterMap_cons,List.filter_cons]
  cases e:p i with
  | true=>rw[if_pos rfl,if_pos rfl,sel_nats p r];rfl
  | false=>rw[if_neg Bool.false_ne_true,if_neg Bool.false_ne_true,sel_nats p r]
theorem inV_nat {a:Int} (h:0≤a) (ns:List Nat):inV (.int a) (natV ns)=decide (a.toNat ∈ ns):=by
 unfold inV natV
 rw[List.any_map,Bool.eq_iff_iff,List.any_eq_true,decide_eq_true_iff]
 constructor
 ·rintro ⟨v,hv,e⟩
  have e':((v:Int) == a)=true:=e
  have:(v:Int)=a:=by simpa using e'
  have e2:a.toNat=v:=by omega
  rw[e2];exact hv
 ·intro m
  exact⟨_,m,show (((a.toNat:Nat):Int) == a)=true by rw[Int.toNat_of_nonneg h];simp⟩
theorem flat_nat (ns:List Nat):(natV ns).all flatV=true:=by
 unfold natV;rw[List.all_map];exact List.all_eq_true.mpr fun _ _=>rfl
theorem call_isiC {X:Cx} {own fr:List Str} {scope:Scope} {fp:List Addr} {pins:List (Addr × Obj)} {s3:Shared} {H3:Hp} {n:String}:CallR (cxComp X own fr scope fp pins s3 H3) (.builtin "isinstance") (fun xs H Q=>∃ x t b,xs=[x,.ty n]∧TyOf X.K H x t∧PySem.W.kitOne X.K t (.type n)=some b∧Q (.bl b) H):=call_isi (X:=cxComp X own fr scope fp pins s3 H3)
end L3
namespace Srt
open PySem PySem.Spec PyProof.Rows PySem.W
section
variable {prog:Program} {w:World} {A:Around} {E:Value->Shared->Prop} {s:Shared}
end
end Srt
namespace HT
open PySem PyProof.Rows
section
variable {prog:Program} {w:World} {A:Around} {E:Value->Shared->Prop} {s:Shared}
/-- all of a range, as a list -/
theorem collect_rng {Q:List Value->Shared->Prop} {r:Addr} {a b c:Int} {t u v:Tok} {n:Nat} (hh:A.handled=none) (hr:IsRange s.heap r a b c t u v) (hsmall:Builtin.Range.small a b c=true)
  (hn:Builtin.Range.rangeSize a b c=n) (hlen:n≤2 ^ 24)
  (hQ:∀ h' tk acc',(∀ b o,s.heap.get? b=some o->h'.get? b=some o)->ItemsOf (fun i v=>∃ t,v=.int (a + i * c) t) acc' n->Q acc'.toList { s with heap:=h',toks:=tk }) :
  wpAny (model prog w) A (collect (.ref r)) Q E s:=by
 unfold collect
 refine wpAny_bind (wpAny_runValue (codeAny_builtin PySem.F.entry_proto_collect ?_))
 rw[Around.under_plainId PySem.F.plain_proto_collect _]
 show wpAny _ A.in1 (newList [] >>= fun l=>again (.builtin "list.__iadd__" ⟨[l,.ref r],[]⟩)) _ _ s
 refine wpAny_bind (wpAny_newObj_type ?_)
 refine wpAny_pure ⟨plainId_quiet PySem.F.plain_list_iadd _,codeAny_builtin PySem.F.entry_list_iadd ?_⟩
 rw[Around.under_plainId PySem.F.plain_list_iadd _]
 show wpAny _ A.in1 (Builtin.List.listExtendWith (.ref s.heap.objs.size) (.ref r) (.ref s.heap.objs.size)) _ _ _
 have hS:(s.heap.push { cls:=.type "list",data:=.seq ([]:List Value).toArray }).get? s.heap.objs.size=some { cls:=.type "list",data:=.seq #[] }:=Heap.get?_push_size _ rfl
 have fin' : ∀ (h' : Heap) (tk : Nat) (acc' : Array Value) (c' : Nat), (∀ b o, s.heap.get? b = some o → h'.get? b = some o) → h'.get? s.heap.objs.size = some { cls := .type "list", dict := none, data := .seq acc' c', slots := #[] } → ItemsOf (fun i v => ∃ t, v = .int (a + i * c) t) acc' n →
     wpAny (model prog w) A (load s.heap.objs.size >>= fun o=>match o.data with | .seq xs _=>pure xs.toList | _=>unsupported "internal:collect") Q E { s with heap:=h',toks:=tk }:=fun h' tk acc' c' hk hS' hacc=>wpAny_bind (wpAny_load hS' (wpAny_pure (hQ h' tk acc' hk hacc)))
 refine wpAny_mono (wpAny_extend_range (A:=A) (R:=fun r s'=>r=.ok (.ret (.ref s.heap.objs.size))∧∃ (h':Heap) (tk:Nat) (acc':Array Value) (c':Nat),s'={ s with heap:=h',toks:=tk }∧(∀ b o,s.heap.get? b=some o->h'.get? b=some o)∧h'.get? s.heap.objs.size=some { cls:=.type "list",dict:=none,data:=.seq acc' c',slots:=#[] }∧ItemsOf (fun i v=>∃ t,v=.int (a + i * c) t) acc' n)
  (s:={ s with heap:=s.heap.push { cls:=.type "list",data:=.seq ([]:List Value).toArray } }) hh (Heap.get?_push_of_some _ hr) hsmall hn hlen s.heap.objs.size (.ref s.heap.objs.size) 0 hS fun h' tk acc' c' hk hS' hacc=>⟨rfl,h',tk,acc',c',rfl,fun b o e=>hk b o (Nat.ne_of_lt (Heap.lt_size e)) (Heap.get?_push_of_some _ e),hS',hacc⟩) (fun fin s' h=>?_) (fun e s' h=>?_)
 ·cases fin with
  | done f =>
   obtain⟨e,h',tk,acc',c',rfl,h1,h2,h3⟩:=h
   cases e
   exact fin' h' tk acc' c' h1 h2 h3
  | again c'=>exact⟨h.1,codeAny_mono h.2 fun r s'' hr=>by obtain⟨rfl,h',tk,acc',c',rfl,h1,h2,h3⟩:=hr;exact fin' h' tk acc' c' h1 h2 h3⟩
 ·exact absurd h.1 (by simp)
end
theorem meets_tuple_new_rng (r:Addr) (a b c:Int) (t u v:Tok) (n:Nat) (hsmall:Builtin.Range.small a b c=true) (hn:Builtin.Range.rangeSize a b c=n) (hlen:n≤1000) :
  Meets (Builtin.«tuple.__new__» ⟨[.type "tuple",.ref r],[]⟩)
   (fun A R s=>A.handled=none∧IsRange s.heap r a b c t u v∧∀ (h':Heap) (tk:Nat) (acc':Array Value),(∀ b o',s.heap.get? b=some o'->h'.get? b=some o')->ItemsOf (fun i v=>∃ t,v=.int (a + i * c) t) acc' n->R (.ok (.ret (.ref h'.objs.size))) { s with heap:=h'.push { cls:=.type "tuple",data:=.seq acc' },toks:=tk }) :=
 .of_wp fun prog w A R s h=>by
  obtain⟨hp,g,d,tk,os⟩:=s;obtain⟨hh,hr,h⟩:=h
  have hsub:=sub_tuple_self
  have hinit:=init_tuple_lookup
  have hmh:=madeHere_tuple
  have hT:Shared.TypeIs ⟨hp,g,d,tk,os⟩ (.ref r) "range":=⟨_,hr,rfl⟩
  wp_walk using wpAny_typeOf hT,collect_rng (A:=A.in1) hh hr hsmall hn (Nat.le_trans hlen (by decide))
  intro h' tk' acc' hk hacc
  show wpAny _ _ (Builtin.Tuple.tupleExact acc'.toList.toArray >>= fun v=>ret v) _ _ _
  unfold Builtin.Tuple.tupleExact
  have sz:acc'.size=n:=hacc.1
  refine wpAny_bind (wpAny_newObj_type ?_ (by show acc'.toList.toArray.size≤sizeLine;rw[show acc'.toList.toArray=acc' by simp,sz,sizeLine_eq];omega))
  refine wpAny_pure ⟨_,rfl,?_⟩
  have e:acc'.toList.toArray=acc':=by simp
  rw[e]
  exact h h' tk' acc' hk hacc
section
variable {prog:Program} {w:World} {A:Around} {E:Value->Shared->Prop} {s:Shared}
/-- tuple(range(..)) -/
theorem call_tuple_range {Q:Value->Shared->Prop} {r:Addr} {a b c:Int} {t u v:Tok} {n:Nat} (hh:A.handled=none) (hr:IsRange s.heap r a b c t u v) (hsmall:Builtin.Range.small a b c=true)
  (hn:Builtin.Range.rangeSize a b c=n) (hlen:n≤1000)
  (hQ:∀ (h':Heap) (tk:Nat) (acc':Array Value),(∀ b o,s.heap.get? b=some o->h'.get? b=some o)->ItemsOf (fun i v=>∃ t,v=.int (a + i * c) t) acc' n->Q (.ref h'.objs.size) { s with heap:=h'.push { cls:=.type "tuple",data:=.seq acc' },toks:=tk }) :
  wpAny (model prog w) A (call (.type "tuple") [.ref r]) Q E s :=
 callType_new PySem.F.called_tuple (by decide) (PySem.F.typeCall_tuple_1 _) (PySem.F.newCall_tuple_1 _) (fun obj=>PySem.F.args_object_init_2 obj _) PySem.F.entry_tuple_new
  (meets_tuple_new_rng r a b c t u v n hsmall hn hlen) ⟨hh,hr,fun h' tk acc' hk hacc=>⟨⟨_,Heap.get?_push_size _ rfl,rfl⟩,hQ h' tk acc' hk hacc⟩⟩
end
end HT
namespace L3
open PySem PySem.Spec PyProof.Rows L2
section
variable {X:Cx}
/-- tuple(range(n)) -/
theorem call_tuple_rng (hh:X.calm=true):CallR X (.type "tuple") (fun xs H Q=>∃ (p:Addr) (j:Int),xs=[.ref p]∧H p=some (.rng 0 j)∧0≤j∧j≤1000∧∀ l H',Same H H'->H l=none->H' l=some (.tup (natV (List.range j.toNat)))->Q (.ref l) H'):=by
 intro pins s σ H xs us Q I r h
 obtain⟨p,j,rfl,hp,hj0,hj,q⟩:=h
 obtain⟨u,rfl,rx⟩:=vals1 r
 cases rx
 obtain⟨t,u,v,e⟩:=(show ObjOk X.prog X.w H s.heap p (.rng 0 j) from I.hok p _ hp)
 refine HT.call_tuple_range (n:=j.toNat) (I.ok.hd hh) (show IsRange s.heap p 0 j 1 t u v from e) (small_one (by omega) (by omega) (by omega) (by omega)) (by rw[rangeSize_one];split <;> omega) (by omega) fun h' tk acc hk hacc=>?_
 have I1:Inv X pins σ H { s with heap:=h',toks:=tk }:=I.kept (t':=tk) hk
 have fr:H h'.objs.size=none:=I1.hok.fresh (Nat.le_refl _)
 refine⟨.ref h'.objs.size,upd H h'.objs.size (.tup (natV (List.range j.toNat))),I1.laid (t':=tk) (o:=.tup (natV (List.range j.toNat))) (fun b o e=>Heap.get?_push_of_some _ e) (Nat.le_refl _) ⟨?_,acc.toList,?_,(by rw[show acc.toList.toArray=acc by simp];exact⟨_,Heap.get?_push_size _ rfl,rfl,⟨_,rfl⟩,rfl⟩)⟩,rfl,q _ _ (same_new fr) fr upd_same⟩
 ·unfold natV;rw[List.length_map,List.length_range,sizeLine_eq];omega
 ·have go:∀ (n:Nat) (l:List Value),l.length=n->(∀ (k:Nat) (v:Value),l[k]?=some v->∃ t,v=Value.int (0 + (k:Int) * 1) t)->Vals ((List.range n).map fun i:Nat=>V.int (i:Int)) l:=by
   intro n l hl hv
   have gen:∀ (l:List Value) (o:Nat),(∀ (k:Nat) (v:Value),l[k]?=some v->∃ t,v=Value.int ((o + k:Nat):Int) t)->Vals ((List.range' o l.length).map fun i:Nat=>V.int (i:Int)) l:=by
    intro l
    induction l with
    | nil=>intro o _;exact .nil
    | cons x r ih =>
     intro o h
     rw[List.length_cons,List.range'_succ,List.map_cons]
     obtain⟨t,ht⟩:=h 0 x rfl
     refine .cons ⟨t,by simpa using ht⟩ (ih (o + 1) fun k v hk=>?_)
     obtain⟨t,ht⟩:=h (k + 1) v (by simpa using hk)
     exact⟨t,by rw[ht];congr 1;omega⟩
   have:=gen l 0 fun k v hk=>by
    obtain⟨t,ht⟩:=hv k v hk
    exact⟨t,by rw[ht];congr 1;omega⟩
   rw[hl,← List.range_eq_range'] at this
   exact this
  exact go j.toNat acc.toList (by rw[Array.length_toList];exact hacc.1) fun k v hv=>hacc.2 k v (by simpa using hv)
end
section
variable {g:TG} {tt:TT} {te:TE} {own:List Str} {js:List Nat} {σ:L2.St} {H1:Hp} {Q:VK}
theorem comp_selT {K:PySem.W.Frag} {a:Addr} {xs:List V} (hx:H1 a=some (.tup xs)) (Sg:L2.St->Prop) (sel:Nat->Option V) (hn:xs.length≤1000) (h0:Sg (start3 own js σ))
  (step:∀ i x σ' H',xs[i]?=some x->Same H1 H'->Sg σ'->∀ (C:L2.St->V->Hp->Prop) (L:L2.St->Hp->Prop),(∀ σ3 v H5,Sg σ3->Same H' H5->sel i=some v->C σ3 v H5)->(∀ σ3 H5,Sg σ3->Same H' H5->sel i=none->L σ3 H5) ->
   g x σ' H' fun σ3 H3=>tt σ3 H3 fun b H4=>if b=true then te σ3 H4 fun v H5=>C σ3 v H5 else L σ3 H4)
  (fin:∀ D H',H1 D=none->Same H1 H'->H' D=some (.lst ((List.range xs.length).filterMap sel))->Q (.ref D) H'):CompGo own js g tt te σ Q (Itt K a) H1:=by
 refine comp_sel xs.length Sg sel hn h0 (fun i H' hi s=>⟨xs,xs[i],SqT.of (s _ _ hx),by simp [hi]⟩) (fun H' s=>⟨xs,SqT.of (s _ _ hx),Nat.le_refl _⟩) (fun i x σ' H' H2 hi s hy sg C L hC hL=>?_) fin
 obtain⟨rfl,hy⟩:=hy
 exact step i x σ' _ (hy xs (SqT.of (s _ _ hx))) s sg C L hC hL
end
def outs (m:Nat) (ks:List Nat):List Nat:=(List.range m).filter fun k=>decide (k ∉ ks)
noncomputable def gO (ts:List Tie) (ks:List Nat) (k:Nat):Option Int :=
 @dite (Option Int) (∃ o,Far.Dst (arcs ts ks) (tieAt ts k).1.toNat (tieAt ts k).2.1.toNat o) (Classical.propDecidable _) (fun h=>Classical.choose h) fun _=>none
def spWhole (K:PySem.W.Frag):Sp:=fun vs H Q _=>∃ n ts v,vs=[v]∧Is K H (webD n ts) v∧ts.length≤60∧∀ l H',Same H H'->H l=none->H' l=some (.tup (natV (List.range ts.length)))->Q (.ref l) H'
theorem nat_at {ns:List Nat} {i:Nat} {x:V} (h:(natV ns)[i]?=some x):∃ k,ns[i]?=some k∧x=.int (k:Int):=by
 rw[natV_keep] at h;exact keep_at h
end L3
namespace L3
open PySem PySem.Spec PyProof.Rows L2
def oa:Option Nat->V
 | none=>.non
 | some u=>.int (u:Int)
structure RA (H J:Hp) (lw lc la:Addr) (ws:List V) (cs:List (Option (Int × Int))) (as:List (Option Nat)):Prop where
 same:Same H J
 fc:H lc=none
 fa:H la=none
 nwc:lw≠lc
 nwa:lw≠la
 nca:lc≠la
 wl:J lw=some (.lst ws)
 co:∃ cvs,J lc=some (.lst cvs)∧CostL J cvs cs
 ah:J la=some (.lst (as.map oa))
section
variable {H H' J J':Hp} {vs cvs ws:List V} {cs:List (Option (Int × Int))} {as:List (Option Nat)} {lw lc la t:Addr} {k:Nat} {x y:Int}
theorem RA.step (h:RA H J lw lc la ws cs as) (s:Same J J'):RA H J' lw lc la ws cs as :=
 ⟨h.same.trans s,h.fc,h.fa,h.nwc,h.nwa,h.nca,s _ _ h.wl,let ⟨c,e,z⟩:=h.co;⟨c,s _ _ e,z.keep (tk_same s)⟩,s _ _ h.ah⟩
theorem RA.put (h:RA H J lw lc la ws cs as) (hc:J lc=some (.lst cvs)) (hk:k < cvs.length) (ht:J t=some (.tup [.int x,.int y])):RA H (upd J lc (.lst (cvs.set k (.ref t)))) lw lc la ws (cs.set k (some (x,y))) as:=by
 obtain⟨c,e,z⟩:=h.co
 rw[hc] at e;cases e
 refine⟨fun b o eb=>?_,h.fc,h.fa,h.nwc,h.nwa,h.nca,?_,⟨_,upd_same,CostL.set (z.keep (tk_upd hc)) hk ⟨t,rfl,tk_upd hc _ _ ht⟩⟩,?_⟩
 ·rw[upd_ne (ne_of_none eb h.fc)];exact h.same _ _ eb
 ·rw[upd_ne h.nwc];exact h.wl
 ·rw[upd_ne h.nca.symm];exact h.ah
theorem RA.mark {u:Nat} (h:RA H J lw lc la ws cs as):RA H (upd J la (.lst ((as.map oa).set k (.int (u:Int))))) lw lc la ws cs (as.set k (some u)):=by
 obtain⟨c,e,z⟩:=h.co
 refine⟨fun b o eb=>?_,h.fc,h.fa,h.nwc,h.nwa,h.nca,?_,⟨c,?_,z.keep (tk_upd h.ah)⟩,?_⟩
 ·rw[upd_ne (ne_of_none eb h.fa)];exact h.same _ _ eb
 ·rw[upd_ne h.nwa];exact h.wl
 ·rw[upd_ne h.nca];exact e
 ·rw[upd_same,List.map_set];rfl
end
theorem oa_at {D:List (Option Nat)} {i:Nat} (h:i < D.length):(D.map oa)[i]?=some (oa (Far.get D i)):=by
 rw[List.getElem?_map,List.getElem?_eq_getElem h]
 unfold Far.get
 rw[List.getD_eq_getElem?_getD,List.getElem?_eq_getElem h];rfl
/-- a way from a to b, the shortest; or none -/
def WayV (H:Hp) (A:List (Nat × Nat × Int)) (a b:Nat) (v:V):Prop:=(v=.non∧Far.Dst A a b none)∨∃ t ws x,v=.ref t∧H t=some (.tup (natV ws))∧ws.length≤24∧Far.Tr A a ws b x∧Far.Dst A a b (some x)
def isTB (ts:List Tie) (u v:Nat) (k:Nat):Bool:=decide ((tieAt ts k).1=min (u:Int) v) && decide ((tieAt ts k).2.1=max (u:Int) v)
def tbN (ts:List Tie) (u v:Nat):Option Nat:=(List.range ts.length).find? (isTB ts u v)
theorem tb_arc {n:Int} {ts:List Tie} {ks:List Nat} (ok:WebOk n ts) (ko:KeepOk ts.length ks) {u v:Nat} {l:Int} (h:(u,v,l) ∈ arcs ts ks):∃ k,tbN ts u v=some k∧k < ts.length∧(tieAt ts k).2.2=l:=by
 obtain⟨k,hk,m⟩:=arcs_mem.mp h
 have hkl:=ko.2 k hk
 have tk:=ok.tie _ (tieAt_in hkl).2
 have isk:isTB ts u v k=true∧(tieAt ts k).2.2=l:=by
  unfold isTB
  rcases arcs2_mem.mp m with e | e
  ·have e1:u=(tieAt ts k).1.toNat:=congrArg (·.1) e
   have e2:v=(tieAt ts k).2.1.toNat:=congrArg (·.2.1) e
   have e3:l=(tieAt ts k).2.2:=congrArg (·.2.2) e
   have eu:(u:Int)=(tieAt ts k).1:=by rw[e1];exact Int.toNat_of_nonneg tk.1
   have ev:(v:Int)=(tieAt ts k).2.1:=by rw[e2];exact Int.toNat_of_nonneg (Int.le_of_lt (Int.lt_of_le_of_lt tk.1 tk.2.1))
   rw[eu,ev,Int.min_eq_left (Int.le_of_lt tk.2.1),Int.max_eq_right (Int.le_of_lt tk.2.1)]
   exact⟨by rw[decide_eq_true rfl,decide_eq_true rfl];rfl,e3.symm⟩
  ·have e1:u=(tieAt ts k).2.1.toNat:=congrArg (·.1) e
   have e2:v=(tieAt ts k).1.toNat:=congrArg (·.2.1) e
   have e3:l=(tieAt ts k).2.2:=congrArg (·.2.2) e
   have eu:(u:Int)=(tieAt ts k).2.1:=by rw[e1];exact Int.toNat_of_nonneg (Int.le_of_lt (Int.lt_of_le_of_lt tk.1 tk.2.1))
   have ev:(v:Int)=(tieAt ts k).1:=by rw[e2];exact Int.toNat_of_nonneg tk.1
   rw[eu,ev,Int.min_eq_right (Int.le_of_lt tk.2.1),Int.max_eq_left (Int.le_of_lt tk.2.1)]
   exact⟨by rw[decide_eq_true rfl,decide_eq_true rfl];rfl,e3.symm⟩
 cases e:tbN ts u v with
 | none =>
  have:=List.find?_eq_none.mp e k (List.mem_range.mpr hkl)
  exact absurd isk.1 this
 | some k' =>
  have p:=List.find?_some e
  have hk':k' < ts.length:=List.mem_range.mp (List.mem_of_find?_eq_some e)
  refine⟨k',rfl,hk',?_⟩
  have same:k'=k:=by
   have q1:=p
   have q2:=isk.1
   unfold isTB at q1 q2
   rw[Bool.and_eq_true] at q1 q2
   have a1:=of_decide_eq_true q1.1
   have a2:=of_decide_eq_true q1.2
   have b1:=of_decide_eq_true q2.1
   have b2:=of_decide_eq_true q2.2
   have ri:=List.pairwise_iff_getElem.mp ok.rise
   have g:∀ j (hj:j < ts.length),ts[j]=tieAt ts j:=fun j hj=>by
    have:=(tieAt_in hj).1
    rw[List.getElem?_eq_getElem hj] at this
    exact Option.some.inj this
   rcases Nat.lt_trichotomy k' k with z | z | z
   ·have:=ri k' k hk' hkl z
    rw[g k' hk',g k hkl] at this
    exact (this.elim (fun z=>Int.ne_of_lt z (a1.trans b1.symm)) fun z=>Int.ne_of_lt z.2 (a2.trans b2.symm)).elim
   ·exact z
   ·have:=ri k k' hkl hk' z
    rw[g k' hk',g k hkl] at this
    exact (this.elim (fun z=>Int.ne_of_lt z (b1.trans a1.symm)) fun z=>Int.ne_of_lt z.2 (b2.trans a2.symm)).elim
  rw[same];exact isk.2
def tlen (ts:List Tie) (u v:Nat):Int:=(tieAt ts ((tbN ts u v).getD 0)).2.2
def wl (ts:List Tie):List Nat->Int
 | u::v::r=>tlen ts u v + wl ts (v::r)
 | _=>0
def linked (ts:List Tie):List Nat->Prop
 | u::v::r=>(∃ k,tbN ts u v=some k∧k < ts.length)∧linked ts (v::r)
 | _=>True
theorem tr_last {A:List (Nat × Nat × Int)} {a v:Nat} {ws:List Nat} {x:Int} (h:Far.Tr A a ws v x):∃ r,ws=r++[v]:=by
 cases h with
 | one=>exact⟨[],rfl⟩
 | snoc _ _=>exact⟨_,rfl⟩
theorem wl_snoc (ts:List Tie) (u v:Nat):∀ r:List Nat,wl ts (r++[u]++[v])=wl ts (r++[u]) + tlen ts u v
 | []=>by show tlen ts u v + 0=0 + tlen ts u v;omega
 | [a]=>by show tlen ts a u + (tlen ts u v + 0)=tlen ts a u + 0 + tlen ts u v;omega
 | a::b::r=>by
  have:=wl_snoc ts u v (b::r)
  show tlen ts a b + wl ts ((b::r)++[u]++[v])=tlen ts a b + wl ts ((b::r)++[u]) + tlen ts u v
  rw[this];omega
theorem linked_snoc (ts:List Tie) (u v:Nat) (h:∃ k,tbN ts u v=some k∧k < ts.length):∀ r:List Nat,linked ts (r++[u])->linked ts (r++[u]++[v])
 | [],_=>⟨h,trivial⟩
 | [a],hl=>⟨hl.1,h,trivial⟩
 | a::b::r,hl=>⟨hl.1,linked_snoc ts u v h (b::r) hl.2⟩
theorem tr_wl {n:Int} {ts:List Tie} {ks:List Nat} (ok:WebOk n ts) (ko:KeepOk ts.length ks) {a v:Nat} {ws:List Nat} {x:Int} (h:Far.Tr (arcs ts ks) a ws v x):wl ts ws=x∧linked ts ws:=by
 induction h with
 | one=>exact⟨rfl,trivial⟩
 | @snoc ws u v x l t m ih =>
  obtain⟨r,rfl⟩:=tr_last t
  obtain⟨k,e1,e2,e3⟩:=tb_arc ok ko m
  refine⟨?_,linked_snoc ts u v ⟨k,e1,e2⟩ r ih.2⟩
  rw[wl_snoc,ih.1]
  unfold tlen
  rw[e1]
  show x + (tieAt ts k).2.2=x + l
  rw[e3]
theorem linked_at {ts:List Tie}:∀ {ws:List Nat} {i u v:Nat},linked ts ws->ws[i]?=some u->ws[i + 1]?=some v->∃ k,tbN ts u v=some k∧k < ts.length
 | a::b::r,0,u,v,h,e1,e2=>by cases e1;cases e2;exact h.1
 | a::b::r,i + 1,u,v,h,e1,e2=>linked_at (ws:=b::r) (i:=i) h.2 (by simpa using e1) (by simpa using e2)
 | [a],0,u,v,_,_,e2=>by cases e2
 | [a],i + 1,u,v,_,e1,_=>by cases e1
 | [],i,u,v,_,e1,_=>by cases e1
/-- the numbers along a way -/
def alongN (ts:List Tie) (ws:List Nat):List Nat:=(List.range (ws.length - 1)).map fun i=>(tbN ts (ws.getD i 0) (ws.getD (i + 1) 0)).getD 0
def spTB (K:PySem.W.Frag):Sp:=fun vs H Q _=>∃ (n:Int) (ts:List Tie) (wv:V) (u v:Nat),vs=[wv,.int (u:Int),.int (v:Int)]∧Is K H (webD n ts) wv∧ts.length≤60∧∀ H',Same H H'->Q (oa (tbN ts u v)) H'
theorem along_lt {ts:List Tie} {ws:List Nat} (h:linked ts ws):∀ k ∈ alongN ts ws,k < ts.length:=fun k hk=>by
 unfold alongN at hk
 obtain⟨i,hi,rfl⟩:=List.mem_map.mp hk
 have hi':=List.mem_range.mp hi
 have e1:ws[i]?=some (ws.getD i 0):=by rw[List.getD_eq_getElem?_getD,List.getElem?_eq_getElem (by omega)];rfl
 have e2:ws[i + 1]?=some (ws.getD (i + 1) 0):=by rw[List.getD_eq_getElem?_getD,List.getElem?_eq_getElem (by omega)];rfl
 obtain⟨k,e,hk⟩:=linked_at h e1 e2
 rw[e];exact hk
theorem pair_eqv (a b x y:Int):PyData.eqv (.tuple (([a,b]:List Int).map .int)) (.tuple (([x,y]:List Int).map .int))=(decide (a=x) && decide (b=y)):=by
 show (_ && (_ && true))=_
 rw[Bool.and_true]
 rfl
def but (ks:List Nat) (k:Nat):List Nat:=ks.filter fun j=>decide (j≠k)
theorem sel_list (p:Nat->Bool) (ks:List Nat):(List.range ks.length).filterMap (fun i=>if p (ks.getD i 0)=true then some (V.int ((ks.getD i 0:Nat):Int)) else none)=natV (ks.filter p):=by
 have e:=congrArg (List.filterMap fun j:Nat=>if p j=true then some (V.int (j:Int)) else none) (range_getD ks 0)
 rw[List.filterMap_map] at e
 exact e.trans (sel_nats p ks)
def withinB (t l:Int):Option Int->Bool
 | none=>false
 | some x=>decide (x≤t * l)
end L3
namespace Far
variable {B:List Arc} {A:List (Nat × Nat × Int)} {n s:Nat}
structure Run (B:List Arc) (s:Nat) (cs:List (Option (Int × Int))) (as:List (Option Nat)):Prop where
 len:as.length=cs.length
 start:get cs s=some (0,0)
 root:get as s=none
 has:∀ v c,get cs v=some c->v≠s->get as v≠none
 arc:∀ v u,get as v=some u->∃ l k cu cv,(u,v,l,k) ∈ B∧get cs u=some cu∧get cs v=some cv∧¬ lt2 cv (cu.1 + l,cu.2 + 2 ^ k)
theorem Run.step {u v:Nat} {l:Int} {k:Nat} {cs:List (Option (Int × Int))} {as:List (Option Nat)} {c:Int × Int} (P:Pos A) (g:Good A n s cs) (a:Run B s cs as) (m:(u,v,l) ∈ A) (mB:(u,v,l,k) ∈ B) (hv:v < n) (hu:get cs u=some c)
  (h:get cs v=none∨∃ c',get cs v=some c'∧lt2 (c.1 + l,c.2 + 2 ^ k) c'):Run B s (cs.set v (some (c.1 + l,c.2 + 2 ^ k))) (as.set v (some u)):=by
 have hc:v < cs.length:=by rw[g.len];exact hv
 have ha:v < as.length:=by rw[a.len];exact hc
 have l1:=P _ _ _ m
 have c0:=(g.walk _ _ hu).nonneg P
 have vs:v≠s:=fun z=>by
  rw[z] at h
  rcases h with h | ⟨c',h,hl⟩
  ·rw[a.start] at h;cases h
  ·rw[a.start] at h;cases h
   unfold lt2 at hl;simp only at hl;omega
 have uv:u≠v:=fun z=>by
  rcases h with h | ⟨c',h,hl⟩
  ·rw[← z,hu] at h;cases h
  ·rw[← z,hu] at h;cases h
   unfold lt2 at hl;simp only at hl;omega
 refine⟨by rw[List.length_set,List.length_set];exact a.len,by rw[get_set hc,if_neg (Ne.symm vs)];exact a.start,?_,fun x d e hx=>?_,fun x y e=>?_⟩
 ·rw[get_set ha,if_neg (Ne.symm vs)];exact a.root
 ·rw[get_set ha]
  split
  ·exact fun z=>by cases z
  ·rename_i xv
   rw[get_set hc,if_neg xv] at e
   exact a.has x d e hx
 ·rw[get_set ha] at e
  split at e
  ·rename_i z;subst z;cases e
   refine⟨l,k,c,_,mB,by rw[get_set hc,if_neg uv];exact hu,by rw[get_set hc,if_pos rfl],fun z=>?_⟩
   unfold lt2 at z;omega
  ·rename_i xv
   obtain⟨l',k',cu,cv,m',e1,e2,hle⟩:=a.arc x y e
   by_cases yv:y=v
   ·subst yv
    refine⟨l',k',_,cv,m',by rw[get_set hc,if_pos rfl],by rw[get_set hc,if_neg xv];exact e2,fun z=>?_⟩
    rcases h with h | ⟨c',h,hl⟩
    ·rw[h] at e1;cases e1
    ·rw[h] at e1;cases e1
     unfold lt2 at hl hle z
     simp only at hl hle z
     omega
   ·exact⟨l',k',cu,cv,m',by rw[get_set hc,if_neg yv];exact e1,by rw[get_set hc,if_neg xv];exact e2,hle⟩
theorem Run.first (hs:s < n):Run B s ((List.replicate n none).set s (some (0,0))) (List.replicate n none):=by
 have hl:s < (List.replicate n (none:Option (Int × Int))).length:=by rw[List.length_replicate];exact hs
 refine⟨by rw[List.length_set,List.length_replicate,List.length_replicate],by rw[get_set hl,if_pos rfl],get_rep _ _,fun v c e hv=>?_,fun v u e=>?_⟩
 ·rw[get_set hl,if_neg hv,get_rep] at e;cases e
 ·rw[get_rep] at e;cases e
def Stab2 (B:List Arc) (cs:List (Option (Int × Int))):Prop:=∀ u v l k c,(u,v,l,k) ∈ B->get cs u=some c->∃ c',get cs v=some c'∧¬ lt2 (c.1 + l,c.2 + 2 ^ k) c'
def PS2 (c0:List (Option (Int × Int))) (R:Arc->Prop) (cs:List (Option (Int × Int))) (ag:Bool):Prop :=
 (ag=false∧cs=c0∧∀ u v l k c,R (u,v,l,k)->get c0 u=some c->∃ c',get c0 v=some c'∧¬ lt2 (c.1 + l,c.2 + 2 ^ k) c')∨(ag=true∧mu cs < mu c0)
def plusA (R:Arc->Prop) (a:Arc):Arc->Prop:=fun b=>R b∨b=a
section
variable {c0 cs:List (Option (Int × Int))} {R R':Arc->Prop} {ag:Bool} {u v k:Nat} {l:Int}
theorem PS2.less (h:PS2 c0 R cs ag) (z:∀ a,R' a->R a):PS2 c0 R' cs ag:=h.elim (fun ⟨a,b,c⟩=>.inl ⟨a,b,fun u v l k c' y=>c u v l k c' (z _ y)⟩) .inr
theorem PS2.no (h:PS2 c0 R cs ag) (hu:get cs u=none):PS2 c0 (plusA R (u,v,l,k)) cs ag:=by
 rcases h with ⟨a,b,c⟩ | h
 ·refine .inl ⟨a,b,fun u' v' l' k' c' z e=>?_⟩
  rcases z with z | z
  ·exact c _ _ _ _ _ z e
  ·cases z;rw[← b,hu] at e;cases e
 ·exact .inr h
theorem PS2.old (h:PS2 c0 R cs ag) {c d:Int × Int} (hu:get cs u=some c) (hv:get cs v=some d) (hn:¬ lt2 (c.1 + l,c.2 + 2 ^ k) d):PS2 c0 (plusA R (u,v,l,k)) cs ag:=by
 rcases h with ⟨a,b,z⟩ | h
 ·refine .inl ⟨a,b,fun u' v' l' k' c' y e=>?_⟩
  rcases y with y | y
  ·exact z _ _ _ _ _ y e
  ·cases y
   subst b
   rw[hu] at e;cases e
   exact⟨d,hv,hn⟩
 ·exact .inr h
theorem PS2.put (h:PS2 c0 R cs ag) {cs':List (Option (Int × Int))} (hm:mu cs' < mu cs):PS2 c0 (plusA R (u,v,l,k)) cs' true:=by
 rcases h with ⟨a,b,c⟩ | h
 ·exact .inr ⟨rfl,by rw[← b];exact hm⟩
 ·exact .inr ⟨rfl,Nat.lt_trans hm h.2⟩
end
theorem Run.best {cs:List (Option (Int × Int))} {as:List (Option Nat)} (P:Pos A) (g:Good A n s cs) (r:Run B s cs as) (st:Stab2 B cs):Best B n s cs as:=by
 refine⟨g.len,by rw[r.len];exact g.len,r.start,r.root,r.has,fun v c e=>(g.walk v c e).nonneg P,st,fun v u e=>?_⟩
 obtain⟨l,k,cu,cv,m,e1,e2,n1⟩:=r.arc v u e
 obtain⟨c',e3,n2⟩:=st _ _ _ _ _ m e1
 rw[e2] at e3;cases e3
 refine⟨l,k,cu,m,e1,?_⟩
 rw[e2]
 congr 1
 unfold lt2 at n1 n2
 simp only at n1 n2
 exact Prod.ext (by show cv.1=cu.1 + l;omega) (by show cv.2=cu.2 + 2 ^ k;omega)
end Far
namespace L3
open PySem PySem.Spec PyProof.Rows L2
def arcs2B (t:Tie) (k:Nat):List Far.Arc:=[(t.1.toNat,t.2.1.toNat,t.2.2,k),(t.2.1.toNat,t.1.toNat,t.2.2,k)]
def arcsB (ts:List Tie) (ks:List Nat):List Far.Arc:=ks.flatMap fun k=>arcs2B (tieAt ts k) k
theorem arcsB_mem {ts:List Tie} {ks:List Nat} {a:Far.Arc}:a ∈ arcsB ts ks↔∃ k,k ∈ ks∧a ∈ arcs2B (tieAt ts k) k:=by
 unfold arcsB;rw[List.mem_flatMap]
theorem arcs2B_mem {t:Tie} {k:Nat} {a:Far.Arc}:a ∈ arcs2B t k↔a=(t.1.toNat,t.2.1.toNat,t.2.2,k)∨a=(t.2.1.toNat,t.1.toNat,t.2.2,k):=by
 unfold arcs2B;simp
theorem arcsB_take {ts:List Tie} {ks:List Nat} {i k:Nat} (h:ks[i]?=some k) {a:Far.Arc} (m:a ∈ arcsB ts (ks.take (i + 1))):a ∈ arcsB ts (ks.take i)∨a ∈ arcs2B (tieAt ts k) k:=by
 obtain⟨j,hj,m⟩:=arcsB_mem.mp m
 rw[take_next h] at hj
 rcases List.mem_append.mp hj with hj | hj
 ·exact .inl (arcsB_mem.mpr ⟨j,hj,m⟩)
 ·rw[List.mem_singleton.mp hj] at m;exact .inr m
theorem arcsB_keys {n:Int} {ts:List Tie} {ks:List Nat} (ok:WebOk n ts) (ko:KeepOk ts.length ks):Far.Keys (arcsB ts ks):=by
 have at_:∀ {u v l k},(u,v,l,k) ∈ arcsB ts ks->k < ts.length∧((u=(tieAt ts k).1.toNat∧v=(tieAt ts k).2.1.toNat)∨(u=(tieAt ts k).2.1.toNat∧v=(tieAt ts k).1.toNat))∧l=(tieAt ts k).2.2∧k ∈ ks:=fun {u v l k} h=>by
  obtain⟨j,hj,m⟩:=arcsB_mem.mp h
  rcases arcs2B_mem.mp m with e | e <;> cases e
  ·exact⟨ko.2 _ hj,.inl ⟨rfl,rfl⟩,rfl,hj⟩
  ·exact⟨ko.2 _ hj,.inr ⟨rfl,rfl⟩,rfl,hj⟩
 refine⟨fun u v l k h=>?_,fun u v l u' v' l' k h h'=>?_,fun u v l k h=>?_,fun u v l k h=>?_,fun u v l k h=>?_⟩
 ·obtain⟨_,e,rfl,hk⟩:=at_ h
  refine arcsB_mem.mpr ⟨k,hk,arcs2B_mem.mpr ?_⟩
  rcases e with ⟨rfl,rfl⟩ | ⟨rfl,rfl⟩
  ·exact .inr rfl
  ·exact .inl rfl
 ·obtain⟨_,e,rfl,_⟩:=at_ h
  obtain⟨_,e',rfl,_⟩:=at_ h'
  refine⟨rfl,?_⟩
  rcases e with ⟨rfl,rfl⟩ | ⟨rfl,rfl⟩ <;> rcases e' with ⟨rfl,rfl⟩ | ⟨rfl,rfl⟩
  ·exact .inl ⟨rfl,rfl⟩
  ·exact .inr ⟨rfl,rfl⟩
  ·exact .inr ⟨rfl,rfl⟩
  ·exact .inl ⟨rfl,rfl⟩
 ·obtain⟨hk,e,_,_⟩:=at_ h
  have:=ok.tie _ (tieAt_in hk).2
  rcases e with ⟨rfl,rfl⟩ | ⟨rfl,rfl⟩ <;> omega
 ·obtain⟨hk,_,e,_⟩:=at_ h
  have:=ok.tie _ (tieAt_in hk).2
  omega
 ·obtain⟨hk,_⟩:=at_ h
  have:=ok.few
  omega
theorem arcsB_in {n:Int} {ts:List Tie} {ks:List Nat} (ok:WebOk n ts) (ko:KeepOk ts.length ks) {u v k:Nat} {l:Int} (h:(u,v,l,k) ∈ arcsB ts ks):u < n.toNat∧v < n.toNat:=by
 obtain⟨j,hj,m⟩:=arcsB_mem.mp h
 have:=ok.tie _ (tieAt_in (ko.2 j hj)).2
 rcases arcs2B_mem.mp m with e | e <;> cases e <;> omega
def spReachedB (K:PySem.W.Frag):Sp:=fun vs H Q _=>∃ n ts ks wv kv r,vs=[wv,kv,.int r]∧WK K H n ts ks wv kv∧0≤r∧r < n ∧
 ∀ (p lc la:Addr) (cvs:List V) (as:List (Option Nat)) (cs:List (Option (Int × Int))) (H':Hp),Same H H'->H' p=some (.tup [.ref lc,.ref la])->H' lc=some (.lst cvs)->H' la=some (.lst (as.map oa))->CostL H' cvs cs->Far.Best (arcsB ts ks) n.toNat r.toNat cs as->Q (.ref p) H'
def spTreeB (K:PySem.W.Frag):Sp:=fun vs H Q _=>∃ n ts ks wv kv r,vs=[wv,kv,.int r]∧WK K H n ts ks wv kv∧0≤r∧r < n ∧
 ∀ (p:Addr) (as:List (Option Nat)) (cs:List (Option (Int × Int))) (H':Hp),Same H H'->H' p=some (.tup (as.map oa))->Far.Best (arcsB ts ks) n.toNat r.toNat cs as->Q (.ref p) H'
/-- the way from a to b by the tree of b -/
def WayB (H:Hp) (B:List Far.Arc) (n a b:Nat) (v:V):Prop:=∃ cs as,Far.Best B n b cs as∧((v=.non∧Far.get cs a=none)∨∃ t ws c,v=.ref t∧H t=some (.tup (natV ws))∧ws.length≤24∧Far.get cs a=some c∧Far.TPw as b ws.reverse a)
def spWayB (K:PySem.W.Frag):Sp:=fun vs H Q _=>∃ n ts ks wv kv a b,vs=[wv,kv,.int a,.int b]∧WK K H n ts ks wv kv∧0≤a∧a < n∧0≤b∧b < n∧∀ v H',Same H H'->WayB H' (arcsB ts ks) n.toNat a.toNat b.toNat v->Q v H'
end L3
namespace L3
open PySem PySem.Spec PyProof.Rows L2
section
variable {X:Cx}
end
end L3
namespace Srt
open PySem PySem.Spec PyProof.Rows PySem.W
section
variable {prog:Program} {w:World} {A:Around} {E:Value->Shared->Prop} {s:Shared}
/-- sorted(x), x what collect makes some list of -/
theorem sorted_from {x:Value} {Q:Value->Shared->Prop} {Good:List Value->Shared->Prop}
  (hcol:∀ (A':Around) (E':Value->Shared->Prop) (Q':List Value->Shared->Prop),A'.handled=A.handled->(∀ vs s',Good vs s'->Q' vs s')->wpAny (model prog w) A' (collect x) Q' E' s)
  (hg:∀ vs s1,Good vs s1->∃ (r:Nat->Int) (κ:SortKind),vs.length < 64∧(2≤vs.length->∀ (A':Around) (s':Shared) (Q:SortKind->Shared->Prop),Q κ s'->wpAny (model prog w) A' (keyKind' vs.toArray) Q (fun _ _=>False) s') ∧
   (∀ (A':Around) (s':Shared) (i j:Nat) (C:Bool->Shared->Prop),i < vs.length->j < vs.length->C (decide (r i < r j)) s'->kas_ask prog w A' κ vs i j C s') ∧
   ∀ (p:Array Nat) (h':Heap) (c:Nat),Gd vs.length p->Up r p vs.length->(∀ b o,s1.heap.get? b=some o->h'.get? b=some o)->h'.get? s1.heap.objs.size=some (seqObj "list" (outOf vs p).toArray c)->Q (.ref s1.heap.objs.size) { s1 with heap:=h' }) :
  wpAny (model prog w) A (call (.builtin "sorted") [x]) Q E s:=by
 have line:(64:Nat)≤sizeLine:=by rw[sizeLine_eq];decide
 refine Calls.call_function_entry kind_sorted plain_sorted entry_sorted (args_sorted1 _) ?_
 unfold Builtin.«sorted»
 refine wpAny_bind (m:=checkCount "sorted" 1 1 _) (wpAny_pure (wpAny_bind (hcol _ _ _ rfl fun vs s1 g=>?_)))
 obtain⟨r,κ,h64,hk,hc,h⟩:=hg vs s1 g
 refine wpAny_bind (wpAny_newList ?_ (by omega))
 have hoL:(s1.heap.push { cls:=.type "list",data:=.seq vs.toArray }).get? s1.heap.objs.size=some (seqObj "list" vs.toArray 0):=Heap.get?_push_size _ rfl
 have ne2:∀ b o,s1.heap.get? b=some o->b≠s1.heap.objs.size:=fun b o q=>Nat.ne_of_lt (Heap.lt_size q)
 show wpAny _ _ _ _ _ { s1 with heap:=s1.heap.push { cls:=.type "list",data:=.seq vs.toArray } }
 refine wpAny_bind (wpAny_holding (wpAny_call_entry slot_list_sort ⟨_,hoL,rfl⟩ entry_list_sort ?_ (args_list_sort _)))
 refine lsort (s:={ s1 with heap:=s1.heap.push { cls:=.type "list",data:=.seq vs.toArray } }) (r:=r) (κ:=κ) hoL h64 (fun h2 s' Q' st q=>hk h2 _ s' Q' q) (fun s' i j C st hi hj q=>hc _ s' i j C hi hj q) fun p h' c g1 u1 st e=>⟨_,rfl,?_⟩
 exact wpAny_pure ⟨_,rfl,h p h' c g1 u1 (fun b o q=>st b o (ne2 b o q) (Heap.get?_push_of_some _ q)) e⟩
end
end Srt
namespace L3
open PySem PySem.Spec PyProof.Rows L2
/-- a set that can be walked -/
def SetO (P:Program) (w:World) (a:Addr) (S:Int->Bool) (n:Nat):HO:=.ext fun h=>Stb.SetT P w h a S n
section
variable {X:Cx}
theorem call_sortedS (hh:X.calm=true):CallR X (.builtin "sorted") (fun xs H Q=>∃ (p:Addr) (S:Int->Bool) (n:Nat),xs=[.ref p]∧H p=some (SetO X.prog X.w p S n)∧n < 64∧∀ ms:List Int,ms.length=n->(∀ k,S k=true↔k ∈ ms)->ms.Pairwise (·≤·)->∀ l H',Same H H'->H l=none->H' l=some (.lst (ms.map V.int))->Q (.ref l) H'):=by
 intro pins s σ H xs us Q I r h
 obtain⟨p,S,n,rfl,hp,h64,q⟩:=h
 obtain⟨u,rfl,rx⟩:=vals1 r
 cases rx
 have hS:Stb.SetT X.prog X.w s.heap p S n:=(show ObjOk X.prog X.w H s.heap p (SetO X.prog X.w p S n) from I.hok p _ hp).1
 refine Srt.sorted_from (Good:=fun vs s1=>∃ (h1:Heap) (tk:Nat) (d':Drawn) (ns:List Int),s1={ s with heap:=h1,toks:=tk,drawn:=d' }∧(∀ b o,s.heap.get? b=some o->h1.get? b=some o)∧IntsAre vs ns∧ns.length=n∧∀ k,S k=true↔k ∈ ns)
  (fun A' E' Q' eh hQ=>Stb.collect_set (eh.trans (I.ok.hd hh)) hS fun h1 tk d' vs ns hk hI hl hm=>hQ vs _ ⟨h1,tk,d',ns,rfl,hk,hI,hl,hm⟩) fun its s1 g=>?_
 obtain⟨gg,tk,d',ns,rfl,kg,hI,hn,hm⟩:=g
 have hl:its.length=ns.length:=by
  clear hn hm
  induction hI with
  | nil=>rfl
  | cons n t _ ih=>simp [ih]
 refine⟨fun i=>ns.getD i 0,oneType',by omega,fun h2 A' s' Q' q'=>Srt.int_kind hI h2 q',fun A' s' i j C hi hj q'=>Srt.int_ask hI hi hj q',fun pp h' c g u kp e=>?_⟩
 have g':Srt.Gd ns.length pp:=by rw[← hl];exact g
 have u':Srt.Up (fun i=>ns.getD i 0) pp ns.length:=by rw[← hl];exact u
 have pm:(pp.toList.map fun i=>ns.getD i 0).Perm ns:=by
  have:=gd_perm g' fun i=>ns.getD i 0
  rw[range_getD] at this
  exact this
 have pw:(pp.toList.map fun i=>ns.getD i 0).Pairwise (·≤·):=by
  rw[List.pairwise_map]
  exact up_pair g' u' fun i j _ _ z=>z
 have I1:Inv X pins σ H { s with heap:=gg,toks:=tk,drawn:=d' }:=by
  have:=I.kept (t':=tk) kg
  exact⟨this.ok,this.os,this.bare,this.base,this.loc,this.cell,this.free,this.freeC,this.pin,this.hok,this.len⟩
 have fr:H gg.objs.size=none:=I1.hok.fresh (Nat.le_refl _)
 have ev:((pp.toList.map fun i=>ns.getD i 0).map V.int)=pp.toList.map fun i=>(ns.map V.int).getD i .non:=by
  rw[List.map_map]
  refine List.map_congr_left fun i hi=>?_
  have:=gd_mem g' i hi
  simp [List.getD,this]
 have rv:Vals (ns.map V.int) its:=by
  clear hn hm g' u' pm pw ev hl g u e kp
  induction hI with
  | nil=>exact .nil
  | cons n t _ ih=>exact .cons ⟨t,rfl⟩ ih
 refine⟨.ref gg.objs.size,_,I1.laid (a:=gg.objs.size) (o:=.lst ((pp.toList.map fun i=>ns.getD i 0).map V.int)) (t':=tk) kp (Nat.le_refl _) ⟨?_,Srt.outOf its pp,c,?_,e⟩,rfl,q _ (pm.length_eq.trans hn) (fun k=>(hm k).trans pm.mem_iff.symm) pw _ _ (same_new fr) fr upd_same⟩
 ·have:=pm.length_eq
  have line:(64:Nat)≤sizeLine:=by rw[sizeLine_eq];decide
  rw[List.length_map,this];omega
 ·rw[ev]
  exact vals_out rv pp.toList fun i hi=>by rw[List.length_map];exact gd_mem g' i hi
end
end L3
namespace L3
open PySem PySem.Spec PyProof.Rows L2
end L3
namespace L3
open PySem PySem.Spec PyProof.Rows L2
end L3
namespace L3
open PySem PySem.Spec PyProof.Rows L2
theorem arcsF_eq (ts:List Tie) (ks:List Nat):Far.arcsF (arcsB ts ks)=arcs ts ks:=by
 unfold arcs Far.arcsF arcsB
 rw[List.map_flatMap]
 rfl
theorem arcs_symm {n:Int} {ts:List Tie} {ks:List Nat} (ok:WebOk n ts) (ko:KeepOk ts.length ks):Far.Sym (arcs ts ks):=fun u v l h=>by
 rw[← arcsF_eq] at h ⊢
 obtain⟨k,m⟩:=Far.arcsF_mem.mp h
 exact Far.arcsF_mem.mpr ⟨k,(arcsB_keys ok ko).sym _ _ _ _ m⟩
/-- what is reached, with the least costs and their tree, and the distances -/
def spReachedC (K:PySem.W.Frag):Sp:=fun vs H Q _=>∃ n ts ks wv kv r,vs=[wv,kv,.int r]∧WK K H n ts ks wv kv∧0≤r∧r < n ∧
 ∀ (p lc la:Addr) (cvs:List V) (as:List (Option Nat)) (cs:List (Option (Int × Int))) (H':Hp),Same H H'->H' p=some (.tup [.ref lc,.ref la])->H' lc=some (.lst cvs)->H' la=some (.lst (as.map oa))->CostL H' cvs cs->Far.Best (arcsB ts ks) n.toNat r.toNat cs as->Far.Good (arcs ts ks) n.toNat r.toNat cs->Far.Stab (arcs ts ks) cs->Q (.ref p) H'
theorem reached_B {K:PySem.W.Frag} (vs:List V) (H:Hp) (Q:VK) (E:XK) (h:spReachedB K vs H Q E):spReachedC K vs H Q E:=by
 obtain⟨n,ts,ks,wv,kv,r,e,wk,r0,r1,q⟩:=h
 exact⟨n,ts,ks,wv,kv,r,e,wk,r0,r1,fun p lc la cvs as cs H' S h1 h2 h3 cl B _ _=>q p lc la cvs as cs H' S h1 h2 h3 cl B⟩
theorem reached_D {K:PySem.W.Frag} (vs:List V) (H:Hp) (Q:VK) (E:XK) (h:spReached K vs H Q E):spReachedC K vs H Q E:=by
 obtain⟨n,ts,ks,wv,kv,r,e,wk,r0,r1,q⟩:=h
 exact⟨n,ts,ks,wv,kv,r,e,wk,r0,r1,fun p lc la cvs as cs H' S h1 h2 h3 cl _ g st=>q p lc la cvs _ cs H' S h1 h2 h3 cl g st⟩
theorem stab_of {ts:List Tie} {ks:List Nat} {cs:List (Option (Int × Int))} (h:Far.Stab2 (arcsB ts ks) cs):Far.Stab (arcs ts ks) cs:=fun u v l c m e=>by
 rw[← arcsF_eq] at m
 obtain⟨k,m⟩:=Far.arcsF_mem.mp m
 obtain⟨c',e',n'⟩:=h _ _ _ _ _ m e
 refine⟨c',e',?_⟩
 unfold Far.lt2 at n'
 simp only at n'
 omega
section
variable {own:List Str} {js:List Nat} {g:TG} {te:TE} {σ:L2.St} {Q:VK} {H1:Hp}
end
end L3
namespace L3
open PySem PySem.Spec PyProof.Rows L2
end L3
namespace L3
open PySem PySem.Spec PyProof.Rows L2
end L3
namespace HT
open PySem PyProof.Rows
section
variable {prog:Program} {w:World} {A:Around} {R:Result->Shared->Prop} {I:Addr} {fp wr:List Addr} {G:Array GenState->Array GenState->Prop} {St:Nat->Shared->Prop} {its:List Value} {ns:List Int}
end
section
variable {prog:Program} {w:World} {A:Around} {E:Value->Shared->Prop} {s:Shared}
end
end HT
namespace L3
open PySem PySem.Spec PyProof.Rows L2
end L3
namespace L3
open PySem PySem.Spec PyProof.Rows L2
theorem IsAll.from_ {K:PySem.W.Frag} {H:Hp}:∀ {ds:List PyData} {vs:List V} {i:Nat} {v:V},IsAll K H ds vs->vs[i]?=some v->∃ d,ds[i]?=some d∧Is K H d v
 | [],vs,i,v,h,e=>by
  have:vs=[]:=h
  rw[this] at e;cases e
 | d0::ds,vs,0,v,⟨u,r,e0,h1,_⟩,e=>by
  rw[e0] at e;cases e
  exact⟨d0,rfl,h1⟩
 | d0::ds,vs,i + 1,v,⟨u,r,e0,_,h2⟩,e=>by
  rw[e0] at e
  exact IsAll.from_ (i:=i) h2 e
section
variable {own:List Str} {js:List Nat} {g:TG} {tt:TT} {te:TE} {σ:L2.St} {Q:VK} {H1:Hp}
end
end L3
namespace L3
open PySem PySem.Spec PyProof.Rows L2
def lvl (ls:List (List Nat)) (i:Nat):List Nat:=ls.getD i []
structure LevOk (n:Nat) (ls:List (List Nat)):Prop where
 one:1≤ls.length
 six:ls.length≤6
 first:lvl ls 0=List.range n
 rise:∀ i,(lvl ls i).Pairwise (· < ·)
 inn:∀ i,∀ p ∈ lvl ls i,p < n
 down:∀ i,∀ p ∈ lvl ls (i + 1),p ∈ lvl ls i
def IsTop (ls:List (List Nat)) (w b:Nat):Prop:=b < ls.length∧w ∈ lvl ls b∧∀ i,i < ls.length->w ∈ lvl ls i->i≤b
def Bun (ls:List (List Nat)) (D:List (Option Int)) (w:Nat):Prop:=∃ x,Far.get D w=some x∧∀ b p y,IsTop ls w b->p ∈ lvl ls (b + 1)->Far.get D p=some y->x < y
noncomputable def bunB (ls:List (List Nat)) (D:List (Option Int)) (w:Nat):Bool:=@decide (Bun ls D w) (Classical.propDecidable _)
/-- how far all places are, in the web -/
def FarsOf (ts:List Tie) (n s:Nat) (D:List (Option Int)):Prop:=D.length=n∧∀ u,u < n->Far.Dst (arcs ts (List.range ts.length)) s u (Far.get D u)
def FarsT (H:Hp) (p lf:Addr) (n:Nat) (ts:List Tie):Prop:=∃ ys,H lf=some (.lst ys)∧lf≠p∧ys.length=n∧∀ i v,ys[i]?=some v->∃ l D,v=.ref l∧l≠p∧H l=some (.lst (D.map ov))∧FarsOf ts n i D
end L3
namespace HT
open PySem PyProof.Rows
section
variable {prog:Program} {w:World} {A:Around} {R:Result->Shared->Prop} {I:Addr} {fp wr:List Addr} {G:Array GenState->Array GenState->Prop} {St:Nat->Shared->Prop} {its:List Value} {ks:List (List Int)}
end
section
variable {prog:Program} {w:World} {A:Around} {E:Value->Shared->Prop} {s:Shared}
end
end HT
namespace L3
open PySem PySem.Spec PyProof.Rows L2
end L3
namespace L3
open PySem PySem.Spec PyProof.Rows L2
noncomputable def topN (ls:List (List Nat)) (w:Nat):Nat:=@dite _ (∃ b,IsTop ls w b) (Classical.propDecidable _) (fun h=>Classical.choose h) (fun _=>0)
/-- the nearest place of a level, of several one of the greatest top, of these the least -/
structure IsPiv (ls:List (List Nat)) (m:Nat) (D:List (Option Int)) (o:Option Nat):Prop where
 no:o=none->∀ q ∈ lvl ls m,Far.get D q=none
 yes:∀ p,o=some p->p ∈ lvl ls m∧∃ x,Far.get D p=some x∧∀ q ∈ lvl ls m,∀ y,Far.get D q=some y->x≤y∧(y=x->topN ls q≤topN ls p∧(topN ls q=topN ls p->p≤q))
def tupI (k:List Int):PyData:=.tuple (k.map .int)
section
variable {own:List Str} {js:List Nat} {g:TG} {tt:TT} {te:TE} {σ:L2.St} {Q:VK} {H1:Hp}
end
end L3
namespace L3
open PySem PySem.Spec PyProof.Rows L2
noncomputable def pivN (ls:List (List Nat)) (m:Nat) (D:List (Option Int)):Nat:=@dite _ (∃ p,IsPiv ls m D (some p)) (Classical.propDecidable _) (fun h=>Classical.choose h) (fun _=>0)
noncomputable def clN (ls:List (List Nat)):Nat->Nat->Nat->Nat->List (Option Int)->List (Option Int)->Int->List (List Int)
 | 0,w,a,b,_,_,x=>[[(w:Int),(a:Int),(b:Int),x]]
 | f + 1,w,a,b,Da,Db,x=>[(w:Int),(a:Int),(b:Int),x]::(if bunB ls Db w=true then [] else clN ls f (pivN ls (topN ls w + 1) Db) b a Db Da ((Far.get Db (pivN ls (topN ls w + 1) Db)).getD 0))
structure Cs (ts:List Tie) (n:Nat) (ls:List (List Nat)) (d:Int) (j w a b:Nat) (Da Db:List (Option Int)) (x:Int):Prop where
 fa:FarsOf ts n a Da
 fb:FarsOf ts n b Db
 wn:w < n
 an:a < n
 bn:b < n
 xa:Far.get Da w=some x
 lim:x≤j * d
 ab:Far.get Da b=some d
 ba:Far.get Db a=some d
 yb:∃ y,Far.get Db w=some y
 tp:j≤topN ls w
 bu:bunB ls Da w=true
section
variable {n:Int} {ts:List Tie} {ls:List (List Nat)} {d x:Int} {j w a b:Nat} {Da Db:List (Option Int)}
end
/-- the rows of a climb -/
structure RowsOk (ls:List (List Nat)) (n:Nat) (d:Int) (Du Dv:List (Option Int)) (rows:List (List Int)):Prop where
 few:rows.length≤ls.length
 lim:∀ (i:Nat) (r:List Int),rows[i]?=some r->∃ p a b x:Int,r=[p,a,b,x]∧x≤i * d
 last:∃ (pre:List (List Int)) (w:Nat) (a b x:Int),rows=pre++[[(w:Int),a,b,x]]∧w < n∧bunB ls Du w=true∧bunB ls Dv w=true
def ClimbV (K:PySem.W.Frag) (H:Hp) (ls:List (List Nat)) (n u v:Nat) (Du Dv:List (Option Int)) (r:V):Prop:=(r=.non∧Far.get Du v=none)∨∃ t ys d,r=.ref t∧Far.get Du v=some d∧H t=some (.tup ys)∧IsAll K H ((clN ls ls.length u u v Du Dv 0).map tupI) ys∧RowsOk ls n d Du Dv (clN ls ls.length u u v Du Dv 0)
/-- how far all places are from all, as a list of lists -/
def FarsM (H:Hp) (lf:Addr) (n:Nat) (ts:List Tie):Prop:=∃ ys,H lf=some (.lst ys)∧ys.length=n∧∀ i v,ys[i]?=some v->∃ l D,v=.ref l∧H l=some (.lst (D.map ov))∧FarsOf ts n i D
/-- where a climb stands: the rows so far, and what is still to come -/
structure Clb (ts:List Tie) (n:Int) (ls:List (List Nat)) (d:Int) (u v:Nat) (Du Dv:List (Option Int)) (pre:List (List Int)) (w a b:Nat) (Da Db:List (Option Int)) (x:Int):Prop where
 cs:Cs ts n.toNat ls d pre.length w a b Da Db x
 sides:(Da=Du∧Db=Dv)∨(Da=Dv∧Db=Du)
 lim:∀ (i:Nat) (r:List Int),(pre++[[(w:Int),(a:Int),(b:Int),x]])[i]?=some r->∃ p a b x:Int,r=[p,a,b,x]∧x≤i * d
 rest:pre++clN ls (ls.length - pre.length) w a b Da Db x=clN ls ls.length u u v Du Dv 0
section
variable {n:Int} {ts:List Tie} {ls:List (List Nat)} {d x:Int} {u v w a b:Nat} {Du Dv Da Db:List (Option Int)} {pre:List (List Int)}
end
end L3
namespace L3
open PySem PySem.Spec PyProof.Rows L2
section
variable {K:PySem.W.Frag} {J J':Hp} {ls:List (List Nat)} {n u v:Nat} {Du Dv:List (Option Int)} {r r1 r2:V}
end
end L3
namespace PySem.SeqAt
open PySem.Spec PySem.MeetsSeq PySem.MeetsSeq2 PySem.MeetsSeq3 PySem.SeqRoads2
open AutoSeq1 (wpAny_loadPart')
end PySem.SeqAt
namespace L3
open PySem PySem.Spec PyProof.Rows L2
section
variable {X:Cx} {o e:Expr} {es:List Expr} {to:TE} {t:TA} {name:Str} {apos cpos:Pos} {id:String} {r:V->List V->Hp->VK->Prop}
end
theorem range_pick {α:Type} (f:Nat->Option α):∀ (m:Nat) (L:List α),L.length=m->(∀ k,k < m->f k=L[k]?)->(List.range m).filterMap f=L
 | 0,L,hl,_=>by rw[List.eq_nil_of_length_eq_zero hl];rfl
 | m + 1,L,hl,h=>by
  have hm:m < L.length:=by omega
  have e:L=L.take m++[L[m]]:=by rw[List.take_append_getElem hm,List.take_of_length_le (by omega)]
  rw[List.range_succ,List.filterMap_append,range_pick f m (L.take m) (by rw[List.length_take];omega) (fun k hk=>by rw[h k (by omega),List.getElem?_take,if_pos hk])]
  rw[show [m].filterMap f=[L[m]] by rw[List.filterMap_cons,h m (by omega),List.getElem?_eq_getElem hm];rfl]
  exact e.symm
theorem pick_back (its:List Value) (j:Nat):((List.range (its.length - j)).filterMap fun (m:Nat)=>its.toArray[(((its.length:Nat):Int) - 1 + (m:Int) * (-1)).toNat]?)=(its.drop j).reverse:=by
 refine range_pick _ _ _ (by rw[List.length_reverse,List.length_drop]) fun k hk=>?_
 rw[List.getElem?_reverse (by rw[List.length_drop];exact hk),List.getElem?_drop,List.length_drop]
 rw[List.getElem?_toArray]
 congr 1
 omega
/-- which parts of a slice that goes back are meant: t[::-1] leaves none out, t[:0:-1] the first -/
def bk (hi:Option Int) (n j:Nat):Prop:=(hi=none∧j=0)∨(hi=some 0∧j=1∧1≤n)
theorem bk_le {hi:Option Int} {n j:Nat} (h:bk hi n j):j≤n:=by
 rcases h with ⟨_,rfl⟩ | ⟨_,rfl,h1⟩
 ·exact Nat.zero_le _
 ·exact h1
section
variable {prog:Program} {w:World} {A:Around} {E:Value->Shared->Prop} {s:Shared}
end
/-- what a slice that goes back is -/
def SlB (X:Cx) (r:V->Option Int->Hp->VK->Prop):Prop :=
 ∀ (pins:List (Addr × Obj)) (s:Shared) (σ:L2.St) (H:Hp) (x:V) (v vl vu vs:Value) (hi:Option Int) (sl:Addr) (Q:VK),Inv X pins σ H s->RelV x v->s.heap.IsSliceOf sl vl vu vs->IsPart vl none->IsPart vu hi->IsPart vs (some (-1))->r x hi H Q ->
  ∃ T id,typeLookup (.type T) "__getitem__"=pure (some (.builtin id))∧s.TypeIs v T∧wpAny (model X.prog X.w) X.A (getItem v (.ref sl)) (EP X pins σ Q) X.xe s
def tSlB (r:V->Option Int->Hp->VK->Prop) (te:TE) (th:TO) (ts:TE):TE:=fun σ H Q=>te σ H fun x H1=>th σ H1 fun u H3=>ts σ H3 fun z H4=>z=.int (-1)∧r x u H4 Q
section
variable {X:Cx} {e st:Expr} {te ts:TE} {lo hi:Option Expr} {th:TO} {pos p2:Pos}
theorem pe_sliceB {r:V->Option Int->Hp->VK->Prop} (hr:SlB X r) (he:PE X e te) (hu:PO X hi th) (hs:PE X st ts):PE X (.Subscript e (.Slice none hi (some st) p2) pos) (tSlB r te th ts):=by
 intro pins s σ H Q I h
 refine Subscript_ (thn (he pins s σ H _ I h) fun v s1 ⟨x,H1,I1,r1,q1⟩=>?_)
 refine wpAny_Slice ?_
 rw[evalPart_none]
 refine wpAny_pure (thn (hu pins s1 σ H1 _ I1 q1) fun vu s3 ⟨u,H3,I3,pu,q3⟩=>?_)
 rw[evalPart_some]
 refine thn (hs pins s3 σ H3 _ I3 q3) fun vz s4 ⟨z,H4,I4',rz,ez,q4⟩=>?_
 subst ez
 obtain⟨t,rfl⟩:=rz
 have I4:Inv X pins σ H4 { s4 with heap:=s4.heap.push { cls:=.type "slice",data:=.fields #[.none,vu,.int (-1) t] } }:=I4'.kept (t':=s4.toks) fun b ob q=>Heap.get?_push_of_some _ q
 obtain⟨T,id,hT,ht,hg⟩:=hr pins { s4 with heap:=s4.heap.push { cls:=.type "slice",data:=.fields #[.none,vu,.int (-1) t] } } σ H4 x v .none vu (.int (-1) t) u s4.heap.objs.size Q I4 r1 (Heap.IsSliceOf.new ..) .none pu (.int _ _) q4
 show wpAny (model X.prog X.w) X.A (subscriptTail e (.Slice none hi (some st) p2) v (.ref s4.heap.objs.size)) (EP X pins σ Q) X.xe { s4 with heap:=s4.heap.push { cls:=.type "slice",data:=.fields #[.none,vu,.int (-1) t] } }
 exact tail_any (ops:=[v,.ref s4.heap.objs.size]) ht hT hg (by with_unfolding_all rfl)
/-- l[::-1], l[:0:-1] -/
def rBkL (K:PySem.W.Frag):V->Option Int->Hp->VK->Prop:=fun x hi H Q=>∃ a xs j,x=.ref a∧H a=some (.lst xs)∧bk hi xs.length j∧∀ p H',Same H H'->H p=none->H' p=some (.lst (xs.drop j).reverse)->Q (.ref p) H'
theorem bounds_back {hi:Option Int} {n j:Nat} (h:bk hi n j):sliceBounds none hi (some (-1)) n=((n:Int) - 1,(j:Int) - 1,-1):=by
 rcases h with ⟨rfl,rfl⟩ | ⟨rfl,rfl,h1⟩
 ·simp [sliceBounds]
 ·simp [sliceBounds]
  omega
theorem slicePick_back (its:List Value) {hi:Option Int} {j:Nat} (h:bk hi its.length j):slicePick its.toArray none hi (some (-1))=(its.drop j).reverse.toArray:=by
 have hj:=bk_le h
 unfold slicePick
 rw[List.size_toArray,bounds_back h]
 show ((sliceRange ((its.length:Int) - 1) ((j:Int) - 1) (-1)).filterMap (its.toArray[·]?)).toArray=_
 have e:sliceRange ((its.length:Int) - 1) ((j:Int) - 1) (-1)=(List.range (its.length - j)).map fun (k:Nat)=>((its.length:Int) - 1 + (-1) * (k:Int)).toNat:=by
  unfold sliceRange
  have c:(if (-1:Int) > 0 then (if (its.length:Int) - 1 < (j:Int) - 1 then ((j:Int) - 1 - ((its.length:Int) - 1) + (-1) - 1) / (-1) else 0) else (if (its.length:Int) - 1 > (j:Int) - 1 then ((its.length:Int) - 1 - ((j:Int) - 1) - (-1) - 1) / (-(-1)) else 0)).toNat=its.length - j:=by
   rw[if_neg (by omega)]
   split
   ·rw[show -(-1:Int)=1 by rfl,Int.ediv_one];omega
   ·omega
  dsimp only
  rw[c]
 rw[e,List.filterMap_map]
 have:=pick_back its j
 rw[← this]
 congr 1
 congr 1
 funext k
 show its.toArray[((its.length:Int) - 1 + (-1) * (k:Int)).toNat]?=_
 rw[Int.mul_comm]
theorem sb_list:SlB X (rBkL X.K):=by
 intro pins s σ H x v vl vu vs hi sl Q I rx hs pl pu ps h
 obtain⟨a,xs,j,rfl,hx,hb,q⟩:=h
 cases rx
 obtain⟨its,r,ht,hz⟩:=I.list (SqL.of hx)
 have hlen:its.length=xs.length:=r.length.symm
 refine⟨"list",_,slot_list_getitem.lookup,ht.isList.typeIs,?_⟩
 refine wpAny_getItem_list_slice ht.isList hs pl pu ps (by simp) ?_ (by rw[List.size_toArray] <;> omega)
 rw[slicePick_back its (by rw[hlen];exact hb)]
 refine⟨.ref s.heap.objs.size,_,I.laid (t':=s.toks) (o:=.lst (xs.drop j).reverse) (fun b ob q=>Heap.get?_push_of_some _ q) (Nat.le_refl _) ?_,rfl,q _ _ (same_new (I.hok.fresh (Nat.le_refl _))) (I.hok.fresh (Nat.le_refl _)) upd_same⟩
 exact⟨by rw[List.length_reverse,List.length_drop];omega,_,0,(r.drop j).reverse,Heap.get?_push_size _ rfl⟩
end
end L3
namespace L3
open PySem PySem.Spec PyProof.Rows L2
/-- the way from a to b, the least of all walks -/
def WayM (H:Hp) (ts:List Tie) (ks:List Nat) (a b:Nat) (v:V):Prop:=(v=.non∧Far.Dst (arcs ts ks) a b none)∨∃ t ws x,v=.ref t∧H t=some (.tup (natV ws))∧ws.length≤24∧Far.MinW (arcsB ts ks) a b ws∧Far.Tr (arcs ts ks) a ws b x∧Far.Dst (arcs ts ks) a b (some x)
theorem wayB_M {H:Hp} {n:Int} {m:Nat} {ts:List Tie} {ks:List Nat} {a b:Nat} {v:V} (ok:WebOk n ts) (ko:KeepOk ts.length ks) (h:WayB H (arcsB ts ks) m a b v):WayM H ts ks a b v:=by
 obtain⟨cs,as,B,h⟩:=h
 have KB:=arcsB_keys ok ko
 have d:=B.dst1 KB a
 rw[arcsF_eq] at d
 rcases h with ⟨rfl,e⟩ | ⟨t,ws,c,rfl,ht,l24,e,tp⟩
 ·rw[e] at d
  exact .inl ⟨rfl,d.back (arcs_symm ok ko)⟩
 ·rw[e] at d
  obtain⟨S,u⟩:=B.uni KB tp e
  have tr:=u.rt.tr
  rw[arcsF_eq] at tr
  exact .inr ⟨t,ws,c.1,rfl,ht,l24,B.minw KB tp e,tr,d.back (arcs_symm ok ko)⟩
def spWayM (K:PySem.W.Frag):Sp:=fun vs H Q _=>∃ n ts ks wv kv a b,vs=[wv,kv,.int a,.int b]∧WK K H n ts ks wv kv∧0≤a∧a < n∧0≤b∧b < n∧∀ v H',Same H H'->WayM H' ts ks a.toNat b.toNat v->Q v H'
theorem way_M {K:PySem.W.Frag} (vs:List V) (H:Hp) (Q:VK) (E:XK) (h:spWayM K vs H Q E):spWayB K vs H Q E:=by
 obtain⟨n,ts,ks,wv,kv,a,b,e,wk,a0,a1,b0,b1,q⟩:=h
 exact⟨n,ts,ks,wv,kv,a,b,e,wk,a0,a1,b0,b1,fun v H' S h=>q v H' S (wayB_M wk.2.1 wk.2.2.2 h)⟩
end L3
namespace L3
open PySem PySem.Spec PyProof.Rows L2
/-- the ways that were told so far -/
def WaysL (J:Hp) (ts:List Tie) (ks:List Nat) (ys:List V):Prop:=∀ v ∈ ys,∃ t W a b,v=.ref t∧J t=some (.tup (natV W))∧W.length≤24∧Far.MinW (arcsB ts ks) a b W
end L3
namespace L3
open PySem PySem.Spec PyProof.Rows L2
/-- a web and a keep of it that is a list -/
def WKL (K:PySem.W.Frag) (H:Hp) (n:Int) (ts:List Tie) (ks:List Nat) (wv:V) (kp:Addr):Prop:=Is K H (webD n ts) wv∧WebOk n ts∧H kp=some (.lst ((keepI ks).map V.int))∧KeepOk ts.length ks
end L3
namespace Far
def chn (R:Nat->Nat->Prop):List Nat->Prop
 | []=>True
 | [_]=>True
 | a::b::r=>R a b∧chn R (b::r)
section
variable {R:Nat->Nat->Prop}
theorem chn_join:∀ {l m:List Nat} {x y:Nat},chn R (l++[x])->R x y->chn R (y::m)->chn R (l++[x]++y::m)
 | [],m,x,y,_,r,h=>⟨r,h⟩
 | [a],m,x,y,h1,r,h=>⟨h1.1,chn_join (l:=[]) (x:=x) (y:=y) h1.2 r h⟩
 | a::b::l,m,x,y,h1,r,h=>⟨h1.1,chn_join (l:=b::l) (x:=x) (y:=y) h1.2 r h⟩
theorem chn_split:∀ {l m:List Nat} {x:Nat},chn R (l++x::m)->chn R (l++[x])∧chn R (x::m)
 | [],m,x,h=>⟨trivial,h⟩
 | [a],m,x,h=>⟨⟨h.1,trivial⟩,h.2⟩
 | a::b::l,m,x,h=>⟨⟨h.1,(chn_split (l:=b::l) (x:=x) h.2).1⟩,(chn_split (l:=b::l) (x:=x) h.2).2⟩
theorem chn_rev (sy:∀ u v,R u v->R v u):∀ {l:List Nat},chn R l->chn R l.reverse
 | [],_=>trivial
 | [_],_=>trivial
 | a::b::r,h=>by
  have ih:=chn_rev sy h.2
  rw[List.reverse_cons] at ih
  rw[List.reverse_cons,List.reverse_cons]
  exact chn_join (l:=r.reverse) (m:=[]) ih (sy _ _ h.1) trivial
theorem chn_at:∀ {l:List Nat} {i u v:Nat},chn R l->l[i]?=some u->l[i + 1]?=some v->R u v
 | [],i,u,v,_,e,_=>by cases e
 | [a],i,u,v,_,_,e=>by cases e
 | a::b::r,0,u,v,h,e1,e2=>by cases e1;cases e2;exact h.1
 | a::b::r,i + 1,u,v,h,e1,e2=>chn_at (l:=b::r) h.2 e1 e2
/-- a way made a ring: turned so that h stands first, one way about or the other -/
def RingOf (ws:List Nat) (h:Nat) (tl:List Nat):Prop:=∃ p q,ws=p++h::q∧(tl=q++p∨tl=(q++p).reverse)
end
end Far
namespace L3
open PySem PySem.Spec PyProof.Rows L2
/-- two places with a tie of the keep between them -/
def adjK (ts:List Tie) (ks:List Nat) (u v:Nat):Prop:=∃ k,k ∈ ks∧tbN ts u v=some k
def spAlongW (K:PySem.W.Frag):Sp:=fun vs H Q _=>∃ (n:Int) (ts:List Tie) (wv:V) (t:Addr) (ws:List Nat),vs=[wv,.ref t]∧Is K H (webD n ts) wv∧ts.length≤60∧H t=some (.tup (natV ws))∧ws.length≤25∧linked ts ws∧∀ l H',Same H H'->H' l=some (.lst (natV (alongN ts ws)))->Q (.ref l) H'
/-- a ring in its least turn -/
def Turn (h:Nat) (tl:List Nat):Prop:=(∀ x ∈ tl,h≤x)∧∀ u v p q,tl=u::p->tl=q++[v]->u≤v
end L3
namespace L3
open PySem PySem.Spec PyProof.Rows L2
end L3
namespace L3
open PySem PySem.Spec PyProof.Rows L2
theorem firstMet_nodup (val:Nat->Int):∀ i,(firstMet val i).Nodup∧∀ k,k ∈ firstMet val i↔k ∈ (List.range i).map val
 | 0=>⟨by rw[firstMet_zero];exact List.nodup_nil,fun k=>by rw[firstMet_zero];simp⟩
 | i + 1=>by
  obtain⟨h1,h2⟩:=firstMet_nodup val i
  rw[firstMet_succ,List.range_succ,List.map_append]
  unfold step_dedup
  by_cases c:(firstMet val i).any (fun y=>y == val i)=true
  ·rw[if_pos c]
   obtain⟨y,hy,e⟩:=List.any_eq_true.mp c
   have e':y=val i:=by simpa using e
   refine⟨h1,fun k=>?_⟩
   rw[h2 k,List.mem_append]
   refine⟨.inl,fun z=>z.elim id fun z=>?_⟩
   have:k=val i:=by simpa using z
   rw[this,← e',← h2 y];exact hy
  ·rw[if_neg c]
   refine⟨List.nodup_append.mpr ⟨h1,by simp,fun a ha b hb e=>c (List.any_eq_true.mpr ⟨a,ha,?_⟩)⟩,fun k=>by rw[List.mem_append,List.mem_append,h2 k];simp⟩
   have:b=val i:=by simpa using hb
   simp [e,this]
theorem perm_of_len:∀ {l m:List Int},l.Nodup->(∀ x ∈ l,x ∈ m)->m.length≤l.length->m.Perm l
 | [],m,_,_,h=>by
  have:m=[]:=List.length_eq_zero_iff.mp (by simpa using h)
  rw[this]
 | x::l,m,nd,sub,h=>by
  have hx:=sub x List.mem_cons_self
  obtain⟨nx,nl⟩:=List.nodup_cons.mp nd
  have pe:=List.perm_cons_erase hx
  refine pe.trans (List.Perm.cons x (perm_of_len nl (fun y hy=>?_) ?_))
  ·exact (List.mem_erase_of_ne fun e=>nx (by rw[← e];exact hy)).mpr (sub y (List.mem_cons_of_mem _ hy))
  ·rw[List.length_erase_of_mem hx];simp at h;omega
theorem setS_mem (ns:List Int) (k:Int):HT.setS ns ns.length k=true↔k ∈ ns:=by
 have:=(firstMet_nodup (fun i=>ns.getD i 0) ns.length).2 k
 rw[range_getD] at this
 rw[← this]
 unfold HT.setS
 rw[List.any_eq_true]
 exact⟨fun ⟨y,hy,e⟩=>by rw[← show y=k by simpa using e];exact hy,fun h=>⟨k,h,by simp⟩⟩
/-- what a set gives, sorted, has no number twice -/
theorem set_told {ns ms:List Int} (hl:ms.length=HT.setN ns ns.length) (hm:∀ k,HT.setS ns ns.length k=true↔k ∈ ms):ms.Nodup∧∀ k,k ∈ ms↔k ∈ ns:=by
 obtain⟨n1,n2⟩:=firstMet_nodup (fun i=>ns.getD i 0) ns.length
 rw[range_getD] at n2
 have pm:=perm_of_len (m:=ms) n1 (fun x hx=>(hm x).mp ((setS_mem ns x).mpr ((n2 x).mp hx))) (Nat.le_of_eq hl)
 exact⟨pm.nodup_iff.mpr n1,fun k=>(hm k).symm.trans (setS_mem ns k)⟩
end L3
namespace L3
open PySem PySem.Spec PyProof.Rows L2
end L3
namespace L3
open PySem PySem.Spec PyProof.Rows L2
end L3
namespace L3
open PySem PySem.Spec PyProof.Rows L2
section
variable {g:TG} {tt:TT} {te:TE} {own:List Str} {js:List Nat} {σ:L2.St} {H1:Hp} {Q:VK}
end
/-- a row of whole numbers, of so many at the most -/
def RowV (lo hi:Nat) (J:Hp) (v:V):Prop:=∃ (p:Addr) (ns:List Int),v=.ref p∧J p=some (.tup (ns.map V.int))∧lo≤ns.length∧ns.length≤hi
end L3
namespace L3
open PySem PySem.Spec PyProof.Rows L2
end L3
namespace L3
open PySem PySem.Spec PyProof.Rows L2
mutual
theorem Is.tk {K:PySem.W.Frag} {H H':Hp} (e:TupKeep H H'):∀ (d:PyData) {v:V},tupD d=true->Is K H d v->Is K H' d v
 | .none,_,_,h=>h
 | .bool _,_,_,h=>h
 | .int _,_,_,h=>h
 | .str _,_,_,h=>h
 | .tuple ds,_,t,h=>let ⟨q,vs,q1,q2,q3⟩:=h;⟨q,vs,q1,e _ _ q2,IsAll.tk e ds t q3⟩
 | .list ds,_,t,h=>by cases t
 | .dict _,_,t,h=>by cases t
theorem IsAll.tk {K:PySem.W.Frag} {H H':Hp} (e:TupKeep H H'):∀ (ds:List PyData) {vs:List V},tupAll ds=true->IsAll K H ds vs->IsAll K H' ds vs
 | [],_,_,h=>h
 | d::ds,_,t,h=>by
  have t':(tupD d && tupAll ds)=true:=t
  rw[Bool.and_eq_true] at t'
  obtain⟨v,r,q1,q2,q3⟩:=h
  exact⟨v,r,q1,Is.tk e d t'.1 q2,IsAll.tk e ds t'.2 q3⟩
end
end L3
namespace Stb
open PySem PyProof.Rows
section
variable {prog:Program} {w:World} {A:Around} {E:Value->Shared->Prop} {s:Shared}
/-- set(t), t a list of whole numbers -/
theorem of_lst {t:Addr} {xs:Array Value} {ns:List Int} {Q:Value->Shared->Prop} (hh:A.handled=none) (ht:s.heap.IsList t xs) (hi:IntsAre xs.toList ns) (hb:xs.size + 1 < scanBound)
  (fin:∀ (h':Heap) (tk:Nat),SetT prog w h' s.heap.objs.size (HT.setS ns xs.size) (HT.setN ns xs.size)->(∀ b o,b < s.heap.objs.size->s.heap.get? b=some o->h'.get? b=some o)->Q (.ref s.heap.objs.size) { s with heap:=h',toks:=tk }) :
  wpAny (model prog w) A (call (.type "set") [.ref t]) Q E s:=by
 obtain⟨c,tl,hmro⟩:=PySem.F.called_set.mro
 have hmade:=PySem.F.called_set.made;have hsub:=PySem.F.called_set.sub
 refine wpAny_call (codeAny_of_tree ?_);show wpAny _ _ (callAny (.type "set") _) _ _ _
 refine wpAny_pure ⟨Code.quiet_builtin _ (by decide +kernel),codeAny_builtin PySem.F.entry_type_call ?_⟩
 rw[Around.under_plain (PySem.weight_type_call_type "set" [.ref t] []) rfl]
 have h1:=PySem.F.called_set.notType;have h2:=PySem.F.called_set.canCreate;have hct:=PySem.F.typeCall_set_1 (.ref t)
 repeat (any_goals (first | assumption | wp_step))
 refine codeAny_mono (new_T (.ref t) (E:=E) (U:=fun obj s₁=>obj=.ref s.heap.objs.size∧s₁={ s with heap:=s.heap.push (emp w) }) ⟨rfl,rfl⟩) fun r s₁ hr=>?_
 match r,hr with
 | .error e,hr=>exact hr
 | .ok .next,hr=>exact hr.elim
 | .ok .brk,hr=>exact hr.elim
 | .ok .cont,hr=>exact hr.elim
 | .ok (.ret obj),hr =>
  obtain⟨rfl,rfl⟩:=hr
  have gS:(s.heap.push (emp w)).get? s.heap.objs.size=some (emp w):=Heap.get?_push_size _ rfl
  have hT:Shared.TypeIs { s with heap:=s.heap.push (emp w) } (.ref s.heap.objs.size) "set":=⟨_,gS,rfl⟩
  have hli:=PySem.F.called_set.init.lookup;have hbi:=PySem.F.called_set.init.bind (.ref s.heap.objs.size)
  repeat (any_goals (first | assumption | wp_step))
  refine codeAny_mono (codeAny_call_builtin (R:=wants (fun r s₂=>r=.none∧∃ h' tk,s₂={ s with heap:=h',toks:=tk }∧SetT prog w h' s.heap.objs.size (HT.setS ns xs.size) (HT.setN ns xs.size)∧(∀ b o,b < s.heap.objs.size->s.heap.get? b=some o->h'.get? b=some o)) E) PySem.F.called_set.init.plain PySem.F.entry_set_init (PySem.check_set_init_1 hT ?_)) fun r₂ s₂ hr₂=>?_
  ·obtain⟨ot,ho,hc,m,hd⟩:=id ht
   obtain⟨ocls,odict,odata,oslots⟩:=ot
   simp only at hc hd;subst hc hd
   have ho':(s.heap.push (emp w)).get? t=some { cls:=.type "list",dict:=odict,data:=.seq xs m,slots:=oslots }:=Heap.get?_push_of_some _ ho
   have f1:=PySem.F.sub_list_set;have f2:=PySem.F.sub_list_frozenset
   have f3:(Value.type "list" == Value.type "dict")=false:=by decide
   have it1:(s.heap.push (emp w)).IsList t xs:=⟨_,ho',rfl,m,rfl⟩
   unfold Builtin.«set.__init__» noKeywords Builtin.Frozenset.updateFrom
   generalize hPI:pyIter=PI
   wp_walk;subst hPI
   refine wpAny_pyIter_list it1 (wpAny_bind (wpAny_runValue ?_))
   have lt:t < s.heap.objs.size:=Heap.lt_size ho
   have hh3:A.in1.in1.in1.handled=none:=by simp [hh]
   have sz1:(s.heap.push (emp w)).objs.size=s.heap.objs.size + 1:=Heap.size_push ..
   have tI:t≠(s.heap.push (emp w)).objs.size:=by rw[sz1];exact Nat.ne_of_lt (Nat.lt_succ_of_lt lt)
   have Sfp:s.heap.objs.size ∉ [(s.heap.push (emp w)).objs.size,t]:=by
    rw[sz1];simp only [List.mem_cons,List.not_mem_nil,or_false,not_or];exact⟨Nat.ne_of_lt (Nat.lt_succ_self _),(Nat.ne_of_lt lt).symm⟩
   have vals:∀ (i:Nat) (v:Value),xs[i]?=some v->∃ u,v=.int ((fun i=>ns.getD i 0) i) u:=fun i v hv=>IntsAre.int_at hi i v (by rw[Array.getElem?_toList];exact hv)
   refine fill_T ((Walks.list hh3 _ t tI xs).toS) s.heap.objs.size Sfp (fun i=>ns.getD i 0) vals hb (xs.size - 0) 0 _ (by omega) (Nat.zero_le _) ?st ?s0 ?fin
   case st=>exact⟨⟨_,Heap.get?_push_size _ rfl,rfl,rfl⟩,it1.push _⟩
   case s0=>exact (emp_T s.heap).keep fun o e=>Heap.get?_push_of_some _ e
   case fin =>
    rintro ⟨h',g',d',tk',os'⟩ hm hS'
    obtain rfl:g'=s.gens:=hm.gens
    obtain rfl:d'=s.drawn:=hm.drawn
    obtain rfl:os'=s.os:=hm.os
    refine wpAny_pure (wpAny_pure ⟨rfl,h',tk',rfl,hS',fun b o hlt e=>hm.heap b o ?_ (Heap.get?_push_of_some _ (Heap.get?_push_of_some _ e))⟩)
    rw[sz1];simp only [List.mem_cons,List.not_mem_nil,or_false,not_or]
    exact⟨Nat.ne_of_lt hlt,Nat.ne_of_lt (Nat.lt_succ_of_lt hlt)⟩
  ·match r₂,hr₂ with
   | .error e,hr₂=>exact hr₂
   | .ok .next,hr₂=>exact hr₂.elim
   | .ok .brk,hr₂=>exact hr₂.elim
   | .ok .cont,hr₂=>exact hr₂.elim
   | .ok (.ret v),hr₂ =>
    obtain⟨rfl,h',tk,rfl,hS',hk⟩:=hr₂
    repeat (any_goals (first | assumption | wp_step))
    exact fin h' tk hS' hk
end
end Stb
namespace L3
open PySem PySem.Spec PyProof.Rows L2
section
variable {X:Cx}
/-- set(l), l a list of whole numbers -/
theorem call_setXL (hh:X.calm=true):CallR X (.type "set") (fun xs H Q=>∃ (p:Addr) (ns:List Int),xs=[.ref p]∧H p=some (.lst (ns.map V.int))∧ns.length≤1000∧∀ q H',Same H H'->H q=none->H' q=some (SetO X.prog X.w q (HT.setS ns ns.length) (HT.setN ns ns.length))->Q (.ref q) H'):=by
 intro pins s σ H xs us Q I r h
 obtain⟨p,ns,rfl,hp,hl,q⟩:=h
 obtain⟨u,rfl,rx⟩:=vals1 r
 cases rx
 obtain⟨its,rv,pt,hz⟩:=I.list (SqL.of hp)
 have hlen:=rv.length
 rw[List.length_map] at hlen
 have fr:H s.heap.objs.size=none:=I.hok.fresh (Nat.le_refl _)
 have esz:its.toArray.size=ns.length:=by rw[List.size_toArray,← hlen]
 refine Stb.of_lst (ns:=ns) (I.ok.hd hh) (show s.heap.IsList p its.toArray from pt.isList) (by simpa using intsAre_of rv) (by rw[esz];unfold scanBound;omega) fun h' tk hS hk=>?_
 rw[esz] at hS
 refine⟨.ref s.heap.objs.size,_,I.laid (a:=s.heap.objs.size) (o:=SetO X.prog X.w s.heap.objs.size (HT.setS ns ns.length) (HT.setN ns ns.length)) (t':=tk) (fun b o e=>hk b o (Heap.lt_size e) e) (Nat.le_refl _) ⟨hS,?_,fun h1 h2 x k=>x.keep k⟩,rfl,q _ _ (same_new fr) fr upd_same⟩
 obtain⟨⟨o,_,_,_,ho,_⟩,_⟩:=hS
 exact⟨o,ho⟩
end
end L3
namespace Far
variable {A:List (Nat × Nat × Int)} {s:Nat}
def Unit1 (A:List (Nat × Nat × Int)):Prop:=∀ u v l,(u,v,l) ∈ A->l=1
/-- k steps away, and no fewer -/
def AtK (A:List (Nat × Nat × Int)) (s k v:Nat):Prop:=Walk A s v (k:Int)∧∀ x,Walk A s v x->(k:Int)≤x
/-- i rings gone through -/
structure Bfs (A:List (Nat × Nat × Int)) (s i:Nat) (D:Nat->Option Nat) (ring:List Nat):Prop where
 found:∀ v d,D v=some d↔AtK A s d v∧d < i
 ring:∀ v,v ∈ ring↔AtK A s i v
end Far
namespace Lr
open Far (chn chn_join chn_split chn_rev chn_at RingOf)
section
variable {R:Nat->Nat->Prop}
/-- a ring: h, then tl, and back to h -/
structure Rg (R:Nat->Nat->Prop) (h:Nat) (tl:List Nat):Prop where
 len:2≤tl.length
 nd:(h::tl).Nodup
 ch:chn R (h::tl++[h])
/-- a ring told as it should be: from its least place on, the smaller neighbour first -/
def Cano (h:Nat) (tl:List Nat):Prop:=(∀ v ∈ tl,h < v)∧∃ x m y,tl=x::(m++[y])∧x < y
def stepW (rows:Nat->List Nat) (w:List Nat):List (List Nat):=((rows (w.getLast?.getD 0)).filter fun o=>decide (w.headD 0 < o) && !decide (o ∈ w)).map fun o=>w++[o]
def ways (rows:Nat->List Nat) (n:Nat):Nat->List (List Nat)
 | 0=>(List.range n).map fun v=>[v]
 | s + 1=>(ways rows n s).flatMap (stepW rows)
structure PW (R:Nat->Nat->Prop) (n:Nat) (w:List Nat):Prop where
 ne:w≠[]
 nd:w.Nodup
 ch:chn R w
 lt:∀ v ∈ w,v < n
 up:∀ h t,w=h::t->∀ v ∈ t,h < v
section
variable {rows:Nat->List Nat} {n:Nat}
end
end
end Lr
namespace Lr
open Far (chn chn_join chn_split chn_rev chn_at RingOf)
/-- at most, as rows of numbers -/
def lle:List Nat->List Nat->Prop
 | [],_=>True
 | _::_,[]=>False
 | a::l,b::m=>a < b∨(a=b∧lle l m)
section
variable {R:Nat->Nat->Prop}
/-- a shortest chain from v to z -/
structure Sh (R:Nat->Nat->Prop) (z v:Nat) (l:List Nat):Prop where
 ch:chn R (v::l)
 last:(v::l).getLast?=some z
 min:∀ l',chn R (v::l')->(v::l').getLast?=some z->l.length≤l'.length
/-- how far, in steps -/
def Ds (R:Nat->Nat->Prop) (z:Nat) (D:Nat->Option Nat):Prop:=∀ v,(∀ m,D v=some m->∃ l,chn R (v::l)∧(v::l).getLast?=some z∧l.length=m)∧∀ l,chn R (v::l)->(v::l).getLast?=some z->∃ m,D v=some m∧m≤l.length
/-- without the tie between a and b -/
def Rm (R:Nat->Nat->Prop) (a b u v:Nat):Prop:=R u v∧¬ (u=a∧v=b)∧¬ (u=b∧v=a)
end
end Lr
namespace Lr
open Far (chn chn_join chn_split chn_rev chn_at RingOf)
structure Ties (R:Nat->Nat->Prop) (ks:List Nat) (ends:Nat->Nat × Nat):Prop where
 sy:∀ u v,R u v->R v u
 of:∀ k ∈ ks,(ends k).1 < (ends k).2∧R (ends k).1 (ends k).2
 to:∀ u v,R u v->u < v->∃ k ∈ ks,ends k=(u,v)
 up:∀ k ∈ ks,∀ j ∈ ks,k≤j->(ends k).1 < (ends j).1∨((ends k).1=(ends j).1∧(ends k).2≤(ends j).2)
section
variable {R:Nat->Nat->Prop} {ks:List Nat} {ends:Nat->Nat × Nat}
end
section
variable {R:Nat->Nat->Prop} {rows:Nat->List Nat} {n:Nat}
end
end Lr
namespace Peel
/-- ties by their ends -/
abbrev T2:=Nat × Nat
/-- kept ties of p to places that aren't gone -/
def hit (gone:List Nat) (p:Nat) (t:T2):Bool:=(t.1 == p && !gone.contains t.2) || (t.2 == p && !gone.contains t.1)
def deg (ts:List T2) (gone:List Nat) (p:Nat):Nat:=ts.countP (hit gone p)
def may (ts:List T2) (d:Int) (gone:List Nat) (p:Nat):Bool:=!gone.contains p && decide ((deg ts gone p:Int)≤d)
def next (n:Nat) (ts:List T2) (d:Int) (gone:List Nat):Option Nat:=(List.range n).find? (may ts d gone)
def run (n:Nat) (ts:List T2) (d:Int):Nat->List Nat->List Nat
 | 0,g=>g
 | f + 1,g=>match next n ts d g with
  | none=>g
  | some p=>run n ts d f (g++[p])
section
variable {n:Nat} {ts:List T2} {d:Int} {g:List Nat} {p:Nat}
/-- good: places of the web, none twice -/
def Good (n:Nat) (g:List Nat):Prop:=g.Nodup∧∀ p ∈ g,p < n
theorem len_below:∀ (n:Nat) (g:List Nat),g.Nodup->(∀ p ∈ g,p < n)->g.length≤n
 | 0,[],_,_=>Nat.le_refl _
 | 0,p::_,_,h=>absurd (h p List.mem_cons_self) (Nat.not_lt_zero _)
 | n + 1,g,nd,h=>by
  have h1:=len_below n (g.filter fun p=>p != n) (nd.filter _) fun p hp=>by
   have:=List.mem_filter.mp hp
   have a:=h p this.1
   have b:p≠n:=by simpa using this.2
   omega
  have e:g.length=(g.filter fun p=>p != n).length + g.countP (fun p=>p == n):=by
   rw[← List.countP_eq_length_filter]
   have:=List.length_eq_countP_add_countP (fun p=>p == n) (l:=g)
   have e2:g.countP (fun p=>decide ¬(p == n)=true)=g.countP fun p=>p != n:=List.countP_congr fun x _=>by simp
   rw[e2] at this
   omega
  have c:g.countP (fun p=>p == n)≤1:=by
   have:=List.nodup_iff_count.mp nd n
   exact this
  omega
/-- all that go, from none on -/
def gone (n:Nat) (ts:List T2) (d:Int):List Nat:=run n ts d n []
end
end Peel
namespace L3
open PySem PySem.Spec PyProof.Rows L2
def nb2 (ts:List Tie) (p:Int) (k:Nat):Option Nat:=if (tieAt ts k).2.1=p then some (tieAt ts k).1.toNat else none
section
variable {g:TG} {tt:TT} {te:TE} {own:List Str} {js:List Nat} {σ:L2.St} {H1:Hp} {Q:VK}
end
end L3
namespace L3
open PySem PySem.Spec PyProof.Rows L2
section
variable {own:List Str} {js:List Nat} {g:TG} {te:TE} {σ:L2.St} {Q:VK} {H1:Hp}
end
/-- the list at l holds the lists at as, each its own, with these rows -/
structure Bes (H:Hp) (l:Addr) (as:List Addr) (rows:Nat->List V):Prop where
 top:H l=some (.lst (as.map V.ref))
 nd:as.Nodup
 own:l ∉ as
 row:∀ i a,as[i]?=some a->H a=some (.lst (rows i))
/-- m unlike places beside j -/
def Uniq (ts:List Tie) (ks:List Nat) (j m:Nat):Prop:=∃ cs:List Nat,cs.Nodup∧cs.length=m∧∀ c ∈ cs,∃ k ∈ ks,∃ l,(j,c,l) ∈ arcs2 (tieAt ts k)
section
variable {X:Cx}
def rExtendB:V->List V->Hp->VK->Prop:=fun x vs H Q=>∃ l b xs zs,x=.ref l∧vs=[.ref b]∧H l=some (.lst xs)∧H b=some (.lst zs)∧xs.length + zs.length≤10 ^ 7∧∀ H',But l H H'->H' l=some (.lst (xs++zs))->Q .non H'
theorem mt_extendB:MtM X "list.extend" rExtendB:=by
 intro pins s σ H x vs v us Q I rx rv h
 obtain⟨l,b,xs,zs,rfl,rfl,hH,hB,hz,q⟩:=h
 exact mt_extend (X:=X) pins s σ H _ _ v us Q I rx rv ⟨l,b,xs,zs,rfl,rfl,hH,hB,Nat.le_trans hz (by decide),q _ But.upd upd_same⟩
end
end L3
namespace L3
open PySem PySem.Spec PyProof.Rows L2
def Adj (ts:List Tie) (ks:List Nat) (u v:Nat):Prop:=∃ k ∈ ks,(u,v,(tieAt ts k).2.2) ∈ arcs2 (tieAt ts k)
def en (ts:List Tie) (k:Nat):Nat × Nat:=((tieAt ts k).1.toNat,(tieAt ts k).2.1.toNat)
section
variable {n:Int} {ts:List Tie} {ks:List Nat} {u v k:Nat}
end
theorem is_nkeepL {K:PySem.W.Frag} {H:Hp} {p:Addr} {ks:List Nat} (h:H p=some (.tup (natV ks))):Is K H (keepD ks) (.ref p):=⟨p,_,rfl,h,by rw[natV_keep];exact IsAll.ints _⟩
def IsLR (ts:List Tie) (ks:List Nat) (h:Nat) (tl:List Nat):Prop:=Lr.Rg (Adj ts ks) h tl∧Lr.Cano h tl∧(∀ h' tl',Lr.Rg (Adj ts ks) h' tl'->tl.length≤tl'.length)∧∀ h' tl',Lr.Rg (Adj ts ks) h' tl'->Lr.Cano h' tl'->tl'.length=tl.length->Lr.lle (h::tl) (h'::tl')
end L3
namespace L3
open PySem PySem.Spec PyProof.Rows L2
section
variable {J:It} {g:TG} {tt:TT} {te:TE} {own:List Str} {js:List Nat} {σ:L2.St} {H1:Hp} {Q:VK}
end
end L3
namespace L3
end L3
namespace L3
open PySem PySem.Spec PyProof.Rows L2
theorem setN_few {ns:List Int} {m:Nat} (h:∀ x ∈ ns,0≤x∧x < m):HT.setN ns ns.length≤m:=by
 obtain⟨h1,h2⟩:=firstMet_nodup (fun i=>ns.getD i 0) ns.length
 rw[L3.range_getD ns 0] at h2
 have e:(firstMet (fun i=>ns.getD i 0) ns.length).length=((firstMet (fun i=>ns.getD i 0) ns.length).map Int.toNat).length:=(List.length_map _).symm
 show (firstMet (fun i=>ns.getD i 0) ns.length).length≤m
 rw[e]
 refine Peel.len_below m _ ?_ fun p hp=>?_
 ·rw[List.Nodup,List.pairwise_map]
  refine List.Pairwise.imp_of_mem ?_ h1
  intro a b ha hb ne z
  have:=h a ((h2 a).mp ha)
  have:=h b ((h2 b).mp hb)
  exact ne (by omega)
 ·obtain⟨x,hx,rfl⟩:=List.mem_map.mp hp
  have:=h x ((h2 x).mp hx)
  omega
theorem ints_nat:∀ {ms:List Int},(∀ x ∈ ms,0≤x)->ms.map V.int=natV (ms.map Int.toNat)
 | [],_=>rfl
 | x::ms,h=>by
  have e:((x.toNat:Nat):Int)=x:=Int.toNat_of_nonneg (h x List.mem_cons_self)
  have ih:=ints_nat (ms:=ms) fun y hy=>h y (List.mem_cons_of_mem _ hy)
  show V.int x::ms.map V.int=V.int ((x.toNat:Nat):Int)::natV (ms.map Int.toNat)
  rw[e,ih]
theorem natV_append (a b:List Nat):natV (a++b)=natV a++natV b:=by unfold natV;rw[List.map_append]
theorem natV_length (a:List Nat):(natV a).length=a.length:=by unfold natV;rw[List.length_map]
theorem get_set (E:List (Option Nat)) {i v:Nat} (x:Nat) (h:i < E.length):Far.get (E.set i (some x)) v=if v=i then some x else Far.get E v:=by
 unfold Far.get
 rw[List.getD_eq_getElem?_getD,List.getD_eq_getElem?_getD]
 by_cases z:v=i
 ·subst z
  rw[if_pos rfl,List.getElem?_set_self h];rfl
 ·rw[if_neg z,List.getElem?_set_ne (Ne.symm z)]
section
variable {n g:Int} {ts:List Tie} {ks:List Nat} {k:Nat}
end
def tupH (hs:List Int):PyData:=.tuple (hs.map .int)
def papD (pp:List (List Int)):PyData:=.tuple (pp.map tupH)
end L3
namespace Far
end Far
namespace L3
open PySem PySem.Spec PyProof.Rows L2
section
variable {n:Int} {ts:List Tie}
theorem keep_all (ts:List Tie):KeepOk ts.length (List.range ts.length):=⟨List.pairwise_lt_range,fun k hk=>List.mem_range.mp hk⟩
/-- two rising rows with the same numbers are one -/
theorem rise_one:∀ {a b:List Nat},a.Pairwise (· < ·)->b.Pairwise (· < ·)->(∀ k,k ∈ a↔k ∈ b)->a=b
 | [],[],_,_,_=>rfl
 | [],y::b,_,_,h=>by have:=(h y).mpr List.mem_cons_self;cases this
 | x::a,[],_,_,h=>by have:=(h x).mp List.mem_cons_self;cases this
 | x::a,y::b,pa,pb,h=>by
  obtain⟨p1,p2⟩:=List.pairwise_cons.mp pa
  obtain⟨q1,q2⟩:=List.pairwise_cons.mp pb
  have e:x=y:=by
   rcases List.mem_cons.mp ((h x).mp List.mem_cons_self) with z | z
   ·exact z
   ·rcases List.mem_cons.mp ((h y).mpr List.mem_cons_self) with y' | y'
    ·exact y'.symm
    ·have:=q1 x z;have:=p1 y y';omega
  subst e
  rw[rise_one p2 q2 fun k=>?_]
  constructor
  ·intro hk
   rcases List.mem_cons.mp ((h k).mp (List.mem_cons_of_mem _ hk)) with z | z
   ·have:=p1 k hk;omega
   ·exact z
  ·intro hk
   rcases List.mem_cons.mp ((h k).mpr (List.mem_cons_of_mem _ hk)) with z | z
   ·have:=q1 k hk;omega
   ·exact z
/-- what sorted(set(ties)) is -/
theorem sorted_ties {ms:List Int} {xs ks:List Nat} (hl:ms.length=HT.setN (keepI xs) (keepI xs).length) (hm:∀ k,HT.setS (keepI xs) (keepI xs).length k=true↔k ∈ ms) (pw:ms.Pairwise (·≤·)) (rk:ks.Pairwise (· < ·)) (h:∀ k,k ∈ ks↔k ∈ xs):ms.map V.int=natV ks:=by
 obtain⟨nd,mem⟩:=set_told hl hm
 have nn:∀ x ∈ ms,0≤x:=fun x hx=>by
  obtain⟨c,_,rfl⟩:=List.mem_map.mp ((mem x).mp hx)
  exact Int.natCast_nonneg c
 rw[ints_nat nn]
 congr 1
 have lt:ms.Pairwise (· < ·):=(pw.and nd).imp fun ⟨a,b⟩=>by omega
 refine rise_one ?_ rk fun k=>?_
 ·rw[List.pairwise_map]
  refine List.Pairwise.imp_of_mem ?_ lt
  intro a b ha hb ab
  have:=nn a ha
  omega
 ·rw[h k,List.mem_map]
  constructor
  ·rintro ⟨x,hx,rfl⟩
   obtain⟨c,hc,rfl⟩:=List.mem_map.mp ((mem x).mp hx)
   rw[Int.toNat_natCast];exact hc
  ·intro hk
   exact⟨(k:Int),(mem _).mpr (List.mem_map.mpr ⟨k,hk,rfl⟩),Int.toNat_natCast k⟩
end
/-- for i, x in enumerate(..) -/
theorem for_enum {K:PySem.W.Frag} {t:Bool} {l:Addr} {xs:List V} {g:TG} {tb:TS} {D:Ends} {σ:L2.St} {H:Hp} (Pv:Nat->L2.St->Hp->Prop) (h0:Pv 0 σ H) (hl:∀ i σ H,Pv i σ H->SqX t K H l xs)
  (hs:∀ i x T σ H,xs[i]?=some x->H T=none->Pv i σ H->g (.ref T) σ (upd H T (.tup [.int (i:Nat),x])) fun σ2 H2=>tb { D with nx:=Pv (i + 1),ct:=Pv (i + 1),bk:=D.nx } σ2 H2) (hd:∀ σ H,Pv xs.length σ H->D.nx σ H) :
  ∃ W:Nat->Nat->L2.St->Hp->Prop,(∃ m,W 0 m σ H)∧∀ i m σ H,W i m σ H ->
   ((Itn t K l).stop i H∧D.nx σ H)∨((Itn t K l).go i H∧∃ N:L2.St->Hp->Prop,(∀ σ' H',N σ' H'->∃ m',m' < m∧W (i + 1) m' σ' H')∧∀ x H',(Itn t K l).yld i H x H'->g x σ H' fun σ2 H2=>tb { D with nx:=N,ct:=N,bk:=D.nx } σ2 H2):=by
 refine⟨fun i m σ H=>m=xs.length - i∧i≤xs.length∧Pv i σ H,⟨xs.length,by simp,Nat.zero_le _,h0⟩,?_⟩
 rintro i m σ H ⟨rfl,hi,p⟩
 have q1:=hl i σ H p
 by_cases hlt:i < xs.length
 ·have e1:xs[i]?=some xs[i]:=List.getElem?_eq_getElem hlt
  refine .inr ⟨⟨xs,_,q1,e1⟩,Pv (i + 1),fun σ' H' p'=>⟨xs.length - (i + 1),by omega,rfl,hlt,p'⟩,fun x H' y=>?_⟩
  obtain⟨T,y',hT,rfl,rfl,a1⟩:=y
  exact hs i y' T σ H (a1 _ q1) hT p
 ·have e:i=xs.length:=by omega
  subst e
  exact .inl ⟨⟨xs,q1,Nat.le_refl _⟩,hd σ H p⟩
end L3
namespace L2
open PySem PySem.Spec PyProof.Rows
section
variable {X:Cx} {k v:Expr} {pos:Pos} {tk tv:TE}
end
end L2
namespace HT
open PySem PyProof.Rows
open Sem (wp)
section
variable {prog:Program} {w:World} {A:Around} {E:Value->Shared->Prop} {s:Shared}
end
end HT
namespace L3
open PySem PySem.Spec PyProof.Rows L2
end L3
namespace L3
open PySem PySem.Spec PyProof.Rows L2
def PapV (H:Hp) (lo hi m:Nat) (v:V):Prop:=∃ p xs,v=.ref p∧H p=some (.tup xs)∧xs.length≤m∧∀ u ∈ xs,RowV lo hi H u
theorem brT2 {α β:Sort _} {A T:α->β->Prop} {B:Prop} (main:(∀ x y,A x y->T x y)->B) (tail:∀ x y,A x y->T x y):B:=main tail
end L3
namespace Far
section
variable {A B:List (Nat × Nat × Int)} {s u v:Nat} {x y:Int}
end
end Far
namespace Far
section
variable {G:Nat->Option Int} {len:Nat->Int}
end
end Far
namespace Far
section
variable {A:List (Nat × Nat × Int)} {s:Nat}
end
end Far
namespace L3
open PySem PySem.Spec PyProof.Rows L2
section
variable {near kept:Nat->Nat->Option Int} {u v:Nat} {r:List (Nat × Nat)} {m:Int × Int × Int} {x y:Int}
end
/-- a web and a keep of it, a tuple or a list -/
def WKE (K:PySem.W.Frag) (H:Hp) (n:Int) (ts:List Tie) (ks:List Nat) (wv:V) (kp:Addr) (tp:Bool):Prop:=Is K H (webD n ts) wv∧WebOk n ts∧H kp=some (if tp=true then .tup (natV ks) else .lst (natV ks))∧KeepOk ts.length ks
section
variable {g:TG} {tt:TT} {te:TE} {own:List Str} {js:List Nat} {σ:L2.St} {H1:Hp} {Q:VK}
end
theorem cut_toK (xs:List V) (k:Nat):cutV xs none (some (k:Int))=xs.take k:=by
 unfold cutV
 rw[HT.sIx_none,HT.sIx_nat,List.drop_zero,Nat.sub_zero]
 by_cases z:k≤xs.length
 ·rw[Nat.min_eq_left z]
 ·rw[Nat.min_eq_right (by omega),List.take_of_length_le (Nat.le_refl _),List.take_of_length_le (by omega)]
end L3
namespace L3
open PySem PySem.Spec PyProof.Rows L2
section
variable {n:Int} {ts:List Tie} {ks:List Nat}
end
section
variable {own:List Str} {js:List Nat} {g:TG} {te:TE} {σ:L2.St} {Q:VK} {H1:Hp}
end
end L3
namespace L3
open PySem PySem.Spec PyProof.Rows L2
noncomputable def dG (ts:List Tie) (u v:Nat):Option Int:=Classical.epsilon fun o=>Far.Dst (arcs ts (List.range ts.length)) u v o
section
variable {n:Int} {ts:List Tie}
theorem dG_dst (ok:WebOk n ts) (u v:Nat):Far.Dst (arcs ts (List.range ts.length)) u v (dG ts u v) :=
 Classical.epsilon_spec (p:=fun o=>Far.Dst (arcs ts (List.range ts.length)) u v o) (Far.dst_exists (arcs_pos ok (keep_all ts)) u v)
theorem dG_eq (ok:WebOk n ts) {u v:Nat} {o:Option Int} (d:Far.Dst (arcs ts (List.range ts.length)) u v o):o=dG ts u v:=d.unique (dG_dst ok u v)
noncomputable def dGL (n:Int) (ts:List Tie) (u:Nat):List (Option Int):=(List.range n.toNat).map (dG ts u)
theorem dGL_len (n:Int) (ts:List Tie) (u:Nat):(dGL n ts u).length=n.toNat:=by unfold dGL;rw[List.length_map,List.length_range]
theorem dGL_at {u v:Nat} (hv:v < n.toNat):(dGL n ts u)[v]?=some (dG ts u v):=by unfold dGL;rw[List.getElem?_map,List.getElem?_range hv];rfl
theorem dGL_eq (ok:WebOk n ts) {u:Nat} {DD:List (Option Int)} (lD:DD.length=n.toNat) (hD:∀ v,v < n.toNat->Far.Dst (arcs ts (List.range ts.length)) u v (Far.get DD v)):DD=dGL n ts u:=by
 refine List.ext_getElem? fun v=>?_
 by_cases hv:v < n.toNat
 ·have e:=dG_eq ok (hD v hv)
  unfold Far.get at e
  rw[List.getD_eq_getElem?_getD,List.getElem?_eq_getElem (by omega)] at e
  rw[List.getElem?_eq_getElem (by omega),dGL_at hv,← e];rfl
 ·rw[List.getElem?_eq_none (by omega),List.getElem?_eq_none (by rw[dGL_len];omega)]
noncomputable def htP (n:Int) (ts:List Tie) (u:Nat):List Int:=(dGL n ts u).map (capO (10 ^ 20))
def hN (hs:List Int) (v:Nat):Int:=hs.getD v 0
end
theorem lay_pap:∀ pp:List (List Int),PyData.canLay0 (papD pp)=true:=fun pp=>by
 show PyData.canLayAll0 (pp.map tupH)=true
 induction pp with
 | nil=>rfl
 | cons hs pp ih =>
  show (PyData.canLay0 (tupH hs) && PyData.canLayAll0 (pp.map tupH))=true
  rw[ih,Bool.and_true]
  exact lay_ints hs
theorem deep_pap:∀ pp:List (List Int),PyData.depth (papD pp)≤4:=fun pp=>by
 show PyData.depthAll (pp.map tupH) + 1≤4
 have:PyData.depthAll (pp.map tupH)≤3:=by
  induction pp with
  | nil=>exact Nat.zero_le _
  | cons hs pp ih =>
   show max (PyData.depth (tupH hs)) (PyData.depthAll (pp.map tupH))≤3
   have:PyData.depth (tupH hs)≤2:=Nat.succ_le_succ (deep_ints hs)
   omega
 omega
end L3
namespace Srt
open PySem PyProof.Rows
section
variable {prog:Program} {w:World} {A:Around} {E:Value->Shared->Prop} {s:Shared} {a:Addr}
end
end Srt
namespace L3
open PySem PySem.Spec PyProof.Rows L2
section
variable {X:Cx}
end
end L3
namespace L3
open PySem PySem.Spec PyProof.Rows L2
theorem brJ {α:Sort _} {A T:α->Prop} {B:Prop} (main:(∀ x,A x->T x)->B) (tail:∀ x,A x->T x):B:=main tail
section
variable {n:Int} {ts:List Tie}
noncomputable def wyN (ts:List Tie) (a b:Nat):Option (List Nat):=@dite _ (∃ ws,Far.MinW (arcsB ts (List.range ts.length)) a b ws) (Classical.propDecidable _) (fun h=>some (Classical.choose h)) (fun _=>none)
theorem wyN_some (ok:WebOk n ts) {a b:Nat} {ws:List Nat} (h:Far.MinW (arcsB ts (List.range ts.length)) a b ws):wyN ts a b=some ws:=by
 have ex:∃ ws,Far.MinW (arcsB ts (List.range ts.length)) a b ws:=⟨ws,h⟩
 unfold wyN
 rw[dif_pos ex]
 exact congrArg some (h.unique (arcsB_keys ok (keep_all ts)) (Classical.choose_spec ex))
theorem wyN_none {a b:Nat} (d:Far.Dst (arcs ts (List.range ts.length)) a b none):wyN ts a b=none:=by
 unfold wyN
 refine dif_neg fun ⟨ws,S,x,y,r,_⟩=>?_
 have w:=r.walk
 rw[arcsF_eq] at w
 obtain⟨z,e,_⟩:=d.2 _ w
 cases e
/-- a way, or None -/
def WyV (H:Hp) (ts:List Tie) (o:Option (List Nat)) (v:V):Prop:=(o=none∧v=.non)∨∃ t ws,o=some ws∧v=.ref t∧H t=some (.tup (natV ws))∧ws.length≤24∧linked ts ws
theorem WyV.tk {H H':Hp} {o:Option (List Nat)} {v:V} (k:TupKeep H H') (h:WyV H ts o v):WyV H' ts o v:=by
 rcases h with h | ⟨t,ws,e,e1,e2,z⟩
 ·exact .inl h
 ·exact .inr ⟨t,ws,e,e1,k _ _ e2,z⟩
theorem WyV.same {H H':Hp} {o:Option (List Nat)} {v:V} (k:Same H H') (h:WyV H ts o v):WyV H' ts o v:=h.tk fun _ _ e=>k _ _ e
theorem wy_of (ok:WebOk n ts) {H:Hp} {a b:Nat} {v:V} (h:WayM H ts (List.range ts.length) a b v):WyV H ts (wyN ts a b) v:=by
 rcases h with ⟨rfl,d⟩ | ⟨t,ws,x,rfl,e,l,m,tr,d⟩
 ·exact .inl ⟨wyN_none d,rfl⟩
 ·exact .inr ⟨t,ws,wyN_some ok m,rfl,e,l,(tr_wl ok (keep_all ts) tr).2⟩
def wyD:Option (List Nat)->PyData
 | none=>.none
 | some ws=>tupH (keepI ws)
/-- the numbers of the ties that a way goes along -/
def awN (ts:List Tie):Option (List Nat)->List Nat
 | none=>[]
 | some ws=>alongN ts ws
/-- the rising row of the ties of all ways -/
def twK (ts:List Tie) (os:List (Option (List Nat))):List Nat:=(List.range ts.length).filter fun k=>(os.flatMap (awN ts)).contains k
theorem twK_ok (ts:List Tie) (os:List (Option (List Nat))):KeepOk ts.length (twK ts os):=⟨List.Pairwise.filter _ List.pairwise_lt_range,fun k hk=>List.mem_range.mp (List.mem_filter.mp hk).1⟩
theorem twK_mem {os:List (Option (List Nat))} (h:∀ k ∈ os.flatMap (awN ts),k < ts.length) (k:Nat):k ∈ twK ts os↔k ∈ os.flatMap (awN ts):=by
 unfold twK
 rw[List.mem_filter,List.mem_range,List.contains_iff_mem]
 exact⟨fun z=>z.2,fun z=>⟨h k z,z⟩⟩
theorem aw_lt {H:Hp} {o:Option (List Nat)} {v:V} (h:WyV H ts o v):(∀ k ∈ awN ts o,k < ts.length)∧(awN ts o).length≤23:=by
 rcases h with ⟨rfl,rfl⟩ | ⟨t,ws,rfl,rfl,e2,l,lk⟩
 ·exact⟨fun k hk=>(by cases hk),Nat.zero_le _⟩
 ·refine⟨along_lt lk,?_⟩
  show (alongN ts ws).length≤23
  unfold alongN
  rw[List.length_map,List.length_range]
  omega
theorem flat_leG {α:Type} {f:α->List Nat} {m:Nat}:∀ (l:List α),(∀ x ∈ l,(f x).length≤m)->(l.flatMap f).length≤l.length * m
 | [],_=>Nat.zero_le _
 | x::l,h=>by
  have h1:=h x List.mem_cons_self
  have h2:=flat_leG l fun y hy=>h y (List.mem_cons_of_mem _ hy)
  rw[List.flatMap_cons,List.length_append,List.length_cons,Nat.add_mul,Nat.one_mul]
  omega
/-- the pairs -/
def prD (p:Nat × Nat):PyData:=tupH [(p.1:Int),(p.2:Int)]
theorem pr_at {K:PySem.W.Frag} {H:Hp} {prs:List (Nat × Nat)} {ps:List V} (h:IsAll K H (prs.map prD) ps) {i:Nat} {x:V} (e:ps[i]?=some x):∃ (pr:Nat × Nat) (t:Addr),prs[i]?=some pr∧x=.ref t∧H t=some (.tup [.int (pr.1:Int),.int (pr.2:Int)]):=by
 obtain⟨d,hd,hx⟩:=IsAll.from_ h e
 rw[List.getElem?_map] at hd
 obtain⟨pr,hpr,rfl⟩:=Option.map_eq_some_iff.mp hd
 obtain⟨t,vs,rfl,ht,hall⟩:=hx
 have:=IsAll.of_ints (ns:=[(pr.1:Int),(pr.2:Int)]) hall
 subst this
 exact⟨pr,t,hpr,rfl,ht⟩
end
end L3
namespace L3
open PySem PySem.Spec PyProof.Rows L2
end L3
namespace L3
open PySem PySem.Spec PyProof.Rows L2
theorem bls_true {bs:List V} (h:∀ (i:Nat) (v:V),bs[i]?=some v->v=.bl true):bs=(List.replicate bs.length true).map V.bl:=by
 refine List.ext_getElem? fun i=>?_
 rw[List.getElem?_map]
 by_cases hi:i < bs.length
 ·have e:bs[i]?=some bs[i]:=List.getElem?_eq_getElem hi
  rw[e,h i _ e,List.getElem?_replicate,if_pos hi];rfl
 ·rw[List.getElem?_eq_none (by omega),List.getElem?_replicate,if_neg hi];rfl
theorem all_repl (m:Nat):(List.replicate m true).all id=true:=by
 rw[List.all_eq_true]
 intro x hx
 rw[List.eq_of_mem_replicate hx];rfl
end L3
namespace L3
open PySem PySem.Spec PyProof.Rows L2
def shN:Option (List Nat)->Option (List Nat)->List Nat
 | some a,some b=>a.filter fun p=>b.contains p
 | _,_=>[]
def blkL (sh:List Nat) (i j:Nat):List (List Int):=(sh.take 1++sh.reverse.take 1).map fun p:Nat=>[(i:Int),(j:Int),(p:Int)]
def blk (os:List (Option (List Nat))) (i j:Nat):List (List Int):=blkL (shN (os.getD i none) (os.getD j none)) i j
def prwP (os:List (Option (List Nat))) (j:Nat):List (List Int):=(List.range j).flatMap fun i=>blk os i j
def pgP (os:List (Option (List Nat))) (m:Nat):List (List Int):=(List.range m).flatMap (prwP os)
def prwL (os:List (Option (List Nat))) (m i:Nat):List (List Int):=(List.range (m - (i + 1))).flatMap fun k=>blk os i (i + 1 + k)
def pgL (os:List (Option (List Nat))) (m:Nat):List (List Int):=(List.range m).flatMap (prwL os m)
theorem flat_two {α β:Type} {f g:α->List β}:∀ l:List α,(l.flatMap fun x=>f x++g x).Perm (l.flatMap f++l.flatMap g)
 | []=>List.Perm.refl _
 | x::l=>by
  rw[List.flatMap_cons,List.flatMap_cons,List.flatMap_cons]
  have h:=flat_two (f:=f) (g:=g) l
  refine (List.Perm.append_left _ h).trans ?_
  rw[List.append_assoc,List.append_assoc]
  refine List.Perm.append_left _ ?_
  rw[← List.append_assoc,← List.append_assoc]
  exact List.Perm.append_right _ List.perm_append_comm
theorem pg_perm (os:List (Option (List Nat))):∀ m,(pgP os m).Perm (pgL os m)
 | 0=>List.Perm.refl _
 | m + 1=>by
  have e1:pgP os (m + 1)=pgP os m++prwP os m:=by unfold pgP;rw[List.range_succ,List.flatMap_append,List.flatMap_cons,List.flatMap_nil,List.append_nil]
  have e2:pgL os (m + 1)=(List.range m).flatMap fun i=>prwL os m i++blk os i m:=by
   unfold pgL
   rw[List.range_succ,List.flatMap_append,List.flatMap_cons,List.flatMap_nil,List.append_nil]
   have e3:prwL os (m + 1) m=[]:=by unfold prwL;rw[show m + 1 - (m + 1)=0 by omega];rfl
   rw[e3,List.append_nil]
   unfold List.flatMap
   refine congrArg List.flatten (List.map_congr_left fun i hi=>?_)
   have:=List.mem_range.mp hi
   unfold prwL
   rw[show m + 1 - (i + 1)=m - (i + 1) + 1 by omega,List.range_succ,List.flatMap_append,List.flatMap_cons,List.flatMap_nil,List.append_nil,show i + 1 + (m - (i + 1))=m by omega]
  rw[e1,e2]
  refine ((pg_perm os m).append_right _).trans (flat_two _).symm
theorem blk_len (os:List (Option (List Nat))) (i j:Nat):(blk os i j).length≤2:=by
 unfold blk blkL
 rw[List.length_map,List.length_append,List.length_take,List.length_take];omega
theorem blk_shape {os:List (Option (List Nat))} {i j:Nat}:∀ k ∈ blk os i j,∃ p:Nat,k=[(i:Int),(j:Int),(p:Int)]:=fun k h=>by
 unfold blk blkL at h
 obtain⟨p,_,rfl⟩:=List.mem_map.mp h
 exact⟨p,rfl⟩
theorem flat_leP {α β:Type} {f:α->List β} {c:Nat}:∀ l:List α,(∀ x ∈ l,(f x).length≤c)->(l.flatMap f).length≤c * l.length
 | [],_=>Nat.zero_le _
 | x::l,h=>by
  have h1:=h x List.mem_cons_self
  have h2:=flat_leP l fun y hy=>h y (List.mem_cons_of_mem _ hy)
  rw[List.flatMap_cons,List.length_append,List.length_cons,Nat.mul_succ];omega
theorem prwP_len (os:List (Option (List Nat))) (j:Nat):(prwP os j).length≤2 * j:=by
 have:=flat_leP (f:=fun i=>blk os i j) (c:=2) (List.range j) fun i _=>blk_len os i j
 rw[List.length_range] at this;exact this
theorem pgP_len (os:List (Option (List Nat))):∀ m,(pgP os m).length≤m * (m - 1)
 | 0=>Nat.le_refl _
 | m + 1=>by
  have h:=pgP_len os m
  have e1:pgP os (m + 1)=pgP os m++prwP os m:=by unfold pgP;rw[List.range_succ,List.flatMap_append,List.flatMap_cons,List.flatMap_nil,List.append_nil]
  have h2:=prwP_len os m
  rw[e1,List.length_append,Nat.add_sub_cancel,Nat.succ_mul]
  have:m * (m - 1) + m=m * m:=by
   cases m with
   | zero=>rfl
   | succ k=>rw[Nat.add_sub_cancel,← Nat.mul_succ]
  omega
theorem pgP_few {os:List (Option (List Nat))} {m:Nat} (h:m≤30):(pgP os m).length≤870 :=
 Nat.le_trans (pgP_len os m) (Nat.le_trans (Nat.mul_le_mul h (Nat.sub_le_sub_right h 1)) (by decide))
theorem pgP_cut {os:List (Option (List Nat))} {m j i:Nat} (hj:j < m) (hi:i≤j):(pgP os j++(List.range i).flatMap fun i=>blk os i j).length≤(pgP os m).length:=by
 have e:∀ {f:Nat->List (List Int)} {a b:Nat},a≤b->((List.range a).flatMap f).length≤((List.range b).flatMap f).length:=fun {f a b} h=>by
  obtain⟨c,rfl⟩:=Nat.le.dest h
  rw[List.range_add,List.flatMap_append,List.length_append];omega
 have h1:=e (f:=prwP os) hj
 have h2:=e (f:=fun i=>blk os i j) hi
 have e1:pgP os (j + 1)=pgP os j++prwP os j:=by unfold pgP;rw[List.range_succ,List.flatMap_append,List.flatMap_cons,List.flatMap_nil,List.append_nil]
 have h1:(pgP os (j + 1)).length≤(pgP os m).length:=h1
 rw[e1] at h1
 rw[List.length_append] at h1 ⊢
 have h2:((List.range i).flatMap fun i=>blk os i j).length≤(prwP os j).length:=h2
 omega
theorem pgL_cut {os:List (Option (List Nat))} {m i k:Nat} (hi:i < m) (hk:k≤m - (i + 1)):((List.range i).flatMap (prwL os m)++(List.range k).flatMap fun k=>blk os i (i + 1 + k)).length≤(pgL os m).length:=by
 have e:∀ {f:Nat->List (List Int)} {a b:Nat},a≤b->((List.range a).flatMap f).length≤((List.range b).flatMap f).length:=fun {f a b} h=>by
  obtain⟨c,rfl⟩:=Nat.le.dest h
  rw[List.range_add,List.flatMap_append,List.length_append];omega
 have h1:((List.range (i + 1)).flatMap (prwL os m)).length≤(pgL os m).length:=e hi
 rw[List.range_succ,List.flatMap_append,List.length_append,List.flatMap_cons,List.flatMap_nil,List.append_nil] at h1
 have h2:((List.range k).flatMap fun k=>blk os i (i + 1 + k)).length≤(prwL os m i).length:=e hk
 rw[List.length_append];omega
theorem pg_shape {os:List (Option (List Nat))} {m:Nat}:∀ k ∈ pgP os m,∃ i j p:Nat,k=[(i:Int),(j:Int),(p:Int)]:=fun k h=>by
 unfold pgP prwP at h
 obtain⟨j,_,h⟩:=List.mem_flatMap.mp h
 obtain⟨i,_,h⟩:=List.mem_flatMap.mp h
 obtain⟨p,e⟩:=blk_shape k h
 exact⟨i,j,p,e⟩
/-- rows of whole numbers as tuples -/
abbrev TT (H:Hp) (ys:List V) (ks:List (List Int)):Prop:=Paired (fun (y:V) (k:List Int)=>∃ a,y=.ref a∧H a=some (.tup (k.map V.int))) ys ks
theorem TT.keep {H H':Hp} (s:∀ a xs,H a=some (.tup xs)->H' a=some (.tup xs)) {ys:List V} {ks:List (List Int)} (h:TT H ys ks):TT H' ys ks:=Paired.mapP h fun y k ⟨a,e1,e2⟩=>⟨a,e1,s _ _ e2⟩
theorem TT.app {H:Hp}:∀ {ys zs:List V} {ks ls:List (List Int)},TT H ys ks->TT H zs ls->TT H (ys++zs) (ks++ls)
 | _,_,_,_,.nil,h=>h
 | _,_,_,_,.cons a t,h=>.cons a (TT.app t h)
theorem TT.is {K:PySem.W.Frag} {H:Hp}:∀ {ys:List V} {ks:List (List Int)},TT H ys ks->IsAll K H (ks.map tupH) ys
 | _,_,.nil=>rfl
 | _,_,.cons ⟨a,e1,e2⟩ t=>⟨_,_,rfl,⟨a,_,e1,e2,IsAll.ints _⟩,TT.is t⟩
theorem tt_of {H:Hp}:∀ {ys:List V} {ks:List (List Int)},ys.length=ks.length->(∀ (i:Nat) (v:V) (k:List Int),ys[i]?=some v->ks[i]?=some k->∃ a,v=.ref a∧H a=some (.tup (k.map V.int)))->TT H ys ks
 | [],[],_,_=>.nil
 | y::ys,k::ks,hl,h=>.cons (h 0 y k rfl rfl) (tt_of (by simpa using hl) fun i v k a b=>h (i + 1) v k a b)
 | [],_::_,hl,_=>by simp at hl
 | _::_,[],hl,_=>by simp at hl
/-- sorted so -/
def SrK (ks:List (List Int)):Prop:=ks.Pairwise fun a b=>Srt.lexI b a=false
theorem SrK.one {ks ls:List (List Int)} (p:ks.Perm ls) (a:SrK ks) (b:SrK ls):ks=ls :=
 p.eq_of_pairwise (le:=fun a b=>Srt.lexI b a=false) (fun a b _ _ h1 h2=>Srt.lexI_tot _ _ h2 h1) a b
theorem tt_out {H:Hp} {ys:List V} {ks:List (List Int)} (h:TT H ys ks) {qs:List (V × List Int)} (p:qs.Perm (ys.zip ks)) (w:qs.Pairwise fun a b=>Srt.lexI b.2 a.2=false):∃ ks',ks'.Perm ks∧TT H (qs.map (·.1)) ks'∧SrK ks':=by
 have mem:∀ {ys:List V} {ks:List (List Int)},TT H ys ks->∀ q ∈ ys.zip ks,∃ a,q.1=.ref a∧H a=some (.tup (q.2.map V.int)):=fun {ys ks} h=>by
  induction h with
  | nil=>intro q hq;cases hq
  | cons r t ih =>
   intro q hq
   rcases List.mem_cons.mp hq with rfl | hq
   ·exact r
   ·exact ih q hq
 refine⟨qs.map (·.2),?_,?_,by unfold SrK;rw[List.pairwise_map];exact w⟩
 ·have e:=p.map (·.2)
  rw[List.map_snd_zip (Nat.le_of_eq (Paired.length h).symm)] at e
  exact e
 ·have go:∀ qs:List (V × List Int),(∀ q ∈ qs,∃ a,q.1=.ref a∧H a=some (.tup (q.2.map V.int)))->TT H (qs.map (·.1)) (qs.map (·.2)):=fun qs=>by
   induction qs with
   | nil=>intro _;exact .nil
   | cons q t ih=>intro h;exact .cons (h q List.mem_cons_self) (ih fun x hx=>h x (List.mem_cons_of_mem _ hx))
  exact go qs fun q hq=>mem h q (p.mem_iff.mp hq)
/-- a way of places, or None -/
def OpV (H:Hp) (o:Option (List Nat)) (v:V):Prop:=(o=none∧v=.non)∨∃ t ws,o=some ws∧v=.ref t∧H t=some (.tup (natV ws))∧ws.length≤24
theorem OpV.same {H H':Hp} {o:Option (List Nat)} {v:V} (s:∀ a xs,H a=some (.tup xs)->H' a=some (.tup xs)) (h:OpV H o v):OpV H' o v:=by
 rcases h with h | ⟨t,ws,e,e1,e2,z⟩
 ·exact .inl h
 ·exact .inr ⟨t,ws,e,e1,s _ _ e2,z⟩
theorem WyV.op {ts:List Tie} {H:Hp} {o:Option (List Nat)} {v:V} (h:WyV H ts o v):OpV H o v:=by
 rcases h with h | ⟨t,ws,e,e1,e2,z,_⟩
 ·exact .inl h
 ·exact .inr ⟨t,ws,e,e1,e2,z⟩
def OpsV (H:Hp) (os:List (Option (List Nat))) (ys:List V):Prop:=ys.length=os.length∧∀ (i:Nat) (o:Option (List Nat)) (v:V),os[i]?=some o->ys[i]?=some v->OpV H o v
theorem OpsV.same {H H':Hp} {os:List (Option (List Nat))} {ys:List V} (s:∀ a xs,H a=some (.tup xs)->H' a=some (.tup xs)) (h:OpsV H os ys):OpsV H' os ys:=⟨h.1,fun i o v a b=>(h.2 i o v a b).same s⟩
theorem OpsV.at {H:Hp} {os:List (Option (List Nat))} {ys:List V} (h:OpsV H os ys) {i:Nat} {x:V} (e:ys[i]?=some x):OpV H (os.getD i none) x:=by
 have hi:=(List.getElem?_eq_some_iff.mp e).1
 have eo:os[i]?=some (os[i]'(by have:=h.1;omega)):=List.getElem?_eq_getElem _
 rw[List.getD_eq_getElem?_getD,eo]
 exact h.2 i _ x eo e
theorem blk_nil {i j:Nat}:blkL [] i j=[]:=rfl
theorem blk_cons {x:Nat} {t:List Nat} {i j:Nat}:blkL (x::t) i j=[[(i:Int),(j:Int),(x:Int)],[(i:Int),(j:Int),(((x::t).getLast (by simp):Nat):Int)]]:=by
 unfold blkL
 have e:(x::t).reverse.take 1=[(x::t).getLast (by simp)]:=by
  rw[List.take_one,List.head?_reverse,List.getLast?_eq_some_getLast (by simp)];rfl
 rw[e];rfl
end L3
namespace L3
open PySem PySem.Spec PyProof.Rows L2
section
variable {X:Cx}
end
end L3
namespace L3
open PySem PySem.Spec PyProof.Rows L2
/-- the word alone -/
def allIn (ts:List Tie) (ks:List Nat) (t:Int):Prop:=∀ k,k ∈ outs ts.length ks->withinB t (tieAt ts k).2.2 (gO ts ks k)=true
section
variable {n:Int} {ts:List Tie} {ks:List Nat} {prs:List (Option Int × Int)}
end
end L3
namespace Z3
open PySem
section
variable {prog:Program} {w:World} {A:Around} {E:Value->Shared->Prop} {s:Shared}
end
end Z3
namespace L3
open PySem PySem.Spec PyProof.Rows L2
end L3
namespace L3
open PySem PySem.Spec PyProof.Rows L2
section
variable {n:Int} {ts:List Tie} {ks:List Nat}
noncomputable def wyK (ts:List Tie) (ks:List Nat) (a b:Nat):Option (List Nat):=@dite _ (∃ ws,Far.MinW (arcsB ts ks) a b ws) (Classical.propDecidable _) (fun h=>some (Classical.choose h)) (fun _=>none)
noncomputable def dK (ts:List Tie) (ks:List Nat) (u v:Nat):Option Int:=Classical.epsilon fun o=>Far.Dst (arcs ts ks) u v o
noncomputable def dKL (n:Int) (ts:List Tie) (ks:List Nat) (u:Nat):List (Option Int):=(List.range n.toNat).map fun v=>dK ts ks u v
/-- heights of a tie -/
noncomputable def htK (n:Int) (ts:List Tie) (ks:List Nat) (t:Int) (k:Nat):List Int:=(dKL n ts ks (tieAt ts k).1.toNat).map (capO (t * (tieAt ts k).2.2 + 1))
end
def winK (ts:List Tie) (ks:List Nat) (t:Int) (k:Nat):Prop:=withinB t (tieAt ts k).2.2 (gO ts ks k)=true
noncomputable def wyT (ts:List Tie) (ks:List Nat) (k:Nat):Option (List Nat):=wyK ts ks (tieAt ts k).1.toNat (tieAt ts k).2.1.toNat
/-- the first that is too far -/
def FirstOut (ts:List Tie) (ks:List Nat) (t:Int) (i k:Nat):Prop:=(outs ts.length ks)[i]?=some k∧¬ winK ts ks t k∧∀ j k',j < i->(outs ts.length ks)[j]?=some k'->winK ts ks t k'
inductive TdD (n:Int) (ts:List Tie) (ks:List Nat) (t:Int):PyData->Prop
 | keeps:allIn ts ks t->TdD n ts ks t (.tuple [.str "keeps",.tuple ((outs ts.length ks).map fun k=>wyD (wyT ts ks k))])
 | far {i k:Nat}:FirstOut ts ks t i k->TdD n ts ks t (.tuple [.str "far",.int (k:Int),tupH (htK n ts ks t k)])
end L3
namespace Hx
open PySem PySem.W
/-- a statement of the top: its number, the first address and the first token it takes, the module's name (statement, token), for a class the chunk of its base -/
structure Ch where
 i:Nat
 a:Nat
 t:Nat
 j:Nat
 u:Nat
 b:Nat:=0
def stt (p:Program) (i:Nat):Stmt:=p.main.body.getD i (.Pass ⟨0,0,0,0⟩)
def fileS:Str:=Str.ofString "/claim/cut.py"
def mdV (p:Program) (c:Ch):Value:=match stt p c.j with
 | .Assign _ (.Constant (.str x) _ _) _=>.str x c.u
 | _=>.str (Str.ofString "__main__") c.u
def sT (xs:List Value):Obj:=⟨.type "tuple",none,.seq xs.toArray 0,#[]⟩
def fE (xs:List Value):Obj:=⟨.none,none,.fields xs.toArray,#[]⟩
def tks:List Str->Nat->List Value
 | [],_=>[]
 | v::r,t=>.str v t::tks r (t + 1)
def z:Value:=.int 0 0
def cdO (nm q:Str) (t:Nat) (l:Int) (na fl:Int) (k:Value) (fn:Bool) (tb vs cs tp:Value) (u:Nat):Obj :=
 ⟨.type "code",none,.fields #[.str nm t,.str q (t + 1),.str fileS (t + 2),.int l 0,.int na 0,z,z,.int fl 0,k,.bool fn,.int 181 0,tb,.none,vs,cs,tp,.int u 0,.int l 0,.str fileS (u + 1)],#[]⟩
def ent (P:Params) (s:Str) (t:Nat) (v:Value):DictEntry:=⟨PyData.keyHash P s,.str s t,v⟩
def dO (es:List DictEntry) (n:Nat):Obj:=⟨.type "dict",none,.dict es.toArray n,#[]⟩
structure Got where
 os:List Obj
 en:List DictEntry
 tb:List Value
def fO (P:Params) (md:Value) (a t:Nat) (name:Str) (args:Arguments) (body:List Stmt) (scope:Scope) (bind:Str) (pos:Pos):Got :=
 let fd:FuncData:=⟨name,bind,args,.stmts body,scope,0,[],.none,.none,.none,.none,none,.none,.none,0⟩
 let k (vs cs:Value) (b u:Nat) (h:List Obj):Got :=
  ⟨h++[⟨.none,none,.func fd,#[]⟩,cdO name bind t pos.line args.args.length 3 (.ref a) true (.ref (a + 1)) vs cs (.ref b) u,
   ⟨.type "function",none,.func ⟨name,bind,args,.stmts body,scope,3,[],.none,.none,.none,md,none,.ref (b + 1),.none,0⟩,#[]⟩],
   [ent P name (u + 2) (.ref (b + 2))],[.int pos.line 0,.int pos.col 0,.ref (b + 1)]⟩
 match localNames args scope (.stmts body) with
 | none=>k .none .none (a + 2) (t + 3) [sT [],fE []]
 | some (vs,cs)=>k (.ref (a + 2)) (.ref (a + 3)) (a + 4) (t + 3 + vs.length + cs.length) [sT [],fE [],sT (tks vs (t + 3)),sT (tks cs (t + 3 + vs.length))]
/-- the base class's address, and its bases; none: ValueError -/
def mro0:List Value:=[.type "ValueError",.type "Exception",.type "BaseException",.type "object"]
def clO (P:Params) (md:Value) (a t:Nat) (base:Option Nat) (sub:List Value) (name bind:Str) (pos:Pos):Got :=
 let l:Int:=pos.line
 let w:=base.isNone
 let C:=a + 9 - (if w then 0 else 0)
 let bs:Value:=match base with | none=>.type "ValueError" | some b=>.ref b
 let e1:=ent P (Str.ofString "__module__") (t + 7) md
 let e2:=ent P (Str.ofString "__firstlineno__") (t + 11) (.int l (t + 10))
 let e3:=ent P (Str.ofString "__static_attributes__") (t + 12) (.ref (a + 7))
 ⟨[sT [bs],⟨.type "builtin_function_or_method",none,.fields #[.builtin "type.__prepare__",.type "type"],#[]⟩,
  dO [e1,ent P (Str.ofString "__qualname__") (t + 9) (.str bind (t + 8)),e2,e3] 4,sT [],fE [],
  cdO name bind (t + 2) l 0 0 (.ref (a + 3)) false (.ref (a + 4)) .none .none .none (t + 5),
  ⟨.type "frame",none,.plain,#[some (.ref (a + 5)),some (.ref 3),some (.ref (a + 2)),none,some md,none,some (.ref 0)]⟩,sT [],
  dO (e1::e2::e3::(if w then [ent P (Str.ofString "__weakref__") (t + 14) (.ref (a + 10)),ent P (Str.ofString "__doc__") (t + 15) .none] else [ent P (Str.ofString "__doc__") (t + 13) .none])) (if w then 3 else 2),
  ⟨.type "type",none,.cls ⟨name,[bs],.ref C::(match base with | none=>mro0 | some b=>.ref b::mro0),a + 8,bind,true,[],sub,false,none,false⟩,
   #[some (.ref a),none,some (.str name t),some (.str bind (t + 8)),some (.builtin "ValueError.__new__"),some (.bool true)]⟩] ++
  (if w then [⟨.type "getset_descriptor",none,.fields #[.str (Str.ofString "__weakref__") (t + 13),.ref C,.builtin "ExceptionGroup.__weakref__",.none],#[]⟩] else []) ++
  [⟨.type "super",none,.fields #[.ref C,.ref C,.ref C],#[]⟩,⟨.type "builtin_function_or_method",none,.fields #[.builtin "object.__init_subclass__",.ref C],#[]⟩],
  [ent P name (t + (if w then 17 else 15)) (.ref C)],[.int l 0,.int pos.col 0,.ref (a + 5)]⟩
/-- what a statement leaves, where the chunks cs are behind it -/
def got (p:Program) (P:Params) (cs:List Ch) (c:Ch):Got:=match stt p c.i with
 | .FunctionDef name args body _ _ _ scope _ bind pos=>fO P (mdV p c) c.a c.t name args body scope bind pos
 | .ClassDef name _ _ _ _ _ _ _ bind _ pos=>clO P (mdV p c) c.a c.t (if c.b == 0 then none else some c.b) (cs.filterMap fun d=>if d.b == c.a + 9 then some (.ref (d.a + 9)) else none) name bind pos
 | _=>⟨[],[],[]⟩
/-- the module's name as the last statement set it -/
def nameNow (p:Program) (cs:List Ch):Option Value:=match cs.getLast? with
 | some c=>some (mdV p { c with j:=c.j,u:=c.u })
 | none=>none
def setName (P:Params) (v:Option Value):List DictEntry->List DictEntry
 | e::r=>(match v with | some v=>{ e with val:=v } | none=>e)::r
 | []=>[]
def globO (p:Program) (P:Params) (cs:List Ch) (en:List DictEntry):Obj->Obj
 | ⟨c,d,.dict es n,s⟩=>⟨c,d,.dict (setName P (nameNow p cs) es.toList++en).toArray (n + en.length),s⟩
 | o=>o
/-- the objects behind the chunks cs, where B are those of the boot -/
def objs (p:Program) (P:Params) (B:List Obj) (cs:List Ch):List Obj :=
 let gs:=cs.map (got p P cs)
 match B with
 | b0::b1::b2::b3::r=>b0::b1::b2::globO p P cs (gs.flatMap (·.en)) b3::(r++(sT []::fE (gs.flatMap (·.tb)) ::
  cdO (Str.ofString "<module>") (Str.ofString "<module>") 182 1 0 0 (.ref 11) false (.ref 12) .none .none .none 185 ::
  ⟨.type "frame",none,.plain,#[some (.ref 13),some (.ref 3),some (.ref 3),none,some (.str (Str.ofString "__main__") 164),none,some (.ref 0)]⟩::gs.flatMap (·.os)))
 | _=>[]
def spl:List Obj->List Obj × List Obj
 | []=>([],[])
 | x::r=>(x::(spl r).2,(spl r).1)
def braun:Nat->List Obj->BT
 | 0,_=>.nil
 | _ + 1,[]=>.nil
 | f + 1,o::r=>.node o (braun f (spl r).1) (braun f (spl r).2)
/-- where a piece ends: the statements behind, the next address, the next token -/
structure Cut where
 k:Nat
 n:Nat
 t:Nat
def hpT (p:Program) (B:Params->List Obj) (cs:List Ch) (c:Cut) (P:Params):Heap:=absHeap (braun 12 (objs p P (B P) (cs.take c.k))) c.n {}
def stT (p:Program) (B:Params->List Obj) (D:Drawn) (cs:List Ch) (c:Cut) (w:World) (os:OsState):SharedT :=
 ⟨braun 12 (objs p w.params (B w.params) (cs.take c.k)),c.n,{},Array.mk [],D,c.t,os⟩
def env (p:Program):Env:={ scope:=p.main.scope,locals:=mainNs,globals:=mainNs,cells:=[],code:=.ref 13,frame:=some 14 }
def cE (p:Program):Code:=.body p.main.body (env p)
def pos0:Pos:=⟨0,0,0,0⟩
def posOf (p:Program):Nat->Pos
 | 0=>pos0
 | k + 1=>match stt p k with
  | .Assign [.Name _ q] _ _=>q
  | .FunctionDef _ _ _ _ _ _ _ _ _ q=>q
  | .ClassDef _ _ _ _ _ _ _ _ _ _ q=>q
  | _=>pos0
def ann0:Option Value:=some (.ref 6)
def PieceT (p:Program) (B:Params->List Obj) (D:Drawn) (cs:List Ch) (a b:Cut) (N:Nat):Prop:=∀ w:World,
 (fun os=>segRunT treeTable p w 11 ann0 1 N (stT p B D cs a w os) (piecesOf ((p.main.body.drop a.k).take (b.k - a.k)) (env p) (cE p) (posOf p a.k) [topFrame pos0]))=fun os=>some (Flow.next,stT p B D cs b w os,cE p,posOf p b.k)
def PreT (p:Program) (B:Params->List Obj) (D:Drawn) (h:Params->Heap) (t:Nat) (cs:List Ch) (a:Cut):Prop:=∀ w:World,
 (fun os=>topGo treeTable p w 11 ann0 12 ⟨h w.params,Array.mk [],D,t,os⟩ (topStub p))=fun os=>some ((stT p B D cs a w os).abs,⟨denote treeTable (cE p),cE p,pos0,[topFrame pos0]⟩)
def BlockT (p:Program):Prop:=∀ (w:World) (s:Shared),segRun treeTable p w 11 ann0 1 1 s (blockOf p.main.body (env p) (cE p) pos0 [topFrame pos0])=some (.next,s,cE p,pos0)
noncomputable def boots (P:Params):List Obj:=[boot_o_0 P,boot_o_1 P,boot_o_2 P,boot_o_3 P,boot_o_4 P,boot_o_5 P,boot_o_6 P,boot_o_7 P,boot_o_8 P,boot_o_9 P,boot_o_10 P]
/-- the statements of the view -/
def qv (p:Program) (is:List Nat):Program:={ p with main:={ p.main with body:=is.map (stt p) } }
def nmO:Stmt->Option Str
 | .FunctionDef n ..=>some n
 | .ClassDef n ..=>some n
 | _=>none
def lz (p:Program) (is:List Nat) (n:Nat):List Str:=(List.range n).filterMap fun i=>if is.contains i then none else nmO (stt p i)
/-- what the law's run never changes: the globals, each def's code and object, each class with its names -/
def kk (a:Nat) (g:Got):List (Nat × Obj):=match g.os with
 | [_,_,_,c,f]=>[(a + 3,c),(a + 4,f)]
 | [_,_,_,_,_,c,f]=>[(a + 5,c),(a + 6,f)]
 | _::_::_::_::_::_::_::_::d::C::_=>[(a + 8,d),(a + 9,C)]
 | _=>[]
def Kf (p:Program) (B:Params->List Obj) (cs:List Ch) (P:Params):Frag :=
 let gs:=cs.map (got p P cs)
 (3,globO p P cs (gs.flatMap (·.en)) ((B P).getD 3 (sT [])))::(cs.zip gs).flatMap fun c=>kk c.1.a c.2
def LookA (p:Program) (B:Params->List Obj) (D:Drawn) (h:Params->Heap) (cs:List Ch) (c:Cut):Prop:=∀ w:World,(fun os =>
  (staticsOk (importedModules p.main.body) (h w.params) (hpT p B cs c w.params) && namesBound p (hpT p B cs c w.params) && gensDone ⟨hpT p B cs c w.params,Array.mk [],D,c.t,os⟩ && laidKept (h w.params) (hpT p B cs c w.params)))=fun _:OsState=>true
def LookB (p:Program) (B:Params->List Obj) (D:Drawn) (cs:List Ch) (c:Cut) (is:List Nat) (rc:WRecords):Prop:=∀ w:World,(fun os =>
  openSeen (qv p is) (lz p is c.k) (importedModules p.main.body) (fun s=>xlAt (qv p is) [] s && recOk rc s) true ⟨hpT p B cs c w.params,Array.mk [],D,c.t,os⟩)=fun _:OsState=>openGood (qv p is) (lz p is c.k)
def LookC (p:Program) (B:Params->List Obj) (cs:List Ch) (c:Cut) (as:List Nat):Prop:=∀ w:World,as.map (hpT p B cs c w.params).get?=(Kf p B cs w.params).map fun p=>some p.2
section
variable {p:Program} {D:Drawn} {cs:List Ch}
theorem fin_any {w:World} {s:Shared} {c:Code} {q:Pos}:topRun treeTable p w 11 ann0 2 s ⟨doneF .next,c,q,[topFrame pos0]⟩=some s:=rfl
theorem chain_end {w:World} {os:OsState} {c:Cut} (h:p.main.body.drop c.k=[]) :
  topRun treeTable p w 11 ann0 2 (stT p boots boot_drawn cs c w os).abs (restOf (p.main.body.drop c.k) (env p) (cE p) (posOf p c.k) [topFrame pos0])=some (stT p boots boot_drawn cs c w os).abs:=by
 rw[h];exact piece_nil fin_any
theorem chain {w:World} {os:OsState} {a b:Cut} {N M:Nat} {r:Shared} (h:PieceT p boots boot_drawn cs a b N) (le:a.k≤b.k)
  (k:topRun treeTable p w 11 ann0 M (stT p boots boot_drawn cs b w os).abs (restOf (p.main.body.drop b.k) (env p) (cE p) (posOf p b.k) [topFrame pos0])=some r) :
  topRun treeTable p w 11 ann0 (N + M) (stT p boots boot_drawn cs a w os).abs (restOf (p.main.body.drop a.k) (env p) (cE p) (posOf p a.k) [topFrame pos0])=some r:=by
 have e:p.main.body.drop a.k=(p.main.body.drop a.k).take (b.k - a.k)++p.main.body.drop b.k:=by
  have x:=(List.take_append_drop (b.k - a.k) (p.main.body.drop a.k)).symm
  rw[List.drop_drop,Nat.add_sub_cancel' le] at x;exact x
 rw[e];exact piece_app (segRun_of (congrFun (h w) os)) k
theorem run_all {w:World} {os:OsState} {M:Nat} {r:Shared} (pre:PreT p boots boot_drawn boot_heap boot_toks cs ⟨0,15,187⟩) (bl:BlockT p)
  (k:topRun treeTable p w 11 ann0 M (stT p boots boot_drawn cs ⟨0,15,187⟩ w os).abs (restOf (p.main.body.drop 0) (env p) (cE p) (posOf p 0) [topFrame pos0])=some r) :
  topRun treeTable p w 11 ann0 (12 + (1 + M)) ⟨boot_heap w.params,Array.mk [],boot_drawn,boot_toks,os⟩ (topStub p)=some r :=
 go_top (congrFun (pre w) os) (piece_block (bl w _) k)
theorem left_of {is as:List Nat} {rc:WRecords} {c:Cut} {M N:Nat} {e:∀ P,as=(Kf p boots cs P).map (·.1)}
  (op:opening p=plainProg p.main.scope.names) (hN:Nat.ble 600 N=true) (fe:∀ s,fenceModules? p s=some s)
  (size:∀ w:World,((boot_heap w.params).isNs mainGlobals && (Array.mk []:Array GenState).size == 0,(boot_heap w.params).objs.size,(boot_heap w.params).nsMap mainGlobals "__annotations__")=(true,11,ann0))
  (run:∀ (w:World) (os:OsState),topRun treeTable p w 11 ann0 M ⟨boot_heap w.params,Array.mk [],boot_drawn,boot_toks,os⟩ (topStub p)=some (stT p boots boot_drawn cs c w os).abs) (le:Nat.ble M N=true)
  (hA:LookA p boots boot_drawn boot_heap cs c) (hB:LookB p boots boot_drawn cs c is rc) (hC:LookC p boots cs c as) :
  LeftO p (qv p is) (lz p is c.k) (fun s=>xlAt (qv p is) [] s && recOk rc s) (Hook.obs (kHook (Kf p boots cs) as e)) (Hook.val (kHook (Kf p boots cs) as e)) N :=
 LeftO.of_pieces (H₀:=boot_heap) (H₁:=hpT p boots cs c) (boot_open op hN fe) size run le fun w=>funext fun os=>by
  have a:=congrFun (hA w) os
  have b:=congrFun (hB w) os
  have c:=hC w
  exact looks_pair a (looks_pair b c)
end
end Hx
namespace Me
open PySem PySem.Spec PyProof.Rows L2 L3
def top (i:Nat):Stmt:=PySem.Challenge.pw_thinways_k50_partings.main.body.getD i (.Pass ⟨0,0,0,0⟩)
abbrev s_whole:Stmt:=top 1
theorem sc_whole:FnScope ["web"] ["web"] (defScope s_whole):=⟨rfl,rfl,rfl,by decide +kernel,rfl,by decide +kernel,by decide +kernel⟩
abbrev s_tie_between:Stmt:=top 2
theorem sc_tie_between:FnScope ["web","a","b","ends","number","tie"] ["web","a","b"] (defScope s_tie_between):=⟨rfl,rfl,rfl,by decide +kernel,rfl,by decide +kernel,by decide +kernel⟩
abbrev s_ties_along:Stmt:=top 4
theorem sc_ties_along:FnScope ["web","places"] ["web","places"] (defScope s_ties_along):=⟨rfl,rfl,rfl,by decide +kernel,rfl,by decide +kernel,by decide +kernel⟩
abbrev s_tie_weights:Stmt:=top 5
theorem sc_tie_weights:FnScope ["web","weights","weight","tie"] ["web"] (defScope s_tie_weights):=⟨rfl,rfl,rfl,by decide +kernel,rfl,by decide +kernel,by decide +kernel⟩
abbrev s_cost_with:Stmt:=top 6
theorem sc_cost_with:FnScope ["cost","length","weight"] ["cost","length","weight"] (defScope s_cost_with):=⟨rfl,rfl,rfl,by decide +kernel,rfl,by decide +kernel,by decide +kernel⟩
abbrev s_reached_from:Stmt:=top 7
theorem sc_reached_from:FnScope ["web","keep","root","weights","costs","ahead","again","tie","a","b","length","one","other","cost"] ["web","keep","root"] (defScope s_reached_from):=⟨rfl,rfl,rfl,by decide +kernel,rfl,by decide +kernel,by decide +kernel⟩
abbrev s_fars_from:Stmt:=top 8
theorem sc_fars_from:FnScope ["web","keep","root","costs","ahead"] ["web","keep","root"] (defScope s_fars_from):=⟨rfl,rfl,rfl,by decide +kernel,rfl,by decide +kernel,by decide +kernel⟩
abbrev s_tree_from:Stmt:=top 9
theorem sc_tree_from:FnScope ["web","keep","root","costs","ahead"] ["web","keep","root"] (defScope s_tree_from):=⟨rfl,rfl,rfl,by decide +kernel,rfl,by decide +kernel,by decide +kernel⟩
abbrev s_the_way:Stmt:=top 10
theorem sc_the_way:FnScope ["web","keep","a","b","tree","way"] ["web","keep","a","b"] (defScope s_the_way):=⟨rfl,rfl,rfl,by decide +kernel,rfl,by decide +kernel,by decide +kernel⟩
abbrev s_heights_from:Stmt:=top 12
theorem sc_heights_from:FnScope ["web","keep","a","roof"] ["web","keep","a","roof"] (defScope s_heights_from):=⟨rfl,rfl,rfl,by decide +kernel,rfl,by decide +kernel,by decide +kernel⟩
abbrev s_web_heights:Stmt:=top 14
theorem sc_web_heights:FnScope ["web","place"] ["web","place"] (defScope s_web_heights):=⟨rfl,rfl,rfl,by decide +kernel,rfl,by decide +kernel,by decide +kernel⟩
abbrev s_ties_of_ways:Stmt:=top 16
theorem sc_ties_of_ways:FnScope ["web","ways","ties","way"] ["web","ways"] (defScope s_ties_of_ways):=⟨rfl,rfl,rfl,by decide +kernel,rfl,by decide +kernel,by decide +kernel⟩
abbrev s_pairs_told:Stmt:=top 17
theorem sc_pairs_told:FnScope ["web","pairs","ways","heights"] ["web","pairs"] (defScope s_pairs_told):=⟨rfl,rfl,rfl,by decide +kernel,rfl,by decide +kernel,by decide +kernel⟩
abbrev s_shared_by:Stmt:=top 18
theorem sc_shared_by:FnScope ["one","other"] ["one","other"] (defScope s_shared_by):=⟨rfl,rfl,rfl,by decide +kernel,rfl,by decide +kernel,by decide +kernel⟩
abbrev s_partings:Stmt:=top 19
theorem sc_partings:FnScope ["ways","told","j","other","i","one","shared"] ["ways"] (defScope s_partings):=⟨rfl,rfl,rfl,by decide +kernel,rfl,by decide +kernel,by decide +kernel⟩
abbrev s__law_pot:Stmt:=top 21
theorem sc__law_pot:FnScope ["script","k","cell","prime"] ["script","k"] (defScope s__law_pot):=⟨rfl,rfl,rfl,by decide +kernel,rfl,by decide +kernel,by decide +kernel⟩
abbrev s__law_take:Stmt:=top 22
theorem sc__law_take:FnScope ["pot","many","found"] ["pot","many"] (defScope s__law_take):=⟨rfl,rfl,rfl,by decide +kernel,rfl,by decide +kernel,by decide +kernel⟩
abbrev s__law_length:Stmt:=top 23
theorem sc__law_length:FnScope ["pot","way"] ["pot","way"] (defScope s__law_length):=⟨rfl,rfl,rfl,by decide +kernel,rfl,by decide +kernel,by decide +kernel⟩
abbrev s__law_tied:Stmt:=top 24
theorem sc__law_tied:FnScope ["pot","n","style","a","b","beside"] ["pot","n","style","a","b"] (defScope s__law_tied):=⟨rfl,rfl,rfl,by decide +kernel,rfl,by decide +kernel,by decide +kernel⟩
abbrev s__law_order:Stmt:=top 25
theorem sc__law_order:FnScope ["pot","many","left","found","turn"] ["pot","many"] (defScope s__law_order):=⟨rfl,rfl,rfl,by decide +kernel,rfl,by decide +kernel,by decide +kernel⟩
abbrev s__law_web:Stmt:=top 26
theorem sc__law_web:FnScope ["pot","most","n","style","way","names","ties","b","a","one","other"] ["pot","most"] (defScope s__law_web):=⟨rfl,rfl,rfl,by decide +kernel,rfl,by decide +kernel,by decide +kernel⟩
abbrev s__law_pairs:Stmt:=top 28
theorem sc__law_pairs:FnScope ["pot","n","way","rare","one","found","a","b"] ["pot","n"] (defScope s__law_pairs):=⟨rfl,rfl,rfl,by decide +kernel,rfl,by decide +kernel,by decide +kernel⟩
abbrev s__law_partings:Stmt:=top 29
theorem sc__law_partings:FnScope ["ways","found","i","j","places"] ["ways"] (defScope s__law_partings):=⟨rfl,rfl,rfl,by decide +kernel,rfl,by decide +kernel,by decide +kernel⟩
abbrev s_law:Stmt:=top 30
theorem sc_law:FnScope ["script","at","pot","web","ways","found"] ["script"] (defScope s_law):=⟨rfl,rfl,rfl,by decide +kernel,rfl,by decide +kernel,by decide +kernel⟩
section
variable {P:Program} {w:World} {K:PySem.W.Frag} {mg:Str->Option Value} {base:Heap}
theorem ok__law_take (T:Bi mg) (D:DefOk K mg "_law_take" s__law_take ["pot","many"]):Ok P w K mg base 1 "_law_take" ["pot","many"] spTake:=by
 refine mk_ok (k:=0) D sc__law_take (fun vs H Q E h=>?_) (fun f cdv A outer s H vs Q E hr h=>?_)
 ·obtain⟨p,m,rfl,_⟩:=h
  rfl
 obtain⟨p,m,rfl,⟨a,b,hp,ha,hb,hb2⟩,hm,hm2,q⟩:=h
 have nd:=sc__law_take.nd
 refine⟨_,(pss_cons (ps_if (pt_cmpR op_gt (pe_ix ix_list (pv 0) pe_int (fun _ _=>rfl)) pe_int (nomark _)) (pss_cons (ps_set (i:=2) nd rfl (Or.inl rfl) (pe_op op_mod (pe_ix ix_list (pv 0) pe_int (fun _ _=>rfl)) (pv 1))) (pss_cons (ps_asg (pe_op op_fdiv (pe_ix ix_list (pv 0) pe_int (fun _ _=>rfl)) (pv 1)) (pg_sub (pv 0) pe_int set_list)) (pss_one (ps_ret (pv 2))))) pss_nil) (pss_cons (ps_asg (pe_op op_mod (pe_op op_add (pe_op op_mul (pe_ix ix_list (pv 0) pe_int (fun _ _=>rfl)) pe_int) pe_int) pe_int) (pg_sub (pv 0) pe_int set_list)) (pss_one (ps_ret (pe_op op_mod (pe_op op_fdiv (pe_op op_mod (pe_op op_pow (pe_ix ix_list (pv 0) pe_int (fun _ _=>rfl)) pe_int) pe_int) pe_int) (pv 1)))))),?_⟩
 refine⟨_,rfl,p,_,_,_,rfl,rfl,SqL.of hp,rfl,_,_,rfl,rfl,_,rfl,?_⟩
 refine ite2 (fun c=>?_) (fun c=>?_)
 ·refine⟨_,rfl,p,_,_,_,rfl,rfl,SqL.of hp,rfl,_,rfl,_,_,rfl,rfl,hm,?_⟩
  refine⟨_,rfl,p,_,_,_,rfl,rfl,SqL.of hp,rfl,_,rfl,_,_,rfl,rfl,⟨hm,hm2⟩,?_⟩
  refine⟨_,rfl,p,_,0,0,rfl,rfl,hp,rfl,_,rfl,?_⟩
  refine q _ _ (Int.emod_nonneg _ (by omega)) (Int.emod_lt_of_pos _ hm) But.upd ⟨a / m,b,upd_same,Int.ediv_nonneg ha (by omega),hb,hb2⟩
 ·refine⟨_,rfl,p,_,_,_,rfl,rfl,SqL.of hp,rfl,_,_,rfl,rfl,.inr ⟨by decide,by decide⟩,_,_,rfl,rfl,_,_,rfl,rfl,(by show (0:Int) < 2147483647;decide),?_⟩
  refine⟨_,rfl,p,_,1,1,rfl,rfl,hp,rfl,?_⟩
  have n1:0≤(b * 48271 + 12820163) % 2147483647:=Int.emod_nonneg _ (by decide)
  have n2:(b * 48271 + 12820163) % 2147483647 < 2147483647:=Int.emod_lt_of_pos _ (by decide)
  refine⟨_,rfl,p,_,_,_,rfl,rfl,SqL.of upd_same,rfl,_,_,rfl,rfl,⟨by decide,by decide,by omega⟩,_,_,rfl,rfl,(by show (0:Int) < 2147483629;decide),_,_,rfl,rfl,⟨by decide,by decide⟩,_,rfl,_,_,rfl,rfl,hm,?_⟩
  exact q _ _ (Int.emod_nonneg _ (by omega)) (Int.emod_lt_of_pos _ hm) But.upd ⟨a,_,upd_same,ha,n1,n2⟩
theorem ok__law_pot (T:Bi mg) (D:DefOk K mg "_law_pot" s__law_pot ["script","k"]):Ok P w K mg base 1 "_law_pot" ["script","k"] (spPot K):=by
 refine mk_ok (k:=0) D sc__law_pot (fun vs H Q E h=>?_) (fun f cdv A outer s H vs Q E hr h=>?_)
 ·obtain⟨a,k,ns,rfl,_⟩:=h
  rfl
 obtain⟨a,k,ns,rfl,hS,hk0,hk1,q⟩:=h
 have nd:=sc__law_pot.nd
 have hl:(ns.map V.int).length=ns.length:=List.length_map _
 refine⟨_,(pss_cons (ps_set (i:=2) nd rfl (Or.inl rfl) pe_int) (pss_cons (ps_if (pt_cmpR op_lt (pv 1) (pe_callB call_len_seq rfl T.z_len (by decide +kernel) (pa_cons (pv 0) pa_nil)) (nomark _)) (pss_one (ps_set (i:=2) nd rfl (Or.inl rfl) (pe_op op_mod (pe_ix ix_list (pv 0) (pv 1) (fun _ _=>rfl)) (pe_op op_mulB (pe_op op_mulB (pe_op op_pow pe_int pe_int) (pe_op op_pow pe_int pe_int)) (pe_op op_pow pe_int pe_int))))) pss_nil) (pss_cons (ps_set (i:=3) nd rfl (Or.inl rfl) (pe_ix ix_list (pe_lst (pa_cons pe_int (pa_cons pe_int (pa_cons pe_int (pa_cons pe_int (pa_cons pe_int pa_nil)))))) (pe_op op_mod (pv 1) pe_int) (fun _ _=>rfl))) (pss_one (ps_ret (pe_lst (pa_cons (pe_callB (call_max2 rfl) rfl T.z_max (by decide +kernel) (pa_cons pe_int (pa_cons (pe_op op_sub (pv 2) (pe_op op_pow pe_int pe_int)) pa_nil))) (pa_cons (pe_op op_mod (pe_op op_pow (pe_op op_add (pe_op op_add (pe_op op_mod (pv 2) (pv 3)) (pe_op op_mul pe_int (pv 1))) pe_int) pe_int) pe_int) pa_nil)))))))),?_⟩
  -- behind the test: cell is some number that is not below nought
 have rest : ∀ (cell : Int), 0 ≤ cell → ∀ (σ : L2.St), σ = [some (.ref a), some (.int k), some (.int cell), none] →
     (tSeq (tAsg (tOp (rIxL K) (tLst (tCons (tC (.int 2147483629)) (tCons (tC (.int 2147483587)) (tCons (tC (.int 2147483579)) (tCons (tC (.int 2147483563)) (tCons (tC (.int 2147483549)) tNil)))))) (tOp (rI (fun _ j=>0 < j) fun i j=>.int (i % j)) (tVar 1) (tC (.int 5)))) (gName 3))
       (tRet (tLst (tCons (tCB (fun xs H Q=>∃ i j,xs=[.int i,.int j]∧Q (.int (if j > i then j else i)) H) (tCons (tC (.int 0)) (tCons (tOp (rI0 fun i j=>.int (i - j)) (tVar 2) (tOp (rI CPow fun i j=>.int (i ^ j.toNat)) (tC (.int 10)) (tC (.int 18)))) tNil)))
         (tCons (tOp (rI (fun _ j=>0 < j) fun i j=>.int (i % j)) (tOp (rI CPow fun i j=>.int (i ^ j.toNat)) (tOp (rI0 fun i j=>.int (i + j)) (tOp (rI0 fun i j=>.int (i + j)) (tOp (rI (fun _ j=>0 < j) fun i j=>.int (i % j)) (tVar 2) (tVar 3)) (tOp (rI CMul fun i j=>.int (i * j)) (tC (.int 7919)) (tVar 1))) (tC (.int 11))) (tC (.int 3))) (tC (.int 2147483647))) tNil)))))
       { nx:=fun _ H'=>Q .non H',rt:=Q } σ H:=by
  intro cell hc σ hσ
  subst hσ
  refine⟨(by show 5≤sizeLine;decide),fun l hl=>?_⟩
  refine⟨_,rfl,_,_,rfl,rfl,(by show (0:Int) < 5;decide),?_⟩
  have m0:0≤k % 5:=Int.emod_nonneg _ (by decide)
  have m1:k % 5 < 5:=Int.emod_lt_of_pos _ (by decide)
  have pr:∃ v:Int,atI [V.int 2147483629,V.int 2147483587,V.int 2147483579,V.int 2147483563,V.int 2147483549] (k % 5)=some (.int v)∧2147483549≤v∧v≤2147483629:=by
   have:k % 5=0∨k % 5=1∨k % 5=2∨k % 5=3∨k % 5=4:=by omega
   rcases this with e | e | e | e | e <;> rw[e] <;> exact⟨_,rfl,by decide,by decide⟩
  obtain⟨v,hv,v1,v2⟩:=pr
  refine⟨l,_,_,_,rfl,rfl,SqL.of upd_same,hv,?_⟩
  have S1:Same H (upd H l (.lst [V.int 2147483629,V.int 2147483587,V.int 2147483579,V.int 2147483563,V.int 2147483549])):=same_new hl
  refine⟨_,rfl,_,_,rfl,rfl,⟨by decide,by decide,by decide⟩,_,_,rfl,rfl,_,_,rfl,?_⟩
  refine⟨_,rfl,_,rfl,_,_,rfl,rfl,(by show (0:Int) < v;omega),_,rfl,_,_,rfl,rfl,.inl ⟨by decide,by decide⟩,_,_,rfl,rfl,_,_,rfl,rfl,_,_,rfl,rfl,⟨by decide,by decide,?_⟩,_,_,rfl,rfl,(by show (0:Int) < 2147483647;decide),?_⟩
  ·have c0:0≤cell % v:=Int.emod_nonneg _ (by omega)
   have c1:cell % v < v:=Int.emod_lt_of_pos _ (by omega)
   omega
  refine⟨(by show 2≤sizeLine;decide),fun l2 hl2=>?_⟩
  refine q l2 _ (S1.trans (same_new hl2)) (S1.free hl2) ⟨_,_,upd_same,?_,Int.emod_nonneg _ (by decide),Int.emod_lt_of_pos _ (by decide)⟩
  split <;> omega
 refine⟨_,rfl,_,rfl,a,_,rfl,.inl hS,_,_,rfl,rfl,_,rfl,?_⟩
 refine ite2 (fun c=>?_) (fun c=>?_)
 ·have c':k < (((ns.map V.int).length:Nat):Int):=of_decide_eq_true c
  rw[hl] at c'
  obtain⟨v,hv⟩:∃ v:Int,atI (ns.map V.int) k=some (.int v):=by
   have hk:k.toNat < ns.length:=by omega
   have ek:k=((k.toNat:Nat):Int):=by omega
   have z:atI (ns.map V.int) ((k.toNat:Nat):Int)=some (.int ns[k.toNat]):=atI_nat (by rw[List.getElem?_map,List.getElem?_eq_getElem hk] <;> rfl)
   rw[← ek] at z
   exact⟨_,z⟩
  refine⟨_,rfl,_,rfl,a,_,_,_,rfl,rfl,hS,hv,?_⟩
  refine⟨_,_,rfl,rfl,⟨by decide,by decide,by decide⟩,_,_,rfl,rfl,⟨by decide,by decide,by decide⟩,_,_,rfl,rfl,mulB,_,_,rfl,rfl,⟨by decide,by decide,by decide⟩,_,_,rfl,rfl,mulB2,_,_,rfl,rfl,posB,?_⟩
  exact rest _ (Int.emod_nonneg _ (by have:=posB;omega)) _ rfl
 ·exact rest 5 (by decide) _ rfl
theorem ok__law_length (T:Bi mg) (D:DefOk K mg "_law_length" s__law_length ["pot","way"]) (O__law_take:Ok P w K mg base 1 "_law_take" ["pot","many"] spTake):Ok P w K mg base 2 "_law_length" ["pot","way"] spLength:=by
 refine mk_ok (k:=1) D sc__law_length (fun vs H Q E h=>?_) (fun f cdv A outer s H vs Q E hr h=>?_)
 ·obtain⟨p,y,rfl,_⟩:=h
  rfl
 obtain⟨p,y,rfl,hp,hy0,hy5,q⟩:=h
 have nd:=sc__law_length.nd
 refine⟨_,(pss_cons (ps_if (pt_cmpR op_lt (pv 1) pe_int (nomark _)) (pss_one (ps_ret (pe_ix ix_list (pe_lst (pa_cons pe_int (pa_cons (pe_op op_add pe_int (pe_callD O__law_take hr rfl (pa_cons (pv 0) (pa_cons pe_int pa_nil)))) pa_nil))) (pv 1) (fun _ _=>rfl)))) pss_nil) (pss_cons (ps_if (pt_cmpR op_eq (pv 1) pe_int (nomark _)) (pss_one (ps_ret (pe_op op_add pe_int (pe_callD O__law_take hr rfl (pa_cons (pv 0) (pa_cons pe_int pa_nil)))))) pss_nil) (pss_cons (ps_if (pt_cmpR op_eq (pv 1) pe_int (nomark _)) (pss_one (ps_ret (pe_ix ix_list (pe_lst (pa_cons pe_int (pa_cons pe_int (pa_cons pe_int (pa_cons (pe_op op_pow pe_int pe_int) (pa_cons (pe_op op_sub (pe_op op_pow pe_int pe_int) pe_int) (pa_cons (pe_op op_pow pe_int pe_int) pa_nil))))))) (pe_callD O__law_take hr rfl (pa_cons (pv 0) (pa_cons pe_int pa_nil))) (fun _ _=>rfl)))) pss_nil) (pss_one (ps_ret (pe_op op_add pe_int (pe_op op_mul (pe_callD O__law_take hr rfl (pa_cons (pv 0) (pa_cons (pe_op op_pow pe_int pe_int) pa_nil))) (pe_callD O__law_take hr rfl (pa_cons (pv 0) (pa_cons (pe_op op_add (pe_op op_pow pe_int pe_int) pe_int) pa_nil)))))))))),?_⟩
 refine⟨_,rfl,_,_,rfl,rfl,_,rfl,?_⟩
 refine ite2 (fun c=>?_) (fun c=>?_)
 ·have c':y < 2:=of_decide_eq_true c
  refine⟨_,rfl,p,3,rfl,hp,by decide,by decide,fun r H1 r0 r1 b1 p1=>?_⟩
  refine⟨_,_,rfl,rfl,(by show 2≤sizeLine;decide),fun l hl=>?_⟩
  have at_:∃ v:Int,atI [V.int 1,V.int (1 + r)] y=some (.int v)∧1≤v∧v≤10 ^ 18:=by
   have:y=0∨y=1:=by omega
   rcases this with e | e <;> rw[e]
   ·exact⟨1,rfl,by decide +kernel,by decide +kernel⟩
   ·exact⟨1 + r,rfl,by omega,by omega⟩
  obtain⟨v,hv,v0,v1⟩:=at_
  refine⟨_,rfl,l,_,_,_,rfl,rfl,SqL.of upd_same,hv,?_⟩
  obtain⟨a',b',e',z⟩:=p1
  exact q v _ v0 v1 (b1.trans (But.new hl)) ⟨a',b',(same_new hl) _ _ e',z⟩
 refine⟨_,rfl,rfl,_,rfl,?_⟩
 refine ite2 (fun c2=>?_) (fun c2=>?_)
 ·refine⟨_,rfl,p,50,rfl,hp,by decide,by decide,fun r H1 r0 r1 b1 p1=>?_⟩
  exact⟨_,_,rfl,rfl,q _ _ (by omega) (by omega) b1 p1⟩
 refine⟨_,rfl,rfl,_,rfl,?_⟩
 refine ite2 (fun c3=>?_) (fun c3=>?_)
 ·refine⟨_,_,rfl,rfl,⟨by decide,by decide,by decide⟩,_,_,rfl,rfl,⟨by decide,by decide,by decide⟩,_,_,rfl,rfl,_,_,rfl,rfl,⟨by decide,by decide,by decide⟩,(by show 6≤sizeLine;decide),fun l hl=>?_⟩
  have hp':Pot (upd H l (.lst [V.int 1,V.int 2,V.int 3,V.int ((10:Int) ^ (18:Int).toNat),V.int ((10:Int) ^ (18:Int).toNat - 1),V.int ((10:Int) ^ (17:Int).toNat)])) p:=by
   obtain⟨a',b',e',z⟩:=hp
   exact⟨a',b',(same_new hl) _ _ e',z⟩
  have lp:l≠p:=by
   obtain⟨a',b',e',z⟩:=hp
   exact fun e=>by rw[e,e'] at hl;cases hl
  refine⟨_,rfl,p,6,rfl,hp',by decide,by decide,fun r H1 r0 r1 b1 p1=>?_⟩
  have at_:∃ v:Int,atI [V.int 1,V.int 2,V.int 3,V.int ((10:Int) ^ (18:Int).toNat),V.int ((10:Int) ^ (18:Int).toNat - 1),V.int ((10:Int) ^ (17:Int).toNat)] r=some (.int v)∧1≤v∧v≤10 ^ 18:=by
   have:r=0∨r=1∨r=2∨r=3∨r=4∨r=5:=by omega
   rcases this with e | e | e | e | e | e <;> rw[e] <;> exact⟨_,rfl,by decide +kernel,by decide +kernel⟩
  obtain⟨v,hv,v0,v1⟩:=at_
  refine⟨l,_,_,_,rfl,rfl,SqL.of (b1 _ _ lp upd_same),hv,?_⟩
  exact q v _ v0 v1 ((But.new hl).trans b1) p1
 ·refine⟨_,rfl,_,_,rfl,rfl,⟨by decide,by decide,by decide⟩,p,_,rfl,hp,by decide,by decide,fun r H1 r0 r1 b1 p1=>?_⟩
  refine⟨_,rfl,_,_,rfl,rfl,⟨by decide,by decide,by decide⟩,_,_,rfl,rfl,p,_,rfl,p1,by decide,by decide,fun r2 H2 r20 r21 b2 p2=>?_⟩
  have e9:((10:Int) ^ (9:Int).toNat)=1000000000:=by decide
  rw[e9] at r1 r21
  refine⟨_,_,rfl,rfl,.inl ⟨by omega,by omega⟩,_,_,rfl,rfl,?_⟩
  have m0:0≤r * r2:=Int.mul_nonneg r0 r20
  have m1:r * r2≤999999999 * 1000000000:=Int.mul_le_mul (by omega) (by omega) r20 (by decide)
  exact q _ _ (by omega) (by omega) (b1.trans b2) p2
theorem ok__law_tied (T:Bi mg) (D:DefOk K mg "_law_tied" s__law_tied ["pot","n","style","a","b"]) (O__law_take:Ok P w K mg base 1 "_law_take" ["pot","many"] spTake):Ok P w K mg base 2 "_law_tied" ["pot","n","style","a","b"] spTied:=by
 refine mk_ok (k:=1) D sc__law_tied (fun vs H Q E h=>?_) (fun f cdv A outer s H vs Q E hr h=>?_)
 ·obtain⟨p,n,y,a,b,rfl,_⟩:=h
  rfl
 obtain⟨p,n,y,a,b,rfl,hp,q⟩:=h
 have nd:=sc__law_tied.nd
 have q0:∀ k,Q (.bl k) H:=fun k=>q k H But.refl hp
 refine⟨_,(pss_cons (ps_set (i:=5) nd rfl (Or.inl rfl) (pe_or (pe_cmpR op_eq (pe_op op_sub (pv 4) (pv 3)) pe_int (nomark _)) (pe_one (pe_cmpR op_eq (pe_op op_sub (pv 4) (pv 3)) (pe_op op_sub (pv 1) pe_int) (nomark _))))) (pss_cons (ps_if (pt_cmpR op_lt (pv 2) pe_int (nomark _)) (pss_one (ps_ret (pe_or (pv 5) (pe_one (pe_and (pe_cmpR op_eq (pv 2) pe_int (nomark _)) (pe_one (pe_cmpR op_eq (pe_callD O__law_take hr rfl (pa_cons (pv 0) (pa_cons pe_int pa_nil))) pe_int (nomark _)))))))) pss_nil) (pss_cons (ps_if (pt_cmpR op_lt (pv 2) pe_int (nomark _)) (pss_one (ps_ret (pe_cmpR op_eq (pe_cmpR op_gt (pe_callD O__law_take hr rfl (pa_cons (pv 0) (pa_cons pe_int pa_nil))) pe_int (nomark _)) (pe_cmpR op_eq (pv 2) pe_int (nomark _)) (nomark _)))) pss_nil) (pss_cons (ps_if (pt_cmpR op_eq (pv 2) pe_int (nomark _)) (pss_one (ps_ret (pe_or (pe_cmpR op_eq (pe_op op_sub (pv 4) (pv 3)) pe_int (nomark _)) (pe_one (pe_and (pe_cmpR op_eq (pe_op op_sub (pv 4) (pv 3)) pe_int (nomark _)) (pe_one (pe_cmpR op_gt (pe_op op_mod (pv 4) pe_int) pe_int (nomark _)))))))) pss_nil) (pss_cons (ps_if (pt_cmpR op_lt (pv 2) pe_int (nomark _)) (pss_one (ps_ret (pe_and (pe_cmpR op_eq (pe_cmpR op_eq (pe_op op_mod (pv 3) pe_int) (pe_op op_mod (pv 4) pe_int) (nomark _)) (pe_cmpR op_eq (pv 2) pe_int (nomark _)) (nomark _)) (pe_one (pe_cmpR op_gt (pe_callD O__law_take hr rfl (pa_cons (pv 0) (pa_cons pe_int pa_nil))) pe_int (nomark _)))))) pss_nil) (pss_one (ps_ret pe_bl))))))),?_⟩
 refine⟨_,rfl,_,rfl,_,_,rfl,rfl,rfl,_,rfl,?_⟩
 refine ite2 (fun c=>?_) (fun c=>?_)
 all_goals (try refine⟨_,rfl,_,rfl,_,_,rfl,rfl,_,rfl,_,_,rfl,rfl,rfl,?_⟩)
 all_goals
  refine⟨_,rfl,_,_,rfl,rfl,_,rfl,?_⟩
  refine ite2 (fun c1=>?_) (fun c1=>?_)
  ·refine⟨_,rfl,_,rfl,?_⟩
   refine ite2 (fun d=>?_) (fun d=>?_)
   ·exact q0 _
   ·refine⟨_,rfl,rfl,_,rfl,?_⟩
    refine ite2 (fun d=>?_) (fun d=>?_)
    ·exact⟨_,rfl,p,_,rfl,hp,by decide,by decide,fun r H' _ _ b1 p1=>⟨rfl,q _ _ b1 p1⟩⟩
    ·exact q0 _
  refine⟨_,rfl,_,_,rfl,rfl,_,rfl,?_⟩
  refine ite2 (fun c2=>?_) (fun c2=>?_)
  ·exact⟨_,rfl,p,_,rfl,hp,by decide,by decide,fun r H' _ _ b1 p1=>⟨_,_,rfl,rfl,_,rfl,rfl,rfl,q _ _ b1 p1⟩⟩
  refine⟨_,rfl,rfl,_,rfl,?_⟩
  refine ite2 (fun c3=>?_) (fun c3=>?_)
  ·refine⟨_,rfl,_,rfl,_,_,rfl,rfl,rfl,_,rfl,?_⟩
   refine ite2 (fun d=>?_) (fun d=>?_)
   ·exact q0 _
   ·refine⟨_,rfl,_,rfl,_,_,rfl,rfl,rfl,_,rfl,?_⟩
    refine ite2 (fun d=>?_) (fun d=>?_)
    ·exact⟨_,rfl,_,_,rfl,rfl,(by show (0:Int) < 3;decide),_,_,rfl,rfl,q0 _⟩
    ·exact q0 _
  refine⟨_,rfl,_,_,rfl,rfl,_,rfl,?_⟩
  refine ite2 (fun c4=>?_) (fun c4=>?_)
  ·refine⟨_,rfl,_,_,rfl,rfl,(by show (0:Int) < 2;decide),_,rfl,_,_,rfl,rfl,(by show (0:Int) < 2;decide),rfl,_,rfl,rfl,rfl,_,rfl,?_⟩
   refine ite2 (fun d=>?_) (fun d=>?_)
   ·exact⟨_,rfl,p,_,rfl,hp,by decide,by decide,fun r H' _ _ b1 p1=>⟨_,_,rfl,rfl,q _ _ b1 p1⟩⟩
   ·exact q0 _
  ·exact q0 _
theorem ok__law_order (T:Bi mg) (D:DefOk K mg "_law_order" s__law_order ["pot","many"]) (O__law_take:Ok P w K mg base 1 "_law_take" ["pot","many"] spTake):Ok P w K mg base 2 "_law_order" ["pot","many"] spOrder:=by
 refine mk_ok (k:=1) D sc__law_order (fun vs H Q E h=>?_) (fun f cdv A outer s H vs Q E hr h=>?_)
 ·obtain⟨p,m,rfl,_⟩:=h
  rfl
 obtain⟨p,m,rfl,hp,hm0,hm1,q⟩:=h
 have nd:=sc__law_order.nd
 refine⟨_,(pss_cons (ps_set (i:=2) nd rfl (Or.inl rfl) (pe_callTy (call_list_rng rfl) rfl T.z_list (by decide +kernel) (pa_cons (pe_callTy call_range rfl T.z_range (by decide +kernel) (pa_cons (pv 1) pa_nil)) pa_nil))) (pss_cons (ps_set (i:=3) nd rfl (Or.inl rfl) (pe_lst pa_nil)) (pss_cons (ps_for PassesOwn.never rfl (pi_range1 rfl T.z_range (pa_cons (pv 1) pa_nil)) (pg_name (i:=4) nd rfl (Or.inl rfl)) (pss_one (ps_expr (pe_bm PySem.F.plainAttrs_list PySem.F.slot_list_append PySem.F.type_list_append mt_append (pv 3) (pa_cons (pe_bm PySem.F.plainAttrs_list PySem.F.slot_list_pop PySem.F.type_list_pop mt_popAt (pv 2) (pa_cons (pe_callD O__law_take hr rfl (pa_cons (pv 0) (pa_cons (pe_callB call_len_seq rfl T.z_len (by decide +kernel) (pa_cons (pv 2) pa_nil)) pa_nil))) pa_nil)) pa_nil))))) (pss_one (ps_ret (pv 3)))))),?_⟩
 refine⟨_,rfl,m,rfl,fun g hg=>?_⟩
 refine⟨g,m,rfl,upd_same,hm0,hm1,fun l hl=>?_⟩
 refine⟨(by show 0≤sizeLine;decide),fun l2 hl2=>?_⟩
 obtain⟨H0,eH0⟩:∃ H0,H0=upd (upd (upd H g (.rng 0 m)) l (.lst ((List.range m.toNat).map fun i:Nat=>V.int (i:Int)))) l2 (.lst []):=⟨_,rfl⟩
 rw[← eH0]
 have S1:Same H (upd H g (.rng 0 m)):=same_new hg
 have S2:=S1.trans (same_new (o:=.lst ((List.range m.toNat).map fun i:Nat=>V.int (i:Int))) hl)
 have S3:Same H H0:=by rw[eH0];exact S2.trans (same_new hl2)
 have fl:H l=none:=S1.free hl
 have fl2:H l2=none:=S2.free hl2
 have ll2:l≠l2:=fun e=>by rw[← e,upd_same] at hl2;cases hl2
 have el:H0 l=some (.lst ((List.range m.toNat).map fun i:Nat=>V.int (i:Int))):=by rw[eH0,upd_ne ll2,upd_same]
 have el2:H0 l2=some (.lst []):=by rw[eH0,upd_same]
 have hp0:Pot H0 p:=by
  obtain⟨a,b,e,z⟩:=hp
  exact⟨a,b,S3 _ _ e,z⟩
 have nlp:l≠p:=by
  obtain⟨a,b,e,z⟩:=hp
  exact fun x=>by rw[x,e] at fl;cases fl
 have nl2p:l2≠p:=by
  obtain⟨a,b,e,z⟩:=hp
  exact fun x=>by rw[x,e] at fl2;cases fl2
 refine⟨_,rfl,m,rfl,by omega,by omega,?_⟩
 refine for_range (n:=m.toNat) (fun i σ H'=>∃ (t:Option V) (ls ms:List Int),σ=[some (.ref p),some (.int m),some (.ref l),some (.ref l2),t]∧H' l=some (.lst (ls.map V.int))∧H' l2=some (.lst (ms.map V.int))∧Pot H' p ∧
  (∀ b o,b≠p->H b=some o->H' b=some o)∧(ms++ls).Perm ((List.range m.toNat).map fun i:Nat=>(i:Int))∧ms.length=i) ?start ?turn ?fin
 case start=>exact⟨none,(List.range m.toNat).map fun i:Nat=>(i:Int),[],rfl,by rw[el,List.map_map];rfl,el2,hp0,fun b o _ e=>S3 b o e,List.Perm.refl _,rfl⟩
 case turn =>
  rintro i σ H' hi ⟨t,ls,ms,rfl,e1,e2,hp',kp,pm,hl'⟩
  have hlen:ls.length=m.toNat - i:=by
   have:=pm.length_eq
   rw[List.length_append,List.length_map,List.length_range] at this
   omega
  refine⟨_,rfl,.inl ⟨rfl,_,SqL.of e2⟩,_,rfl,.inl ⟨rfl,_,SqL.of e1⟩,_,rfl,_,rfl,l,_,rfl,.inl (SqL.of e1),?_⟩
  refine⟨p,_,rfl,hp',(by rw[List.length_map];omega),(by rw[List.length_map];omega),fun r H1 r0 r1 b1 p1=>?_⟩
  rw[List.length_map] at r1
  have hr1:r.toNat < ls.length:=by omega
  have er:r=((r.toNat:Nat):Int):=by omega
  have six:seqIndex? r (ls.map V.int).length=some r.toNat:=(ixN_seq (by unfold ixN;rw[if_pos r0,if_pos (by rw[List.length_map];omega)])).1
  refine⟨l,_,r,r.toNat,.int ls[r.toNat],rfl,rfl,b1 _ _ nlp e1,by omega,by omega,six,by rw[List.getElem?_map,List.getElem?_eq_getElem hr1];rfl,?_⟩
  refine⟨l2,_,_,rfl,rfl,by rw[upd_ne ll2.symm];exact b1 _ _ nl2p e2,?_,?_⟩
  ·rw[List.length_map]
   exact Nat.lt_of_le_of_lt (by omega:ms.length≤1000) (by decide)
  ·refine⟨_,ls.eraseIdx r.toNat,ms++[ls[r.toNat]],rfl,?_,?_,?_,?_,?_,by rw[List.length_append,List.length_singleton];omega⟩
   ·rw[upd_ne ll2,upd_same,map_erase]
   ·rw[upd_same,List.map_append];rfl
   ·obtain⟨a,b,e,z⟩:=p1
    exact⟨a,b,by rw[upd_ne nl2p.symm,upd_ne nlp.symm];exact e,z⟩
   ·intro b o hb e
    have n1:b≠l:=fun x=>by rw[x,fl] at e;cases e
    have n2:b≠l2:=fun x=>by rw[x,fl2] at e;cases e
    rw[upd_ne n2,upd_ne n1]
    exact b1 _ _ hb (kp _ _ hb e)
   ·refine List.Perm.trans ?_ pm
    rw[List.append_assoc]
    refine List.Perm.append_left _ ?_
    show (ls[r.toNat]::ls.eraseIdx r.toNat).Perm ls
    exact erase_perm ls r.toNat hr1
 case fin =>
  rintro σ H' ⟨t,ls,ms,rfl,e1,e2,hp',kp,pm,hl'⟩
  have hlen:ls=[]:=by
   have:=pm.length_eq
   rw[List.length_append,List.length_map,List.length_range] at this
   exact List.eq_nil_of_length_eq_zero (by omega)
  subst hlen
  rw[List.append_nil] at pm
  exact⟨_,rfl,q l2 H' ms kp hp' fl2 nl2p e2 pm⟩
/-- between the turns of the web's loops -/
def WInv (H:Hp) (p ln lt:Addr) (m n st wy:Int) (ms:List Int) (b a:Nat) (σ:L2.St) (H':Hp):Prop :=
 ∃ (t7 t8 t9 t10:Option V) (ys:List V) (ties:List Tie),σ=[some (.ref p),some (.int m),some (.int n),some (.int st),some (.int wy),some (.ref ln),some (.ref lt),t7,t8,t9,t10] ∧
  H' ln=some (.lst (ms.map V.int))∧H' lt=some (.lst ys)∧TieL H' ys ties∧Pot H' p∧(∀ b o,b≠p->H b=some o->H' b=some o)∧Grown n.toNat ms b a ties
theorem ok__law_web (T:Bi mg) (D:DefOk K mg "_law_web" s__law_web ["pot","most"]) (O__law_take:Ok P w K mg base 2 "_law_take" ["pot","many"] spTake) (O__law_order:Ok P w K mg base 2 "_law_order" ["pot","many"] spOrder)
  (O__law_tied:Ok P w K mg base 2 "_law_tied" ["pot","n","style","a","b"] spTied) (O__law_length:Ok P w K mg base 2 "_law_length" ["pot","way"] spLength):Ok P w K mg base 3 "_law_web" ["pot","most"] (spWeb K):=by
 refine mk_ok (k:=2) D sc__law_web (fun vs H Q E h=>?_) (fun f cdv A outer s H vs Q E hr h=>?_)
 ·obtain⟨p,m,rfl,_⟩:=h
  rfl
 obtain⟨p,m,rfl,hp,hm0,hm1,q⟩:=h
 have nd:=sc__law_web.nd
 refine⟨_,(pss_cons (ps_set (i:=2) nd rfl (Or.inl rfl) (pe_op op_add pe_int (pe_callD O__law_take hr rfl (pa_cons (pv 0) (pa_cons (pv 1) pa_nil))))) (pss_cons (ps_set (i:=3) nd rfl (Or.inl rfl) (pe_callD O__law_take hr rfl (pa_cons (pv 0) (pa_cons pe_int pa_nil)))) (pss_cons (ps_set (i:=4) nd rfl (Or.inl rfl) (pe_callD O__law_take hr rfl (pa_cons (pv 0) (pa_cons pe_int pa_nil)))) (pss_cons (ps_set (i:=5) nd rfl (Or.inl rfl) (pe_callD O__law_order hr rfl (pa_cons (pv 0) (pa_cons (pv 2) pa_nil)))) (pss_cons (ps_set (i:=6) nd rfl (Or.inl rfl) (pe_lst pa_nil)) (pss_cons (ps_for PassesOwn.never rfl (pi_range1 rfl T.z_range (pa_cons (pv 2) pa_nil)) (pg_name (i:=7) nd rfl (Or.inl rfl)) (pss_one (ps_for PassesOwn.never rfl (pi_range1 rfl T.z_range (pa_cons (pv 7) pa_nil)) (pg_name (i:=8) nd rfl (Or.inl rfl)) (pss_one (ps_if (PW.pt (pw_and (pt_val (pe_callD O__law_tied hr rfl (pa_cons (pv 0) (pa_cons (pv 2) (pa_cons (pv 3) (pa_cons (pv 8) (pa_cons (pv 7) pa_nil))))))) (pw_and1 (pt_cmpR op_lt (pe_callB call_len_seq rfl T.z_len (by decide +kernel) (pa_cons (pv 6) pa_nil)) pe_int (nomark _))))) (pss_cons (ps_asg (pe_callB call_sortedI rfl T.z_sorted (by decide +kernel) (pa_cons (pe_lst (pa_cons (pe_ix ix_list (pv 5) (pv 8) (fun _ _=>rfl)) (pa_cons (pe_ix ix_list (pv 5) (pv 7) (fun _ _=>rfl)) pa_nil))) pa_nil)) (pg_lst (n:=2) rfl (pgs_cons (pg_name (i:=9) nd rfl (Or.inl rfl)) (pgs_cons (pg_name (i:=10) nd rfl (Or.inl rfl)) pgs_nil)))) (pss_one (ps_expr (pe_bm PySem.F.plainAttrs_list PySem.F.slot_list_append PySem.F.type_list_append mt_append (pv 6) (pa_cons (pe_tup (pa_cons (pv 9) (pa_cons (pv 10) (pa_cons (pe_callD O__law_length hr rfl (pa_cons (pv 0) (pa_cons (pv 4) pa_nil))) pa_nil)))) pa_nil))))) pss_nil))))) (pss_one (ps_ret (pe_tup (pa_cons (pv 2) (pa_cons (pe_callTy call_tuple_of rfl T.z_tuple (by decide +kernel) (pa_cons (pe_callB call_sortedT rfl T.z_sorted (by decide +kernel) (pa_cons (pv 6) pa_nil)) pa_nil)) pa_nil))))))))))),?_⟩
 refine⟨_,rfl,_,rfl,p,m,rfl,hp,by omega,by omega,fun r1 H1 r10 r11 b1 p1=>?_⟩
 refine⟨_,_,rfl,rfl,?_⟩
 refine⟨_,rfl,p,8,rfl,p1,by decide,by decide,fun st H2 _ _ b2 p2=>?_⟩
 refine⟨_,rfl,p,5,rfl,p2,by decide,by decide,fun wy H3 wy0 wy1 b3 p3=>?_⟩
 refine⟨_,rfl,_,rfl,p,_,rfl,p3,by omega,by omega,fun ln H4 ms b4 p4 f4 n4 e4 pm=>?_⟩
 obtain⟨n,en⟩:∃ n:Int,n=1 + r1:=⟨_,rfl⟩
 rw[← en] at pm
 have bt4:But p H H4:=b1.trans (b2.trans (b3.trans b4))
 have fln:H ln=none:=by
  cases e:H ln with
  | none=>rfl
  | some u=>rw[(b1.trans (b2.trans b3)) _ _ n4 e] at f4;cases f4
 refine⟨(by show 0≤sizeLine;decide),fun lt hlt=>?_⟩
 have flt:H lt=none:=by
  by_cases z:lt=p
  ·obtain⟨a',b',e',_⟩:=p4;rw[z,e'] at hlt;cases hlt
  ·cases e:H lt with
   | none=>rfl
   | some u=>rw[bt4 _ _ z e] at hlt;cases hlt
 have nlt:lt≠p:=by
  obtain⟨a',b',e',_⟩:=p4
  exact fun x=>by rw[x,e'] at hlt;cases hlt
 have nln:ln≠lt:=fun x=>by rw[← x,e4] at hlt;cases hlt
 have pm0:Perm0 n.toNat ms:=Perm0.of pm
 refine⟨_,rfl,n,by rw[en],by omega,by omega,?_⟩
 refine for_range (n:=n.toNat) (fun i σ H'=>WInv H p ln lt m n st wy ms i 0 σ H') ?start ?turn ?fin
 case start =>
  refine⟨none,none,none,none,[],[],by rw[en];rfl,by rw[upd_ne nln];exact e4,upd_same,.nil,?_,fun b o hb e=>?_,Grown.start⟩
  ·obtain⟨a',b',e',z⟩:=p4
   exact⟨a',b',by rw[upd_ne nlt.symm];exact e',z⟩
  ·rw[upd_ne (fun x=>by rw[x,flt] at e;cases e)]
   exact bt4 _ _ hb e
 case turn =>
  rintro i σ H' hi ⟨t7,t8,t9,t10,ys,ties,rfl,g1,g2,g3,g4,g5,g6⟩
  refine⟨_,rfl,_,rfl,by omega,by omega,?_⟩
  have ei:((0 + (i:Int)):Int).toNat=i:=by omega
  rw[ei]
  refine for_range (n:=i) (fun k σ H''=>(∃ t7,σ[7]?=some (some (.int (0 + (i:Int))))∧t7=())∧WInv H p ln lt m n st wy ms i k σ H'') ?start2 ?turn2 ?fin2
  case start2=>exact⟨⟨(),rfl,rfl⟩,some (.int (0 + (i:Int))),t8,t9,t10,ys,ties,rfl,g1,g2,g3,g4,g5,g6⟩
  case fin2 =>
   rintro σ H'' ⟨_,t7,t8,t9,t10,ys,ties,rfl,g1,g2,g3,g4,g5,g6⟩
   exact⟨t7,t8,t9,t10,ys,ties,rfl,g1,g2,g3,g4,g5,g6.down⟩
  case turn2 =>
   rintro k σ K1 hk ⟨⟨_,h7,_⟩,t7,t8,t9,t10,ys,ties,rfl,g1,g2,g3,g4,g5,g6⟩
   have e7:t7=some (.int (0 + (i:Int))):=by simpa using h7
   subst e7
   have again : ∀ {u8 u9 u10 : Option V} {ys' : List V} {ts : List Tie} {J : Hp}, J ln = some (.lst (ms.map V.int)) → J lt = some (.lst ys') → TieL J ys' ts → Pot J p → (∀ b o, b ≠ p → H b = some o → J b = some o) → Grown n.toNat ms i (k + 1) ts →
       (∃ t7,([some (.ref p),some (.int m),some (.int n),some (.int st),some (.int wy),some (.ref ln),some (.ref lt),some (.int (0 + (i:Int))),u8,u9,u10]:L2.St)[7]?=some (some (.int (0 + (i:Int))))∧t7=())∧WInv H p ln lt m n st wy ms i (k + 1) [some (.ref p),some (.int m),some (.int n),some (.int st),some (.int wy),some (.ref ln),some (.ref lt),some (.int (0 + (i:Int))),u8,u9,u10] J :=
    fun a1 a2 a3 a4 a5 a6=>⟨⟨(),rfl,rfl⟩,_,_,_,_,_,_,rfl,a1,a2,a3,a4,a5,a6⟩
   refine⟨_,rfl,_,rfl,_,rfl,_,rfl,_,rfl,p,_,_,_,_,rfl,g4,fun kk K2 c2 d2=>⟨kk,rfl,?_⟩⟩
   have nlnp:ln≠p:=n4
   have l1:K2 ln=some (.lst (ms.map V.int)):=c2 _ _ nlnp g1
   have l2:K2 lt=some (.lst ys):=c2 _ _ nlt g2
   have tup2:∀ a xs,K1 a=some (.tup xs)->K2 a=some (.tup xs):=fun a xs e=>c2 _ _ (fun x=>by
    obtain⟨a',b',e',_⟩:=g4
    rw[x,e'] at e;cases e) e
   have l3:TieL K2 ys ties:=g3.keep tup2
   have l5:∀ b o,b≠p->H b=some o->K2 b=some o:=fun b o hb e=>c2 _ _ hb (g5 _ _ hb e)
   have ylen:ys.length=ties.length:=Paired.length g3
   cases kk with
   | false =>
    refine iteF (iteF ?_)
    exact again l1 l2 l3 d2 l5 g6.skip
   | true =>
    refine iteT ?_
    refine⟨_,rfl,lt,_,rfl,.inl (SqL.of l2),_,_,rfl,rfl,_,rfl,?_⟩
    refine ite2 (fun c=>?_) (fun c=>?_)
    case refine_2=>exact again l1 l2 l3 d2 l5 g6.skip
    have c':((ys.length:Nat):Int) < 60:=of_decide_eq_true c
    have hkn:k < n.toNat:=by omega
    have at_:∀ j:Nat,j < n.toNat->atI (ms.map V.int) (j:Int)=some (.int (ms.getD j 0)):=fun j hj=>by
     have hj':j < ms.length:=by rw[pm0.len];exact hj
     refine atI_nat ?_
     rw[List.getElem?_map,List.getElem?_eq_getElem hj']
     simp [List.getD,hj']
    have ak:atI (ms.map V.int) (0 + (k:Int))=some (.int (ms.getD k 0)):=by rw[Int.zero_add];exact at_ k hkn
    have ai:atI (ms.map V.int) (0 + (i:Int))=some (.int (ms.getD i 0)):=by rw[Int.zero_add];exact at_ i hi
    refine⟨_,rfl,_,rfl,ln,_,_,_,rfl,rfl,SqL.of l1,ak,_,rfl,_,rfl,ln,_,_,_,rfl,rfl,SqL.of l1,ai,(by show 2≤sizeLine;decide),fun s1 hs1=>?_⟩
    refine⟨s1,[ms.getD k 0,ms.getD i 0],rfl,SqL.of upd_same,(by show 2 < 64;decide),fun zs pz wz s2 hs2=>?_⟩
    obtain⟨x,y,rfl,hxy,hor⟩:=two_sorted pz wz
    refine⟨s2,_,rfl,SqL.of upd_same,rfl,?_⟩
    refine⟨_,_,rfl,_,_,rfl,rfl,?_⟩
    have n1:∀ b o,K2 b=some o->b≠s1:=fun b o e=>ne_of_none e hs1
    have n2:∀ b o,K2 b=some o->b≠s2:=fun b o e=>ne_of_none (same_new hs1 b o e) hs2
    have up:∀ b o,K2 b=some o->upd (upd K2 s1 (.lst [.int (ms.getD k 0),.int (ms.getD i 0)])) s2 (.lst [.int x,.int y]) b=some o:=fun b o e=>by rw[upd_ne (n2 b o e),upd_ne (n1 b o e)];exact e
    refine⟨_,rfl,.inl ⟨rfl,_,SqL.of (up _ _ l2)⟩,_,rfl,_,rfl,_,rfl,_,rfl,?_⟩
    refine⟨p,wy,rfl,?_,wy0,wy1,fun len K5 ln0 ln1 c5 d5=>?_⟩
    ·obtain⟨a',b',e',z⟩:=d2
     exact⟨a',b',up _ _ e',z⟩
    refine⟨(by show 3≤sizeLine;decide),fun tp htp=>?_⟩
    have pl:∃ xs,K2 p=some (.lst xs):=d2.lst
    have up5:∀ b o,b≠p->K2 b=some o->upd K5 tp (.tup [.int x,.int y,.int len]) b=some o:=fun b o hb e=>by
     have e5:=c5 b o hb (up b o e)
     rw[upd_ne (ne_of_none e5 htp)];exact e5
    refine⟨lt,_,_,rfl,rfl,up5 _ _ nlt l2,?_,?_⟩
    ·exact Nat.lt_of_le_of_lt (by omega:ys.length≤1000) (by decide)
    have k5:∀ b o,b≠p->b≠lt->K2 b=some o->upd (upd K5 tp (.tup [.int x,.int y,.int len])) lt (.lst (ys++[.ref tp])) b=some o:=fun b o hb hb2 e=>by rw[upd_ne hb2];exact up5 b o hb e
    have ntp:tp≠lt:=fun z=>by
     have:=c5 _ _ nlt (up _ _ l2)
     rw[← z,htp] at this;cases this
    refine again (k5 _ _ nlnp nln l1) upd_same (TieL.snoc (TieL.keep l3 fun a xs e=>k5 _ _ ?_ ?_ e) ?_) ?_ (fun b o hb e=>k5 _ _ hb (fun z=>by rw[z,flt] at e;cases e) (l5 _ _ hb e))
     (g6.add (x:=x) (y:=y) (l:=len) pm0 hk hi (by omega) ln0 ln1 hor hxy)
    ·intro z
     obtain⟨xs',e'⟩:=pl
     rw[z,e'] at e;cases e
    ·intro z
     rw[z,l2] at e;cases e
    ·rw[upd_ne ntp,upd_same];rfl
    ·obtain⟨a',b',e',z⟩:=d5
     exact⟨a',b',by rw[upd_ne nlt.symm,upd_ne (ne_of_none e' htp)];exact e',z⟩
 case fin =>
  rintro σ H' ⟨t7,t8,t9,t10,ys,ties,rfl,g1,g2,g3,g4,g5,g6⟩
  have ylen:ys.length=ties.length:=Paired.length g3
  have few:=g6.few
  refine⟨_,rfl,_,rfl,lt,ys,ties.map tieI,rfl,SqL.of g2,by omega,paired_keys (fun y t ⟨a,e1,e2⟩=>⟨a,e1,SqT.of e2⟩) g3,fun k hk=>?_,fun qs pq wq l hl=>?_⟩
  ·obtain⟨t,_,rfl⟩:=List.mem_map.mp hk
   exact fun z=>by cases z
  obtain⟨ts,pt,tl,wt⟩:=tie_out g3 pq wq
  refine⟨l,_,rfl,.inl ⟨SqL.of upd_same,fun l' hl'=>?_⟩⟩
  refine⟨(by show 2≤sizeLine;decide),fun v hv=>?_⟩
  have S1:Same H' (upd H' l (.lst (qs.map (·.1)))):=same_new hl
  have S2:=S1.trans (same_new (o:=.tup (qs.map (·.1))) hl')
  have S3:=S2.trans (same_new (o:=.tup [.int n,.ref l']) hv)
  refine q (.ref v) _ n ts (fun b o hb e=>S3 _ _ (g5 _ _ hb e)) ?_ ⟨by omega,by omega,rise_of wt ((pt.pairwise_iff (fun {a b} h z=>h ⟨z.1.symm,z.2.symm⟩)).mpr g6.nd),by have:=pt.length_eq;omega,fun t ht=>?_⟩ (by omega) ?_
  ·obtain⟨a',b',e',z⟩:=g4
   exact⟨a',b',S3 _ _ e',z⟩
  ·have:=g6.ok t (pt.mem_iff.mp ht)
   have e:((n.toNat:Nat):Int)=n:=by omega
   rw[e] at this
   exact this
  ·refine⟨v,_,rfl,upd_same,_,_,rfl,rfl,_,_,rfl,⟨l',qs.map (·.1),rfl,?_,?_⟩,rfl⟩
   ·exact (same_new hv) _ _ upd_same
   ·exact TieL.is (tl.keep fun a xs e=>S3 _ _ e)
theorem ok_tie_weights (T:Bi mg) (D:DefOk K mg "tie_weights" s_tie_weights ["web"]):Ok P w K mg base 1 "tie_weights" ["web"] (spWeights K):=by
 refine mk_ok (k:=0) D sc_tie_weights (fun vs H Q E h=>?_) (fun f cdv A outer s H vs Q E hr h=>?_)
 ·obtain⟨n,ts,v,rfl,_⟩:=h
  rfl
 obtain⟨n,ts,v,rfl,hw,few60,q⟩:=h
 have nd:=sc_tie_weights.nd
 obtain⟨g0,g,ws,rfl,hg0,hg,hall,hlw⟩:=web_parts hw
 refine⟨_,(pss_cons (ps_set (i:=1) nd rfl (Or.inl rfl) (pe_lstG pa_nil)) (pss_cons (ps_set (i:=2) nd rfl (Or.inl rfl) pe_int) (pss_cons (ps_for PassesOwn.never rfl (pi_tup (pe_ix ix_tup (pv 0) pe_int (fun _ _=>rfl))) (pg_name (i:=3) nd rfl (Or.inl rfl)) (pss_cons (ps_expr (pe_bm PySem.F.plainAttrs_list PySem.F.slot_list_append PySem.F.type_list_append mt_appendG (pv 1) (pa_cons (pv 2) pa_nil))) (pss_one (ps_set (i:=2) nd rfl (Or.inl rfl) (pe_op op_mul pe_int (pv 2)))))) (pss_one (ps_ret (pv 1)))))),?_⟩
 refine⟨(by show 0≤1000;decide),fun l J0 S0 f0 e0=>?_⟩
 refine⟨_,rfl,g0,_,_,_,rfl,rfl,SqT.of (S0 _ _ hg0),rfl,g,rfl,⟨_,SqT.of (S0 _ _ hg)⟩,?_⟩
 refine for_tup (xs:=ws) (fun i σ J=>∃ y3:Option V,σ=[some (.ref g0),some (.ref l),some (.int (2 ^ i)),y3]∧Same H J∧J l=some (.lst (pows i))) ⟨none,rfl,S0,e0⟩ (fun i σ J _ h=>by obtain⟨_,_,s,_⟩:=h;exact SqT.of (s _ _ hg)) (fun i x σ J hx h=>?_) (fun σ J h=>?_)
 ·obtain⟨y3,rfl,s1,e1⟩:=h
  have hi:i < ws.length:=(List.getElem?_eq_some_iff.mp hx).1
  refine⟨_,rfl,.inl ⟨rfl,_,SqL.of e1⟩,_,rfl,l,_,_,rfl,rfl,e1,(by unfold pows;rw[List.length_map,List.length_range];omega),fun J1 b1 e2=>?_⟩
  refine⟨_,rfl,_,_,rfl,rfl,.inl ⟨by decide,by decide⟩,?_⟩
  refine⟨some x,?_,fun b o e=>b1 _ _ (ne_of_none e f0) (s1 _ _ e),by rw[e2,pows_succ]⟩
  have ep:(2:Int) * 2 ^ i=2 ^ (i + 1):=by rw[Int.pow_succ,Int.mul_comm]
  show [some (V.ref g0),some (V.ref l),some (V.int (2 * 2 ^ i)),some x]=_
  rw[ep]
 ·obtain⟨y3,rfl,s1,e1⟩:=h
  exact⟨_,rfl,q l J s1 f0 (by rw[e1,hlw])⟩
theorem ok_cost_with (T:Bi mg) (D:DefOk K mg "cost_with" s_cost_with ["cost","length","weight"]):Ok P w K mg base 1 "cost_with" ["cost","length","weight"] (spCost K):=by
 refine mk_ok (k:=0) D sc_cost_with (fun vs H Q E h=>?_) (fun f cdv A outer s H vs Q E hr h=>?_)
 ·obtain⟨c,x,y,l,ww,rfl,_⟩:=h
  rfl
 obtain⟨c,x,y,l,ww,rfl,hc,q⟩:=h
 have nd:=sc_cost_with.nd
 refine⟨_,(pss_one (ps_ret (pe_tupG (pa_cons (pe_op op_add (pe_ix ix_tup (pv 0) pe_int (fun _ _=>rfl)) (pv 1)) (pa_cons (pe_op op_add (pe_ix ix_tup (pv 0) pe_int (fun _ _=>rfl)) (pv 2)) pa_nil))))),?_⟩
 exact⟨_,rfl,c,_,_,_,rfl,rfl,SqT.of hc,rfl,_,rfl,_,_,rfl,rfl,_,rfl,c,_,_,_,rfl,rfl,SqT.of hc,rfl,_,rfl,_,_,rfl,rfl,(by show 2≤1000;decide),fun t J S f e=>q t J S e⟩
def rWB (H:Hp) (wv kv:V) (n r:Int) (ts:List Tie) (ks:List Nat) (lw lc la:Addr) (m:Nat) (σ:L2.St) (J:Hp):Prop:=∃ (cs:List (Option (Int × Int))) (as:List (Option Nat)) (ag:Bool) (y7 y8 y9 y10 y11 y12 y13:Option V),σ=[some wv,some kv,some (.int r),some (.ref lw),some (.ref lc),some (.ref la),some (.bl ag),y7,y8,y9,y10,y11,y12,y13] ∧
 RA H J lw lc la (pows ts.length) cs as∧Far.Good (arcs ts ks) n.toNat r.toNat cs∧Far.Run (arcsB ts ks) r.toNat cs as∧(ag=false->Far.Stab2 (arcsB ts ks) cs)∧m=Far.mu cs + (if ag=true then 1 else 0)
theorem ok_reached_fromC (T:Bi mg) (D:DefOk K mg "reached_from" s_reached_from ["web","keep","root"]) (O_tie_weights:Ok P w K mg base 1 "tie_weights" ["web"] (spWeights K)) (O_cost_with:Ok P w K mg base 1 "cost_with" ["cost","length","weight"] (spCost K)):Ok P w K mg base 2 "reached_from" ["web","keep","root"] (spReachedC K):=by
 refine mk_ok (k:=1) D sc_reached_from (fun vs H Q E h=>?_) (fun f cdv A outer s H vs Q E hr h=>?_)
 ·obtain⟨n,ts,ks,wv,kv,r,rfl,_⟩:=h
  rfl
 obtain⟨n,ts,ks,wv,kv,r,rfl,⟨isw,ok,isk,ko⟩,r0,r1,q⟩:=h
 have nd:=sc_reached_from.nd
 have few60:=ok.few
 have n1:=ok.n1
 have n24:=ok.n24
 obtain⟨g0,g,ws,rfl,hg0,hg,hall,hlw⟩:=web_parts isw
 obtain⟨kp,rfl,hkp⟩:=keep_parts isk
 have P:=arcs_pos ok ko
 refine⟨_,(pss_cons (ps_set (i:=3) nd rfl (Or.inl rfl) (pe_callD O_tie_weights hr rfl (pa_cons (pv 0) pa_nil))) (pss_cons (ps_set (i:=4) nd rfl (Or.inl rfl) (pe_op op_rep1 (pe_lstG (pa_cons pe_non pa_nil)) (pe_ix ix_tup (pv 0) pe_int (fun _ _=>rfl)))) (pss_cons (ps_set (i:=5) nd rfl (Or.inl rfl) (pe_op op_rep1 (pe_lstG (pa_cons pe_non pa_nil)) (pe_ix ix_tup (pv 0) pe_int (fun _ _=>rfl)))) (pss_cons (ps_asg (pe_tupG (pa_cons pe_int (pa_cons pe_int pa_nil))) (pg_sub (pv 4) (pv 2) set_list)) (pss_cons (ps_set (i:=6) nd rfl (Or.inl rfl) pe_bl) (pss_cons (ps_while PassesOwn.never (pt_val (pv 6)) (pss_cons (ps_set (i:=6) nd rfl (Or.inl rfl) pe_bl) (pss_one (ps_for PassesOwn.never rfl (pi_tup (pv 1)) (pg_name (i:=7) nd rfl (Or.inl rfl)) (pss_cons (ps_asg (pe_ix ix_tup (pe_ix ix_tup (pv 0) pe_int (fun _ _=>rfl)) (pv 7) (fun _ _=>rfl)) (pg_tup (n:=3) rfl (pgs_cons (pg_name (i:=8) nd rfl (Or.inl rfl)) (pgs_cons (pg_name (i:=9) nd rfl (Or.inl rfl)) (pgs_cons (pg_name (i:=10) nd rfl (Or.inl rfl)) pgs_nil))))) (pss_one (ps_for PassesOwn.never rfl (pi_tup (pe_tupG (pa_cons (pe_tupG (pa_cons (pv 8) (pa_cons (pv 9) pa_nil))) (pa_cons (pe_tupG (pa_cons (pv 9) (pa_cons (pv 8) pa_nil))) pa_nil)))) (pg_tup (n:=2) rfl (pgs_cons (pg_name (i:=11) nd rfl (Or.inl rfl)) (pgs_cons (pg_name (i:=12) nd rfl (Or.inl rfl)) pgs_nil))) (pss_cons (ps_if (pt_cmpR op_isN (pe_ix ix_list (pv 4) (pv 11) (fun _ _=>rfl)) pe_non (nomark _)) (pss_one ps_continue) pss_nil) (pss_cons (ps_set (i:=13) nd rfl (Or.inl rfl) (pe_callD O_cost_with hr rfl (pa_cons (pe_ix ix_list (pv 4) (pv 11) (fun _ _=>rfl)) (pa_cons (pv 10) (pa_cons (pe_ix ix_list (pv 3) (pv 7) (fun _ _=>rfl)) pa_nil))))) (pss_one (ps_if (PW.pt (pw_or (pt_cmpR op_isN (pe_ix ix_list (pv 4) (pv 12) (fun _ _=>rfl)) pe_non (nomark _)) (pw_or1 (pt_cmpR (op_ltT hr.units0) (pv 13) (pe_ix ix_list (pv 4) (pv 12) (fun _ _=>rfl)) (nomark _))))) (pss_cons (ps_asg (pv 13) (pg_sub (pv 4) (pv 12) set_list)) (pss_cons (ps_asg (pv 11) (pg_sub (pv 5) (pv 12) set_list)) (pss_one (ps_set (i:=6) nd rfl (Or.inl rfl) pe_bl)))) pss_nil))))))))))) (pss_one (ps_ret (pe_tupG (pa_cons (pv 4) (pa_cons (pv 5) pa_nil))))))))))),?_⟩
 refine⟨_,rfl,n,ts,_,rfl,isw,few60,fun lw J1 S1 f1 e1=>?_⟩
 refine⟨(by show 1≤1000;decide),fun t0 J2 S2 f2 e2=>⟨_,rfl,g0,_,_,_,rfl,rfl,SqT.of (S2 _ _ (S1 _ _ hg0)),rfl,t0,n,_,rfl,rfl,e2,by omega,by omega,fun lc J3 S3 f3 e3=>?_⟩⟩
 have S13:=S1.trans (S2.trans S3)
 refine⟨(by show 1≤1000;decide),fun t1 J4 S4 f4 e4=>⟨_,rfl,g0,_,_,_,rfl,rfl,SqT.of (S4 _ _ (S13 _ _ hg0)),rfl,t1,n,_,rfl,rfl,e4,by omega,by omega,fun la J5 S5 f5 e5=>?_⟩⟩
 refine⟨(by show 2≤1000;decide),fun t2 J6 S6 f6 e6=>?_⟩
 have S36:=S4.trans (S5.trans S6)
 have elc:=S36 _ _ e3
 refine⟨_,rfl,_,rfl,lc,_,r,r.toNat,rfl,rfl,elc,ixN_nat r0 (by rw[List.length_replicate];omega),?_⟩
 have Sall:Same H J6:=S13.trans S36
 have fc:H lc=none:=(S1.trans S2).free f3
 have fa:H la=none:=(S13.trans S4).free f5
 have nwc:lw≠lc:=fun z=>by rw[← z,S2 _ _ e1] at f3;cases f3
 have nwa:lw≠la:=fun z=>by rw[← z,S4 _ _ (S3 _ _ (S2 _ _ e1))] at f5;cases f5
 have nca:lc≠la:=fun z=>by rw[← z,S4 _ _ e3] at f5;cases f5
 have R0:RA H J6 lw lc la (pows ts.length) (List.replicate n.toNat none) (List.replicate n.toNat none):=⟨Sall,fc,fa,nwc,nwa,nca,S36 _ _ (S3 _ _ (S2 _ _ e1)),⟨_,elc,CostL.first _⟩,by rw[S6 _ _ e5,List.map_replicate];rfl⟩
 have R1:=R0.put (k:=r.toNat) elc (by rw[List.length_replicate];omega) e6
  -- the passes
 refine⟨rWB H (.ref g0) (.ref kp) n r ts ks lw lc la,⟨_,_,_,true,none,none,none,none,none,none,none,rfl,R1,Far.Good.first (by omega),Far.Run.first (by omega),fun z=>(by cases z),rfl⟩,?_⟩
 rintro m σ J ⟨c0,as0,ag,y7,y8,y9,y10,y11,y12,y13,rfl,R,G,AH,St,rfl⟩
 refine⟨_,rfl,ag,rfl,?_⟩
 cases ag with
 | false =>
  refine iteF ?_
  obtain⟨cvs,hc,cl⟩:=R.co
  exact⟨_,rfl,_,rfl,(by show 2≤1000;decide),fun p J' S' f' e'=>q p lc la cvs as0 c0 J' (R.same.trans S') e' (S' _ _ hc) (S' _ _ R.ah) (cl.keep (tk_same S')) (AH.best P G (St rfl)) G (stab_of (St rfl))⟩
 | true =>
  refine iteT ⟨fun σ' J'=>∃ m',m' < Far.mu c0 + 1∧rWB H (.ref g0) (.ref kp) n r ts ks lw lc la m' σ' J',fun _ _ h=>h,?_⟩
  refine⟨_,rfl,kp,rfl,⟨_,SqT.of (R.same _ _ hkp)⟩,?_⟩
  refine for_tup (xs:=(keepI ks).map V.int) (fun i σ J=>∃ (cs:List (Option (Int × Int))) (as:List (Option Nat)) (ag:Bool) (y7 y8 y9 y10 y11 y12 y13:Option V),σ=[some (.ref g0),some (.ref kp),some (.int r),some (.ref lw),some (.ref lc),some (.ref la),some (.bl ag),y7,y8,y9,y10,y11,y12,y13] ∧
   RA H J lw lc la (pows ts.length) cs as∧Far.Good (arcs ts ks) n.toNat r.toNat cs∧Far.Run (arcsB ts ks) r.toNat cs as∧Far.PS2 c0 (fun z=>z ∈ arcsB ts (ks.take i)) cs ag) ⟨c0,as0,false,_,_,_,_,_,_,_,rfl,R,G,AH,.inl ⟨rfl,rfl,fun u v l k c z=>by cases z⟩⟩ (fun i σ J _ h=>?_) (fun i x σ J hx h=>?_) (fun σ J h=>?_)
  ·obtain⟨cs,as,ag,y7,y8,y9,y10,y11,y12,y13,rfl,R,_⟩:=h
   exact SqT.of (R.same _ _ hkp)
  ·obtain⟨cs,as,ag,y7,y8,y9,y10,y11,y12,y13,rfl,R,G,AH,Pt⟩:=h
   obtain⟨k,hk,rfl⟩:=keep_at hx
   have hkl:k < ts.length:=ko.2 k (List.mem_of_getElem? hk)
   obtain⟨ta,hta,htie⟩:=tie_val hall hkl
   obtain⟨t,et⟩:∃ t,t=tieAt ts k:=⟨_,rfl⟩
   rw[← et] at htie
   have tk:=ok.tie _ (tieAt_in hkl).2
   rw[← et] at tk
   refine⟨_,rfl,g0,_,_,_,rfl,rfl,SqT.of (R.same _ _ hg0),rfl,_,rfl,g,_,_,_,rfl,rfl,SqT.of (R.same _ _ hg),atI_toNat (Int.natCast_nonneg _) hta,ta,_,rfl,SqT.of (R.same _ _ htie),rfl,_,_,rfl,_,_,rfl,_,_,rfl,rfl,?_⟩
   refine⟨_,rfl,_,rfl,(by show 2≤1000;decide),fun t1 K1 T1 u1 v1=>⟨_,rfl,_,rfl,(by show 2≤1000;decide),fun t2 K2 T2 u2 v2=>⟨(by show 2≤1000;decide),fun t3 K3 T3 u3 v3=>⟨t3,rfl,⟨_,SqT.of v3⟩,?_⟩⟩⟩⟩
   have R3:=R.step (T1.trans (T2.trans T3))
   have v1':=T3 _ _ (T2 _ _ v1)
   have v2':=T3 _ _ v2
   refine for_tup (xs:=[V.ref t1,.ref t2]) (fun j σ J=>∃ (cs:List (Option (Int × Int))) (as:List (Option Nat)) (ag:Bool) (y11 y12 y13:Option V),σ=[some (.ref g0),some (.ref kp),some (.int r),some (.ref lw),some (.ref lc),some (.ref la),some (.bl ag),some (.int (k:Int)),some (.int t.1),some (.int t.2.1),some (.int t.2.2),y11,y12,y13] ∧
    RA H J lw lc la (pows ts.length) cs as∧Far.Good (arcs ts ks) n.toNat r.toNat cs∧Far.Run (arcsB ts ks) r.toNat cs as∧Far.PS2 c0 (fun z=>z ∈ arcsB ts (ks.take i)∨z ∈ (arcs2B t k).take j) cs ag∧TupKeep K3 J) ⟨cs,as,ag,_,_,_,rfl,R3,G,AH,Pt.less fun a z=>z.elim id fun z=>(by cases z),fun _ _ e=>e⟩ (fun j σ J _ h=>?_) (fun j x σ J hx h=>?_) (fun σ J h=>?_)
   ·obtain⟨cs,as,ag,y11,y12,y13,rfl,R,G,AH,Pt,tk⟩:=h
    exact SqT.of (tk _ _ v3)
   ·obtain⟨cs,as,ag,y11,y12,y13,rfl,R,G,AH,Pt,tkp⟩:=h
    obtain⟨p,u,v,rfl,hp,u0,un,v0,vn,arc,arcB,more⟩:∃ p u v,x=.ref p∧J p=some (.tup [.int u,.int v])∧0≤u∧u < n∧0≤v∧v < n∧(u.toNat,v.toNat,t.2.2) ∈ arcs ts ks∧(u.toNat,v.toNat,t.2.2,k) ∈ arcsB ts ks∧∀ z,z ∈ (arcs2B t k).take (j + 1)->z ∈ (arcs2B t k).take j∨z=(u.toNat,v.toNat,t.2.2,k):=by
     have memB:∀ z,z ∈ arcs2B t k->z ∈ arcsB ts ks:=fun z hz=>arcsB_mem.mpr ⟨k,List.mem_of_getElem? hk,by rw[← et];exact hz⟩
     have mem:∀ z,z ∈ arcs2 t->z ∈ arcs ts ks:=fun z hz=>arcs_mem.mpr ⟨k,List.mem_of_getElem? hk,by rw[← et];exact hz⟩
     match j,hx with
     | 0,hx=>cases hx;exact⟨t1,t.1,t.2.1,rfl,tkp _ _ v1',by omega,by omega,by omega,by omega,mem _ (arcs2_mem.mpr (.inl rfl)),memB _ (arcs2B_mem.mpr (.inl rfl)),fun z hz=>by unfold arcs2B at *;simpa using hz⟩
     | 1,hx=>cases hx;exact⟨t2,t.2.1,t.1,rfl,tkp _ _ v2',by omega,by omega,by omega,by omega,mem _ (arcs2_mem.mpr (.inr rfl)),memB _ (arcs2B_mem.mpr (.inr rfl)),fun z hz=>by unfold arcs2B at *;simpa using hz⟩
    refine⟨p,_,rfl,SqT.of hp,rfl,_,_,rfl,_,_,rfl,rfl,?_⟩
    obtain⟨cvs,hc,cl⟩:=R.co
    have lenC:cvs.length=n.toNat:=by rw[cl.1];exact G.len
    obtain⟨x1,at1,cv1⟩:=cost_at cl u0 (by rw[G.len];omega)
    obtain⟨x2,at2,cv2⟩:=cost_at cl v0 (by rw[G.len];omega)
    have next:∀ {cs':List (Option (Int × Int))} {ag':Bool},Far.PS2 c0 (Far.plusA (fun z=>z ∈ arcsB ts (ks.take i)∨z ∈ (arcs2B t k).take j) (u.toNat,v.toNat,t.2.2,k)) cs' ag'->Far.PS2 c0 (fun z=>z ∈ arcsB ts (ks.take i)∨z ∈ (arcs2B t k).take (j + 1)) cs' ag':=fun h=>h.less fun z hz=>by
     rcases hz with hz | hz
     ·exact .inl (.inl hz)
     ·exact (more z hz).elim (fun y=>.inl (.inr y)) .inr
    refine⟨_,rfl,_,rfl,lc,_,_,_,rfl,rfl,SqL.of hc,at1,rfl,_,rfl,ite2 (fun c1=>?_) (fun c1=>?_)⟩
    ·-- not reached
     have gu:Far.get cs u.toNat=none:=by
      cases e:Far.get cs u.toNat with
      | none=>rfl
      | some d =>
       rw[e] at cv1
       obtain⟨tt,rfl,_⟩:=cv1
       cases of_decide_eq_true c1
     exact⟨cs,as,ag,_,_,_,rfl,R,G,AH,next (Pt.no gu),tkp⟩
    ·obtain⟨d,gu⟩:∃ d,Far.get cs u.toNat=some d:=by
      cases e:Far.get cs u.toNat with
      | none=>rw[e] at cv1;exact absurd (decide_eq_true (show x1=V.non from cv1)) c1
      | some d=>exact⟨d,rfl⟩
     rw[gu] at cv1
     obtain⟨td,rfl,htd⟩:=cv1
     have pw:=pow_le (i:=k) (by omega)
     refine⟨_,rfl,_,rfl,lc,_,_,_,rfl,rfl,SqL.of hc,at1,_,rfl,_,rfl,_,rfl,lw,_,_,_,rfl,rfl,SqL.of R.wl,atI_toNat (Int.natCast_nonneg _) (pows_at hkl),td,_,_,_,_,rfl,htd,fun tn L1 Z1 en=>?_⟩
     have R':=R.step Z1
     have hc':=Z1 _ _ hc
     have tkp':TupKeep K3 L1:=fun a xs e=>Z1 _ _ (tkp a xs e)
     have done : ∀ (hlt : Far.get cs v.toNat = none ∨ ∃ c', Far.get cs v.toNat = some c' ∧ Far.lt2 (d.1 + t.2.2, d.2 + 2 ^ k) c') , ∀ L, L = upd (upd L1 lc (.lst (cvs.set v.toNat (.ref tn)))) la (.lst ((as.map oa).set v.toNat (.int u))) →
         RA H L lw lc la (pows ts.length) (cs.set v.toNat (some (d.1 + t.2.2,d.2 + 2 ^ k))) (as.set v.toNat (some u.toNat))∧Far.Good (arcs ts ks) n.toNat r.toNat (cs.set v.toNat (some (d.1 + t.2.2,d.2 + 2 ^ k)))∧Far.Run (arcsB ts ks) r.toNat (cs.set v.toNat (some (d.1 + t.2.2,d.2 + 2 ^ k))) (as.set v.toNat (some u.toNat))∧Far.PS2 c0 (fun z=>z ∈ arcsB ts (ks.take i)∨z ∈ (arcs2B t k).take (j + 1)) (cs.set v.toNat (some (d.1 + t.2.2,d.2 + 2 ^ k))) true∧TupKeep K3 L:=fun hlt L eL=>by
      subst eL
      obtain⟨G',mm⟩:=G.step P (by omega) arc (by omega) pw.1 pw.2 (by omega) gu hlt
      have Rp:=R'.put hc' (k:=v.toNat) (by omega) en
      have Rm:=Rp.mark (k:=v.toNat) (u:=u.toNat)
      rw[Int.toNat_of_nonneg u0] at Rm
      exact⟨Rm,G',Far.Run.step P G AH arc arcB (by omega) gu hlt,next (Pt.put mm),fun a xs e=>tk_upd Rp.ah _ _ (tk_upd hc' _ _ (tkp' a xs e))⟩
     have ha:=R'.ah
     have hal:(as.map oa).length=n.toNat:=by rw[List.length_map,AH.len];exact G.len
     refine⟨_,rfl,_,rfl,lc,_,_,_,rfl,rfl,SqL.of hc',at2,rfl,_,rfl,ite2 (fun c2=>iteT ?_) (fun c2=>?_)⟩
     ·have gv:Far.get cs v.toNat=none:=by
       cases e:Far.get cs v.toNat with
       | none=>rfl
       | some d =>
        rw[e] at cv2
        obtain⟨tt,rfl,_⟩:=cv2
        cases of_decide_eq_true c2
      obtain⟨R2,G2,A2,P2,k2⟩:=done (.inl gv) _ rfl
      exact⟨_,rfl,_,rfl,_,rfl,lc,_,_,_,rfl,rfl,hc',ixN_nat v0 (by omega),_,rfl,_,rfl,_,rfl,la,_,_,_,rfl,rfl,(by rw[upd_ne R.nca.symm];exact ha),ixN_nat v0 (by omega),_,_,true,_,_,_,rfl,R2,G2,A2,P2,k2⟩
     ·obtain⟨d2,gv⟩:∃ d,Far.get cs v.toNat=some d:=by
       cases e:Far.get cs v.toNat with
       | none=>rw[e] at cv2;exact absurd (decide_eq_true (show x2=V.non from cv2)) c2
       | some d=>exact⟨d,rfl⟩
      rw[gv] at cv2
      obtain⟨te,rfl,hte⟩:=cv2
      refine⟨_,rfl,_,rfl,_,rfl,lc,_,_,_,rfl,rfl,SqL.of hc',at2,tn,te,L3.e2 (d.1 + t.2.2,d.2 + 2 ^ k),L3.e2 d2,rfl,rfl,SqT.of en,SqT.of (Z1 _ _ hte),_,rfl,ite2 (fun c3=>?_) (fun c3=>?_)⟩
      ·have hl:=(lexLt_e2 _ _).mp c3
       obtain⟨R2,G2,A2,P2,k2⟩:=done (.inr ⟨d2,gv,hl⟩) _ rfl
       exact⟨_,rfl,_,rfl,_,rfl,lc,_,_,_,rfl,rfl,hc',ixN_nat v0 (by omega),_,rfl,_,rfl,_,rfl,la,_,_,_,rfl,rfl,(by rw[upd_ne R.nca.symm];exact ha),ixN_nat v0 (by omega),_,_,true,_,_,_,rfl,R2,G2,A2,P2,k2⟩
      ·have hn:¬ Far.lt2 (d.1 + t.2.2,d.2 + 2 ^ k) d2:=fun z=>c3 ((lexLt_e2 _ _).mpr z)
       exact⟨cs,as,ag,_,_,_,rfl,R',G,AH,next (Pt.old gu gv hn),tkp'⟩
   ·obtain⟨cs,as,ag,y11,y12,y13,rfl,R,G,AH,Pt,tkp⟩:=h
    refine⟨cs,as,ag,_,_,_,_,_,_,_,rfl,R,G,AH,Pt.less fun z hz=>?_⟩
    exact (arcsB_take hk hz).elim .inl fun y=>.inr (by rw[← et] at y;exact y)
  ·obtain⟨cs,as,ag,y7,y8,y9,y10,y11,y12,y13,rfl,R2,G2,A2,Pt⟩:=h
   have lk:((keepI ks).map V.int).length=ks.length:=by unfold keepI;rw[List.length_map,List.length_map]
   rw[lk,List.take_length] at Pt
   rcases Pt with ⟨ea,ec,st⟩ | ⟨ea,lt⟩
   ·subst ea
    rw[← ec] at st
    exact⟨Far.mu cs + 0,by rw[ec];omega,cs,as,false,_,_,_,_,_,_,_,rfl,R2,G2,A2,fun _=>st,rfl⟩
   ·subst ea
    exact⟨Far.mu cs + 1,by omega,cs,as,true,_,_,_,_,_,_,_,rfl,R2,G2,A2,fun z=>(by cases z),rfl⟩
theorem ok_fars_from (T:Bi mg) (D:DefOk K mg "fars_from" s_fars_from ["web","keep","root"]) (O_reached_from:Ok P w K mg base 2 "reached_from" ["web","keep","root"] (spReached K)):Ok P w K mg base 3 "fars_from" ["web","keep","root"] (spFars K):=by
 refine mk_ok (k:=2) D sc_fars_from (fun vs H Q E h=>?_) (fun f cdv A outer s H vs Q E hr h=>?_)
 ·obtain⟨n,ts,ks,wv,kv,r,rfl,_⟩:=h
  rfl
 obtain⟨n,ts,ks,wv,kv,r,rfl,wk,r0,r1,q⟩:=h
 have nd:=sc_fars_from.nd
 have n24:=wk.2.1.n24
 refine⟨_,(pss_cons (ps_asg (pe_callD O_reached_from hr rfl (pa_cons (pv 0) (pa_cons (pv 1) (pa_cons (pv 2) pa_nil)))) (pg_tup (n:=2) rfl (pgs_cons (pg_name (i:=3) nd rfl (Or.inl rfl)) (pgs_cons (pg_name (i:=4) nd rfl (Or.inl rfl)) pgs_nil)))) (pss_one (ps_ret (pe_comp (N:=["web","keep","root","costs","ahead"]) (sc0:=defScope s_fars_from) (own:=["cost"]) (fr:=[]) (js:=[]) rfl (pi_list (pv 3)) (fun _ _ _ _=>(pg_name (i:=0) (by show List.Nodup [("cost":Str)];decide +kernel) rfl (Or.inl rfl))) (fun _ _ _ _=>pts_nil) (fun _ _ _ _=>(pe_ifExp (pt_cmpR op_isN (pv 0) pe_non (nomark _)) pe_non (pe_ix ix_tupC (pv 0) pe_int (fun _ _=>rfl)))))))),?_⟩
 refine⟨_,rfl,_,rfl,_,rfl,n,ts,ks,wv,kv,r,rfl,wk,r0,r1,fun p lc la cvs avs cs J S ep ec ea cl G St=>?_⟩
 refine⟨p,_,rfl,SqT.of ep,rfl,_,_,rfl,_,_,rfl,rfl,?_⟩
 have lenC:cvs.length=n.toNat:=by rw[cl.1];exact G.len
 refine⟨_,rfl,lc,rfl,⟨_,SqL.of ec⟩,?_⟩
 refine comp_lst ec (fun σ'=>σ'.length=1) (fun i v _=>v=ov ((Far.get cs i).map (·.1))) (by omega) (by rfl) (fun _ _ _ _ _ h=>h) (fun i x σ' H' hx s2 sg C hC=>?_) (fun L ys H2 hL s2 hH hly hys=>?_)
 ·match σ',sg with
  | [o],_ =>
   have cv:=cl.2 i x hx
   refine⟨_,rfl,rfl,_,rfl,ite2 (fun c=>?_) (fun c=>?_)⟩
   ·have e:Far.get cs i=none:=by
     cases e:Far.get cs i with
     | none=>rfl
     | some d =>
      rw[e] at cv
      obtain⟨tt,rfl,_⟩:=cv
      cases of_decide_eq_true c
    exact hC _ _ _ rfl (Same.refl _) (by rw[e];rfl)
   ·obtain⟨d,gu⟩:∃ d,Far.get cs i=some d:=by
     cases e:Far.get cs i with
     | none=>rw[e] at cv;exact absurd (decide_eq_true (show x=V.non from cv)) c
     | some d=>exact⟨d,rfl⟩
    rw[gu] at cv
    obtain⟨td,rfl,htd⟩:=cv
    exact⟨_,rfl,td,_,_,_,rfl,rfl,SqT.of (s2 _ _ htd),rfl,hC _ _ _ rfl (Same.refl _) (by rw[gu];rfl)⟩
 ·obtain⟨DD,eD⟩:∃ DD,DD=cs.map fun o=>o.map (·.1):=⟨_,rfl⟩
  have gD:∀ v,Far.get DD v=(Far.get cs v).map (·.1):=fun v=>by
   rw[eD];unfold Far.get
   rw[List.getD_eq_getElem?_getD,List.getElem?_map,List.getD_eq_getElem?_getD]
   cases cs[v]? <;> rfl
  refine q L DD H2 (S.trans s2) (S.free hL) ?_ (by rw[eD,List.length_map];exact G.len) fun v hv=>by rw[gD];exact G.dst St v
  rw[hH]
  refine congrArg (fun z=>some (HO.lst z)) (List.ext_getElem? fun i=>?_)
  have lD:DD.length=n.toNat:=by rw[eD,List.length_map];exact G.len
  by_cases hi:i < n.toNat
  ·rw[ov_at (by omega),gD]
   have e:ys[i]?=some ys[i]:=List.getElem?_eq_getElem (by omega)
   rw[e,hys i _ e]
  ·rw[List.getElem?_eq_none (by omega),List.getElem?_eq_none (by rw[List.length_map];omega)]
theorem ok_tree_fromB (T:Bi mg) (D:DefOk K mg "tree_from" s_tree_from ["web","keep","root"]) (O_reached_from:Ok P w K mg base 2 "reached_from" ["web","keep","root"] (spReachedB K)):Ok P w K mg base 3 "tree_from" ["web","keep","root"] (spTreeB K):=by
 refine mk_ok (k:=2) D sc_tree_from (fun vs H Q E h=>?_) (fun f cdv A outer s H vs Q E hr h=>?_)
 ·obtain⟨n,ts,ks,wv,kv,r,rfl,_⟩:=h
  rfl
 obtain⟨n,ts,ks,wv,kv,r,rfl,wk,r0,r1,q⟩:=h
 have nd:=sc_tree_from.nd
 refine⟨_,(pss_cons (ps_asg (pe_callD O_reached_from hr rfl (pa_cons (pv 0) (pa_cons (pv 1) (pa_cons (pv 2) pa_nil)))) (pg_tup (n:=2) rfl (pgs_cons (pg_name (i:=3) nd rfl (Or.inl rfl)) (pgs_cons (pg_name (i:=4) nd rfl (Or.inl rfl)) pgs_nil)))) (pss_one (ps_ret (pe_callTy call_tupleG rfl T.z_tuple (by decide +kernel) (pa_cons (pv 4) pa_nil))))),?_⟩
 refine⟨_,rfl,_,rfl,_,rfl,n,ts,ks,wv,kv,r,rfl,wk,r0,r1,fun p lc la cvs as cs J S ep ec ea cl G=>?_⟩
 refine⟨p,_,rfl,SqT.of ep,rfl,_,_,rfl,_,_,rfl,rfl,?_⟩
 exact⟨_,rfl,la,_,rfl,ea,fun t J2 S2 f2 e2=>q t as cs J2 (S.trans S2) e2 G⟩
theorem atI_last {ws:List V} {x:V}:atI (ws++[x]) (-1)=some x:=by
 unfold atI ixN
 rw[if_neg (by decide),if_pos (by rw[List.length_append,List.length_singleton];omega)]
 show (ws++[x])[(-1 + ((ws++[x]).length:Int)).toNat]?=some x
 rw[List.length_append,List.length_singleton,show (-1 + ((ws.length + 1:Nat):Int)).toNat=ws.length by omega]
 simp
theorem ok_the_wayB (T:Bi mg) (D:DefOk K mg "the_way" s_the_way ["web","keep","a","b"]) (O_tree_from:Ok P w K mg base 3 "tree_from" ["web","keep","root"] (spTreeB K)):Ok P w K mg base 4 "the_way" ["web","keep","a","b"] (spWayB K):=by
 refine mk_ok (k:=3) D sc_the_way (fun vs H Q E h=>?_) (fun f cdv A outer s H vs Q E hr h=>?_)
 ·obtain⟨n,ts,ks,wv,kv,a,b,rfl,_⟩:=h
  rfl
 obtain⟨n,ts,ks,wv,kv,a,b,rfl,wk,a0,a1,b0,b1,q⟩:=h
 have nd:=sc_the_way.nd
 have n24:=wk.2.1.n24
 have KB:=arcsB_keys wk.2.1 wk.2.2.2
 refine⟨_,(pss_cons (ps_set (i:=4) nd rfl (Or.inl rfl) (pe_callD O_tree_from hr rfl (pa_cons (pv 0) (pa_cons (pv 1) (pa_cons (pv 3) pa_nil))))) (pss_cons (ps_set (i:=5) nd rfl (Or.inl rfl) (pe_lstG (pa_cons (pv 2) pa_nil))) (pss_cons (ps_while PassesOwn.never (pt_cmpR op_ne (pe_ix ix_list (pv 5) (pe_un un_neg pe_int) (fun _ _=>rfl)) (pv 3) (nomark _)) (pss_cons (ps_if (pt_cmpR op_isN (pe_ix ix_tup (pv 4) (pe_ix ix_list (pv 5) (pe_un un_neg pe_int) (fun _ _=>rfl)) (fun _ _=>rfl)) pe_non (nomark _)) (pss_one (ps_ret pe_non)) pss_nil) (pss_one (ps_expr (pe_bm PySem.F.plainAttrs_list PySem.F.slot_list_append PySem.F.type_list_append mt_appendG (pv 5) (pa_cons (pe_ix ix_tup (pv 4) (pe_ix ix_list (pv 5) (pe_un un_neg pe_int) (fun _ _=>rfl)) (fun _ _=>rfl)) pa_nil)))))) (pss_one (ps_ret (pe_callTy call_tupleG rfl T.z_tuple (by decide +kernel) (pa_cons (pv 5) pa_nil))))))),?_⟩
 refine⟨_,rfl,_,rfl,_,rfl,n,ts,ks,wv,kv,b,rfl,wk,b0,b1,fun p as cs J S ep G=>?_⟩
 refine⟨_,rfl,(by show 1≤1000;decide),fun lw J1 S1 f1 e1=>?_⟩
 have lA:=G.alen
 have ep1:=S1 _ _ ep
 have fw:H lw=none:=S.free f1
 have nlp:p≠lw:=fun z=>by rw[z,f1] at ep;cases ep
 refine⟨fun m σ J2=>∃ (pre:List Nat) (c:Nat),σ=[some wv,some kv,some (.int a),some (.int b),some (.ref p),some (.ref lw)]∧Same H J2∧J2 p=some (.tup (as.map oa))∧J2 lw=some (.lst (natV (pre++[c])))∧c < n.toNat ∧
  ((pre=[]∧c=a.toNat∧Far.get cs c=none∧m=0)∨∃ ca cc,Far.get cs a.toNat=some ca∧Far.get cs c=some cc∧(∀ P,Far.TPw as b.toNat P c->Far.TPw as b.toNat (P++pre.reverse) a.toNat)∧pre.length + 1≤Far.beyond n.toNat cs cc.1∧m=cc.1.toNat),?_,?_⟩
 ·have e1':J1 lw=some (.lst (natV ([]++[a.toNat]))):=by rw[e1];show some (HO.lst [V.int a])=some (HO.lst [V.int ((a.toNat:Nat):Int)]);rw[Int.toNat_of_nonneg a0]
  cases e:Far.get cs a.toNat with
  | none=>exact⟨0,[],a.toNat,rfl,S.trans S1,ep1,e1',by omega,.inl ⟨rfl,rfl,e,rfl⟩⟩
  | some ca=>exact⟨_,[],a.toNat,rfl,S.trans S1,ep1,e1',by omega,.inr ⟨ca,ca,rfl,e,fun P t=>by rw[List.reverse_nil,List.append_nil];exact t,Far.beyond_pos (by omega) e,rfl⟩⟩
 rintro m σ J2 ⟨pre,c,rfl,sm,hp,hw,hc,inv⟩
 have lastV:atI (natV (pre++[c])) (-1)=some (.int (c:Int)):=by
  unfold natV;rw[List.map_append];exact atI_last
 have hat:atI (as.map oa) (c:Int)=some (oa (Far.get as c)):=atI_toNat (Int.natCast_nonneg _) (by rw[Int.toNat_natCast];exact oa_at (by omega))
 refine⟨_,rfl,_,rfl,lw,_,_,_,rfl,rfl,SqL.of hw,lastV,_,rfl,rfl,_,rfl,?_⟩
 by_cases cb:c=b.toNat
 ·refine iteNS (by rw[cb,Int.toNat_of_nonneg b0]) ?_
  refine⟨_,rfl,lw,_,rfl,hw,fun t J3 S3 f3 e3=>q _ J3 (sm.trans S3) ⟨cs,as,G,.inr ?_⟩⟩
  rcases inv with ⟨_,_,ec,_⟩ | ⟨ca,cc,e1',e2',tp,hl,_⟩
  ·rw[cb,G.start] at ec;cases ec
  ·have:=Far.beyond_le n.toNat cs cc.1
   refine⟨t,pre++[c],ca,rfl,e3,by rw[List.length_append,List.length_singleton];omega,e1',?_⟩
   rw[List.reverse_append]
   have:=tp [b.toNat] (by rw[cb];exact .root)
   rw[cb];exact this
 ·have ne:decide (V.int (c:Int)=V.int b)=false:=decide_eq_false fun z=>cb (by injection z with z;omega)
  rw[ne]
  refine iteT ⟨fun σ' J'=>∃ m',m' < m∧∃ (pre:List Nat) (c:Nat),σ'=[some wv,some kv,some (.int a),some (.int b),some (.ref p),some (.ref lw)]∧Same H J'∧J' p=some (.tup (as.map oa))∧J' lw=some (.lst (natV (pre++[c])))∧c < n.toNat ∧
   ((pre=[]∧c=a.toNat∧Far.get cs c=none∧m'=0)∨∃ ca cc,Far.get cs a.toNat=some ca∧Far.get cs c=some cc∧(∀ P,Far.TPw as b.toNat P c->Far.TPw as b.toNat (P++pre.reverse) a.toNat)∧pre.length + 1≤Far.beyond n.toNat cs cc.1∧m'=cc.1.toNat),fun _ _ h=>h,?_⟩
  refine⟨_,rfl,_,rfl,_,rfl,lw,_,_,_,rfl,rfl,SqL.of hw,lastV,p,_,_,_,rfl,rfl,SqT.of hp,hat,rfl,_,rfl,?_⟩
  cases ea:Far.get as c with
  | none =>
   refine iteT (q _ _ sm ⟨cs,as,G,.inl ⟨rfl,?_⟩⟩)
   rcases inv with ⟨_,ec,e2',_⟩ | ⟨ca,cc,_,e2',_⟩
   ·rw[← ec];exact e2'
   ·exact absurd ea (G.has c cc e2' cb)
  | some u =>
   obtain⟨l,k,cu,mm,e1',e2'⟩:=G.arc _ _ ea
   rw[ea] at hat
   rcases inv with ⟨_,_,ec,_⟩ | ⟨ca,cc,e3',e4',tp,hl,rfl⟩
   ·rw[ec] at e2';cases e2'
   ·have ecc:cc=(cu.1 + l,cu.2 + 2 ^ k):=Option.some.inj (e4'.symm.trans e2')
    have l1:=KB.pos _ _ _ _ mm
    have cu0:=G.nn _ _ e1'
    have hu:=(arcsB_in wk.2.1 wk.2.2.2 mm).1
    have c1:cc.1=cu.1 + l:=by rw[ecc]
    have bl:=Far.beyond_lt hu e1' (show cu.1 < cc.1 by omega)
    have ble:=Far.beyond_le n.toNat cs cu.1
    have lenW:(natV (pre++[c])).length=pre.length + 1:=by unfold natV;rw[List.length_map,List.length_append,List.length_singleton]
    refine iteF ⟨_,rfl,.inl ⟨rfl,_,SqL.of hw⟩,_,rfl,_,rfl,_,rfl,lw,_,_,_,rfl,rfl,SqL.of hw,lastV,p,_,_,_,rfl,rfl,SqT.of hp,hat,lw,_,_,rfl,rfl,hw,by omega,fun J3 b3 e3=>?_⟩
    refine⟨cu.1.toNat,by omega,pre++[c],u,rfl,fun c o z=>b3 _ _ (ne_of_none z fw) (sm _ _ z),b3 _ _ nlp hp,?_,hu,.inr ⟨ca,cu,e3',e1',fun P t=>?_,by rw[List.length_append,List.length_singleton];omega,rfl⟩⟩
    ·rw[e3];unfold natV;rw[List.map_append (l₂:=[u])];rfl
    ·have:=tp (P++[c]) (.step ea t)
     rw[List.reverse_append]
     rw[List.append_assoc] at this
     exact this
theorem ok_tie_between (T:Bi mg) (D:DefOk K mg "tie_between" s_tie_between ["web","a","b"]):Ok P w K mg base 1 "tie_between" ["web","a","b"] (spTB K):=by
 refine mk_ok (k:=0) D sc_tie_between (fun vs H Q E h=>?_) (fun f cdv A outer s H vs Q E hr h=>?_)
 ·obtain⟨n,ts,wv,u,v,rfl,_⟩:=h
  rfl
 obtain⟨n,ts,wv,u,v,rfl,isw,few60,q⟩:=h
 have nd:=sc_tie_between.nd
 have units:∀ {x:Nat},x≤3->(A.deeper (envOfC "tie_between" (defScope s_tie_between) s.heap.objs.size f cdv)).units + x < cLine:=fun {x} hu=>by have:=hr.units;omega
 obtain⟨g0,g,ws,rfl,hg0,hg,hall,hlw⟩:=web_parts isw
 refine⟨_,(pss_cons (ps_set (i:=3) nd rfl (Or.inl rfl) (pe_tupG (pa_cons (pe_callB (call_min2 rfl) rfl T.z_min (by decide +kernel) (pa_cons (pv 1) (pa_cons (pv 2) pa_nil))) (pa_cons (pe_callB (call_max2 rfl) rfl T.z_max (by decide +kernel) (pa_cons (pv 1) (pa_cons (pv 2) pa_nil))) pa_nil)))) (pss_cons (ps_for PassesOwn.never rfl (pi_enum true rfl T.z_enumerate (pa_cons (pe_ix ix_tup (pv 0) pe_int (fun _ _=>rfl)) pa_nil)) (pg_tup (n:=2) rfl (pgs_cons (pg_name (i:=4) nd rfl (Or.inl rfl)) (pgs_cons (pg_name (i:=5) nd rfl (Or.inl rfl)) pgs_nil))) (pss_one (ps_if (pt_cmpR op_eqD (pe_slice sl_tupA (pv 5) po_none (po_some pe_int)) (pv 3) (nomark _)) (pss_one (ps_ret (pv 4))) pss_nil))) (pss_one (ps_ret pe_non)))),?_⟩
 refine⟨_,rfl,_,rfl,_,_,rfl,_,rfl,_,rfl,_,_,rfl,(by show 2≤1000;decide),fun te J1 S1 f1 e1=>?_⟩
 have eMin:(if (v:Int) < (u:Int) then (v:Int) else u)=min (u:Int) v:=by split <;> omega
 have eMax:(if (v:Int) > (u:Int) then (v:Int) else u)=max (u:Int) v:=by split <;> omega
 rw[eMin,eMax] at e1
 refine⟨_,rfl,g0,_,_,_,rfl,rfl,SqT.of (S1 _ _ hg0),rfl,g,rfl,⟨ws,SqX.of (S1 _ _ hg)⟩,?_⟩
 refine⟨fun i m σ J=>m=ts.length - i∧i≤ts.length∧(∃ y4 y5:Option V,σ=[some (.ref g0),some (.int (u:Int)),some (.int (v:Int)),some (.ref te),y4,y5])∧Same J1 J∧∀ k,k < i->isTB ts u v k=false,⟨_,rfl,Nat.zero_le _,⟨none,none,rfl⟩,Same.refl _,fun k hk=>(by omega)⟩,?_⟩
 rintro i m σ J ⟨rfl,hi,⟨y4,y5,rfl⟩,sm,pre⟩
 have sH:=S1.trans sm
 have sq:SqX true K J g ws:=SqX.of (sH _ _ hg)
 by_cases hlt:i < ts.length
 ·refine .inr ⟨⟨ws,ws[i]'(by omega),sq,by simp [show i < ws.length by omega]⟩,fun σ' J'=>∃ m',m' < ts.length - i∧(m'=ts.length - (i + 1)∧i + 1≤ts.length∧(∃ y4 y5:Option V,σ'=[some (.ref g0),some (.int (u:Int)),some (.int (v:Int)),some (.ref te),y4,y5])∧Same J1 J'∧∀ k,k < i + 1->isTB ts u v k=false),fun _ _ h=>h,fun x J' hy=>?_⟩
  obtain⟨T',y,hT,rfl,rfl,ey⟩:=hy
  have hyi:=ey ws sq
  obtain⟨ta,hta,htie⟩:=tie_val hall hlt
  rw[hta] at hyi
  cases hyi
  have S2:=same_new (o:=.tup [.int (i:Nat),.ref ta]) hT
  have htie':=S2 _ _ (sH _ _ htie)
  refine⟨T',_,rfl,SqT.of upd_same,rfl,_,_,rfl,_,_,rfl,rfl,?_⟩
  refine⟨_,rfl,_,rfl,ta,_,rfl,htie',fun tc J3 S3 e3=>?_⟩
  have e3':J3 tc=some (.tup (([(tieAt ts i).1,(tieAt ts i).2.1]:List Int).map V.int)):=e3
  have e1':J3 te=some (.tup (([min (u:Int) v,max (u:Int) v]:List Int).map V.int)):=S3 _ _ (S2 _ _ (sm _ _ e1))
  refine⟨_,rfl,.tuple (([(tieAt ts i).1,(tieAt ts i).2.1]:List Int).map .int),.tuple (([min (u:Int) v,max (u:Int) v]:List Int).map .int),⟨tc,_,rfl,e3',IsAll.ints _⟩,⟨te,_,rfl,e1',IsAll.ints _⟩,lay_ints _,lay_ints _,?_,_,rfl,?_⟩
  ·have d1:=deep_ints [(tieAt ts i).1,(tieAt ts i).2.1]
   have d2:PyData.depth (.tuple (([(tieAt ts i).1,(tieAt ts i).2.1]:List Int).map .int))=PyData.depthAll (([(tieAt ts i).1,(tieAt ts i).2.1]:List Int).map .int) + 1:=rfl
   exact units (Nat.le_trans (Nat.min_le_left _ _) (by rw[d2];omega))
  have eq:PyData.eqv (.tuple (([(tieAt ts i).1,(tieAt ts i).2.1]:List Int).map .int)) (.tuple (([min (u:Int) v,max (u:Int) v]:List Int).map .int))=isTB ts u v i:=pair_eqv _ _ _ _
  rw[eq]
  have SS:=S2.trans S3
  refine ite2 (fun c=>?_) (fun c=>?_)
  ·have et:tbN ts u v=some i:=by
    unfold tbN
    refine List.find?_range_eq_some.mpr ⟨c,List.mem_range.mpr hlt,fun j hj=>?_⟩
    rw[pre j hj];rfl
   have q1:=q J3 (sH.trans SS)
   rw[et] at q1
   exact⟨_,rfl,q1⟩
  ·refine⟨ts.length - (i + 1),by omega,rfl,hlt,⟨_,_,rfl⟩,sm.trans SS,fun k hk=>?_⟩
   by_cases z:k=i
   ·rw[z];exact Bool.eq_false_iff.mpr c
   ·exact pre k (by omega)
 ·have e:i=ts.length:=by omega
  subst e
  refine .inl ⟨⟨ws,sq,by omega⟩,?_⟩
  have et:tbN ts u v=none:=by
   unfold tbN
   refine List.find?_eq_none.mpr fun k hk=>?_
   rw[pre k (List.mem_range.mp hk)];exact Bool.false_ne_true
  have q1:=q J sH
  rw[et] at q1
  exact q1
theorem ok_ties_alongW (T:Bi mg) (D:DefOk K mg "ties_along" s_ties_along ["web","places"]) (O_tie_between:Ok P w K mg base 1 "tie_between" ["web","a","b"] (spTB K)):Ok P w K mg base 2 "ties_along" ["web","places"] (spAlongW K):=by
 refine mk_ok (k:=1) D sc_ties_along (fun vs H Q E h=>?_) (fun f cdv A outer s H vs Q E hr h=>?_)
 ·obtain⟨n,ts,wv,t,ws,rfl,_⟩:=h
  rfl
 obtain⟨n,ts,wv,t,ws,rfl,isw,few60,ht,l24,lk,q⟩:=h
 have nd:=sc_ties_along.nd
 have lenW:(natV ws).length=ws.length:=by unfold natV;rw[List.length_map]
 have ecut:cutV (natV ws) (some 1) none=natV (ws.drop 1):=by
  unfold cutV
  have h1:HT.sIx (natV ws).length (natV ws).length none=(natV ws).length:=rfl
  rw[h1]
  by_cases z:ws=[]
  ·subst z;rfl
  ·have pos:=List.length_pos_iff.mpr z
   have h0:HT.sIx (natV ws).length 0 (some 1)=1:=by
    unfold HT.sIx
    simp
    omega
   rw[h0,List.take_of_length_le (by rw[List.length_drop];exact Nat.le_refl _)]
   unfold natV
   rw[List.map_drop]
 refine⟨_,(pss_one (ps_ret (pe_comp (N:=["web","places"]) (sc0:=defScope s_ties_along) (own:=["one","other"]) (fr:=["web"]) (js:=[0]) rfl (pi_zip true true rfl T.z_zip (pa_cons (pv 1) (pa_cons (pe_slice sl_tupA (pv 1) (po_some pe_int) po_none) pa_nil))) (fun _ _ _ _=>(pg_tupC (n:=2) rfl (pgs_cons (pg_name (i:=0) (by show List.Nodup [("one":Str),("other":Str),("web":Str)];decide +kernel) rfl (Or.inl rfl)) (pgs_cons (pg_name (i:=1) (by show List.Nodup [("one":Str),("other":Str),("web":Str)];decide +kernel) rfl (Or.inl rfl)) pgs_nil)))) (fun _ _ _ _=>pts_nil) (fun _ _ _ _=>(pe_callD O_tie_between hr rfl (pa_cons (pv 2) (pa_cons (pv 0) (pa_cons (pv 1) pa_nil)))))))),?_⟩
 refine⟨_,rfl,_,rfl,_,rfl,t,_,rfl,ht,fun t2 J1 S1 e1=>?_⟩
 rw[ecut] at e1
 refine⟨t,t2,rfl,⟨_,SqX.of (t:=true) (S1 _ _ ht)⟩,⟨_,SqX.of (t:=true) e1⟩,?_⟩
 have lenD:(natV (ws.drop 1)).length=ws.length - 1:=by unfold natV;rw[List.length_map,List.length_drop]
 refine comp_zip (t1:=true) (t2:=true) (xs:=natV ws) (zs:=natV (ws.drop 1)) (S1 _ _ ht) e1 (fun σ'=>∃ o1 o2,σ'=[o1,o2,some wv]) (fun i x _=>x=V.int (((tbN ts (ws.getD i 0) (ws.getD (i + 1) 0)).getD 0:Nat):Int)) (by omega) (by exact⟨none,none,rfl⟩) (fun _ _ _ _ _ h=>h) (fun i x z U σ' H' hxi hzi s2 hU sg C hC=>?_) (fun L ys H2 hL s2 hH hly hys=>?_)
 ·obtain⟨o1,o2,rfl⟩:=sg
  obtain⟨u,hu,rfl⟩:=nat_at hxi
  obtain⟨v,hv,rfl⟩:=nat_at hzi
  rw[List.getElem?_drop,Nat.add_comm] at hv
  obtain⟨k,ek,hk⟩:=linked_at lk hu hv
  have eu:ws.getD i 0=u:=by rw[List.getD_eq_getElem?_getD,hu];rfl
  have ev:ws.getD (i + 1) 0=v:=by rw[List.getD_eq_getElem?_getD,hv];rfl
  refine⟨U,_,rfl,SqT.of upd_same,rfl,_,_,rfl,_,_,rfl,rfl,?_⟩
  have SU:=same_new (o:=.tup [V.int (u:Int),.int (v:Int)]) hU
  refine⟨_,rfl,_,rfl,_,rfl,n,ts,wv,u,v,rfl,Is.same (S1.trans (s2.trans SU)) _ isw,few60,fun H5 s5=>hC _ _ _ ⟨_,_,rfl⟩ (SU.trans s5) ?_⟩
  rw[eu,ev,ek];rfl
 ·refine q L H2 (S1.trans s2) ?_
  rw[hH]
  refine congrArg (fun z=>some (HO.lst z)) (List.ext_getElem? fun i=>?_)
  have hl2:ys.length=ws.length - 1:=by rw[hly,lenW,lenD];omega
  unfold alongN natV
  rw[List.map_map,List.getElem?_map]
  by_cases hi:i < ws.length - 1
  ·have e:ys[i]?=some ys[i]:=List.getElem?_eq_getElem (by omega)
   rw[e,hys i _ e,List.getElem?_range hi];rfl
  ·rw[List.getElem?_eq_none (by omega),List.getElem?_eq_none (by rw[List.length_range];omega)];rfl
theorem ok_heights_from (T:Bi mg) (D:DefOk K mg "heights_from" s_heights_from ["web","keep","a","roof"]) (O_fars_from:Ok P w K mg base 3 "fars_from" ["web","keep","root"] (spFars K)):Ok P w K mg base 4 "heights_from" ["web","keep","a","roof"] (spHFrom K):=by
 refine mk_ok (k:=3) D sc_heights_from (fun vs H Q E h=>?_) (fun f cdv A outer s H vs Q E hr h=>?_)
 ·obtain⟨n,ts,ks,wv,kv,a,roof,rfl,_⟩:=h
  rfl
 obtain⟨n,ts,ks,wv,kv,a,roof,rfl,wk,a0,a1,q⟩:=h
 have nd:=sc_heights_from.nd
 have n24:=wk.2.1.n24
 refine⟨_,(pss_one (ps_ret (pe_callTy call_tupleG rfl T.z_tuple (by decide +kernel) (pa_cons (pe_comp (N:=["web","keep","a","roof"]) (sc0:=defScope s_heights_from) (own:=["length"]) (fr:=["roof"]) (js:=[3]) rfl (pi_list (pe_callD O_fars_from hr rfl (pa_cons (pv 0) (pa_cons (pv 1) (pa_cons (pv 2) pa_nil))))) (fun _ _ _ _=>(pg_name (i:=0) (by show List.Nodup [("length":Str),("roof":Str)];decide +kernel) rfl (Or.inl rfl))) (fun _ _ _ _=>pts_nil) (fun _ _ _ _=>(pe_ifExp (pt_cmpR op_isN (pv 0) pe_non (nomark _)) (pv 1) (pe_callB (call_min2 rfl) rfl T.z_min (by decide +kernel) (pa_cons (pv 0) (pa_cons (pv 1) pa_nil)))))) pa_nil)))),?_⟩
 refine⟨_,rfl,_,rfl,_,rfl,n,ts,ks,wv,kv,a,rfl,wk,a0,a1,fun l DD J S f1 e1 lD hD=>?_⟩
 refine⟨l,rfl,⟨_,SqL.of e1⟩,?_⟩
 refine comp_lst e1 (fun σ'=>∃ o,σ'=[o,some (.int roof)]) (fun i v _=>v=.int (capO roof (Far.get DD i))) (by rw[List.length_map];omega) (by exact⟨none,rfl⟩) (fun _ _ _ _ _ h=>h) (fun i x σ' H' hx s2 sg C hC=>?_) (fun L ys H2 hL s2 hH hly hys=>?_)
 ·obtain⟨o,rfl⟩:=sg
  have hi:i < DD.length:=by have:=(List.getElem?_eq_some_iff.mp hx).1;rw[List.length_map] at this;exact this
  rw[ov_at hi] at hx
  cases hx
  refine⟨_,rfl,rfl,_,rfl,?_⟩
  cases e:Far.get DD i with
  | none=>exact iteT ⟨_,rfl,hC _ _ _ ⟨_,rfl⟩ (Same.refl _) (by rw[e];rfl)⟩
  | some x=>exact iteF ⟨_,rfl,_,rfl,_,_,rfl,hC _ _ _ ⟨_,rfl⟩ (Same.refl _) (by rw[e];rfl)⟩
 ·have lY:ys.length=DD.length:=by rw[hly,List.length_map]
  refine⟨L,_,rfl,hH,fun t J2 S2 f2 e2=>q t DD J2 (S.trans (s2.trans S2)) ?_ lD hD⟩
  rw[e2]
  refine congrArg (fun z=>some (HO.tup z)) (List.ext_getElem? fun i=>?_)
  by_cases hi:i < DD.length
  ·have e:ys[i]?=some ys[i]:=List.getElem?_eq_getElem (by omega)
   rw[e,hys i _ e,List.getElem?_map,List.getElem?_map,List.getElem?_eq_getElem hi]
   unfold Far.get
   rw[List.getD_eq_getElem?_getD,List.getElem?_eq_getElem hi];rfl
  ·rw[List.getElem?_eq_none (by omega),List.getElem?_eq_none (by rw[List.length_map,List.length_map];omega)]
theorem ok_whole (T:Bi mg) (D:DefOk K mg "whole" s_whole ["web"]):Ok P w K mg base 1 "whole" ["web"] (spWhole K):=by
 refine mk_ok (k:=0) D sc_whole (fun vs H Q E h=>?_) (fun f cdv A outer s H vs Q E hr h=>?_)
 ·obtain⟨n,ts,v,rfl,_⟩:=h
  rfl
 obtain⟨n,ts,v,rfl,hw,few60,q⟩:=h
 have nd:=sc_whole.nd
 obtain⟨g0,g,ws,rfl,hg0,hg,hall,hlw⟩:=web_parts hw
 refine⟨_,(pss_one (ps_ret (pe_callTy (call_tuple_rng rfl) rfl T.z_tuple (by decide +kernel) (pa_cons (pe_callTy call_range rfl T.z_range (by decide +kernel) (pa_cons (pe_callB call_len_seq rfl T.z_len (by decide +kernel) (pa_cons (pe_ix ix_tup (pv 0) pe_int (fun _ _=>rfl)) pa_nil)) pa_nil)) pa_nil)))),?_⟩
 refine⟨_,rfl,g0,_,_,_,rfl,rfl,SqT.of hg0,rfl,g,_,rfl,.inr (SqT.of hg),_,rfl,fun r hr'=>?_⟩
 refine⟨r,_,rfl,upd_same,by omega,by omega,fun l H' S f e=>q l H' ((same_new hr').trans S) ((same_new (o:=.rng 0 _) hr').free f) ?_⟩
 rw[e,show ((ws.length:Nat):Int).toNat=ts.length by omega]
def spWH (K:PySem.W.Frag):Sp:=fun vs H Q _=>∃ (n:Int) (ts:List Tie) (wv:V) (r:Nat),vs=[wv,.int (r:Int)]∧Is K H (webD n ts) wv∧WebOk n ts∧r < n.toNat∧∀ p H',Same H H'->H' p=some (.tup ((htP n ts r).map V.int))->Q (.ref p) H'
theorem ok_web_heights (T:Bi mg) (D:DefOk K mg "web_heights" s_web_heights ["web","place"]) (O_heights_from:Ok P w K mg base 4 "heights_from" ["web","keep","a","roof"] (spHFrom K)) (O_whole:Ok P w K mg base 4 "whole" ["web"] (spWhole K)):Ok P w K mg base 5 "web_heights" ["web","place"] (spWH K):=by
 refine mk_ok (k:=4) D sc_web_heights (fun vs H Q E h=>?_) (fun f cdv A outer s H vs Q E hr h=>?_)
 ·obtain⟨n,ts,wv,r,rfl,_⟩:=h
  rfl
 obtain⟨n,ts,wv,r,rfl,isw,ok,hr_,q⟩:=h
 have nd:=sc_web_heights.nd
 have few60:=ok.few
 refine⟨_,(pss_one (ps_ret (pe_callD O_heights_from hr rfl (pa_cons (pv 0) (pa_cons (pe_callD O_whole hr rfl (pa_cons (pv 0) pa_nil)) (pa_cons (pv 1) (pa_cons (pe_op op_pow pe_int pe_int) pa_nil))))))),?_⟩
 refine⟨_,rfl,_,rfl,n,ts,wv,rfl,isw,few60,fun lk J1 S1 f1 e1=>?_⟩
 refine⟨_,rfl,_,_,rfl,rfl,⟨by decide,by decide,by decide⟩,n,ts,List.range ts.length,wv,.ref lk,(r:Int),10 ^ 20,rfl,⟨Is.same S1 _ isw,ok,is_nkeepL e1,keep_all ts⟩,by omega,by omega,fun p DD J2 S2 e2 lD hD=>?_⟩
 rw[Int.toNat_natCast] at hD
 have eD:=dGL_eq ok lD hD
 subst eD
 exact q p J2 (S1.trans S2) e2
def spTOW (K:PySem.W.Frag):Sp:=fun vs H Q _=>∃ (n:Int) (ts:List Tie) (wv:V) (p:Addr) (ys:List V) (os:List (Option (List Nat))),vs=[wv,.ref p]∧Is K H (webD n ts) wv∧WebOk n ts∧H p=some (.tup ys)∧ys.length=os.length∧ys.length≤30∧(∀ (i:Nat) (o:Option (List Nat)) (v:V),os[i]?=some o->ys[i]?=some v->WyV H ts o v)∧∀ t H',Same H H'->H' t=some (.tup (natV (twK ts os)))->Q (.ref t) H'
theorem ok_ties_of_ways (T:Bi mg) (D:DefOk K mg "ties_of_ways" s_ties_of_ways ["web","ways"]) (O_ties_along:Ok P w K mg base 2 "ties_along" ["web","places"] (spAlongW K)):Ok P w K mg base 3 "ties_of_ways" ["web","ways"] (spTOW K):=by
 refine mk_ok (k:=2) D sc_ties_of_ways (fun vs H Q E h=>?_) (fun f cdv A outer s H vs Q E hr h=>?_)
 ·obtain⟨n,ts,wv,p,ys,os,rfl,_⟩:=h
  rfl
 obtain⟨n,ts,wv,p,ys,os,rfl,isw,ok,hp,leq,l30,hos,q⟩:=h
 have nd:=sc_ties_of_ways.nd
 have few60:=ok.few
 refine⟨_,(pss_cons (ps_set (i:=2) nd rfl (Or.inl rfl) (pe_lstG pa_nil)) (pss_cons (ps_for PassesOwn.never rfl (pi_tup (pv 1)) (pg_name (i:=3) nd rfl (Or.inl rfl)) (pss_one (ps_if (pt_cmpR op_notN (pv 3) pe_non (nomark _)) (pss_one (ps_expr (pe_bm PySem.F.plainAttrs_list PySem.F.slot_list_extend PySem.F.type_list_extend mt_extendB (pv 2) (pa_cons (pe_callD O_ties_along hr rfl (pa_cons (pv 0) (pa_cons (pv 3) pa_nil))) pa_nil)))) pss_nil))) (pss_one (ps_ret (pe_callTy call_tupleG rfl T.z_tuple (by decide +kernel) (pa_cons (pe_callB (call_sortedS rfl) rfl T.z_sorted (by decide +kernel) (pa_cons (pe_callTy (call_setXL rfl) rfl T.z_set (by decide +kernel) (pa_cons (pv 2) pa_nil)) pa_nil)) pa_nil)))))),?_⟩
 refine⟨(by show 0≤1000;decide),fun lf J1 S1 f1 e1=>?_⟩
 have vof:∀ i o,os[i]?=some o->∃ v,ys[i]?=some v∧WyV H ts o v:=fun i o e=>by
  have hi:=(List.getElem?_eq_some_iff.mp e).1
  have ev:ys[i]?=some ys[i]:=List.getElem?_eq_getElem (by omega)
  exact⟨_,ev,hos i o _ e ev⟩
 have lt:∀ k ∈ os.flatMap (awN ts),k < ts.length:=fun k hk=>by
  obtain⟨o,ho,hk⟩:=List.mem_flatMap.mp hk
  obtain⟨i,hi⟩:=List.mem_iff_getElem?.mp ho
  obtain⟨v,_,wy⟩:=vof i o hi
  exact (aw_lt wy).1 k hk
 have fl:∀ i,((os.take i).flatMap (awN ts)).length≤690:=fun i=>by
  have h1:=flat_leG (f:=awN ts) (m:=23) (os.take i) fun o ho=>by
   obtain⟨j,hj⟩:=List.mem_iff_getElem?.mp (List.mem_of_mem_take ho)
   obtain⟨v,_,wy⟩:=vof j o hj
   exact (aw_lt wy).2
  have h2:(os.take i).length≤30:=by rw[List.length_take];omega
  have h3:=Nat.mul_le_mul_right 23 h2
  omega
 refine⟨_,rfl,p,rfl,⟨_,SqT.of (S1 _ _ hp)⟩,?_⟩
 refine for_tup (xs:=ys) (fun i σ J=>∃ y3:Option V,σ=[some wv,some (.ref p),some (.ref lf),y3]∧But lf J1 J∧J lf=some (.lst (natV ((os.take i).flatMap (awN ts))))) ⟨none,rfl,But.refl,e1⟩ (fun i σ J _ h=>?_) (fun i x σ J hx h=>?_) (fun σ J h=>?_)
 ·obtain⟨y3,rfl,bt,_⟩:=h
  exact SqT.of (bt _ _ (ne_of_none hp f1) (S1 _ _ hp))
 ·obtain⟨y3,rfl,bt,hf⟩:=h
  have hi:=(List.getElem?_eq_some_iff.mp hx).1
  have ho:os[i]?=some os[i]:=List.getElem?_eq_getElem (by omega)
  have wy:=hos i _ _ ho hx
  have tn:os.take (i + 1)=os.take i++[os[i]]:=by rw[List.take_add_one,ho];rfl
  have sm:Same H J:=fun b o e=>bt _ _ (ne_of_none e f1) (S1 _ _ e)
  have l1:=fl i
  have l2:=(aw_lt wy).2
  generalize os[i]=o at wy tn l2
  rcases wy with ⟨rfl,rfl⟩ | ⟨t,ws,rfl,rfl,ht,l24,lk⟩
  ·refine⟨_,rfl,rfl,_,rfl,iteF ⟨_,rfl,bt,?_⟩⟩
   rw[hf,tn,List.flatMap_append]
   show _=some (HO.lst (natV (_++[])))
   rw[List.append_nil]
  ·refine⟨_,rfl,rfl,_,rfl,iteT ⟨_,rfl,.inl ⟨rfl,_,SqL.of hf⟩,_,rfl,_,rfl,n,ts,wv,t,ws,rfl,Is.same sm _ isw,few60,sm _ _ ht,by omega,lk,fun l4 J4 S4 e4=>?_⟩⟩
   refine⟨lf,l4,_,_,rfl,rfl,S4 _ _ hf,e4,by rw[natV_length,natV_length];change (alongN ts ws).length≤23 at l2;omega,fun J5 b5 e5=>⟨_,rfl,fun b o z e=>b5 _ _ z (S4 _ _ (bt _ _ z e)),?_⟩⟩
   rw[e5,tn,List.flatMap_append,natV_append]
   show _=some (HO.lst (_++natV (alongN ts ws++[])))
   rw[List.append_nil]
 ·obtain⟨y3,rfl,bt,hf⟩:=h
  have l1:=fl os.length
  rw[leq,List.take_length] at hf
  rw[List.take_length] at l1
  have sm:Same H J:=fun b o e=>bt _ _ (ne_of_none e f1) (S1 _ _ e)
  have mfu:=twK_mem lt
  obtain⟨fu,efu⟩:∃ fu,fu=os.flatMap (awN ts):=⟨_,rfl⟩
  rw[← efu] at hf l1 lt mfu
  have few:=setN_few (ns:=keepI fu) (m:=60) fun x hx=>by
   obtain⟨c,hc,rfl⟩:=List.mem_map.mp hx
   have:=lt c hc
   omega
  rw[natV_keep] at hf
  refine⟨_,rfl,lf,keepI fu,rfl,hf,by unfold keepI;rw[List.length_map];omega,fun q1 J2 S2 f2 e2=>⟨q1,_,_,rfl,e2,by omega,fun ms m1 m2 m3 l3 J3 S3 f3 e3=>⟨l3,_,rfl,e3,fun t J4 S4 f4 e4=>?_⟩⟩⟩
  rw[sorted_ties m1 m2 m3 (twK_ok ts os).1 mfu] at e4
  exact q t J4 (sm.trans (S2.trans (S3.trans S4))) e4
noncomputable def wysN (ts:List Tie) (prs:List (Nat × Nat)):List (Option (List Nat)):=prs.map fun p=>wyN ts p.1 p.2
structure PtV (n:Int) (ts:List Tie) (prs:List (Nat × Nat)) (t ta tb tc:Addr) (ys zs:List V) (H':Hp):Prop where
 e:H' t=some (.tup [.ref ta,.ref tb,.ref tc])
 ea:H' ta=some (.tup (natV (twK ts (wysN ts prs))))
 eb:H' tb=some (.tup ys)
 ec:H' tc=some (.tup zs)
 ly:ys.length=prs.length
 lz:zs.length=prs.length
 wy:∀ (i:Nat) (pr:Nat × Nat) (v:V),prs[i]?=some pr->ys[i]?=some v->WyV H' ts (wyN ts pr.1 pr.2) v
 hz:∀ (i:Nat) (pr:Nat × Nat) (v:V),prs[i]?=some pr->zs[i]?=some v->∃ a,v=.ref a∧H' a=some (.tup ((htP n ts pr.1).map V.int))
def PrsOk (n:Int) (prs:List (Nat × Nat)):Prop:=prs.length≤30∧∀ pr ∈ prs,pr.1 < n.toNat∧pr.2 < n.toNat
def spPT (K:PySem.W.Frag):Sp:=fun vs H Q _=>∃ (n:Int) (ts:List Tie) (wv:V) (p:Addr) (ps:List V) (prs:List (Nat × Nat)),vs=[wv,.ref p]∧Is K H (webD n ts) wv∧WebOk n ts∧H p=some (.tup ps)∧IsAll K H (prs.map prD) ps∧PrsOk n prs∧∀ t ta tb tc ys zs H',Same H H'->PtV n ts prs t ta tb tc ys zs H'->Q (.ref t) H'
theorem ok_pairs_told (T:Bi mg) (D:DefOk K mg "pairs_told" s_pairs_told ["web","pairs"]) (O_the_way:Ok P w K mg base 5 "the_way" ["web","keep","a","b"] (spWayM K)) (O_whole:Ok P w K mg base 5 "whole" ["web"] (spWhole K)) (O_web_heights:Ok P w K mg base 5 "web_heights" ["web","place"] (spWH K)) (O_ties_of_ways:Ok P w K mg base 5 "ties_of_ways" ["web","ways"] (spTOW K)):Ok P w K mg base 6 "pairs_told" ["web","pairs"] (spPT K):=by
 refine mk_ok (k:=5) D sc_pairs_told (fun vs H Q E h=>?_) (fun f cdv A outer s H vs Q E hr h=>?_)
 ·obtain⟨n,ts,wv,p,ps,prs,rfl,_⟩:=h
  rfl
 obtain⟨n,ts,wv,p,ps,prs,rfl,isw,ok,hp,hps,⟨l30,hpr⟩,q⟩:=h
 have nd:=sc_pairs_told.nd
 have few60:=ok.few
 have lps:ps.length=prs.length:=by rw[hps.length,List.length_map]
 refine⟨_,(pss_cons (ps_set (i:=2) nd rfl (Or.inl rfl) (pe_callTy call_tupleG rfl T.z_tuple (by decide +kernel) (pa_cons (pe_comp (N:=["web","pairs","ways","heights"]) (sc0:=defScope s_pairs_told) (own:=["a","b"]) (fr:=["web"]) (js:=[0]) rfl (pi_tup (pv 1)) (fun _ _ _ _=>(pg_tupC (n:=2) rfl (pgs_cons (pg_name (i:=0) (by show List.Nodup [("a":Str),("b":Str),("web":Str)];decide +kernel) rfl (Or.inl rfl)) (pgs_cons (pg_name (i:=1) (by show List.Nodup [("a":Str),("b":Str),("web":Str)];decide +kernel) rfl (Or.inl rfl)) pgs_nil)))) (fun _ _ _ _=>pts_nil) (fun _ _ _ _=>(pe_callD O_the_way hr rfl (pa_cons (pv 2) (pa_cons (pe_callD O_whole hr rfl (pa_cons (pv 2) pa_nil)) (pa_cons (pv 0) (pa_cons (pv 1) pa_nil))))))) pa_nil))) (pss_cons (ps_set (i:=3) nd rfl (Or.inl rfl) (pe_callTy call_tupleG rfl T.z_tuple (by decide +kernel) (pa_cons (pe_comp (N:=["web","pairs","ways","heights"]) (sc0:=defScope s_pairs_told) (own:=["a","b"]) (fr:=["web"]) (js:=[0]) rfl (pi_tup (pv 1)) (fun _ _ _ _=>(pg_tupC (n:=2) rfl (pgs_cons (pg_name (i:=0) (by show List.Nodup [("a":Str),("b":Str),("web":Str)];decide +kernel) rfl (Or.inl rfl)) (pgs_cons (pg_name (i:=1) (by show List.Nodup [("a":Str),("b":Str),("web":Str)];decide +kernel) rfl (Or.inl rfl)) pgs_nil)))) (fun _ _ _ _=>pts_nil) (fun _ _ _ _=>(pe_callD O_web_heights hr rfl (pa_cons (pv 2) (pa_cons (pv 0) pa_nil))))) pa_nil))) (pss_one (ps_ret (pe_tupG (pa_cons (pe_callD O_ties_of_ways hr rfl (pa_cons (pv 0) (pa_cons (pv 2) pa_nil))) (pa_cons (pv 2) (pa_cons (pv 3) pa_nil)))))))),?_⟩
 refine⟨_,rfl,p,rfl,⟨_,SqT.of hp⟩,?_⟩
 refine comp_tup hp (fun σ'=>∃ o1 o2,σ'=[o1,o2,some wv]) (fun i v J=>WyV J ts (wyN ts (prs.getD i (0,0)).1 (prs.getD i (0,0)).2) v) (by omega) (by exact⟨none,none,rfl⟩) (fun i v J J' k h=>h.tk k) (fun i x σ' H' hx s2 sg C hC=>?_) (fun L ys J1 hL S1 hH hly hys=>?_)
 ·obtain⟨o1,o2,rfl⟩:=sg
  obtain⟨pr,t,hpi,rfl,ht⟩:=pr_at (IsAll.same s2 _ hps) hx
  have er:prs.getD i (0,0)=pr:=by rw[List.getD_eq_getElem?_getD,hpi];rfl
  rw[er] at hC
  have:=hpr pr (List.mem_of_getElem? hpi)
  refine⟨t,_,rfl,SqT.of ht,rfl,_,_,rfl,_,_,rfl,rfl,?_⟩
  refine⟨_,rfl,_,rfl,n,ts,wv,rfl,Is.same s2 _ isw,few60,fun lk J2 S2 f2 e2=>?_⟩
  refine⟨_,rfl,_,rfl,n,ts,List.range ts.length,wv,.ref lk,_,_,rfl,⟨Is.same (s2.trans S2) _ isw,ok,is_nkeepL e2,keep_all ts⟩,by omega,by omega,by omega,by omega,fun v J3 S3 hv=>hC _ _ _ ⟨_,_,rfl⟩ (S2.trans S3) ?_⟩
  rw[Int.toNat_natCast,Int.toNat_natCast] at hv
  exact wy_of ok hv
 refine⟨L,_,rfl,hH,fun tb J2 S2 f2 e2=>?_⟩
 have S02:=S1.trans S2
 have hp2:=S02 _ _ hp
 refine⟨_,rfl,p,rfl,⟨_,SqT.of hp2⟩,?_⟩
 refine comp_tup hp2 (fun σ'=>∃ o1 o2,σ'=[o1,o2,some wv]) (fun i v J=>∃ a,v=.ref a∧J a=some (.tup ((htP n ts (prs.getD i (0,0)).1).map V.int))) (by omega) (by exact⟨none,none,rfl⟩) (fun i v J J' k h=>by obtain⟨a,e1,e2⟩:=h;exact⟨a,e1,k _ _ e2⟩) (fun i x σ' H' hx s2 sg C hC=>?_) (fun L2 zs J3 hL2 S3 hH2 hlz hzs=>?_)
 ·obtain⟨o1,o2,rfl⟩:=sg
  obtain⟨pr,t,hpi,rfl,ht⟩:=pr_at (IsAll.same (S02.trans s2) _ hps) hx
  have er:prs.getD i (0,0)=pr:=by rw[List.getD_eq_getElem?_getD,hpi];rfl
  rw[er] at hC
  have:=hpr pr (List.mem_of_getElem? hpi)
  refine⟨t,_,rfl,SqT.of ht,rfl,_,_,rfl,_,_,rfl,rfl,?_⟩
  exact⟨_,rfl,_,rfl,n,ts,wv,pr.1,rfl,Is.same (S02.trans s2) _ isw,ok,this.1,fun p5 H5 S5 e5=>hC _ _ _ ⟨_,_,rfl⟩ S5 ⟨p5,rfl,e5⟩⟩
 refine⟨L2,_,rfl,hH2,fun tc J4 S4 f4 e4=>?_⟩
 have S24:=S3.trans S4
 have wys:∀ (i:Nat) (pr:Nat × Nat) (v:V),prs[i]?=some pr->ys[i]?=some v->WyV J4 ts (wyN ts pr.1 pr.2) v:=fun i pr v h1 h2=>by
  have:=hys i v h2
  rw[List.getD_eq_getElem?_getD,h1] at this
  exact (this.same S2).same S24
 have ly:ys.length=prs.length:=by omega
 refine⟨_,rfl,_,rfl,n,ts,wv,tb,ys,wysN ts prs,rfl,Is.same (S02.trans S24) _ isw,ok,S24 _ _ e2,by unfold wysN;rw[List.length_map,ly],by omega,fun i o v ho hv=>?_,fun ta J5 S5 e5=>?_⟩
 ·unfold wysN at ho
  rw[List.getElem?_map] at ho
  obtain⟨pr,h1,rfl⟩:=Option.map_eq_some_iff.mp ho
  exact wys i pr v h1 hv
 refine⟨_,rfl,_,rfl,(by show 3≤1000;decide),fun t J6 S6 f6 e6=>?_⟩
 have S46:=S5.trans S6
 refine q t ta tb tc ys zs J6 (S02.trans (S24.trans S46)) ⟨e6,S6 _ _ e5,S46 _ _ (S24 _ _ e2),S46 _ _ e4,ly,by omega,fun i pr v h1 h2=>(wys i pr v h1 h2).same S46,fun i pr v h1 h2=>?_⟩
 obtain⟨a,e,z⟩:=hzs i v h2
 rw[List.getD_eq_getElem?_getD,h1] at z
 exact⟨a,e,S46 _ _ (S4 _ _ z)⟩
def spLPairs (K:PySem.W.Frag):Sp:=fun vs H Q _=>∃ (p:Addr) (n:Int),vs=[.ref p,.int n]∧Pot H p∧1≤n∧n≤24∧∀ t ps prs H',But p H H'->Pot H' p->H' t=some (.tup ps)->IsAll K H' (prs.map prD) ps->PrsOk n prs->Q (.ref t) H'
theorem tup_prD:∀ prs:List (Nat × Nat),tupAll (prs.map prD)=true:=fun prs=>by
 induction prs with
 | nil=>rfl
 | cons x r ih=>show (tupD (prD x) && tupAll (r.map prD))=true;rw[ih];rfl
theorem ok__law_pairs48 (T:Bi mg) (D:DefOk K mg "_law_pairs" s__law_pairs ["pot","n"]) (O__law_take:Ok P w K mg base 1 "_law_take" ["pot","many"] spTake):Ok P w K mg base 2 "_law_pairs" ["pot","n"] (spLPairs K):=by
 refine mk_ok (k:=1) D sc__law_pairs (fun vs H Q E h=>?_) (fun f cdv A outer s H vs Q E hr h=>?_)
 ·obtain⟨p,n,rfl,_⟩:=h
  rfl
 obtain⟨p,n,rfl,hp,n1,n24,q⟩:=h
 have nd:=sc__law_pairs.nd
 refine⟨_,(pss_cons (ps_set (i:=2) nd rfl (Or.inl rfl) (pe_callD O__law_take hr rfl (pa_cons (pv 0) (pa_cons pe_int pa_nil)))) (pss_cons (ps_set (i:=3) nd rfl (Or.inl rfl) (pe_ix ix_list (pe_lstG (pa_cons pe_int (pa_cons pe_int (pa_cons pe_int (pa_cons pe_int (pa_cons pe_int pa_nil)))))) (pv 2) (fun _ _=>rfl))) (pss_cons (ps_set (i:=4) nd rfl (Or.inl rfl) (pe_callD O__law_take hr rfl (pa_cons (pv 0) (pa_cons (pv 1) pa_nil)))) (pss_cons (ps_set (i:=5) nd rfl (Or.inl rfl) (pe_lstG pa_nil)) (pss_cons (ps_for PassesOwn.never rfl (pi_range1 rfl T.z_range (pa_cons (pv 1) pa_nil)) (pg_name (i:=6) nd rfl (Or.inl rfl)) (pss_one (ps_for PassesOwn.never rfl (pi_range2 rfl T.z_range (pa_cons (pe_op op_add (pv 6) pe_int) (pa_cons (pv 1) pa_nil))) (pg_name (i:=7) nd rfl (Or.inl rfl)) (pss_one (ps_if (PW.pt (pw_and (pt_cmpR op_gt (pv 2) pe_int (nomark _)) (pw_and (pt_cmpR op_eq (pe_callD O__law_take hr rfl (pa_cons (pv 0) (pa_cons (pv 3) pa_nil))) pe_int (nomark _)) (pw_and1 (PW.pt (pw_or (pt_cmpR op_lt (pv 2) pe_int (nomark _)) (pw_or (pt_cmpR op_eq (pv 4) (pv 6) (nomark _)) (pw_or1 (pt_cmpR op_eq (pv 4) (pv 7) (nomark _)))))))))) (pss_one (ps_expr (pe_bm PySem.F.plainAttrs_list PySem.F.slot_list_append PySem.F.type_list_append mt_appendG (pv 5) (pa_cons (pe_tupG (pa_cons (pv 6) (pa_cons (pv 7) pa_nil))) pa_nil)))) pss_nil))))) (pss_one (ps_ret (pe_callTy call_tupleG rfl T.z_tuple (by decide +kernel) (pa_cons (pe_slice sl_list (pv 5) po_none (po_some pe_int)) pa_nil))))))))),?_⟩
 refine⟨_,rfl,p,5,rfl,hp,by decide,by decide,fun way H1 w0 w1 b1 p1=>?_⟩
 obtain⟨x,ex,x0,x24⟩:∃ x:Int,atI [V.int 1,.int 4,.int 2,.int 1,.int 1] way=some (.int x)∧1≤x∧x≤4:=by
  have:way=0∨way=1∨way=2∨way=3∨way=4:=by omega
  rcases this with rfl | rfl | rfl | rfl | rfl
  ·exact⟨1,rfl,by decide,by decide⟩
  ·exact⟨4,rfl,by decide,by decide⟩
  ·exact⟨2,rfl,by decide,by decide⟩
  ·exact⟨1,rfl,by decide,by decide⟩
  ·exact⟨1,rfl,by decide,by decide⟩
 refine⟨(by show 5≤1000;decide),fun l0 J0 S0 f0 e0=>⟨_,rfl,l0,_,_,_,rfl,rfl,SqL.of e0,ex,?_⟩⟩
 refine⟨_,rfl,_,rfl,p,n,rfl,p1.same S0,by omega,by omega,fun one H2 o0 o1 b2 p2=>?_⟩
 refine⟨(by show 0≤1000;decide),fun lf J1 S1 f1 e1=>?_⟩
 have bH:But p H J1:=b1.trans ((Same.but S0).trans (b2.trans (Same.but S1)))
 have fH2:∀ b o,b≠p->H b=some o->b≠lf:=fun b o hb e z=>by
  have:=(b1.trans ((Same.but S0).trans b2)) _ _ hb e
  rw[z,f1] at this;cases this
 have nlp:lf≠p:=fun z=>by
  obtain⟨xs,e⟩:=p2.lst
  rw[z,e] at f1;cases f1
 refine⟨_,rfl,n,rfl,by omega,by omega,?_⟩
 refine for_range (n:=n.toNat) (fun i σ J=>∃ (ys:List V) (prs:List (Nat × Nat)) (y6 y7:Option V),σ=[some (.ref p),some (.int n),some (.int way),some (.int x),some (.int one),some (.ref lf),y6,y7]∧But p H J∧Pot J p∧J lf=some (.lst ys)∧IsAll K J (prs.map prD) ys∧prs.length≤24 * i∧∀ pr ∈ prs,pr.1 < n.toNat∧pr.2 < n.toNat) ⟨[],[],none,none,rfl,bH,p2.same S1,e1,rfl,Nat.le_refl _,fun _ h=>(by cases h)⟩ (fun i σ J hi h=>?_) (fun σ J h=>?_)
 ·obtain⟨ys,prs,y6,y7,rfl,bt,pt,hf,hall,lp,hpr⟩:=h
  refine⟨_,rfl,_,_,rfl,rfl,_,rfl,_,_,rfl,⟨by omega,by omega,by omega,by omega⟩,?_⟩
  refine for_range (n:=(n - (0 + (i:Int) + 1)).toNat) (fun j σ J=>∃ (ys:List V) (prs:List (Nat × Nat)) (y7:Option V),σ=[some (.ref p),some (.int n),some (.int way),some (.int x),some (.int one),some (.ref lf),some (.int (0 + (i:Int))),y7]∧But p H J∧Pot J p∧J lf=some (.lst ys)∧IsAll K J (prs.map prD) ys∧prs.length≤24 * i + j∧∀ pr ∈ prs,pr.1 < n.toNat∧pr.2 < n.toNat) ⟨ys,prs,_,rfl,bt,pt,hf,hall,lp,hpr⟩ (fun j σ J hj h=>?_) (fun σ J h=>?_)
  ·clear hall hf bt pt lp hpr
   obtain⟨ys,prs,y7,rfl,bt,pt,hf,hall,lp,hpr⟩:=h
   have lys:ys.length=prs.length:=by rw[hall.length,List.length_map]
   apply brJ (A:=fun (J:Hp)=>But p H J∧Pot J p∧J lf=some (.lst ys)∧IsAll K J (prs.map prD) ys)
   case main =>
    intro tail
    refine⟨_,rfl,_,_,rfl,rfl,_,rfl,ite2 (fun c=>?_) (fun c=>?_)⟩
    ·refine⟨_,rfl,_,rfl,p,x,rfl,pt,by omega,by omega,fun r J2 r0 r1 b2 p2=>⟨rfl,_,rfl,ite2 (fun c=>?_) (fun c=>?_)⟩⟩
     ·obtain⟨xsp,exp⟩:=pt.lst
      have st:=(⟨bt.trans b2,p2,b2 _ _ nlp hf,IsAll.but b2 exp _ (tup_prD _) hall⟩:But p H J2∧Pot J2 p∧J2 lf=some (.lst ys)∧IsAll K J2 (prs.map prD) ys)
      refine⟨_,rfl,_,_,rfl,rfl,_,rfl,ite2 (fun c=>?_) (fun c=>?_)⟩
      ·exact iteT (tail J2 st)
      ·refine⟨_,rfl,_,rfl,rfl,_,rfl,ite2 (fun c=>?_) (fun c=>?_)⟩
       ·exact iteT (tail J2 st)
       ·refine⟨_,rfl,_,rfl,rfl,_,rfl,ite2 (fun c=>?_) (fun c=>?_)⟩
        ·exact tail J2 st
        ·exact⟨ys,prs,_,rfl,st.1,st.2.1,st.2.2.1,st.2.2.2,by omega,hpr⟩
     ·obtain⟨xsp,exp⟩:=pt.lst
      exact⟨ys,prs,_,rfl,bt.trans b2,p2,b2 _ _ nlp hf,IsAll.but b2 exp _ (tup_prD _) hall,by omega,hpr⟩
    ·exact⟨ys,prs,_,rfl,bt,pt,hf,hall,by omega,hpr⟩
   case tail =>
   rintro J2 ⟨bt,pt,hf,hall⟩
   refine⟨_,rfl,.inl ⟨rfl,_,SqL.of hf⟩,_,rfl,_,rfl,(by show 2≤1000;decide),fun t J3 S3 f3 e3=>⟨lf,_,_,rfl,rfl,S3 _ _ hf,by omega,fun J4 b4 e4=>?_⟩⟩
   have tlf:t≠lf:=fun z=>by rw[z,hf] at f3;cases f3
   refine⟨_,prs++[(i,i + 1 + j)],_,rfl,fun b o hb e=>b4 _ _ (fH2 b o hb e) (S3 _ _ (bt _ _ hb e)),?_,e4,?_,by rw[List.length_append,List.length_singleton];omega,fun pr h=>?_⟩
   ·obtain⟨a',b',e',z⟩:=pt
    exact⟨a',b',b4 _ _ nlp.symm (S3 _ _ e'),z⟩
   ·rw[List.map_append]
    refine IsAll.append (IsAll.but b4 (S3 _ _ hf) _ (tup_prD _) (IsAll.same S3 _ hall)) ⟨_,_,rfl,⟨t,_,rfl,b4 _ _ tlf e3,?_⟩,rfl⟩
    have:=IsAll.ints (K:=K) (H:=J4) [((i:Nat):Int),((i + 1 + j:Nat):Int)]
    rw[show (0:Int) + (i:Int)=((i:Nat):Int) by omega,show ((i:Nat):Int) + 1 + (j:Int)=((i + 1 + j:Nat):Int) by omega]
    exact this
   ·rcases List.mem_append.mp h with h | h
    ·exact hpr pr h
    ·rw[List.mem_singleton.mp h];exact⟨hi,by show i + 1 + j < n.toNat;omega⟩
  ·obtain⟨ys,prs,y7,rfl,bt,pt,hf,hall,lp,hpr⟩:=h
   exact⟨ys,prs,_,_,rfl,bt,pt,hf,hall,by omega,hpr⟩
 ·obtain⟨ys,prs,y6,y7,rfl,bt,pt,hf,hall,lp,hpr⟩:=h
  refine⟨_,rfl,_,rfl,lf,_,rfl,SqL.of hf,fun p2 hp2=>⟨p2,_,rfl,upd_same,fun t J3 S3 f3 e3=>?_⟩⟩
  have S:=(same_new hp2).trans S3
  have ec:cutV ys none (some 30)=ys.take 30:=cut_toK ys 30
  rw[ec] at e3
  refine q t _ (prs.take 30) J3 (bt.trans (Same.but S)) (pt.same S) e3 ?_ ⟨by rw[List.length_take];omega,fun pr h=>hpr pr (List.mem_of_mem_take h)⟩
  have l:=hall.length
  refine IsAll.of (by rw[List.length_take,List.length_map,List.length_take,l,List.length_map]) fun i d v hd hv=>?_
  rw[List.getElem?_map,List.getElem?_take] at hd
  rw[List.getElem?_take] at hv
  by_cases z:i < 30
  ·rw[if_pos z] at hd hv
   obtain⟨d',h1,h2⟩:=IsAll.from_ (IsAll.same S _ hall) hv
   rw[List.getElem?_map,hd] at h1
   cases h1
   exact h2
  ·rw[if_neg z] at hv;cases hv
def spShare50:Sp:=fun vs H Q _=>∃ (a b:Option (List Nat)) (x y:V),vs=[x,y]∧OpV H a x∧OpV H b y∧∀ l H',Same H H'->H l=none->H' l=some (.lst (natV (shN a b)))->Q (.ref l) H'
theorem ok_shared_by (T:Bi mg) (D:DefOk K mg "shared_by" s_shared_by ["one","other"]):Ok P w K mg base 1 "shared_by" ["one","other"] spShare50:=by
 refine mk_ok (k:=0) D sc_shared_by (fun vs H Q E h=>?_) (fun f cdv A outer s H vs Q E hr h=>?_)
 ·obtain⟨a,b,x,y,rfl,_⟩:=h
  rfl
 obtain⟨a,b,x,y,rfl,ha,hb,q⟩:=h
 have nd:=sc_shared_by.nd
 have nil:∀ l H',Same H H'->H l=none->H' l=some (.lst [])->shN a b=[]->Q (.ref l) H':=fun l H' S f e z=>q l H' S f (by rw[z];exact e)
 refine⟨_,(pss_cons (ps_if (PW.pt (pw_or (pt_cmpR op_isN (pv 0) pe_non (nomark _)) (pw_or1 (pt_cmpR op_isN (pv 1) pe_non (nomark _))))) (pss_one (ps_ret (pe_lstG pa_nil))) pss_nil) (pss_one (ps_ret (pe_comp (N:=["one","other"]) (sc0:=defScope s_shared_by) (own:=["place"]) (fr:=["other"]) (js:=[1]) rfl (pi_tup (pv 0)) (fun _ _ _ _=>(pg_name (i:=0) (by show List.Nodup [("place":Str),("other":Str)];decide +kernel) rfl (Or.inl rfl))) (fun _ _ _ _=>(pts_one (pt_cmpR op_in_seqC (pv 0) (pv 1) (by with_unfolding_all rfl)))) (fun _ _ _ _=>(pv 0)))))),?_⟩
 rcases ha with ⟨rfl,rfl⟩ | ⟨ta,wa,rfl,rfl,ea,la⟩
 ·exact⟨_,rfl,rfl,_,rfl,iteT ⟨(by show 0≤1000;decide),fun l J S f e=>nil l J S f e rfl⟩⟩
 refine⟨_,rfl,rfl,_,rfl,iteF ?_⟩
 rcases hb with ⟨rfl,rfl⟩ | ⟨tb,wb,rfl,rfl,eb,lb⟩
 ·exact⟨_,rfl,rfl,_,rfl,iteT ⟨(by show 0≤1000;decide),fun l J S f e=>nil l J S f e rfl⟩⟩
 refine⟨_,rfl,rfl,_,rfl,iteF ?_⟩
 refine⟨_,rfl,ta,rfl,⟨_,SqT.of ea⟩,?_⟩
 have lN:=natV_length wa
 refine comp_selT ea (fun σ'=>∃ o,σ'=[o,some (.ref tb)]) (fun i=>if wb.contains (wa.getD i 0)=true then some (V.int ((wa.getD i 0:Nat):Int)) else none) (by omega) (by exact⟨none,rfl⟩) (fun i x σ' H' hx s2 sg C L hC hL=>?_) (fun L H2 hL S3 hH=>?_)
 ·obtain⟨o,rfl⟩:=sg
  obtain⟨k,hk,rfl⟩:=nat_at hx
  have ek:wa.getD i 0=k:=by rw[List.getD_eq_getElem?_getD,hk];rfl
  rw[ek] at hC hL
  refine⟨_,rfl,_,rfl,tb,_,rfl,.inr (SqT.of (s2 _ _ eb)),rfl,flat_nat _,_,rfl,?_⟩
  show if (inV (V.int (k:Int)) (natV _))=true then _ else _
  rw[inV_nat (by omega),Int.toNat_natCast]
  refine ite2 (fun c=>⟨_,rfl,hC _ _ _ ⟨_,rfl⟩ (Same.refl _) (by rw[if_pos (by rw[List.contains_eq_mem];exact c)])⟩) (fun c=>hL _ _ ⟨_,rfl⟩ (Same.refl _) (by rw[if_neg (by rw[List.contains_eq_mem];exact c)]))
 ·rw[lN,sel_list (fun k=>wb.contains k)] at hH
  exact q L H2 S3 hL hH
theorem at_last50 (z:Nat) (t:List Nat):atI (natV (z::t)) (-1)=some (V.int (((z::t).getLast (by simp):Nat):Int)):=by
 unfold atI ixN
 rw[if_neg (by decide),if_pos (by rw[natV_length,List.length_cons];omega)]
 show (natV (z::t))[(-1 + ((natV (z::t)).length:Int)).toNat]?=_
 rw[natV_length,List.length_cons,show (-1 + ((t.length + 1:Nat):Int)).toNat=t.length by omega]
 unfold natV
 rw[List.getElem?_map,List.getLast_eq_getElem,List.getElem?_eq_getElem (by rw[List.length_cons];omega)]
 rfl
def spPart50 (K:PySem.W.Frag):Sp:=fun vs H Q _=>∃ (p:Addr) (ys:List V) (os:List (Option (List Nat))),vs=[.ref p]∧H p=some (.tup ys)∧OpsV H os ys∧os.length≤30∧∀ t vs ks H',Same H H'->H' t=some (.tup vs)->IsAll K H' (ks.map tupH) vs->ks.Perm (pgP os os.length)->SrK ks->Q (.ref t) H'
theorem ok_partings (T:Bi mg) (D:DefOk K mg "partings" s_partings ["ways"]) (O_shared_by:Ok P w K mg base 1 "shared_by" ["one","other"] spShare50):Ok P w K mg base 2 "partings" ["ways"] (spPart50 K):=by
 refine mk_ok (k:=1) D sc_partings (fun vs H Q E h=>?_) (fun f cdv A outer s H vs Q E hr h=>?_)
 ·obtain⟨p,ys,os,rfl,_⟩:=h
  rfl
 obtain⟨p,ys,os,rfl,hp,hos,l30,q⟩:=h
 have nd:=sc_partings.nd
 have lys:=hos.1
 refine⟨_,(pss_cons (ps_set (i:=1) nd rfl (Or.inl rfl) (pe_lstG pa_nil)) (pss_cons (ps_for PassesOwn.never rfl (pi_enum true rfl T.z_enumerate (pa_cons (pv 0) pa_nil)) (pg_tup (n:=2) rfl (pgs_cons (pg_name (i:=2) nd rfl (Or.inl rfl)) (pgs_cons (pg_name (i:=3) nd rfl (Or.inl rfl)) pgs_nil))) (pss_one (ps_for PassesOwn.never rfl (pi_enum true rfl T.z_enumerate (pa_cons (pe_slice sl_tupA (pv 0) po_none (po_some (pv 2))) pa_nil)) (pg_tup (n:=2) rfl (pgs_cons (pg_name (i:=4) nd rfl (Or.inl rfl)) (pgs_cons (pg_name (i:=5) nd rfl (Or.inl rfl)) pgs_nil))) (pss_cons (ps_set (i:=6) nd rfl (Or.inl rfl) (pe_callD O_shared_by hr rfl (pa_cons (pv 5) (pa_cons (pv 3) pa_nil)))) (pss_one (ps_if (pt_cmpR op_gt (pe_callB call_len_seq rfl T.z_len (by decide +kernel) (pa_cons (pv 6) pa_nil)) pe_int (nomark _)) (pss_one (ps_expr (pe_bm PySem.F.plainAttrs_list PySem.F.slot_list_extend PySem.F.type_list_extend mt_extendG (pv 1) (pa_cons (pe_lstG (pa_cons (pe_tupG (pa_cons (pv 4) (pa_cons (pv 2) (pa_cons (pe_ix ix_list (pv 6) pe_int (fun _ _=>rfl)) pa_nil)))) (pa_cons (pe_tupG (pa_cons (pv 4) (pa_cons (pv 2) (pa_cons (pe_ix ix_list (pv 6) (pe_un un_neg pe_int) (fun _ _=>rfl)) pa_nil)))) pa_nil))) pa_nil)))) pss_nil)))))) (pss_one (ps_ret (pe_callTy call_tupleG rfl T.z_tuple (by decide +kernel) (pa_cons (pe_callB call_sortedTB rfl T.z_sorted (by decide +kernel) (pa_cons (pv 1) pa_nil)) pa_nil)))))),?_⟩
 refine⟨(by show 0≤1000;decide),fun lt J1 S1 f1 e1=>?_⟩
 have few:=pgP_few (os:=os) l30
 refine⟨_,rfl,p,rfl,⟨_,SqX.of (t:=true) (S1 _ _ hp)⟩,?_⟩
 have keep:∀ {J:Hp},But lt J1 J->Same H J:=fun {J} bt b o e=>bt _ _ (ne_of_none e f1) (S1 _ _ e)
 refine for_enum (t:=true) (xs:=ys) (fun j σ J=>∃ (zs:List V) (y2 y3 y4 y5 y6:Option V),σ=[some (.ref p),some (.ref lt),y2,y3,y4,y5,y6]∧But lt J1 J∧J lt=some (.lst zs)∧TT J zs (pgP os j)) ⟨[],_,_,_,_,_,rfl,But.refl,e1,.nil⟩ (fun j σ J h=>?_) (fun j x U σ J hx hU h=>?_) (fun σ J h=>?_)
 ·obtain⟨zs,y2,y3,y4,y5,y6,rfl,bt,_⟩:=h
  exact SqX.of (t:=true) (keep bt _ _ hp)
 ·obtain⟨zs,y2,y3,y4,y5,y6,rfl,bt,hz,tt⟩:=h
  have hj:=(List.getElem?_eq_some_iff.mp hx).1
  have SU:=same_new (H:=J) (o:=.tup [.int (j:Nat),x]) hU
  refine⟨U,_,rfl,SqT.of upd_same,rfl,_,_,rfl,_,_,rfl,rfl,?_⟩
  generalize upd J U (.tup [.int (j:Nat),x])=J2 at SU
  have sm2:Same H J2:=(keep bt).trans SU
  have ntl:∀ {a:Addr} {xs:List V},J a=some (.tup xs)->a≠lt:=fun e z=>by rw[z,hz] at e;cases e
  refine⟨_,rfl,_,rfl,_,rfl,p,_,rfl,sm2 _ _ hp,fun pc J3 S3 h3=>?_⟩
  rw[show cutV ys none (some ((j:Nat):Int))=ys.take j from cut_toK ys j] at h3
  have few2:=fun (i:Nat) (hi:i≤j)=>pgP_cut (os:=os) (m:=os.length) (j:=j) (by omega) hi
  have lpg:zs.length=(pgP os j).length:=Paired.length tt
  refine⟨_,rfl,⟨_,SqX.of (t:=true) h3⟩,?_⟩
  refine for_enum (t:=true) (xs:=ys.take j) (fun i σ J'=>∃ (us:List V) (y4 y5 y6:Option V),σ=[some (.ref p),some (.ref lt),some (.int (j:Nat)),some x,y4,y5,y6]∧But lt J3 J'∧J' lt=some (.lst us)∧TT J' us (pgP os j++(List.range i).flatMap fun i=>blk os i j)) ⟨zs,_,_,_,rfl,But.refl,S3 _ _ (SU _ _ hz),?_⟩ (fun i σ J' h=>?_) (fun i x' U' σ J' hx' hU' h=>?_) (fun σ J' h=>?_)
  ·rw[List.range_zero,List.flatMap_nil,List.append_nil]
   exact TT.keep (fun a xs e=>S3 _ _ (SU _ _ e)) tt
  ·obtain⟨us,y4,y5,y6,rfl,bt',_⟩:=h
   exact SqX.of (t:=true) (bt' _ _ (fun z=>by rw[z,(SU.trans S3) _ _ hz] at h3;cases h3) h3)
  ·obtain⟨us,y4,y5,y6,rfl,bt',hu,tt'⟩:=h
   have hi:i < j∧ys[i]?=some x':=by
    rw[List.getElem?_take] at hx'
    by_cases c:i < j
    ·rw[if_pos c] at hx';exact⟨c,hx'⟩
    ·rw[if_neg c] at hx';cases hx'
   have SV:=same_new (H:=J') (o:=.tup [.int (i:Nat),x']) hU'
   refine⟨U',_,rfl,SqT.of upd_same,rfl,_,_,rfl,_,_,rfl,rfl,?_⟩
   generalize upd J' U' (.tup [.int (i:Nat),x'])=J4 at SV
   have sm4:∀ {a:Addr} {xs:List V},H a=some (.tup xs)->J4 a=some (.tup xs):=fun {a xs} e=>SV _ _ (bt' _ _ (ne_of_none e f1) (S3 _ _ (sm2 _ _ e)))
   refine⟨_,rfl,_,rfl,os.getD i none,os.getD j none,x',x,rfl,(hos.at hi.2).same fun a xs e=>sm4 e,(hos.at hx).same fun a xs e=>sm4 e,fun l J5 S5 fl5 e5=>?_⟩
   refine⟨_,rfl,?_⟩
   have hu5:J5 lt=some (.lst us):=S5 _ _ (SV _ _ hu)
   have tt5:TT J5 us (pgP os j++(List.range i).flatMap fun i=>blk os i j):=TT.keep (fun a xs e=>S5 _ _ (SV _ _ e)) tt'
   have rng:(List.range (i + 1)).flatMap (fun i=>blk os i j)=((List.range i).flatMap fun i=>blk os i j)++blkL (shN (os.getD i none) (os.getD j none)) i j:=by
    rw[List.range_succ,List.flatMap_append,List.flatMap_cons,List.flatMap_nil,List.append_nil];rfl
   have S35:∀ b o,b≠lt->J3 b=some o->J5 b=some o:=fun b o z e=>S5 _ _ (SV _ _ (bt' _ _ z e))
   have fw:=few2 (i + 1) hi.1
   rw[rng] at fw
   generalize shN (os.getD i none) (os.getD j none)=sh at e5 rng fw
   refine⟨l,_,rfl,.inl (SqL.of e5),_,_,rfl,rfl,?_⟩
   cases sh with
   | nil =>
    refine⟨_,rfl,iteF ⟨us,_,_,_,rfl,fun b o z e=>S35 b o z e,hu5,?_⟩⟩
    rw[rng,blk_nil,List.append_nil];exact tt5
   | cons z t =>
    have lus:us.length=(pgP os j++(List.range i).flatMap fun i=>blk os i j).length:=Paired.length tt5
    rw[blk_cons,← List.append_assoc,List.length_append,← lus] at fw
    refine⟨true,congrArg V.bl (decide_eq_true (by rw[natV_length,List.length_cons];omega)),iteT ?_⟩
    have at0:atI (natV (z::t)) 0=some (V.int (z:Int)):=atI_toNat (i:=0) (Int.le_refl 0) rfl
    have at1:atI (natV (z::t)) (-1)=some (V.int (((z::t).getLast (by simp):Nat):Int)):=at_last50 z t
    refine⟨_,rfl,.inl ⟨rfl,_,SqL.of hu5⟩,_,rfl,_,rfl,_,rfl,l,_,_,_,rfl,rfl,SqL.of e5,at0,(by show 3≤1000;decide),fun t1 J6 S6 f6 e6=>?_⟩
    refine⟨_,rfl,_,rfl,_,rfl,_,rfl,l,_,_,_,rfl,rfl,SqL.of (S6 _ _ e5),at1,(by show 3≤1000;decide),fun t2 J7 S7 f7 e7=>?_⟩
    refine⟨(by show 2≤1000;decide),fun l2 J8 S8 f8 e8=>?_⟩
    have S58:=S6.trans (S7.trans S8)
    have h8:=S58 _ _ hu5
    refine⟨lt,l2,_,_,rfl,rfl,h8,e8,?_,fun J9 b9 e9=>?_⟩
    ·show us.length + 2≤1000
     rw[List.length_cons,List.length_cons,List.length_nil] at fw
     omega
    ·have k9:∀ {a:Addr} {xs:List V},J8 a=some (.tup xs)->J9 a=some (.tup xs):=fun {a xs} e=>b9 _ _ (fun z=>by rw[z,h8] at e;cases e) e
     refine⟨_,_,_,_,rfl,fun b o z e=>b9 _ _ z (S58 _ _ (S35 _ _ z e)),e9,?_⟩
     rw[rng,blk_cons,← List.append_assoc]
     exact TT.app (TT.keep (fun a xs e=>k9 (S58 _ _ e)) tt5) (.cons ⟨t1,rfl,k9 (S8 _ _ (S7 _ _ e6))⟩ (.cons ⟨t2,rfl,k9 (S8 _ _ e7)⟩ .nil))
  ·obtain⟨us,y4,y5,y6,rfl,bt',hu,tt'⟩:=h
   have lt':(ys.take j).length=j:=by rw[List.length_take];omega
   rw[lt'] at tt'
   refine⟨us,_,_,_,_,_,rfl,fun b o z e=>bt' _ _ z (S3 _ _ (SU _ _ (bt _ _ z e))),hu,?_⟩
   have e:pgP os (j + 1)=pgP os j++prwP os j:=by unfold pgP;rw[List.range_succ,List.flatMap_append,List.flatMap_cons,List.flatMap_nil,List.append_nil]
   rw[e];exact tt'
 ·obtain⟨zs,y2,y3,y4,y5,y6,rfl,bt,hz,tt⟩:=h
  rw[lys] at tt
  have lz:zs.length=(pgP os os.length).length:=Paired.length tt
  refine⟨_,rfl,lt,zs,_,rfl,hz,by omega,tt,fun k hk=>?_,fun qs pq wq l J2 S2 f2 e2=>?_⟩
  ·obtain⟨i,j,x,rfl⟩:=pg_shape k hk
   exact fun z=>by cases z
  ·obtain⟨ks,pk,tk,wk⟩:=tt_out tt pq wq
   refine⟨l,_,rfl,e2,fun t J3 S3 f3 e3=>q t _ ks J3 ((keep bt).trans (S2.trans S3)) e3 ?_ pk wk⟩
   exact (TT.keep (fun a xs e=>S3 _ _ (S2 _ _ e)) tk).is
theorem cut_to50 (ws:List Nat):cutV (natV ws) none (some 1)=natV (ws.take 1):=by
 rw[show (some (1:Int))=some ((1:Nat):Int) from rfl,cut_toK]
 unfold natV;rw[List.map_take]
theorem natV_rev50 (ws:List Nat):natV ws.reverse=(natV ws).reverse:=by unfold natV;rw[List.map_reverse]
theorem ok__law_partings (T:Bi mg) (D:DefOk K mg "_law_partings" s__law_partings ["ways"]):Ok P w K mg base 1 "_law_partings" ["ways"] (spPart50 K):=by
 refine mk_ok (k:=0) D sc__law_partings (fun vs H Q E h=>?_) (fun f cdv A outer s H vs Q E hr h=>?_)
 ·obtain⟨p,ys,os,rfl,_⟩:=h
  rfl
 obtain⟨p,ys,os,rfl,hp,hos,l30,q⟩:=h
 have nd:=sc__law_partings.nd
 have lys:=hos.1
 have few:=pgP_few (os:=os) l30
 have pm:=pg_perm os os.length
 have lpm:=pm.length_eq
 refine⟨_,(pss_cons (ps_set (i:=1) nd rfl (Or.inl rfl) (pe_lstG pa_nil)) (pss_cons (ps_for PassesOwn.never rfl (pi_range1 rfl T.z_range (pa_cons (pe_callB call_len_seq rfl T.z_len (by decide +kernel) (pa_cons (pv 0) pa_nil)) pa_nil)) (pg_name (i:=2) nd rfl (Or.inr rfl)) (pss_one (ps_for PassesOwn.never rfl (pi_range2 rfl T.z_range (pa_cons (pe_op op_add (pv 2) pe_int) (pa_cons (pe_callB call_len_seq rfl T.z_len (by decide +kernel) (pa_cons (pv 0) pa_nil)) pa_nil))) (pg_name (i:=3) nd rfl (Or.inr rfl)) (pss_one (ps_if (PW.pt (pw_and (pt_cmpR op_notN (pe_ix ix_tup (pv 0) (pv 2) (fun _ _=>rfl)) pe_non (nomark _)) (pw_and1 (pt_cmpR op_notN (pe_ix ix_tup (pv 0) (pv 3) (fun _ _=>rfl)) pe_non (nomark _))))) (pss_cons (ps_setcomp (i:=4) (N:=["ways","found","i","j","places"]) (sc0:=defScope s__law_partings) (own:=["place"]) (fr:=["ways","j"]) (js:=[0,3]) rfl (pi_tup (pe_ix ix_tup (pv 0) (pv 2) (fun _ _=>rfl))) (fun _ _ _ _=>(pg_name (i:=0) (by show List.Nodup [("place":Str),("ways":Str),("j":Str)];decide +kernel) rfl (Or.inl rfl))) (fun _ _ _ _=>(pts_one (pt_cmpR op_in_seqC (pv 0) (pe_ix ix_tupC (pv 1) (pv 2) (fun _ _=>rfl)) (by with_unfolding_all rfl)))) (fun _ _ _ _=>(pv 0)) nd rfl (Or.inl rfl)) (pss_one (ps_set (i:=1) nd rfl (Or.inl rfl) (pe_op op_catL (pv 1) (pe_comp (N:=["ways","found","i","j","places"]) (sc0:=defScope s__law_partings) (own:=["place"]) (fr:=["i","j"]) (js:=[2,3]) rfl (pi_list (pe_op op_catL (pe_slice sl_list (pv 4) po_none (po_some pe_int)) (pe_slice sl_list (pe_sliceB sb_list (pv 4) po_none (pe_un un_neg pe_int)) po_none (po_some pe_int)))) (fun _ _ _ _=>(pg_name (i:=0) (by show List.Nodup [("place":Str),("i":Str),("j":Str)];decide +kernel) rfl (Or.inl rfl))) (fun _ _ _ _=>pts_nil) (fun _ _ _ _=>(pe_tupG (pa_cons (pv 1) (pa_cons (pv 2) (pa_cons (pv 0) pa_nil)))))))))) pss_nil))))) (pss_one (ps_ret (pe_callTy call_tupleG rfl T.z_tuple (by decide +kernel) (pa_cons (pe_callB call_sortedTB rfl T.z_sorted (by decide +kernel) (pa_cons (pv 1) pa_nil)) pa_nil)))))),?_⟩
 refine⟨(by show 0≤1000;decide),fun lt J1 S1 f1 e1=>?_⟩
 refine⟨_,rfl,p,_,rfl,.inr (SqT.of (S1 _ _ hp)),_,rfl,by omega,by omega,?_⟩
 rw[Int.toNat_natCast]
 refine for_range (n:=ys.length) (fun i σ J=>∃ (lf:Addr) (zs:List V) (y2 y3 y4:Option V),σ=[some (.ref p),some (.ref lf),y2,y3,y4]∧Same H J∧J lf=some (.lst zs)∧TT J zs ((List.range i).flatMap (prwL os os.length))) ⟨lt,[],_,_,_,rfl,S1,e1,.nil⟩ (fun i σ J hi h=>?_) (fun σ J h=>?_)
 ·obtain⟨lf,zs,y2,y3,y4,rfl,sm,hz,tt⟩:=h
  have e0:(0:Int) + (i:Int)=((i:Nat):Int):=by omega
  rw[e0]
  refine⟨_,rfl,_,_,rfl,rfl,_,rfl,p,_,rfl,.inr (SqT.of (sm _ _ hp)),_,_,rfl,⟨by omega,by omega,by omega,by omega⟩,?_⟩
  refine for_range (n:=((ys.length:Int) - ((i:Int) + 1)).toNat) (fun j σ J=>∃ (lf:Addr) (zs:List V) (y3 y4:Option V),σ=[some (.ref p),some (.ref lf),some (.int (i:Nat)),y3,y4]∧Same H J∧J lf=some (.lst zs)∧TT J zs ((List.range i).flatMap (prwL os os.length)++(List.range j).flatMap fun k=>blk os i (i + 1 + k))) ⟨lf,zs,_,_,rfl,sm,hz,?_⟩ (fun j σ J hj h=>?_) (fun σ J h=>?_)
  ·rw[List.range_zero,List.flatMap_nil,List.append_nil];exact tt
  ·clear hz tt
   obtain⟨lf,zs,y3,y4,rfl,sm,hz,tt⟩:=h
   have ej:(i:Int) + 1 + (j:Int)=((i + 1 + j:Nat):Int):=by omega
   rw[ej]
   have hij:i + 1 + j < ys.length:=by omega
   have rng:(List.range (j + 1)).flatMap (fun k=>blk os i (i + 1 + k))=((List.range j).flatMap fun k=>blk os i (i + 1 + k))++blkL (shN (os.getD i none) (os.getD (i + 1 + j) none)) i (i + 1 + j):=by
    rw[List.range_succ,List.flatMap_append,List.flatMap_cons,List.flatMap_nil,List.append_nil];rfl
   have fw:=pgL_cut (os:=os) (m:=os.length) (i:=i) (k:=j + 1) (by omega) (by omega)
   rw[rng] at fw
   have hx1:ys[i]?=some ys[i]:=List.getElem?_eq_getElem hi
   have hx2:ys[i + 1 + j]?=some ys[i + 1 + j]:=List.getElem?_eq_getElem hij
   have o1:=(hos.at hx1).same fun a xs e=>sm _ _ e
   have o2:=(hos.at hx2).same fun a xs e=>sm _ _ e
   have at1:atI ys ((i:Nat):Int)=some ys[i]:=atI_toNat (Int.natCast_nonneg _) (by rw[Int.toNat_natCast];exact hx1)
   have at2:atI ys ((i + 1 + j:Nat):Int)=some ys[i + 1 + j]:=atI_toNat (Int.natCast_nonneg _) (by rw[Int.toNat_natCast];exact hx2)
   generalize ys[i]=x1 at at1 o1
   generalize ys[i + 1 + j]=x2 at at2 o2
   have hpJ:=sm _ _ hp
   rcases o1 with ⟨ea,rfl⟩ | ⟨ta,wa,ea,rfl,ha,la⟩
   ·rw[ea] at rng
    refine⟨_,rfl,_,rfl,p,_,_,_,rfl,rfl,SqT.of hpJ,at1,rfl,_,rfl,iteF ⟨lf,zs,_,_,rfl,sm,hz,?_⟩⟩
    rw[rng,show shN none (os.getD (i + 1 + j) none)=[] from rfl,blk_nil,List.append_nil];exact tt
   refine⟨_,rfl,_,rfl,p,_,_,_,rfl,rfl,SqT.of hpJ,at1,rfl,_,rfl,iteT ?_⟩
   rcases o2 with ⟨eb,rfl⟩ | ⟨tb,wb,eb,rfl,hb,lb⟩
   ·rw[ea,eb] at rng
    refine⟨_,rfl,_,rfl,p,_,_,_,rfl,rfl,SqT.of hpJ,at2,rfl,_,rfl,iteF ⟨lf,zs,_,_,rfl,sm,hz,?_⟩⟩
    rw[rng,show shN (some wa) none=[] from rfl,blk_nil,List.append_nil];exact tt
   refine⟨_,rfl,_,rfl,p,_,_,_,rfl,rfl,SqT.of hpJ,at2,rfl,_,rfl,iteT ?_⟩
   rw[ea,eb] at rng fw
   refine⟨_,rfl,_,rfl,p,_,_,_,rfl,rfl,SqT.of hpJ,at1,ta,rfl,⟨_,SqT.of ha⟩,?_⟩
   have lN:=natV_length wa
   refine comp_selT ha (fun σ'=>∃ o,σ'=[o,some (.ref p),some (.int ((i + 1 + j:Nat):Int))]) (fun i=>if wb.contains (wa.getD i 0)=true then some (V.int ((wa.getD i 0:Nat):Int)) else none) (by omega) (by exact⟨none,rfl⟩) (fun i x σ' H' hx s2 sg C L hC hL=>?_) (fun L H2 hL S3 hH=>?_)
   ·obtain⟨o,rfl⟩:=sg
    obtain⟨k,hk,rfl⟩:=nat_at hx
    have ek:wa.getD i 0=k:=by rw[List.getD_eq_getElem?_getD,hk];rfl
    rw[ek] at hC hL
    refine⟨_,rfl,_,rfl,_,rfl,p,_,_,_,rfl,rfl,SqT.of (s2 _ _ hpJ),at2,tb,_,rfl,.inr (SqT.of (s2 _ _ hb)),rfl,flat_nat _,_,rfl,?_⟩
    show if (inV (V.int (k:Int)) (natV _))=true then _ else _
    rw[inV_nat (by omega),Int.toNat_natCast]
    exact ite2 (fun c=>⟨_,rfl,hC _ _ _ ⟨_,rfl⟩ (Same.refl _) (by rw[if_pos (by rw[List.contains_eq_mem];exact c)])⟩) (fun c=>hL _ _ ⟨_,rfl⟩ (Same.refl _) (by rw[if_neg (by rw[List.contains_eq_mem];exact c)]))
   rw[lN,sel_list (fun k=>wb.contains k)] at hH
   have esh:shN (some wa) (some wb)=wa.filter fun p=>wb.contains p:=rfl
   rw[← esh] at hH
   generalize shN (some wa) (some wb)=sh at hH rng fw
   have lzs:zs.length=((List.range i).flatMap (prwL os os.length)++(List.range j).flatMap fun k=>blk os i (i + 1 + k)).length:=Paired.length tt
   have lb2:(blkL sh i (i + 1 + j)).length=(sh.take 1++sh.reverse.take 1).length:=by unfold blkL;rw[List.length_map]
   rw[← List.append_assoc,List.length_append,← lzs,lb2] at fw
   refine⟨_,rfl,_,rfl,_,rfl,L,_,rfl,SqL.of hH,fun p1 hp1=>?_⟩
   have S4:=same_new (o:=HO.lst (cutV (natV sh) none (some 1))) hp1
   have e4:(upd H2 p1 (.lst (cutV (natV sh) none (some 1)))) p1=some (.lst (natV (sh.take 1))):=by rw[upd_same,cut_to50]
   generalize upd H2 p1 (.lst (cutV (natV sh) none (some 1)))=J4 at S4 e4
   refine⟨_,rfl,_,rfl,rfl,L,_,0,rfl,S4 _ _ hH,.inl ⟨rfl,rfl⟩,fun p2 J5 S5 f5 e5=>?_⟩
   rw[List.drop_zero,← natV_rev50] at e5
   refine⟨_,rfl,p2,_,rfl,SqL.of e5,fun p3 hp3=>?_⟩
   have S6:=same_new (o:=HO.lst (cutV (natV sh.reverse) none (some 1))) hp3
   have e6:(upd J5 p3 (.lst (cutV (natV sh.reverse) none (some 1)))) p3=some (.lst (natV (sh.reverse.take 1))):=by rw[upd_same,cut_to50]
   generalize upd J5 p3 (.lst (cutV (natV sh.reverse) none (some 1)))=J6 at S6 e6
   have la1:(natV (sh.take 1)).length≤1:=by rw[natV_length,List.length_take];omega
   have la2:(natV (sh.reverse.take 1)).length≤1:=by rw[natV_length,List.length_take];omega
   refine⟨p1,p3,_,_,rfl,rfl,S6 _ _ (S5 _ _ e4),e6,by omega,fun p4 J7 S7 f7 e7=>?_⟩
   rw[← natV_append] at e7
   refine⟨p4,rfl,⟨_,SqL.of e7⟩,?_⟩
   have S27:=S4.trans (S5.trans (S6.trans S7))
   generalize hcs:sh.take 1++sh.reverse.take 1=cs at e7 fw
   have lc:=natV_length cs
   refine comp_lst e7 (fun σ'=>∃ o,σ'=[o,some (.int (i:Nat)),some (.int ((i + 1 + j:Nat):Int))]) (fun x v J=>∃ a,v=.ref a∧J a=some (.tup [.int (i:Nat),.int ((i + 1 + j:Nat):Int),.int ((cs.getD x 0:Nat):Int)])) (by omega) (by exact⟨none,rfl⟩) (fun x v J J' k h=>by obtain⟨a,e1,e2⟩:=h;exact⟨a,e1,k _ _ e2⟩) (fun x v σ' H' hx s2 sg C hC=>?_) (fun L2 us J8 hL2 S8 hH8 hlu hus=>?_)
   ·obtain⟨o,rfl⟩:=sg
    obtain⟨k,hk,rfl⟩:=nat_at hx
    have ek:cs.getD x 0=k:=by rw[List.getD_eq_getElem?_getD,hk];rfl
    exact⟨_,rfl,_,rfl,_,rfl,(by show 3≤1000;decide),fun t J9 S9 f9 e9=>hC _ _ _ ⟨_,rfl⟩ S9 ⟨t,rfl,by rw[ek];exact e9⟩⟩
   have S28:=S27.trans S8
   have hz8:=S28 _ _ (S3 _ _ hz)
   refine⟨lf,L2,zs,us,rfl,rfl,hz8,hH8,by omega,fun p5 J9 S9 f9 e9=>?_⟩
   have S29:=S28.trans S9
   refine⟨p5,_,_,_,rfl,sm.trans (S3.trans S29),e9,?_⟩
   rw[rng,← List.append_assoc]
   refine TT.app (TT.keep (fun a xs e=>S29 _ _ (S3 _ _ e)) tt) (tt_of (by rw[lb2,hcs,hlu,lc]) fun x v k hv hk=>?_)
   obtain⟨a,ea,e⟩:=hus x v hv
   refine⟨a,ea,?_⟩
   rw[S9 _ _ e]
   unfold blkL at hk
   rw[hcs,List.getElem?_map] at hk
   obtain⟨c,hc,rfl⟩:=Option.map_eq_some_iff.mp hk
   rw[List.getD_eq_getElem?_getD,hc];rfl
  ·obtain⟨lf,zs,y3,y4,rfl,sm,hz,tt⟩:=h
   refine⟨lf,zs,_,_,_,rfl,sm,hz,?_⟩
   rw[List.range_succ,List.flatMap_append,List.flatMap_cons,List.flatMap_nil,List.append_nil]
   rw[show ((ys.length:Int) - ((i:Int) + 1)).toNat=os.length - (i + 1) by omega] at tt
   exact tt
 ·obtain⟨lf,zs,y2,y3,y4,rfl,sm,hz,tt⟩:=h
  rw[lys] at tt
  have tt:TT J zs (pgL os os.length):=tt
  have lz:zs.length=(pgL os os.length).length:=Paired.length tt
  refine⟨_,rfl,lf,zs,_,rfl,hz,by omega,tt,fun k hk=>?_,fun qs pq wq l J2 S2 f2 e2=>?_⟩
  ·obtain⟨i,j,x,rfl⟩:=pg_shape k (pm.mem_iff.mpr hk)
   exact fun z=>by cases z
  ·obtain⟨ks,pk,tk,wk⟩:=tt_out tt pq wq
   refine⟨l,_,rfl,e2,fun t J3 S3 f3 e3=>q t _ ks J3 (sm.trans (S2.trans S3)) e3 ?_ (pk.trans pm.symm) wk⟩
   exact (TT.keep (fun a xs e=>S3 _ _ (S2 _ _ e)) tk).is
def spLaw (K:PySem.W.Frag):Sp:=fun vs H Q _=>∃ (a:Addr) (ns:List Int),vs=[.ref a]∧SqL K H a (ns.map V.int)∧ns.length≤63∧∀ H',Q (.bl true) H'
def m824 (b:Bool):Int:=if b=true then 24 else 8
theorem pick824 (b:Bool):atI [V.int 8,V.int 24] (if b=true then 1 else 0)=some (.int (m824 b)):=by cases b <;> rfl
theorem m824_le (b:Bool):1≤m824 b∧m824 b≤24:=by cases b <;> decide
theorem ok_law {f:Addr} {fd:FuncData} (T:Bi mg) (F:Fun K "law" "law" s_law f fd) (O__law_take:Ok P w K mg base 6 "_law_take" ["pot","many"] spTake) (O__law_pot:Ok P w K mg base 6 "_law_pot" ["script","k"] (spPot K)) (O__law_web:Ok P w K mg base 6 "_law_web" ["pot","most"] (spWeb K))
  (O__law_pairs:Ok P w K mg base 6 "_law_pairs" ["pot","n"] (spLPairs K)) (O_pairs_told:Ok P w K mg base 6 "pairs_told" ["web","pairs"] (spPT K)) (O_partings:Ok P w K mg base 6 "partings" ["ways"] (spPart50 K)) (O__law_partings:Ok P w K mg base 6 "_law_partings" ["ways"] (spPart50 K)):FnOk P w K mg base CX0 7 f fd ["script"] (spLaw K):=by
 refine F.ok (k:=6) sc_law (fun vs H Q E h=>?_) (fun cdv A outer s H vs Q E hr h=>?_)
 ·obtain⟨a,ns,rfl,_⟩:=h
  rfl
 obtain⟨a,ns,rfl,hS,h63,q⟩:=h
 have nd:=sc_law.nd
 have units:∀ {x:Nat},x≤4->(A.deeper (envOfC "law" (defScope s_law) s.heap.objs.size f cdv)).units + x < cLine:=fun {x} hu=>by have:=hr.units;omega
 have hl:(ns.map V.int).length=ns.length:=List.length_map _
 refine⟨_,(pss_cons (ps_for PassesOwn.never rfl (pi_range1 rfl T.z_range (pa_cons (pe_callB (call_max2 rfl) rfl T.z_max (by decide +kernel) (pa_cons pe_int (pa_cons (pe_callB (call_min2 rfl) rfl T.z_min (by decide +kernel) (pa_cons pe_int (pa_cons (pe_callB call_len_seq rfl T.z_len (by decide +kernel) (pa_cons (pv 0) pa_nil)) pa_nil))) pa_nil))) pa_nil)) (pg_name (i:=1) nd rfl (Or.inl rfl)) (pss_cons (ps_set (i:=2) nd rfl (Or.inl rfl) (pe_callD O__law_pot hr rfl (pa_cons (pv 0) (pa_cons (pv 1) pa_nil)))) (pss_cons (ps_set (i:=3) nd rfl (Or.inl rfl) (pe_callD O__law_web hr rfl (pa_cons (pv 2) (pa_cons (pe_ix ix_list (pe_lstG (pa_cons pe_int (pa_cons pe_int pa_nil))) (pe_callTy call_int1 rfl T.z_int (by decide +kernel) (pa_cons (pe_and (pe_cmpR op_eq (pe_callD O__law_take hr rfl (pa_cons (pv 2) (pa_cons pe_int pa_nil))) pe_int (nomark _)) (pe_one (pe_cmpR op_eq (pv 1) pe_int (nomark _)))) pa_nil)) (fun _ _=>rfl)) pa_nil)))) (pss_cons (ps_set (i:=4) nd rfl (Or.inl rfl) (pe_ix ix_tup (pe_callD O_pairs_told hr rfl (pa_cons (pv 3) (pa_cons (pe_callD O__law_pairs hr rfl (pa_cons (pv 2) (pa_cons (pe_ix ix_tup (pv 3) pe_int (fun _ _=>rfl)) pa_nil))) pa_nil))) pe_int (fun _ _=>rfl))) (pss_cons (ps_set (i:=5) nd rfl (Or.inl rfl) (pe_callD O_partings hr rfl (pa_cons (pv 4) pa_nil))) (pss_cons (ps_if (PW.pt (pw_or (pt_not (pt_val (pe_callB (call_isi (n:="tuple")) rfl T.z_isinstance (by decide +kernel) (pa_cons (pv 5) (pa_cons (pe_bltn (v:=.ty "tuple") rfl T.z_tuple (by decide +kernel) rfl) pa_nil))))) (pw_or (pt_cmpR op_neD (pv 5) (pe_callD O__law_partings hr rfl (pa_cons (pv 4) pa_nil)) (nomark _)) (pw_or1 (pt_cmpR op_neD (pe_callD O_partings hr rfl (pa_cons (pe_slice sl_tupA (pv 4) po_none (po_some pe_int)) pa_nil)) (pe_tupG pa_nil) (nomark _)))))) (pss_one (ps_ret pe_bl)) pss_nil) (pss_one (ps_if (PW.pt (pw_or (pt_not (pt_val (pe_callB (call_all rfl) rfl T.z_all (by decide +kernel) (pa_cons (pe_comp (N:=["script","at","pot","web","ways","found"]) (sc0:=defScope s_law) (own:=["row"]) (fr:=[]) (js:=[]) rfl (pi_tup (pv 5)) (fun _ _ _ _=>(pg_name (i:=0) (by show List.Nodup [("row":Str)];decide +kernel) rfl (Or.inl rfl))) (fun _ _ _ _=>pts_nil) (fun _ _ _ _=>(pe_and (pe_callB (call_isiC (n:="tuple")) rfl T.z_isinstance (by decide +kernel) (pa_cons (pv 0) (pa_cons (pe_bltn (v:=.ty "tuple") rfl T.z_tuple (by decide +kernel) rfl) pa_nil))) (pe_one (pe_not (pe_callB (call_isiC (n:="bool")) rfl T.z_isinstance (by decide +kernel) (pa_cons (pe_ix ix_tupC (pv 0) pe_int (fun _ _=>rfl)) (pa_cons (pe_bltn (v:=.ty "bool") rfl T.z_bool (by decide +kernel) rfl) pa_nil)))))))) pa_nil)))) (pw_or1 (pt_cmpR op_neD (pe_callD O_partings hr rfl (pa_cons (pe_tupG pa_nil) pa_nil)) (pe_tupG pa_nil) (nomark _))))) (pss_one (ps_ret pe_bl)) pss_nil)))))))) (pss_one (ps_ret pe_bl))),?_⟩
 refine⟨_,rfl,a,_,rfl,.inl hS,_,_,rfl,_,_,rfl,_,rfl,?_,?_,?_⟩
 ·split <;> split <;> omega
 ·rw[hl];split <;> split <;> omega
 generalize hj:(if (if (((ns.map V.int).length:Nat):Int) < 10 then (((ns.map V.int).length:Nat):Int) else 10) > 1 then (if (((ns.map V.int).length:Nat):Int) < 10 then (((ns.map V.int).length:Nat):Int) else 10) else 1)=j
 have j12:j≤10:=by rw[← hj];split <;> split <;> omega
 refine for_range (n:=j.toNat) (fun i σ H'=>∃ x1 x2 x3 x4 x5:Option V,σ=[some (.ref a),x1,x2,x3,x4,x5]∧Same H H') ⟨none,none,none,none,none,rfl,Same.refl H⟩ ?turn (fun σ H' _=>q H')
 rintro i_ σ H0 hi ⟨x1,x2,x3,x4,x5,rfl,s0⟩
 refine⟨_,rfl,_,rfl,a,_,ns,rfl,s0.seq hS,by omega,by omega,fun l H1 s1 fl p1=>?_⟩
 have s01:Same H H1:=s0.trans s1
 have fl0:H l=none:=s0.free fl
 refine⟨_,rfl,(by show 2≤1000;decide),fun l0 J1 S1 f1 e1=>?_⟩
 have n0:l0≠l:=fun z=>by
  obtain⟨a',b',e',_⟩:=p1
  rw[z,e'] at f1;cases f1
 have pS:=p1.same S1
 apply brT2 (A:=fun (b:Bool) (J:Hp)=>But l J1 J∧Pot J l)
 case main =>
  intro tail
  refine⟨_,rfl,l,4,rfl,pS,by decide,by decide,fun rr J2 rr0 rr1 b2 p2=>⟨rfl,_,rfl,ite2 (fun c=>?_) (fun c=>?_)⟩⟩
  ·refine⟨_,rfl,rfl,?_⟩
   generalize decide (V.int (0 + (i_:Int))=V.int 0)=bb
   exact tail bb J2 ⟨b2,p2⟩
  ·exact tail false J2 ⟨b2,p2⟩
 case tail =>
 rintro bb Jw ⟨bw,pw⟩
 refine .inr ⟨_,rfl,l0,_,_,_,rfl,rfl,SqL.of (bw _ _ n0 e1),pick824 _,l,m824 _,rfl,pw,(m824_le _).1,(m824_le _).2,fun wv H2 n ts b3 p3 ok _ isw=>?_⟩
 have few60:=ok.few
 have n1:=ok.n1
 have n24:=ok.n24
 have B2:But l H1 H2:=(Same.but S1).trans (bw.trans b3)
 have tkb:∀ {J J':Hp},But l J J'->Pot J l->TupKeep J J':=fun b pp=>by
  obtain⟨xs,e⟩:=pp.lst
  exact fun a ys h=>b _ _ (fun z=>by rw[z,e] at h;cases h) h
 have isB:∀ {J J':Hp},TupKeep J J'->Is K J (webD n ts) wv->Is K J' (webD n ts) wv:=fun k h=>Is.tk k _ (tup_web n ts) h
 obtain⟨g0,g,ws,rfl,hg0,hg,hall,hlw⟩:=web_parts isw
  -- pairs
 refine⟨_,rfl,_,rfl,_,rfl,g0,_,_,_,rfl,rfl,SqT.of hg0,rfl,l,n,rfl,p3,n1,n24,fun tp ps prs H3 b4 p4 e4 hps pok=>?_⟩
 have tk3:=tkb b4 p3
 have is3:Is K H3 (webD n ts) (.ref g0):=isB tk3 isw
 have l30:=pok.1
 refine⟨n,ts,_,tp,ps,prs,rfl,is3,ok,e4,hps,pok,fun t ta tb tc ys zs J8 S8 pv=>?_⟩
 refine⟨t,_,_,_,rfl,rfl,SqT.of pv.e,rfl,?_⟩
 have lwn:(wysN ts prs).length=prs.length:=by unfold wysN;rw[List.length_map]
 have hos:OpsV J8 (wysN ts prs) ys:=⟨by rw[pv.ly,lwn],fun i o v ho hv=>by
  unfold wysN at ho
  rw[List.getElem?_map] at ho
  obtain⟨pr,h1,rfl⟩:=Option.map_eq_some_iff.mp ho
  exact (pv.wy i pr v h1 hv).op⟩
 generalize wysN ts prs=os at hos lwn
 have hb:=pv.eb
 refine⟨_,rfl,tb,ys,os,rfl,hb,hos,by omega,fun tf vs1 ks1 J9 S9 e9 a9 p9 w9=>?_⟩
 refine⟨_,rfl,_,_,_,rfl,TyOf.tup e9,rfl,_,rfl,iteF ?_⟩
 refine⟨_,rfl,_,rfl,tb,ys,os,rfl,S9 _ _ hb,hos.same fun a xs e=>S9 _ _ e,by omega,fun tg vs2 ks2 JA SA eA aA pA wA=>?_⟩
 have eks:ks1=ks2:=SrK.one (p9.trans pA.symm) w9 wA
 have d1:Is K JA (papD ks1) (.ref tf):=⟨tf,_,rfl,SA _ _ e9,IsAll.same SA _ a9⟩
 have d2:Is K JA (papD ks1) (.ref tg):=⟨tg,_,rfl,eA,by rw[eks];exact aA⟩
 have lay:=lay_pap ks1
 refine⟨_,_,d1,d2,lay,lay,units (Nat.le_trans (Nat.min_le_left _ _) (deep_pap ks1)),_,rfl,?_⟩
 rw[SeqAt.eqv_refl _ lay]
 refine iteF ?_
 have S8A:=S9.trans SA
 refine⟨_,rfl,_,rfl,tb,_,rfl,S8A _ _ hb,fun tc1 JB SB eB=>?_⟩
 rw[show cutV ys none (some 1)=ys.take 1 from cut_toK ys 1] at eB
 have S8B:=S8A.trans SB
 have hos1:OpsV JB (os.take 1) (ys.take 1):=⟨by rw[List.length_take,List.length_take,hos.1],fun i o v ho hv=>by
  rw[List.getElem?_take] at ho hv
  by_cases c:i < 1
  ·rw[if_pos c] at ho hv;exact (hos.2 i o v ho hv).same fun a xs e=>S8B _ _ e
  ·rw[if_neg c] at ho;cases ho⟩
 refine⟨tc1,_,os.take 1,rfl,eB,hos1,by rw[List.length_take];omega,fun th vs3 ks3 JC SC eC aC pC wC=>?_⟩
 have none1:∀ (os:List (Option (List Nat))) (m:Nat),m≤1->pgP os m=[]:=fun os m hm=>by
  have:m=0∨m=1:=by omega
  rcases this with rfl | rfl <;> rfl
 have ek3:ks3=[]:=by
  rw[none1 _ _ (by rw[List.length_take];omega)] at pC
  exact List.perm_nil.mp pC
 subst ek3
 refine⟨(by show 0≤1000;decide),fun ti JD SD fD eD=>?_⟩
 have d3:Is K JD (papD []) (.ref th):=⟨th,_,rfl,SD _ _ eC,IsAll.same SD _ aC⟩
 have d4:Is K JD (papD []) (.ref ti):=⟨ti,_,rfl,eD,rfl⟩
 have lay3:=lay_pap []
 refine⟨_,_,d3,d4,lay3,lay3,units (Nat.le_trans (Nat.min_le_left _ _) (deep_pap [])),_,rfl,?_⟩
 rw[SeqAt.eqv_refl _ lay3]
 refine iteF ?_
 have S9D:=SA.trans (SB.trans (SC.trans SD))
 have eFD:=S9D _ _ e9
 have aFD:=IsAll.same S9D _ a9
 have lv:=aFD.length
 rw[List.length_map] at lv
 have few:=pgP_few (os:=os) (m:=os.length) (by omega)
 have lk:=p9.length_eq
 refine⟨_,rfl,tf,rfl,⟨_,SqT.of eFD⟩,?_⟩
 refine comp_tup eFD (fun σ'=>∃ o,σ'=[o]) (fun i v J=>v=.bl true) (by omega) (by exact⟨none,rfl⟩) (fun _ _ _ _ _ h=>h) (fun i x σ' H' hx s2 sg C hC=>?_) (fun L0 bs JE hL0 SE hH0 hlb hbs=>?_)
 ·obtain⟨o,rfl⟩:=sg
  obtain⟨d,hd,hx'⟩:=IsAll.from_ (IsAll.same s2 _ aFD) hx
  rw[List.getElem?_map] at hd
  obtain⟨k,hk,rfl⟩:=Option.map_eq_some_iff.mp hd
  obtain⟨i1,j1,x1,rfl⟩:=pg_shape k (p9.mem_iff.mp (List.mem_of_getElem? hk))
  obtain⟨ta',us,rfl,ht',hall'⟩:=hx'
  have eu:=IsAll.of_ints (ns:=[(i1:Int),(j1:Int),(x1:Int)]) hall'
  subst eu
  refine⟨_,rfl,_,_,_,rfl,TyOf.tup ht',rfl,_,rfl,iteT ?_⟩
  refine⟨_,rfl,ta',_,_,_,rfl,rfl,SqT.of ht',rfl,?_⟩
  exact⟨_,_,_,rfl,TyOf.int _,rfl,_,rfl,hC _ _ _ ⟨_,rfl⟩ (Same.refl _) rfl⟩
 refine⟨L0,List.replicate bs.length true,rfl,SqL.of (by rw[← bls_true hbs];exact hH0),_,rfl,?_⟩
 rw[all_repl]
 refine iteF ?_
 refine⟨(by show 0≤1000;decide),fun tj JF SF fF eF=>?_⟩
 have hos0:OpsV JF [] []:=⟨rfl,fun i o v ho hv=>by cases ho⟩
 refine⟨tj,[],[],rfl,eF,hos0,by decide,fun tk vs4 ks4 JG SG eG aG pG wG=>?_⟩
 have ek4:ks4=[]:=List.perm_nil.mp pG
 subst ek4
 refine⟨(by show 0≤1000;decide),fun tm JH SH fH eH=>?_⟩
 have d5:Is K JH (papD []) (.ref tk):=⟨tk,_,rfl,SH _ _ eG,IsAll.same SH _ aG⟩
 have d6:Is K JH (papD []) (.ref tm):=⟨tm,_,rfl,eH,rfl⟩
 refine⟨_,_,d5,d6,lay3,lay3,units (Nat.le_trans (Nat.min_le_left _ _) (deep_pap [])),_,rfl,?_⟩
 rw[SeqAt.eqv_refl _ lay3]
 refine iteF ⟨_,_,_,_,_,rfl,fun b o e=>?_⟩
 have nl:=ne_of_none e fl0
 exact SH _ _ (SG _ _ (SF _ _ (SE _ _ (S9D _ _ (S9 _ _ (S8 _ _ (b4 _ _ nl (B2 _ _ nl (s01 _ _ e)))))))))
end
end Me
namespace Me
open PySem PySem.Spec PyProof.Rows L2 L3
theorem def_mk {K:PySem.W.Frag} {h:Heap} {mg:Str->Option Value} {x:Str} {st:Stmt} {ps:List Str} {f:Addr} {od an:Option Addr} {sl:Array (Option Value)} {oc kV dc pm cd ct:Value} (X:K.In h) (G:h.Ns mainGlobals mg)
  (b:∀ (kV doc pm:Value) (an:Option Addr) (cdv ct:Value) (us:List Value),us.length=ps.length->bindArgs (PySem.W.fnOf x x (defArgs st) (defBody st) (defScope st) .none kV doc pm an cdv ct) ⟨us,[]⟩=pure (ps.zip us))
  (a:PySem.W.nsIn K mainGlobals x=some (some (.ref f))) (l:K.lookup f=some ⟨oc,od,.func (PySem.W.fnOf x x (defArgs st) (defBody st) (defScope st) .none kV dc pm an cd ct),sl⟩) (c:PySem.W.codeIn K cd x=true) (k:PySem.W.keepIn K (.ref f)=true):DefOk K mg x st ps:=by
 have F:=fun_mk (st:=st) l c k
 exact⟨f,_,F,F.binds b,PySem.W.mg_of X G a⟩
theorem dq {p:Program} {K:PySem.W.Frag} {h:Heap} {mg:Str->Option Value} {x:Str} {st:Stmt} {ps:List Str} (f c j u:Nat) (X:K.In h) (G:h.Ns mainGlobals mg)
  (b:∀ (kV doc pm:Value) (an:Option Addr) (cdv ct:Value) (us:List Value),us.length=ps.length->bindArgs (PySem.W.fnOf x x (defArgs st) (defBody st) (defScope st) .none kV doc pm an cdv ct) ⟨us,[]⟩=pure (ps.zip us))
  (a:PySem.W.nsIn K mainGlobals x=some (some (.ref f))) (l:K.lookup f=some ⟨.type "function",none,.func (PySem.W.fnOf x x (defArgs st) (defBody st) (defScope st) .none .none .none (Hx.mdV p ⟨0,0,0,j,u,0⟩) none (.ref c) .none),#[]⟩) (cc:PySem.W.codeIn K (.ref c) x=true) (k:PySem.W.keepIn K (.ref f)=true):DefOk K mg x st ps:=def_mk X G b a l cc k
theorem bd_whole (kV doc pm:Value) (an:Option Addr) (cdv ct:Value) (us:List Value) (hl:us.length=(["web"]:List Str).length):bindArgs (PySem.W.fnOf "whole" "whole" (defArgs s_whole) (defBody s_whole) (defScope s_whole) .none kV doc pm an cdv ct) ⟨us,[]⟩=pure (List.zip (["web"]:List Str) us):=match us,hl with | [_],_=>rfl
theorem bd_tie_between (kV doc pm:Value) (an:Option Addr) (cdv ct:Value) (us:List Value) (hl:us.length=(["web","a","b"]:List Str).length):bindArgs (PySem.W.fnOf "tie_between" "tie_between" (defArgs s_tie_between) (defBody s_tie_between) (defScope s_tie_between) .none kV doc pm an cdv ct) ⟨us,[]⟩=pure (List.zip (["web","a","b"]:List Str) us):=match us,hl with | [_,_,_],_=>rfl
theorem bd_ties_along (kV doc pm:Value) (an:Option Addr) (cdv ct:Value) (us:List Value) (hl:us.length=(["web","places"]:List Str).length):bindArgs (PySem.W.fnOf "ties_along" "ties_along" (defArgs s_ties_along) (defBody s_ties_along) (defScope s_ties_along) .none kV doc pm an cdv ct) ⟨us,[]⟩=pure (List.zip (["web","places"]:List Str) us):=match us,hl with | [_,_],_=>rfl
theorem bd_tie_weights (kV doc pm:Value) (an:Option Addr) (cdv ct:Value) (us:List Value) (hl:us.length=(["web"]:List Str).length):bindArgs (PySem.W.fnOf "tie_weights" "tie_weights" (defArgs s_tie_weights) (defBody s_tie_weights) (defScope s_tie_weights) .none kV doc pm an cdv ct) ⟨us,[]⟩=pure (List.zip (["web"]:List Str) us):=match us,hl with | [_],_=>rfl
theorem bd_cost_with (kV doc pm:Value) (an:Option Addr) (cdv ct:Value) (us:List Value) (hl:us.length=(["cost","length","weight"]:List Str).length):bindArgs (PySem.W.fnOf "cost_with" "cost_with" (defArgs s_cost_with) (defBody s_cost_with) (defScope s_cost_with) .none kV doc pm an cdv ct) ⟨us,[]⟩=pure (List.zip (["cost","length","weight"]:List Str) us):=match us,hl with | [_,_,_],_=>rfl
theorem bd_reached_from (kV doc pm:Value) (an:Option Addr) (cdv ct:Value) (us:List Value) (hl:us.length=(["web","keep","root"]:List Str).length):bindArgs (PySem.W.fnOf "reached_from" "reached_from" (defArgs s_reached_from) (defBody s_reached_from) (defScope s_reached_from) .none kV doc pm an cdv ct) ⟨us,[]⟩=pure (List.zip (["web","keep","root"]:List Str) us):=match us,hl with | [_,_,_],_=>rfl
theorem bd_fars_from (kV doc pm:Value) (an:Option Addr) (cdv ct:Value) (us:List Value) (hl:us.length=(["web","keep","root"]:List Str).length):bindArgs (PySem.W.fnOf "fars_from" "fars_from" (defArgs s_fars_from) (defBody s_fars_from) (defScope s_fars_from) .none kV doc pm an cdv ct) ⟨us,[]⟩=pure (List.zip (["web","keep","root"]:List Str) us):=match us,hl with | [_,_,_],_=>rfl
theorem bd_tree_from (kV doc pm:Value) (an:Option Addr) (cdv ct:Value) (us:List Value) (hl:us.length=(["web","keep","root"]:List Str).length):bindArgs (PySem.W.fnOf "tree_from" "tree_from" (defArgs s_tree_from) (defBody s_tree_from) (defScope s_tree_from) .none kV doc pm an cdv ct) ⟨us,[]⟩=pure (List.zip (["web","keep","root"]:List Str) us):=match us,hl with | [_,_,_],_=>rfl
theorem bd_the_way (kV doc pm:Value) (an:Option Addr) (cdv ct:Value) (us:List Value) (hl:us.length=(["web","keep","a","b"]:List Str).length):bindArgs (PySem.W.fnOf "the_way" "the_way" (defArgs s_the_way) (defBody s_the_way) (defScope s_the_way) .none kV doc pm an cdv ct) ⟨us,[]⟩=pure (List.zip (["web","keep","a","b"]:List Str) us):=match us,hl with | [_,_,_,_],_=>rfl
theorem bd_heights_from (kV doc pm:Value) (an:Option Addr) (cdv ct:Value) (us:List Value) (hl:us.length=(["web","keep","a","roof"]:List Str).length):bindArgs (PySem.W.fnOf "heights_from" "heights_from" (defArgs s_heights_from) (defBody s_heights_from) (defScope s_heights_from) .none kV doc pm an cdv ct) ⟨us,[]⟩=pure (List.zip (["web","keep","a","roof"]:List Str) us):=match us,hl with | [_,_,_,_],_=>rfl
theorem bd_web_heights (kV doc pm:Value) (an:Option Addr) (cdv ct:Value) (us:List Value) (hl:us.length=(["web","place"]:List Str).length):bindArgs (PySem.W.fnOf "web_heights" "web_heights" (defArgs s_web_heights) (defBody s_web_heights) (defScope s_web_heights) .none kV doc pm an cdv ct) ⟨us,[]⟩=pure (List.zip (["web","place"]:List Str) us):=match us,hl with | [_,_],_=>rfl
theorem bd_ties_of_ways (kV doc pm:Value) (an:Option Addr) (cdv ct:Value) (us:List Value) (hl:us.length=(["web","ways"]:List Str).length):bindArgs (PySem.W.fnOf "ties_of_ways" "ties_of_ways" (defArgs s_ties_of_ways) (defBody s_ties_of_ways) (defScope s_ties_of_ways) .none kV doc pm an cdv ct) ⟨us,[]⟩=pure (List.zip (["web","ways"]:List Str) us):=match us,hl with | [_,_],_=>rfl
theorem bd_pairs_told (kV doc pm:Value) (an:Option Addr) (cdv ct:Value) (us:List Value) (hl:us.length=(["web","pairs"]:List Str).length):bindArgs (PySem.W.fnOf "pairs_told" "pairs_told" (defArgs s_pairs_told) (defBody s_pairs_told) (defScope s_pairs_told) .none kV doc pm an cdv ct) ⟨us,[]⟩=pure (List.zip (["web","pairs"]:List Str) us):=match us,hl with | [_,_],_=>rfl
theorem bd_shared_by (kV doc pm:Value) (an:Option Addr) (cdv ct:Value) (us:List Value) (hl:us.length=(["one","other"]:List Str).length):bindArgs (PySem.W.fnOf "shared_by" "shared_by" (defArgs s_shared_by) (defBody s_shared_by) (defScope s_shared_by) .none kV doc pm an cdv ct) ⟨us,[]⟩=pure (List.zip (["one","other"]:List Str) us):=match us,hl with | [_,_],_=>rfl
theorem bd_partings (kV doc pm:Value) (an:Option Addr) (cdv ct:Value) (us:List Value) (hl:us.length=(["ways"]:List Str).length):bindArgs (PySem.W.fnOf "partings" "partings" (defArgs s_partings) (defBody s_partings) (defScope s_partings) .none kV doc pm an cdv ct) ⟨us,[]⟩=pure (List.zip (["ways"]:List Str) us):=match us,hl with | [_],_=>rfl
theorem bd__law_pot (kV doc pm:Value) (an:Option Addr) (cdv ct:Value) (us:List Value) (hl:us.length=(["script","k"]:List Str).length):bindArgs (PySem.W.fnOf "_law_pot" "_law_pot" (defArgs s__law_pot) (defBody s__law_pot) (defScope s__law_pot) .none kV doc pm an cdv ct) ⟨us,[]⟩=pure (List.zip (["script","k"]:List Str) us):=match us,hl with | [_,_],_=>rfl
theorem bd__law_take (kV doc pm:Value) (an:Option Addr) (cdv ct:Value) (us:List Value) (hl:us.length=(["pot","many"]:List Str).length):bindArgs (PySem.W.fnOf "_law_take" "_law_take" (defArgs s__law_take) (defBody s__law_take) (defScope s__law_take) .none kV doc pm an cdv ct) ⟨us,[]⟩=pure (List.zip (["pot","many"]:List Str) us):=match us,hl with | [_,_],_=>rfl
theorem bd__law_length (kV doc pm:Value) (an:Option Addr) (cdv ct:Value) (us:List Value) (hl:us.length=(["pot","way"]:List Str).length):bindArgs (PySem.W.fnOf "_law_length" "_law_length" (defArgs s__law_length) (defBody s__law_length) (defScope s__law_length) .none kV doc pm an cdv ct) ⟨us,[]⟩=pure (List.zip (["pot","way"]:List Str) us):=match us,hl with | [_,_],_=>rfl
theorem bd__law_tied (kV doc pm:Value) (an:Option Addr) (cdv ct:Value) (us:List Value) (hl:us.length=(["pot","n","style","a","b"]:List Str).length):bindArgs (PySem.W.fnOf "_law_tied" "_law_tied" (defArgs s__law_tied) (defBody s__law_tied) (defScope s__law_tied) .none kV doc pm an cdv ct) ⟨us,[]⟩=pure (List.zip (["pot","n","style","a","b"]:List Str) us):=match us,hl with | [_,_,_,_,_],_=>rfl
theorem bd__law_order (kV doc pm:Value) (an:Option Addr) (cdv ct:Value) (us:List Value) (hl:us.length=(["pot","many"]:List Str).length):bindArgs (PySem.W.fnOf "_law_order" "_law_order" (defArgs s__law_order) (defBody s__law_order) (defScope s__law_order) .none kV doc pm an cdv ct) ⟨us,[]⟩=pure (List.zip (["pot","many"]:List Str) us):=match us,hl with | [_,_],_=>rfl
theorem bd__law_web (kV doc pm:Value) (an:Option Addr) (cdv ct:Value) (us:List Value) (hl:us.length=(["pot","most"]:List Str).length):bindArgs (PySem.W.fnOf "_law_web" "_law_web" (defArgs s__law_web) (defBody s__law_web) (defScope s__law_web) .none kV doc pm an cdv ct) ⟨us,[]⟩=pure (List.zip (["pot","most"]:List Str) us):=match us,hl with | [_,_],_=>rfl
theorem bd__law_pairs (kV doc pm:Value) (an:Option Addr) (cdv ct:Value) (us:List Value) (hl:us.length=(["pot","n"]:List Str).length):bindArgs (PySem.W.fnOf "_law_pairs" "_law_pairs" (defArgs s__law_pairs) (defBody s__law_pairs) (defScope s__law_pairs) .none kV doc pm an cdv ct) ⟨us,[]⟩=pure (List.zip (["pot","n"]:List Str) us):=match us,hl with | [_,_],_=>rfl
theorem bd__law_partings (kV doc pm:Value) (an:Option Addr) (cdv ct:Value) (us:List Value) (hl:us.length=(["ways"]:List Str).length):bindArgs (PySem.W.fnOf "_law_partings" "_law_partings" (defArgs s__law_partings) (defBody s__law_partings) (defScope s__law_partings) .none kV doc pm an cdv ct) ⟨us,[]⟩=pure (List.zip (["ways"]:List Str) us):=match us,hl with | [_],_=>rfl
theorem law_all {P:Program} {w:World} {K:PySem.W.Frag} {mg:Str->Option Value} {base:Heap} {f:Addr} {fd:FuncData} (T:Bi mg)
  (D_whole:DefOk K mg "whole" s_whole ["web"])
  (D_tie_between:DefOk K mg "tie_between" s_tie_between ["web","a","b"])
  (D_ties_along:DefOk K mg "ties_along" s_ties_along ["web","places"])
  (D_tie_weights:DefOk K mg "tie_weights" s_tie_weights ["web"])
  (D_cost_with:DefOk K mg "cost_with" s_cost_with ["cost","length","weight"])
  (D_reached_from:DefOk K mg "reached_from" s_reached_from ["web","keep","root"])
  (D_fars_from:DefOk K mg "fars_from" s_fars_from ["web","keep","root"])
  (D_tree_from:DefOk K mg "tree_from" s_tree_from ["web","keep","root"])
  (D_the_way:DefOk K mg "the_way" s_the_way ["web","keep","a","b"])
  (D_heights_from:DefOk K mg "heights_from" s_heights_from ["web","keep","a","roof"])
  (D_web_heights:DefOk K mg "web_heights" s_web_heights ["web","place"])
  (D_ties_of_ways:DefOk K mg "ties_of_ways" s_ties_of_ways ["web","ways"])
  (D_pairs_told:DefOk K mg "pairs_told" s_pairs_told ["web","pairs"])
  (D_shared_by:DefOk K mg "shared_by" s_shared_by ["one","other"])
  (D_partings:DefOk K mg "partings" s_partings ["ways"])
  (D__law_pot:DefOk K mg "_law_pot" s__law_pot ["script","k"])
  (D__law_take:DefOk K mg "_law_take" s__law_take ["pot","many"])
  (D__law_length:DefOk K mg "_law_length" s__law_length ["pot","way"])
  (D__law_tied:DefOk K mg "_law_tied" s__law_tied ["pot","n","style","a","b"])
  (D__law_order:DefOk K mg "_law_order" s__law_order ["pot","many"])
  (D__law_web:DefOk K mg "_law_web" s__law_web ["pot","most"])
  (D__law_pairs:DefOk K mg "_law_pairs" s__law_pairs ["pot","n"])
  (D__law_partings:DefOk K mg "_law_partings" s__law_partings ["ways"])
  (F:Fun K "law" "law" s_law f fd):FnOk P w K mg base CX0 7 f fd ["script"] (spLaw K):=by
 have O__law_take:=ok__law_take (P:=P) (w:=w) (base:=base) T D__law_take
 have O__law_pot:=ok__law_pot (P:=P) (w:=w) (base:=base) T D__law_pot
 have O__law_length:=ok__law_length T D__law_length O__law_take
 have O__law_tied:=ok__law_tied T D__law_tied O__law_take
 have O__law_order:=ok__law_order T D__law_order O__law_take
 have O__law_web:=ok__law_web T D__law_web (O__law_take.mono (by decide)) O__law_order O__law_tied O__law_length
 have O_whole:=ok_whole (P:=P) (w:=w) (base:=base) T D_whole
 have O_tie_between:=ok_tie_between (P:=P) (w:=w) (base:=base) T D_tie_between
 have O_ties_along:=ok_ties_alongW T D_ties_along O_tie_between
 have O_tie_weights:=ok_tie_weights (P:=P) (w:=w) (base:=base) T D_tie_weights
 have O_cost_with:=ok_cost_with (P:=P) (w:=w) (base:=base) T D_cost_with
 have O_reached_fromC:=ok_reached_fromC T D_reached_from O_tie_weights O_cost_with
 have O_reached_from:Ok P w K mg base 2 "reached_from" ["web","keep","root"] (spReached K):=O_reached_fromC.imp reached_D
 have O_reached_fromB:Ok P w K mg base 2 "reached_from" ["web","keep","root"] (spReachedB K):=O_reached_fromC.imp reached_B
 have O_fars_from:=ok_fars_from T D_fars_from O_reached_from
 have O_tree_from:=ok_tree_fromB T D_tree_from O_reached_fromB
 have O_the_wayB:=ok_the_wayB T D_the_way O_tree_from
 have O_the_way:Ok P w K mg base 4 "the_way" ["web","keep","a","b"] (spWayM K):=O_the_wayB.imp way_M
 have O_heights_from:=ok_heights_from T D_heights_from O_fars_from
 have O_web_heights:=ok_web_heights T D_web_heights O_heights_from (O_whole.mono (by decide))
 have O_ties_of_ways:=ok_ties_of_ways T D_ties_of_ways O_ties_along
 have O_pairs_told:=ok_pairs_told T D_pairs_told (O_the_way.mono (by decide)) (O_whole.mono (by decide)) O_web_heights (O_ties_of_ways.mono (by decide))
 have O__law_pairs:=ok__law_pairs48 T D__law_pairs O__law_take
 have O_shared_by:=ok_shared_by (P:=P) (w:=w) (K:=K) (base:=base) T D_shared_by
 have O_partings:=ok_partings T D_partings O_shared_by
 have O__law_partings:=ok__law_partings (P:=P) (w:=w) (K:=K) (base:=base) T D__law_partings
 exact ok_law T F (O__law_take.mono (by decide)) (O__law_pot.mono (by decide)) (O__law_web.mono (by decide)) (O__law_pairs.mono (by decide)) O_pairs_told (O_partings.mono (by decide)) (O__law_partings.mono (by decide))
theorem walk {l:PySem.W.OpenLaw} {q:Program} {loose:List Str} {XP:(Str->Option Value)->Heap->Prop} {YP:World->Heap->Prop} {d:DefRec} {K:Params->PySem.W.Frag} (hn:l.most=some 63) (hdf:d.params.defaults=[])
  (hY:∀ (w:World) (h:Heap),YP w h->(K w.params).In h)
  (F:∀ (w:World) (mg:Str->Option Value) (fa:Addr) (h:Heap),(K w.params).In h->h.Ns mainGlobals mg->mg d.name=some (.ref fa) ->
   ∃ fd:FuncData,(∀ (s:Shared) (u:Value),BindsTo s fd ⟨[u],[]⟩ [("script",u)])∧∀ base:Heap,(K w.params).In base->base.Ns mainGlobals mg->FnOk l.prog w (K w.params) mg base CX0 7 fa fd ["script"] (spLaw (K w.params))) :
  PySem.W.WalkO q loose XP YP l.row.toRowW d [] (fun f vs=>PySem.call f vs) :=
 L2.walk_of (n:=63) (k:=7) (x:="script") (CX:=fun _=>CX0) (sp:=fun w=>spLaw (K w.params)) hn (by decide) hdf ⟨rfl,by decide,by decide,rfl⟩ hY F (fun _ _ a ns hl _ hS=>⟨a,ns,rfl,hS,hl,fun _=>rfl⟩) fun _ _ _ _ _ z=>z
end Me
namespace Hy
open PySem PySem.W Hx
def cs:List Ch:=[⟨0,15,187,0,187,0⟩,⟨1,15,189,0,187,0⟩,⟨2,22,196,0,187,0⟩,⟨3,29,208,3,208,0⟩,⟨4,29,210,3,208,0⟩,⟨5,34,216,3,208,0⟩,⟨6,41,226,3,208,0⟩,⟨7,48,235,3,208,0⟩,⟨8,55,255,3,208,0⟩,⟨9,60,261,3,208,0⟩,⟨10,67,272,3,208,0⟩,⟨11,74,284,11,284,0⟩,⟨12,74,286,11,284,0⟩,⟨13,79,292,13,292,0⟩,⟨14,79,294,13,292,0⟩,⟨15,86,302,15,302,0⟩,⟨16,86,304,15,302,0⟩,⟨17,93,314,15,302,0⟩,⟨18,98,320,15,302,0⟩,⟨19,103,326,15,302,0⟩,⟨20,110,339,20,339,0⟩,⟨21,110,341,20,339,0⟩,⟨22,117,351,20,339,0⟩,⟨23,124,360,20,339,0⟩,⟨24,131,368,20,339,0⟩,⟨25,138,380,20,339,0⟩,⟨26,145,391,20,339,0⟩,⟨27,152,408,20,339,0⟩,⟨28,157,414,20,339,0⟩,⟨29,164,428,20,339,0⟩,⟨30,169,434,20,339,0⟩]
end Hy
lay_quick Hx.PieceT Hx.PreT Hx.BlockT Hx.LookA Hx.LookB Hx.LookC PySem.Challenge.pw_thinways_k50_partings
namespace Hy
open PySem PySem.W Hx
theorem pre:PreT PySem.Challenge.pw_thinways_k50_partings boots boot_drawn boot_heap boot_toks cs ⟨0,15,187⟩:=by
 rw[PySem.W.Fast.te16428918119715843241,PySem.W.Fast.te2174314201283382222];delta PySem.W.Fast.tw16428918119715843241;intro w;kernel_rfl
theorem pc0:PieceT PySem.Challenge.pw_thinways_k50_partings boots boot_drawn cs ⟨0,15,187⟩ ⟨16,86,304⟩ 389:=by
 rw[PySem.W.Fast.te4643275101561185336,PySem.W.Fast.te2174314201283382222];delta PySem.W.Fast.tw4643275101561185336;intro w;kernel_rfl
theorem pc1:PieceT PySem.Challenge.pw_thinways_k50_partings boots boot_drawn cs ⟨16,86,304⟩ ⟨29,164,428⟩ 390:=by
 rw[PySem.W.Fast.te4643275101561185336,PySem.W.Fast.te2174314201283382222];delta PySem.W.Fast.tw4643275101561185336;intro w;kernel_rfl
theorem pc2:PieceT PySem.Challenge.pw_thinways_k50_partings boots boot_drawn cs ⟨29,164,428⟩ ⟨31,174,440⟩ 53:=by
 rw[PySem.W.Fast.te4643275101561185336,PySem.W.Fast.te2174314201283382222];delta PySem.W.Fast.tw4643275101561185336;intro w;kernel_rfl
theorem blk:BlockT PySem.Challenge.pw_thinways_k50_partings :=by
 rw[PySem.W.Fast.te421534021395069552,PySem.W.Fast.te2174314201283382222];delta PySem.W.Fast.tw421534021395069552;intro w s;kernel_rfl
theorem run (w:World) (os:OsState):topRun treeTable PySem.Challenge.pw_thinways_k50_partings w 11 ann0 (12 + (1 + (389 + (390 + (53 + 2))))) ⟨boot_heap w.params,Array.mk [],boot_drawn,boot_toks,os⟩ (topStub PySem.Challenge.pw_thinways_k50_partings)=some (stT PySem.Challenge.pw_thinways_k50_partings boots boot_drawn cs ⟨31,174,440⟩ w os).abs:=run_all pre blk (chain pc0 (by decide) (chain pc1 (by decide) (chain pc2 (by decide) (chain_end (by kernel_rfl)))))
theorem size (w:World):((boot_heap w.params).isNs mainGlobals && (Array.mk []:Array GenState).size == 0,(boot_heap w.params).objs.size,(boot_heap w.params).nsMap mainGlobals "__annotations__")=(true,11,ann0):=by kernel_rfl
theorem lkA:LookA PySem.Challenge.pw_thinways_k50_partings boots boot_drawn boot_heap cs ⟨31,174,440⟩:=by
 rw[PySem.W.Fast.te7818774390570169022,PySem.W.Fast.te2174314201283382222];delta PySem.W.Fast.tw7818774390570169022;intro w;kernel_rfl
theorem lkB:LookB PySem.Challenge.pw_thinways_k50_partings boots boot_drawn cs ⟨31,174,440⟩ [30] (OpenRow.toRowW (PySem.Challenge.rw_thinways_k50_partings).row).records:=by
 rw[PySem.W.Fast.te13889730532244352606,PySem.W.Fast.te2174314201283382222];delta PySem.W.Fast.tw13889730532244352606;intro w;kernel_rfl
theorem lkC:LookC PySem.Challenge.pw_thinways_k50_partings boots cs ⟨31,174,440⟩ [3,20,21,27,28,32,33,39,40,46,47,53,54,58,59,65,66,72,73,77,78,84,85,91,92,96,97,101,102,108,109,115,116,122,123,129,130,136,137,143,144,150,151,155,156,162,163,167,168,172,173]:=by
 rw[PySem.W.Fast.te6241646928739474683,PySem.W.Fast.te2174314201283382222];delta PySem.W.Fast.tw6241646928739474683;intro w;kernel_rfl
noncomputable abbrev K:=Kf PySem.Challenge.pw_thinways_k50_partings boots cs
theorem Kas (P:Params):[3,20,21,27,28,32,33,39,40,46,47,53,54,58,59,65,66,72,73,77,78,84,85,91,92,96,97,101,102,108,109,115,116,122,123,129,130,136,137,143,144,150,151,155,156,162,163,167,168,172,173]=(K P).map (·.1):=by kernel_rfl
noncomputable abbrev H:Hook:=kHook K [3,20,21,27,28,32,33,39,40,46,47,53,54,58,59,65,66,72,73,77,78,84,85,91,92,96,97,101,102,108,109,115,116,122,123,129,130,136,137,143,144,150,151,155,156,162,163,167,168,172,173] Kas
theorem opn:opening PySem.Challenge.pw_thinways_k50_partings=plainProg (PySem.Challenge.pw_thinways_k50_partings).main.scope.names:=by kernel_rfl
theorem fnc (s:Shared):fenceModules? PySem.Challenge.pw_thinways_k50_partings s=some s:=by kernel_rfl
theorem left:LeftO PySem.Challenge.pw_thinways_k50_partings (qv PySem.Challenge.pw_thinways_k50_partings [30]) (lz PySem.Challenge.pw_thinways_k50_partings [30] 31) (fun s=>xlAt (qv PySem.Challenge.pw_thinways_k50_partings [30]) [] s && recOk (OpenRow.toRowW (PySem.Challenge.rw_thinways_k50_partings).row).records s) (Hook.obs H) (Hook.val H) 2294 :=
 left_of (p:=PySem.Challenge.pw_thinways_k50_partings) (cs:=cs) (is:=[30]) (as:=[3,20,21,27,28,32,33,39,40,46,47,53,54,58,59,65,66,72,73,77,78,84,85,91,92,96,97,101,102,108,109,115,116,122,123,129,130,136,137,143,144,150,151,155,156,162,163,167,168,172,173]) (rc:=(OpenRow.toRowW (PySem.Challenge.rw_thinways_k50_partings).row).records) (c:=⟨31,174,440⟩) (M:=12 + (1 + (389 + (390 + (53 + 2))))) (N:=2294) (e:=Kas) opn (by decide) fnc size run (by decide) lkA lkB lkC
end Hy
namespace Hy
open PySem PySem.W PyProof.Rows L2 L3 Hx Me
theorem all {w:World} {h:Heap} {mg:Str->Option Value} {fa:Addr} (X:(K w.params).In h) (G:h.Ns mainGlobals mg) (hfa:mg "law"=some (.ref fa)) :
  ∃ fd:FuncData,(∀ (s:Shared) (v:Value),BindsTo s fd ⟨[v],[]⟩ [("script",v)])∧∀ base:Heap,(K w.params).In base->base.Ns mainGlobals mg->FnOk (PySem.Challenge.rw_thinways_k50_partings).prog w (K w.params) mg base CX0 7 fa fd ["script"] (spLaw (K w.params)):=by
 have T:Bi mg:=⟨PySem.W.mg_none_of X G (show PySem.W.nsIn (K w.params) mainGlobals "len"=some none by kernel_rfl),PySem.W.mg_none_of X G (show PySem.W.nsIn (K w.params) mainGlobals "range"=some none by kernel_rfl),PySem.W.mg_none_of X G (show PySem.W.nsIn (K w.params) mainGlobals "zip"=some none by kernel_rfl),PySem.W.mg_none_of X G (show PySem.W.nsIn (K w.params) mainGlobals "all"=some none by kernel_rfl),PySem.W.mg_none_of X G (show PySem.W.nsIn (K w.params) mainGlobals "sorted"=some none by kernel_rfl),PySem.W.mg_none_of X G (show PySem.W.nsIn (K w.params) mainGlobals "isinstance"=some none by kernel_rfl),PySem.W.mg_none_of X G (show PySem.W.nsIn (K w.params) mainGlobals "min"=some none by kernel_rfl),PySem.W.mg_none_of X G (show PySem.W.nsIn (K w.params) mainGlobals "max"=some none by kernel_rfl),PySem.W.mg_none_of X G (show PySem.W.nsIn (K w.params) mainGlobals "tuple"=some none by kernel_rfl),PySem.W.mg_none_of X G (show PySem.W.nsIn (K w.params) mainGlobals "list"=some none by kernel_rfl),PySem.W.mg_none_of X G (show PySem.W.nsIn (K w.params) mainGlobals "int"=some none by kernel_rfl),PySem.W.mg_none_of X G (show PySem.W.nsIn (K w.params) mainGlobals "bool"=some none by kernel_rfl),PySem.W.mg_none_of X G (show PySem.W.nsIn (K w.params) mainGlobals "str"=some none by kernel_rfl),PySem.W.mg_none_of X G (show PySem.W.nsIn (K w.params) mainGlobals "enumerate"=some none by kernel_rfl),PySem.W.mg_none_of X G (show PySem.W.nsIn (K w.params) mainGlobals "sum"=some none by kernel_rfl),PySem.W.mg_none_of X G (show PySem.W.nsIn (K w.params) mainGlobals "abs"=some none by kernel_rfl),PySem.W.mg_none_of X G (show PySem.W.nsIn (K w.params) mainGlobals "set"=some none by kernel_rfl),PySem.W.mg_none_of X G (show PySem.W.nsIn (K w.params) mainGlobals "reversed"=some none by kernel_rfl),PySem.W.mg_none_of X G (show PySem.W.nsIn (K w.params) mainGlobals "any"=some none by kernel_rfl),PySem.W.mg_none_of X G (show PySem.W.nsIn (K w.params) mainGlobals "repr"=some none by kernel_rfl),PySem.W.mg_none_of X G (show PySem.W.nsIn (K w.params) mainGlobals "dict"=some none by kernel_rfl)⟩
 have D_whole:=dq (p:=PySem.Challenge.pw_thinways_k50_partings) (ps:=["web"]) 21 20 0 187 X G bd_whole (by kernel_rfl) (by kernel_rfl) (by kernel_rfl) (by kernel_rfl)
 have D_tie_between:=dq (p:=PySem.Challenge.pw_thinways_k50_partings) (ps:=["web","a","b"]) 28 27 0 187 X G bd_tie_between (by kernel_rfl) (by kernel_rfl) (by kernel_rfl) (by kernel_rfl)
 have D_ties_along:=dq (p:=PySem.Challenge.pw_thinways_k50_partings) (ps:=["web","places"]) 33 32 3 208 X G bd_ties_along (by kernel_rfl) (by kernel_rfl) (by kernel_rfl) (by kernel_rfl)
 have D_tie_weights:=dq (p:=PySem.Challenge.pw_thinways_k50_partings) (ps:=["web"]) 40 39 3 208 X G bd_tie_weights (by kernel_rfl) (by kernel_rfl) (by kernel_rfl) (by kernel_rfl)
 have D_cost_with:=dq (p:=PySem.Challenge.pw_thinways_k50_partings) (ps:=["cost","length","weight"]) 47 46 3 208 X G bd_cost_with (by kernel_rfl) (by kernel_rfl) (by kernel_rfl) (by kernel_rfl)
 have D_reached_from:=dq (p:=PySem.Challenge.pw_thinways_k50_partings) (ps:=["web","keep","root"]) 54 53 3 208 X G bd_reached_from (by kernel_rfl) (by kernel_rfl) (by kernel_rfl) (by kernel_rfl)
 have D_fars_from:=dq (p:=PySem.Challenge.pw_thinways_k50_partings) (ps:=["web","keep","root"]) 59 58 3 208 X G bd_fars_from (by kernel_rfl) (by kernel_rfl) (by kernel_rfl) (by kernel_rfl)
 have D_tree_from:=dq (p:=PySem.Challenge.pw_thinways_k50_partings) (ps:=["web","keep","root"]) 66 65 3 208 X G bd_tree_from (by kernel_rfl) (by kernel_rfl) (by kernel_rfl) (by kernel_rfl)
 have D_the_way:=dq (p:=PySem.Challenge.pw_thinways_k50_partings) (ps:=["web","keep","a","b"]) 73 72 3 208 X G bd_the_way (by kernel_rfl) (by kernel_rfl) (by kernel_rfl) (by kernel_rfl)
 have D_heights_from:=dq (p:=PySem.Challenge.pw_thinways_k50_partings) (ps:=["web","keep","a","roof"]) 78 77 11 284 X G bd_heights_from (by kernel_rfl) (by kernel_rfl) (by kernel_rfl) (by kernel_rfl)
 have D_web_heights:=dq (p:=PySem.Challenge.pw_thinways_k50_partings) (ps:=["web","place"]) 85 84 13 292 X G bd_web_heights (by kernel_rfl) (by kernel_rfl) (by kernel_rfl) (by kernel_rfl)
 have D_ties_of_ways:=dq (p:=PySem.Challenge.pw_thinways_k50_partings) (ps:=["web","ways"]) 92 91 15 302 X G bd_ties_of_ways (by kernel_rfl) (by kernel_rfl) (by kernel_rfl) (by kernel_rfl)
 have D_pairs_told:=dq (p:=PySem.Challenge.pw_thinways_k50_partings) (ps:=["web","pairs"]) 97 96 15 302 X G bd_pairs_told (by kernel_rfl) (by kernel_rfl) (by kernel_rfl) (by kernel_rfl)
 have D_shared_by:=dq (p:=PySem.Challenge.pw_thinways_k50_partings) (ps:=["one","other"]) 102 101 15 302 X G bd_shared_by (by kernel_rfl) (by kernel_rfl) (by kernel_rfl) (by kernel_rfl)
 have D_partings:=dq (p:=PySem.Challenge.pw_thinways_k50_partings) (ps:=["ways"]) 109 108 15 302 X G bd_partings (by kernel_rfl) (by kernel_rfl) (by kernel_rfl) (by kernel_rfl)
 have D__law_pot:=dq (p:=PySem.Challenge.pw_thinways_k50_partings) (ps:=["script","k"]) 116 115 20 339 X G bd__law_pot (by kernel_rfl) (by kernel_rfl) (by kernel_rfl) (by kernel_rfl)
 have D__law_take:=dq (p:=PySem.Challenge.pw_thinways_k50_partings) (ps:=["pot","many"]) 123 122 20 339 X G bd__law_take (by kernel_rfl) (by kernel_rfl) (by kernel_rfl) (by kernel_rfl)
 have D__law_length:=dq (p:=PySem.Challenge.pw_thinways_k50_partings) (ps:=["pot","way"]) 130 129 20 339 X G bd__law_length (by kernel_rfl) (by kernel_rfl) (by kernel_rfl) (by kernel_rfl)
 have D__law_tied:=dq (p:=PySem.Challenge.pw_thinways_k50_partings) (ps:=["pot","n","style","a","b"]) 137 136 20 339 X G bd__law_tied (by kernel_rfl) (by kernel_rfl) (by kernel_rfl) (by kernel_rfl)
 have D__law_order:=dq (p:=PySem.Challenge.pw_thinways_k50_partings) (ps:=["pot","many"]) 144 143 20 339 X G bd__law_order (by kernel_rfl) (by kernel_rfl) (by kernel_rfl) (by kernel_rfl)
 have D__law_web:=dq (p:=PySem.Challenge.pw_thinways_k50_partings) (ps:=["pot","most"]) 151 150 20 339 X G bd__law_web (by kernel_rfl) (by kernel_rfl) (by kernel_rfl) (by kernel_rfl)
 have D__law_pairs:=dq (p:=PySem.Challenge.pw_thinways_k50_partings) (ps:=["pot","n"]) 163 162 20 339 X G bd__law_pairs (by kernel_rfl) (by kernel_rfl) (by kernel_rfl) (by kernel_rfl)
 have D__law_partings:=dq (p:=PySem.Challenge.pw_thinways_k50_partings) (ps:=["ways"]) 168 167 20 339 X G bd__law_partings (by kernel_rfl) (by kernel_rfl) (by kernel_rfl) (by kernel_rfl)
 have e:=hfa.symm.trans (PySem.W.mg_of X G (show PySem.W.nsIn (K w.params) mainGlobals "law"=some (some (.ref 173)) by kernel_rfl))
 cases e
 have F:=fun_mk (x:="law") (qual:="law") (st:=s_law) (K:=K w.params) (f:=173) (oc:=.type "function") (od:=none) (an:=none) (osl:=#[]) (kV:=.none) (doc:=.none) (pm:=Hx.mdV PySem.Challenge.pw_thinways_k50_partings ⟨0,0,0,20,339,0⟩) (cdv:=.ref 172) (ct:=.none) (by kernel_rfl) (by kernel_rfl) (by kernel_rfl)
 exact⟨_,fun s v=>.of_eq rfl,fun base _ _=>law_all (P:=(PySem.Challenge.rw_thinways_k50_partings).prog) (w:=w) (base:=base) T D_whole D_tie_between D_ties_along D_tie_weights D_cost_with D_reached_from D_fars_from D_tree_from D_the_way D_heights_from D_web_heights D_ties_of_ways D_pairs_told D_shared_by D_partings D__law_pot D__law_take D__law_length D__law_tied D__law_order D__law_web D__law_pairs D__law_partings F⟩
end Hy
open PySem PySem.W PyProof.Rows
set_option maxRecDepth 100000 in
set_option maxHeartbeats 0 in
theorem PySem.Challenge.cw_thinways_k50_partings_holds : PySem.Challenge.rw_thinways_k50_partings.Holds := by
 w_on;o_law
 refine holds_open (q:=(Hx.qv PySem.Challenge.pw_thinways_k50_partings [30])) (loose:=Hx.lz PySem.Challenge.pw_thinways_k50_partings [30] 31) (Xt:=fun s=>xlAt (Hx.qv PySem.Challenge.pw_thinways_k50_partings [30]) [] s && recOk (OpenRow.toRowW (PySem.Challenge.rw_thinways_k50_partings).row).records s) (XP:=XL (Hx.qv PySem.Challenge.pw_thinways_k50_partings [30]) []) (Yf:=Hook.obs Hy.H) (Ya:=Hook.val Hy.H) (YP:=Hook.says Hy.H) (N:=2294) Hy.left (Hook.of Hy.H) (Hook.keeps Hy.H) (fun s e=>xl_of s (Bool.and_eq_true_iff.mp e).1) XL.keeps (by rfl) (by rfl) (by rfl) (fun s e=>recFacts_of (Bool.and_eq_true_iff.mp e).2) (by rfl) (by first | assumption | decide +kernel) (by decide +kernel) ⟨rfl,rfl,rfl,rfl,rfl,by decide +kernel⟩ ?hw ?hc
 case hw=>w_witness2
 case hc =>
  refine Me.walk (l:=PySem.Challenge.rw_thinways_k50_partings) rfl rfl (fun w h Y=>PySem.W.kIn_of Y) fun w mg fa h KX G hmg=>Hy.all KX G hmg
